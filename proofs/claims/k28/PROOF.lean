import PyProof.Rows.All
import KE.KUnpack
import PyProof.DictTruth
import PyProof.DictWalks
import PyProof.Rows.SortKeyStr
import KE.KItem
import KE.KTupSum
import KE.KEqDict
import KE.KFromBytes
import KE.KIntText
import KE.KRevIter
import KE.KDictOf
import KE.LcSums
import KE.KDictSum
import KE.KTryMore
import OpenK.KLine
import OpenK.KOwn
import Wide.Line
import Wide.FinOn
import PyProof.MaxThree
import KE.KSortTup
import Lean
import PySem.Challenge.RW_evenhall_k28_whole_run_goes_through_once
set_option genInjectivity false
set_option genSizeOf false
set_option Elab.async false
set_option linter.all false
set_option maxRecDepth 100000
set_option maxHeartbeats 0
open PySem.Challenge renaming pw_evenhall_k28_whole_run_goes_through_once -> Qq, rw_evenhall_k28_whole_run_goes_through_once -> Qj
open And renaming intro -> wJ
open Array renaming length_toList -> Z8, perm_iff_toList_perm -> Yg
open Bool renaming false_ne_true -> vX, false_eq_true -> Zb, and_eq_true -> ZH, eq_iff_iff -> YZ
open False renaming elim -> Z3
open Int renaming le_refl -> ZA, emod_lt_of_pos -> Yv, emod_nonneg -> Yn, le_ediv_iff_mul_le -> Yl, toNat -> Yc, toNat_natCast -> Y5, ofNat -> Xu, add_assoc -> Xl
open List renaming mem_singleton -> zz, length_map -> zV, mem_cons -> zO, not_mem_nil -> zJ, size_toArray -> z8, mem_map_of_mem -> xf, mem_map -> xS, map_cons -> wV, map_map -> wM, mem_append_right -> wC, length_append -> vx, mem_of_getElem? -> vW, lookup -> vL, map_append -> vH, map_congr_left -> uW, mem_append_left -> tW, mem_append -> tT, length_cons -> sq, mem_cons_of_mem -> sU, length_take -> Zx, range -> Zw, all_eq_true -> Zo, replicate -> Zm, take_length -> Zl, length_filter_le -> Zj, nodup_cons -> Zi, append_nil -> Ze, pairwise_map -> Zc, length_range -> Za, pairwise_cons -> ZZ, filter_append -> ZY, map_nil -> ZX, filter_eq_self -> ZW, cons_append -> ZV, drop -> ZU, length -> ZO, filter_cons_of_pos -> ZN, filter_cons_of_neg -> ZM, take_of_length_le -> ZG, pairwise_iff_getElem -> ZF, filter_eq_nil_iff -> Z6, mem_filter -> Z9, length_nil -> Yz, filter_nil -> Yy, mem_cons_self -> Yw, append_assoc -> Yr, length_singleton -> Ye, flatMap_cons -> YV, length_drop -> YK, filter_map -> YD, nodup_append -> Y4, take_succ -> Xz, mem_of_mem_take -> Xx, takeWhile_cons_of_pos -> Xw, getElem_map -> Xr, flatMap_append -> Xn
open List.Pairwise renaming imp_of_mem -> YO
open List.cons renaming injEq -> Yx
open Nat renaming le_refl -> xU, ne_of_lt -> tG, lt_of_lt_of_le -> Zy, zero_le -> Zv, le_trans -> Zt, lt_irrefl -> ZJ, le_succ -> ZC, le_of_lt -> Yu, min_eq_right -> Xs, min_eq_left -> Xh
open Nat.succ renaming inj -> YI
open Option renaming map_eq_some_iff -> Zg, isSome_map -> YW
open Option.some renaming inj -> Zp
open PyProof.Rows renaming listItems_at -> YJ, callWith_type1 -> Y6, envOfC -> Xo
open PySem renaming wpAny_bind -> zZ, wpAny_pure -> xc, sizeLine_eq -> uz, wpAny_mono -> Zs, compareOp -> Zq, bootBuiltins -> Zh, wpAny_truthy_bool -> Zd, mainGlobals -> ZL, wpAny_holding -> ZK, sysModules -> ZE, wpAny_call_entry -> Z0, wpAny_newObj_type -> Z5, mem_of_lookup -> Z7, wpAny_typeNameOfWhole_keyiter -> Yt, behindInMarks -> Yj, wpAny_passesOwn -> Yb, sliceBounds -> YY, assignEach -> YS, attributeBase -> YR, wpAny_typeNameOf_keyiter -> YQ, DictEntry -> YM, wpAny_Call_Name_kw -> YH, tupleKind_room_in1 -> YG, wpAny_execs_nil -> YE, wpAny_standAt -> YC, wpAny_loadPart_at -> YA, foldedSetIterable -> Y0, call_meets -> Y7, keywordEach -> Y8, excClassObj -> Y9, letOwnedTupleGo -> Xi
open PySem.Builtin.List renaming listExtendWith -> Yk, listTooLong -> Xj
open PySem.Builtin.Slice renaming slicePlaces -> Yd, sliceAdjust -> Xp
open PySem.Builtin.Str renaming subAt -> YU
open PySem.Builtin.Tuple renaming tupleExact -> YN
open PySem.Calls renaming evalArgs_plain -> YT, callWith_builtin -> YF, call_function_entry -> Xq, spliced_cons -> Xg
open PySem.Data renaming dict -> YL
open PySem.Expr renaming Constant -> Xk
open PySem.F renaming plainAttrs_list -> Zk, plainAttrs_str -> ZS, type_list_append -> ZQ, slot_list_append -> ZP, slot_dict_keyiterator_next -> Ym
open PySem.FuncBody renaming stmts -> Xy
open PySem.Heap renaming lt_size -> wF
open PySem.NameKind renaming globalImplicit -> Yq
open PySem.Obj renaming mapSeq -> ZT
open PySem.ScopeKind renaming function -> Yh
open PySem.Str renaming ofString -> zS, length -> Yp
open PySem.Value renaming ref -> wU, none -> Z2, str -> Ys, type -> Yi, int -> Xv, builtin -> Xm
open PySem.W renaming findIn -> Zu, kitOne -> Zr, exmOne -> ZR, kia_one -> ZI, emptyDict -> ZB, mroIn -> Z1, keepIn -> Z4, instObj -> Yo, fnOf -> YX, kHook -> YB, hasDictIn -> Y3
open True renaming intro -> ZD
namespace L2
theorem Zz{n k c:Nat}(h:n+100<c)(d:k<=100:=by decide):n+k<c:=Nat.lt_of_le_of_lt (Nat.add_le_add_left d _) h
open PySem
noncomputable def bj(s:Stmt)(j:Nat):Stmt:=match s with
 | .ClassDef _ _ _ body _ _ _ _ _ _ _=>body.getD j (.Pass ⟨0,0,0,0⟩)
 |_=>.Pass ⟨0,0,0,0⟩
noncomputable def iD(s:Stmt):Arguments:=match s with
 | .FunctionDef _ a _ _ _ _ _ _ _ _=>a
 |_=>{ posonlyargs:=[],args:=[],vararg:=none,kwonlyargs:=[],kw_defaults:=[],kwarg:=none,defaults:=[] }
noncomputable def bh(s:Stmt):List Stmt:=match s with
 | .FunctionDef _ _ b _ _ _ _ _ _ _=>b
 |_=>[]
noncomputable def ay(s:Stmt):Scope:=match s with
 | .FunctionDef _ _ _ _ _ _ sc _ _ _=>sc
 |_=>{ kind:=.function,names:=[],isGenerator:=false,isCoroutine:=false }
end L2
namespace K28
open PySem L2
noncomputable def top(i:Nat):Stmt:=Qq.main.body.getD i (.Pass ⟨0,0,0,0⟩)
noncomputable abbrev cg:Stmt:=top 85
noncomputable abbrev cf:Stmt:=top 92
noncomputable abbrev gB:Stmt:=bj (top 60) 2
end K28
namespace TR
open PySem PySem.W PyProof PyProof.Rows
noncomputable def go(p:Program)(w:World)(lo:Nat)(an:Option Value):Nat->SharedT->Thread->Option SharedT
 |0,_,_=>none
 |k+1,x,th=>match through th with
  |true=>some x
  |false=>match stepOk lo an th with
   |false=>none
   |true=>match stepT (denote treeTable) p w x th with
    |none=>none
    |some y=>go p w lo an k y.1 y.2
theorem rf{p:Program}{w:World}{lo:Nat}{an:Option Value}(k:Nat):∀ {x y:SharedT} {th:Thread},go p w lo an k x th=some y->topRun treeTable p w lo an k x.abs th=some y.abs:=by
 induction k with
 |zero=>intro x y th e;cases e
 |succ k ih=>
  intro x y th e;unfold go at e;unfold topRun
  revert e
  cases through th with
  |true=>intro e;cases e;rfl
  |false=>
   cases stepOk lo an th with
   |false=>intro e;cases e
   |true=>
    dsimp only;cases z:stepT (denote treeTable) p w x th with
    |none=>intro e;cases e
    |some v=>
     intro e;obtain⟨v1,v2⟩:=v;rw[stepT_spec z];exact ih e
noncomputable def lookB(p:Program)(b:Heap)(s:Shared):Bool:=staticsOk (importedModules p.main.body) b s.heap&&namesBound p s.heap&&gensDone s&&laidKept b s.heap
noncomputable def look(p:Program)(P:Params)(s:Shared):Bool:=lookB p (boot_heap P) s
theorem left{p q:Program}{ls:List Str}{Xt:Shared->Bool}{β:Type}{Yf:Shared->β}{Ya:World->β}{N lo:Nat}{an:Option Value}{tr:Params->BT}
 (ho:∀w:World,(fencedOpening treeTable p w N).map (fun s=>(s.heap,s.gens,s.drawn,s.toks))=some (boot_heap w.params,Array.mk [],boot_drawn,boot_toks))
 (hz:∀P:Params,((boot_heap P).isNs ZL,(boot_heap P).objs.size,(boot_heap P).nsMap ZL "__annotations__")=(true,lo,an))
 (ht:∀P:Params,absHeap (tr P) lo (boot_heap P).life=boot_heap P)
 (hr:∀w:World,(fun os=>(go p w lo an N ⟨tr w.params,lo,(boot_heap w.params).life,Array.mk [],boot_drawn,boot_toks,os⟩ (topStub p)).map fun x=>(look p w.params x.abs,openSeen q ls (importedModules p.main.body) Xt true x.abs,Yf x.abs))=fun _=>some (true,openGood q ls,Ya w)) :
 LeftO p q ls Xt Yf Ya N:=by
 intro w;obtain⟨⟨h,g,d,k,os⟩,e1,e2⟩:=Zg.mp (ho w);simp only[Prod.mk.injEq]at e2;obtain⟨rfl,rfl,rfl,rfl⟩:=e2;have z:=hz w.params;simp only[Prod.mk.injEq]at z;obtain⟨z1,z2,z3⟩:=z;obtain⟨x,r1,r2⟩:=Zg.mp (congrFun (hr w) os);simp only[Prod.mk.injEq]at r2;obtain⟨l1,l2,l3⟩:=r2;have t:=rf _ r1;have ab:SharedT.abs ⟨tr w.params,lo,(boot_heap w.params).life,Array.mk [],boot_drawn,boot_toks,os⟩=⟨boot_heap w.params,Array.mk [],boot_drawn,boot_toks,os⟩:=by
  show Shared.mk (absHeap (tr w.params) lo (boot_heap w.params).life) _ _ _ _=_;rw[ht]
 rw[ab]at t;have f:topFrom treeTable p w N ⟨boot_heap w.params,Array.mk [],boot_drawn,boot_toks,os⟩=some x.abs:=by
  unfold topFrom;dsimp only;rw[z1,z2,z3,t];show(match look p w.params x.abs with|true=>some x.abs|false=>none)=_;rw[l1]
 unfold openEnds;rw[e1];show(topFrom treeTable p w N _).map _=_;rw[f];show some (_,_)=_;rw[l2,l3]
noncomputable def s1(q:Program)(s:Shared):=seen ((recsOf q).map (·.name)) (ownsOf q) [] { s with gens:=#[] }
noncomputable def s2(p q:Program)(c:WRecords)(s:Shared):=(s.heap.bltView,s.heap.keysOk (looseW q []) ((recsOf q).map (·.name)) ((litsOf q).map (·.1)) ((clssOf q (looseW q [])).map (·.name))&&s.heap.accountedOkI (importedModules p.main.body)&&s.heap.isNs ZL&&s.heap.isNs builtinsNs&&tablesOk q s.heap&&(xlAt q [] s&&recOk c s)&&(s.gens.size==0),tabsOk q s)
noncomputable def s3(q:Program)(s:Shared):=(pinSeenD q (drecsOf q) s,plainSeenE q (looseW q []) s,plainSeenD q [] s,wideSeen q s,clsSeenW q [] s)
noncomputable def d3(q:Program):=(pinGoodD (drecsOf q),plainGoodE q (looseW q []),plainGoodD q [],wideGood q,clsGoodW q [])
theorem seen3{p q:Program}{c:WRecords}{o:Option SharedT}(e1:o.map (fun x=>s1 q x.abs)=some (expectedOf q))(e2:o.map (fun x=>s2 p q c x.abs)=some (bltViewBooted,true,true))(e3:o.map (fun x=>s3 q x.abs)=some (d3 q)):o.map (fun x=>openSeen q [] (importedModules p.main.body) (fun s=>xlAt q [] s&&recOk c s) true x.abs)=some (openGood q []):=by
 cases o with
 |none=>cases e1
 |some x=>
  have f1:s1 q x.abs=_:=Zp e1;have f2:s2 p q c x.abs=_:=Zp e2;have f3:s3 q x.abs=_:=Zp e3;show some (s1 q x.abs,(s2 p q c x.abs).1,(s2 p q c x.abs).2.1,(s2 p q c x.abs).2.2,s3 q x.abs)=_;rw[f1,f2,f3];rfl
theorem three{α β γ δ:Type}{o:Option α}{f:α->β}{g:α->γ}{h:α->δ}{a:β}{b:γ}{c:δ}(e1:o.map f=some a)(e2:o.map g=some b)(e3:o.map h=some c):o.map (fun x=>(f x,g x,h x))=some (a,b,c):=by
 cases o with
 |none=>cases e1
 |some x=>cases e1;cases e2;cases e3;rfl
noncomputable def atT(x:SharedT)(a:Nat):Option Obj:=match Nat.blt a x.n with
 |true=>match x.tree.get a with
  |some o=>alive o
  |none=>none
 |false=>none
theorem Ih{x:SharedT}{a:Nat}{o:Obj}(h:atT x a=some o):x.abs.heap.get? a=some o:=by
 revert h;unfold atT
 cases b:Nat.blt a x.n with
 |false=>intro h;cases h
 |true=>
  dsimp only;cases g:x.tree.get a with
  |none=>intro h;cases h
  |some o'=>intro h;exact(abs_get (Nat.le_of_ble_eq_true b) g).trans h
theorem atTs{β:Type}{o:Option SharedT}{l:List Nat}{fr:List (β × Obj)}(e:o.map (fun x=>l.map (atT x))=some (fr.map fun p=>some p.2)):o.map (fun x=>l.map x.abs.heap.get?)=some (fr.map fun p=>some p.2):=by
 cases o with
 |none=>cases e
 |some x=>
  have f:l.map (atT x)=_:=Zp e;refine congrArg some (?_:l.map x.abs.heap.get? = _);clear e
  induction l generalizing fr with
  |nil=>cases fr with
   |nil=>rfl
   |cons y ys=>cases f
  |cons a l ih=>cases fr with
   |nil=>cases f
   |cons y ys=>
    injection f with f1 f2
    exact(congrArg (· :: _) (Ih f1)).trans (congrArg (_ :: ·) (ih f2))
end TR
namespace K28
open PySem L2
noncomputable abbrev kS(s:String):Str:=zS s
noncomputable abbrev kR(a:Addr):Value:=.ref a
noncomputable abbrev kY(s:String):Value:=.type s
noncomputable abbrev kB(s:String):Value:=.builtin s
noncomputable abbrev kZ(s:Str)(t:Tok):Value:=.str s t
noncomputable abbrev kN:Value:=.none
noncomputable abbrev kD(h:Int)(k v:Value):YM:=⟨h,k,v⟩
noncomputable abbrev kO(c:Value)(d:Option Addr)(t:Data)(s:Array (Option Value)):Obj:=⟨c,d,t,s⟩
noncomputable abbrev keyHash:=PyData.keyHash
noncomputable abbrev kE(P:Params)(s:String)(t:Tok)(v:Value):YM:=⟨keyHash P (kS s),kZ (kS s) t,v⟩
noncomputable abbrev kI(i:Int)(t:Tok):Value:=.int i t
noncomputable abbrev kz(s:String)(t:Tok):Value:=kZ (kS s) t
noncomputable abbrev kC(t:Tok):Value:=kz "/claim/cut.py" t
noncomputable abbrev kT(x:Array Value):Obj:=kO (kY "tuple") none (.seq x 0) #[]
noncomputable abbrev kU:Value:=.bool true
noncomputable def frP:Nat->List Str->List Value
 |_,[]=>[]
 |t,s::r=>kZ s t::frP (t+1) r
noncomputable def frL(s:Stmt):List Str:=(ay s).names.filterMap fun p=>match p.2 with | .local=>some p.1|_=>none
noncomputable def frM(P:Params):List (String × Nat × Nat)->List YM->List YM
 | [],r=>r
 |(s,t,a)::l,r=>kE P s t (kR a)::frM P l r
noncomputable abbrev frQ(n q:String)(t l g a m:Nat):Obj:=kO (kY "code") none (Data.fields #[kz n t,kz q (t+1),kC (t+2),kI (Xu l) 0,kI (Xu g) 0,kI 0 0,kI 0 0,kI 3 0,kR a,kU,kI 181 0,kR (a+1),kN,kR (a+2),kR (a+3),kR (a+4),kI (Xu m) 0,kI (Xu l) 0,kC (m+1)]) #[]
noncomputable abbrev frG(n q:String)(t l g a:Nat):Obj:=kO (kY "code") none (Data.fields #[kz n t,kz q (t+1),kC (t+2),kI (Xu l) 0,kI (Xu g) 0,kI 0 0,kI 0 0,kI 3 0,kR a,kU,kI 181 0,kR (a+1),kN,kN,kN,kR (a+2),kI (Xu (t+3)) 0,kI (Xu l) 0,kC (t+4)]) #[]
noncomputable abbrev frZ(m:String)(k:Nat)(n q:String)(s:Stmt)(r:Nat):Obj:=kO (kY "function") none (Data.func (YX (kS n) (kS q) (iD s) (bh s) (ay s) kN kN kN (kz m k) none (kR r) kN)) #[]
noncomputable def frA(a:Nat)(n q:String)(t l g h:Nat)(ps:List Str)(o:Obj)(r:W.Frag):W.Frag:=(a,kT #[])::(a+2,kT (frP (t+3) ps).toArray)::(a+3,kT #[])::(a+5,frQ n q t l g a (t+h+3))::(a+6,o)::r
noncomputable def frB(Z:String->String->Stmt->Nat->Obj)(a:Nat)(n q:String)(s:Stmt)(t l g h:Nat)(r:W.Frag):W.Frag:=frA a n q t l g h (frL s) (Z n q s (a+5)) r
noncomputable def frC(Z:String->String->Stmt->Nat->Obj)(a:Nat)(n:String)(s:Stmt)(t l g h:Nat)(r:W.Frag):W.Frag:=frB Z a n n s t l g h r
noncomputable def frD(Z:String->String->Stmt->Nat->Obj)(a:Nat)(n q:String)(s:Stmt)(t l g:Nat)(r:W.Frag):W.Frag:=(a,kT #[])::(a+3,frG n q t l g a)::(a+4,Z n q s (a+3))::r
noncomputable abbrev frW(q:String)(l m i c r:Nat):Obj:=kO (kY "function") none (Data.func (FuncData.mk (kS "small_words") (kS q) (Arguments.mk [] [(Arg.mk (kS "self") none (Pos.mk l 20 l 24))] none [] [] none []) (Xy [(Stmt.Expr (Expr.Call (Expr.Name (kS "_wall") (Pos.mk m 8 m 13)) [(Xk (Const.int (Xu i)) 0 (Pos.mk m 14 m c))] [] (Pos.mk m 8 m (c+1))) (Pos.mk m 8 m (c+1)))]) (Scope.mk Yh [((kS "self"),NameKind.local),((kS "_wall"),Yq)] false false []) 3 [] kN kN kN (kz "evenhall.errors" 194) none (kR r) kN 0)) #[]
noncomputable abbrev frE(P:Params)(e l f g:Nat):Obj:=kO (kY "dict") none (YL #[kE P "__module__" (e+7) (kz "evenhall.errors" 194),kE P "__firstlineno__" (e+11) (kI (Xu l) (e+10)),kE P "small_words" (e+18) (kR f),kE P "__static_attributes__" (e+19) (kR g),kE P "__doc__" (e+20) kN] 2) #[]
noncomputable abbrev frT(x:String)(b c d e:Nat):Obj:=kO (kY "type") none (Data.cls (ClassData.mk (kS x) [kR 31] [kR b,kR 31,kY "ValueError",kY "Exception",kY "BaseException",kY "object"] c (kS x) true [] [] false none false)) #[some (kR d),none,some (kz x e),some (kz x (e+8)),some (kB "ValueError.__new__"),some kU]
noncomputable def frX(P:Params)(a:Nat)(x q:String)(e l i c:Nat)(r:W.Frag):W.Frag:=(a,kT #[kR 31])::frA (a+7) "small_words" q (e+12) (l+2) 1 1 [kS "self"] (frW q (l+2) (l+3) i c (a+12)) ((a+14,kT #[])::(a+15,frE P e l (a+13) (a+14))::(a+16,frT x (a+16) (a+15) a e)::r)
noncomputable abbrev LN:=frZ "evenhall.errors" 194
noncomputable abbrev Ca:=frZ "evenhall.words" 637
noncomputable abbrev xx:=frZ "evenhall.days" 675
noncomputable abbrev Ki:=frZ "evenhall.money" 747
noncomputable abbrev zE:=frZ "evenhall.bookings" 763
noncomputable abbrev JI:=frZ "evenhall.deeds" 814
noncomputable abbrev JM:=frZ "evenhall.running" 837
noncomputable abbrev EE:=frZ "evenhall.paths" 856
noncomputable abbrev mF:=frZ "evenhall.chart" 884
noncomputable abbrev qF:=frZ "evenhall.journal" 1061
noncomputable abbrev Dw:=frZ "evenhall.reports" 1193
noncomputable abbrev Ge:=frZ "evenhall.seals" 1219
noncomputable abbrev iX:=frZ "evenhall.standing" 1240
noncomputable abbrev eW:=frZ "law_evenhall_k28_whole_run_goes_through_once" 1378
noncomputable abbrev q0(a:String)(b:Nat)(c:Nat)(d:Nat)(e:Nat):Obj:=(kO (kY "type") none (Data.cls (ClassData.mk (kS a) [(kY "object")] [(kR b),(kY "object")] c (kS a) true [] [] false none false)) #[none,none,(some (kz a d)),(some (kz a e)),(some (kB "object.__new__")),(some kU)])
noncomputable abbrev q1(a:Nat)(b:Nat):Obj:=(kO (kY "getset_descriptor") none (Data.fields #[(kz "__weakref__" a),(kR b),(kB "ExceptionGroup.__weakref__"),kN]) #[])
noncomputable abbrev q2(a:Nat)(b:Nat):Obj:=(kO (kY "getset_descriptor") none (Data.fields #[(kz "__dict__" a),(kR b),(kB "function.__dict__"),(kB "function.__dict__#set")]) #[])
noncomputable def F7(P:Params):W.Frag:=
(2,(kO kN none (YL #[] 0) #[]))::
(3,(kO (kY "dict") none (YL ((kE P "__name__" 165 (kz "law_evenhall_k28_whole_run_goes_through_once" 1378))::(kE P "__doc__" 166 kN)::(kE P "__package__" 167 kN)::(kE P "__loader__" 168 (kB "__main__.__loader__#opaque"))::(kE P "__spec__" 169 kN)::(kE P "__annotations__" 170 (kR 6))::(kE P "__builtins__" 171 (kR 4))::(kE P "__file__" 173 (kC 172))::(kE P "__cached__" 174 kN)::frM P [("_wall",193,21),("HouseError",213,31),("BadName",236,51),("BadNote",259,70),("BadDay",282,89),("BadMonth",305,108),("BadCount",328,127),("BadCurrency",351,146),("BadPath",374,165),("BadKind",397,184),("NoAccount",420,203),("Twice",443,222),("NotOpen",466,241),("HasBelow",489,260),("BadRow",512,279),("Uneven",544,305),("NoBooking",567,324),("Closed",590,343),("NotNext",613,362),("NoOrder",636,381),("is_whole",645,390),("is_among",654,397),("signs_lie",660,402),("is_name",667,409),("is_note",674,416),("LENGTHS",689,417),("is_day",696,424),("is_month",703,431),("leap_days",710,438),("first_day",720,445),("last_day",727,452),("month_of",735,459),("stepped",746,466),("is_amount",755,473),("is_currency",762,480),("is_row",771,487),("need_form",779,494),("need_account",789,501),("sums_of",795,506),("need_even",801,511),("need_rows",813,518),("need_note_and_gate",824,525),("book",836,532),("booked",849,539),("run",855,544),("are_names",863,549),("is_path",870,556),("names_of",877,563),("above",883,568),("KINDS",891,569),("Account",942,600),("Chart",1060,696),("Gate",1121,745),("Journal",1192,801),("rows_of",1203,812),("bookings_up_to",1209,817),("balances",1218,824),("seal",1230,831),("holds",1239,838),("days_from",1247,843),("StandingOrder",1282,860),("Standing",1377,935),("_law_cell_at",1387,946),("_law_name_by",1393,951),("_law_long",1401,958),("_law_day",1412,965),("_law_left",1428,972),("_law_accounts",1441,979),("_law_chart",1450,986),("_law_order",1469,993),("_law_is_booked",1475,998),("_law_run_due",1481,1003),("_law_put",1493,1010),("_law_refused",1505,1017),("_law_same",1514,1024),("_law_state_good",1520,1029),("_law_between",1534,1036),("_law_begun",1544,1043),("law",1550,1048)] ([])).toArray 88) #[]))::
frA 15 "_wall" "_wall" 187 1 1 1 [kS "k"] (kO (kY "function") none (Data.func (FuncData.mk (kS "_wall") (kS "_wall") (Arguments.mk [] [(Arg.mk (kS "k") none (Pos.mk 1 10 1 11))] none [] [] none []) (Xy [(Stmt.While (Xk (Const.bool true) 0 (Pos.mk 2 10 2 14)) [(Stmt.Pass (Pos.mk 3 8 3 12))] [] (Pos.mk 2 4 3 12))]) (Scope.mk Yh [((kS "k"),NameKind.local)] false false []) 3 [] kN kN kN (kz "__main__" 164) none (kR 20) kN 0)) #[]) (
(22,(kT #[(kY "ValueError")]))::
(29,(kT #[]))::
(30,(kO (kY "dict") none (YL ((kE P "__module__" 203 (kz "evenhall.errors" 194))::(kE P "__firstlineno__" 207 (kI 5 206))::(kE P "__static_attributes__" 208 (kR 29))::(kE P "__weakref__" 210 (kR 32))::(kE P "__doc__" 211 kN)::[]).toArray 3) #[]))::
(31,(kO (kY "type") none (Data.cls (ClassData.mk (kS "HouseError") [(kY "ValueError")] [(kR 31),(kY "ValueError"),(kY "Exception"),(kY "BaseException"),(kY "object")] 30 (kS "HouseError") true [] [(kR 51),(kR 70),(kR 89),(kR 108),(kR 127),(kR 146),(kR 165),(kR 184),(kR 203),(kR 222),(kR 241),(kR 260),(kR 279),(kR 305),(kR 324),(kR 343),(kR 362),(kR 381)] false none false)) #[(some (kR 22)),none,(some (kz "HouseError" 196)),(some (kz "HouseError" 204)),(some (kB "ValueError.__new__")),(some kU)]))::
(32,(q1 209 31))::
frX P 35 "BadName" "BadName.small_words" 214 7 0 15 (
frX P 54 "BadNote" "BadNote.small_words" 237 11 1 15 (
frX P 73 "BadDay" "BadDay.small_words" 260 15 2 15 (
frX P 92 "BadMonth" "BadMonth.small_words" 283 19 3 15 (
frX P 111 "BadCount" "BadCount.small_words" 306 23 4 15 (
frX P 130 "BadCurrency" "BadCurrency.small_words" 329 27 5 15 (
frX P 149 "BadPath" "BadPath.small_words" 352 31 6 15 (
frX P 168 "BadKind" "BadKind.small_words" 375 35 7 15 (
frX P 187 "NoAccount" "NoAccount.small_words" 398 39 8 15 (
frX P 206 "Twice" "Twice.small_words" 421 43 9 15 (
frX P 225 "NotOpen" "NotOpen.small_words" 444 47 10 16 (
frX P 244 "HasBelow" "HasBelow.small_words" 467 51 11 16 (
frX P 263 "BadRow" "BadRow.small_words" 490 55 12 16 (
(282,(kT #[(kR 31)]))::
frB LN 289 "__init__" "Uneven.__init__" (bj (top 16) 0) 525 61 2 2 (
frA 296 "small_words" "Uneven.small_words" 533 64 1 1 [kS "self"] (kO (kY "function") none (Data.func (FuncData.mk (kS "small_words") (kS "Uneven.small_words") (Arguments.mk [] [(Arg.mk (kS "self") none (Pos.mk 64 20 64 24))] none [] [] none []) (Xy [(Stmt.Expr (Expr.Call (Expr.Name (kS "_wall") (Pos.mk 65 8 65 13)) [(Xk (Const.int 13) 0 (Pos.mk 65 14 65 16))] [] (Pos.mk 65 8 65 17)) (Pos.mk 65 8 65 17))]) (Scope.mk Yh [((kS "self"),NameKind.local),((kS "_wall"),Yq)] false false []) 3 [] kN kN kN (kz "evenhall.errors" 194) none (kR 301) kN 0)) #[]) (
(303,(kT #[(kz "currency" 540)]))::
(304,(kO (kY "dict") none (YL ((kE P "__module__" 520 (kz "evenhall.errors" 194))::(kE P "__firstlineno__" 524 (kI 59 523))::frM P [("__init__",532,295),("small_words",539,302),("__static_attributes__",541,303)] ((kE P "__doc__" 542 kN)::[])).toArray 2) #[]))::
(305,(kO (kY "type") none (Data.cls (ClassData.mk (kS "Uneven") [(kR 31)] [(kR 305),(kR 31),(kY "ValueError"),(kY "Exception"),(kY "BaseException"),(kY "object")] 304 (kS "Uneven") true [] [] false none false)) #[(some (kR 282)),none,(some (kz "Uneven" 513)),(some (kz "Uneven" 521)),(some (kB "ValueError.__new__")),(some kU)]))::
frX P 308 "NoBooking" "NoBooking.small_words" 545 66 14 16 (
frX P 327 "Closed" "Closed.small_words" 568 70 15 16 (
frX P 346 "NotNext" "NotNext.small_words" 591 74 16 16 (
frX P 365 "NoOrder" "NoOrder.small_words" 614 78 17 16 (
frC Ca 384 "is_whole" (top 22) 639 83 1 1 (
frC Ca 391 "is_among" (top 23) 646 85 3 3 (
frD Ca 398 "signs_lie" "signs_lie" (top 24) 655 87 3 (
frC Ca 403 "is_name" (top 25) 661 89 1 1 (
frC Ca 410 "is_note" (top 26) 668 91 1 1 (
(417,(kT #[(kI 31 677),(kI 28 678),(kI 31 679),(kI 30 680),(kI 31 681),(kI 30 682),(kI 31 683),(kI 31 684),(kI 30 685),(kI 31 686),(kI 30 687),(kI 31 688)]))::
frC xx 418 "is_day" (top 29) 690 99 1 1 (
frC xx 425 "is_month" (top 30) 697 101 1 1 (
frC xx 432 "leap_days" (top 31) 704 103 1 1 (
frC xx 439 "first_day" (top 32) 711 105 1 4 (
frC xx 446 "last_day" (top 33) 721 110 1 1 (
frC xx 453 "month_of" (top 34) 728 112 1 2 (
frC xx 460 "stepped" (top 35) 736 119 2 5 (
frC Ki 467 "is_amount" (top 37) 749 127 1 1 (
frC Ki 474 "is_currency" (top 38) 756 129 1 1 (
frC zE 481 "is_row" (top 40) 765 132 1 1 (
frC zE 488 "need_form" (top 41) 772 136 1 2 (
frC zE 495 "need_account" (top 42) 780 142 4 4 (
frD zE 502 "sums_of" "sums_of" (top 43) 790 147 1 (
frD zE 507 "need_even" "need_even" (top 44) 796 152 1 (
frC zE 512 "need_rows" (top 45) 802 156 3 6 (
frC JI 519 "need_note_and_gate" (top 47) 816 162 3 3 (
frC JI 526 "book" (top 48) 825 167 6 6 (
frC JM 533 "booked" (top 50) 839 174 5 5 (
frD JM 540 "run" "run" (top 51) 850 179 5 (
frD EE 545 "are_names" "are_names" (top 53) 858 191 1 (
frC EE 550 "is_path" (top 54) 864 193 1 1 (
frC EE 557 "names_of" (top 55) 871 195 1 1 (
frD EE 564 "above" "above" (top 56) 878 199 1 (
(569,(kT #[(kz "have" 886),(kz "owe" 887),(kz "own" 888),(kz "gain" 889),(kz "cost" 890)]))::
frB mF 577 "__init__" "Account.__init__" (bj (top 59) 0) 904 206 4 4 (
frB mF 584 "stands_on" "Account.stands_on" (bj (top 59) 1) 914 213 2 2 (
frB mF 591 "stands_later" "Account.stands_later" (bj (top 59) 2) 922 216 2 2 (
(598,(kT #[(kz "below" 930),(kz "currency" 931),(kz "first" 932),(kz "kind" 933),(kz "until" 934)]))::
(599,(kO (kY "dict") none (YL ((kE P "__module__" 899 (kz "evenhall.chart" 884))::(kE P "__firstlineno__" 903 (kI 204 902))::frM P [("__init__",913,583),("stands_on",921,590),("stands_later",929,597),("__static_attributes__",935,598),("__dict__",937,601),("__weakref__",939,602)] ((kE P "__doc__" 940 kN)::[])).toArray 4) #[]))::
(600,(q0 "Account" 600 599 892 900))::
(601,(q2 936 600))::
(602,(q1 938 600))::
frB mF 612 "__init__" "Chart.__init__" (bj (top 60) 0) 955 220 1 1 (
frB mF 619 "add_top" "Chart.add_top" (bj (top 60) 1) 962 223 3 3 (
frB mF 626 "add" "Chart.add" gB 971 232 4 5 (
frD mF 633 "shut" "Chart.shut" (bj (top 60) 3) 982 247 3 (
frB mF 638 "has" "Chart.has" (bj (top 60) 4) 988 259 2 2 (
frB mF 645 "account" "Chart.account" (bj (top 60) 5) 996 262 2 2 (
frA 652 "kind_of" "Chart.kind_of" 1004 267 2 2 [kS "self",kS "path"] (kO (kY "function") none (Data.func (FuncData.mk (kS "kind_of") (kS "Chart.kind_of") (Arguments.mk [] [(Arg.mk (kS "self") none (Pos.mk 267 16 267 20)),(Arg.mk (kS "path") none (Pos.mk 267 22 267 26))] none [] [] none []) (Xy [(Stmt.Expr (Expr.Call (Expr.Name (kS "_wall") (Pos.mk 268 8 268 13)) [(Xk (Const.int 18) 0 (Pos.mk 268 14 268 16))] [] (Pos.mk 268 8 268 17)) (Pos.mk 268 8 268 17))]) (Scope.mk Yh [((kS "self"),NameKind.local),((kS "path"),NameKind.local),((kS "_wall"),Yq)] false false []) 3 [] kN kN kN (kz "evenhall.chart" 884) none (kR 657) kN 0)) #[]) (
frB mF 659 "currency_of" "Chart.currency_of" (bj (top 60) 7) 1012 270 2 2 (
frA 666 "span_of" "Chart.span_of" 1020 273 2 2 [kS "self",kS "path"] (kO (kY "function") none (Data.func (FuncData.mk (kS "span_of") (kS "Chart.span_of") (Arguments.mk [] [(Arg.mk (kS "self") none (Pos.mk 273 16 273 20)),(Arg.mk (kS "path") none (Pos.mk 273 22 273 26))] none [] [] none []) (Xy [(Stmt.Expr (Expr.Call (Expr.Name (kS "_wall") (Pos.mk 274 8 274 13)) [(Xk (Const.int 19) 0 (Pos.mk 274 14 274 16))] [] (Pos.mk 274 8 274 17)) (Pos.mk 274 8 274 17))]) (Scope.mk Yh [((kS "self"),NameKind.local),((kS "path"),NameKind.local),((kS "_wall"),Yq)] false false []) 3 [] kN kN kN (kz "evenhall.chart" 884) none (kR 671) kN 0)) #[]) (
frB mF 673 "is_open" "Chart.is_open" (bj (top 60) 9) 1028 276 3 3 (
frB mF 680 "beneath" "Chart.beneath" (bj (top 60) 10) 1037 279 2 2 (
frB mF 687 "accounts" "Chart.accounts" (bj (top 60) 11) 1045 282 1 1 (
(694,(kT #[(kz "by_path" 1052)]))::
(695,(kO (kY "dict") none (YL ((kE P "__module__" 950 (kz "evenhall.chart" 884))::(kE P "__firstlineno__" 954 (kI 218 953))::frM P [("__init__",961,618),("add_top",970,625),("add",981,632),("shut",987,637),("has",995,644),("account",1003,651),("kind_of",1011,658),("currency_of",1019,665),("span_of",1027,672),("is_open",1036,679),("beneath",1044,686),("accounts",1051,693),("__static_attributes__",1053,694),("__dict__",1055,697),("__weakref__",1057,698)] ((kE P "__doc__" 1058 kN)::[])).toArray 4) #[]))::
(696,(q0 "Chart" 696 695 943 951))::
(697,(q2 1054 696))::
(698,(q1 1056 696))::
frB qF 708 "__init__" "Gate.__init__" (bj (top 62) 0) 1075 287 1 1 (
frB qF 715 "closed" "Gate.closed" (bj (top 62) 1) 1082 290 1 1 (
frB qF 722 "lets" "Gate.lets" (bj (top 62) 2) 1089 293 2 2 (
frB qF 729 "need_next" "Gate.need_next" (bj (top 62) 3) 1097 296 2 2 (
frB qF 736 "shut" "Gate.shut" (bj (top 62) 4) 1105 302 2 2 (
(743,(kT #[(kz "last_closed" 1113)]))::
(744,(kO (kY "dict") none (YL ((kE P "__module__" 1070 (kz "evenhall.journal" 1061))::(kE P "__firstlineno__" 1074 (kI 285 1073))::frM P [("__init__",1081,714),("closed",1088,721),("lets",1096,728),("need_next",1104,735),("shut",1112,742),("__static_attributes__",1114,743),("__dict__",1116,746),("__weakref__",1118,747)] ((kE P "__doc__" 1119 kN)::[])).toArray 4) #[]))::
(745,(q0 "Gate" 745 744 1063 1071))::
(746,(q2 1115 745))::
(747,(q1 1117 745))::
frB qF 757 "__init__" "Journal.__init__" (bj (top 63) 0) 1134 307 1 1 (
frB qF 764 "put" "Journal.put" (bj (top 63) 1) 1141 311 5 6 (
frB qF 771 "many" "Journal.many" (bj (top 63) 2) 1153 318 1 1 (
frB qF 778 "booking" "Journal.booking" (bj (top 63) 3) 1160 321 2 2 (
frB qF 785 "every" "Journal.every" (bj (top 63) 4) 1168 326 1 1 (
frA 792 "undone_by" "Journal.undone_by" 1175 329 2 2 [kS "self",kS "number"] (kO (kY "function") none (Data.func (FuncData.mk (kS "undone_by") (kS "Journal.undone_by") (Arguments.mk [] [(Arg.mk (kS "self") none (Pos.mk 329 18 329 22)),(Arg.mk (kS "number") none (Pos.mk 329 24 329 30))] none [] [] none []) (Xy [(Stmt.Expr (Expr.Call (Expr.Name (kS "_wall") (Pos.mk 330 8 330 13)) [(Xk (Const.int 20) 0 (Pos.mk 330 14 330 16))] [] (Pos.mk 330 8 330 17)) (Pos.mk 330 8 330 17))]) (Scope.mk Yh [((kS "self"),NameKind.local),((kS "number"),NameKind.local),((kS "_wall"),Yq)] false false []) 3 [] kN kN kN (kz "evenhall.journal" 1061) none (kR 797) kN 0)) #[]) (
(799,(kT #[(kz "bookings" 1183),(kz "undoings" 1184)]))::
(800,(kO (kY "dict") none (YL ((kE P "__module__" 1129 (kz "evenhall.journal" 1061))::(kE P "__firstlineno__" 1133 (kI 305 1132))::frM P [("__init__",1140,763),("put",1152,770),("many",1159,777),("booking",1167,784),("every",1174,791),("undone_by",1182,798),("__static_attributes__",1185,799),("__dict__",1187,802),("__weakref__",1189,803)] ((kE P "__doc__" 1190 kN)::[])).toArray 4) #[]))::
(801,(q0 "Journal" 801 800 1122 1130))::
(802,(q2 1186 801))::
(803,(q1 1188 801))::
frC Dw 806 "rows_of" (top 65) 1195 332 1 3 (
frD Dw 813 "bookings_up_to" "bookings_up_to" (top 66) 1204 337 2 (
frC Dw 818 "balances" (top 67) 1210 339 3 3 (
frC Ge 825 "seal" (top 69) 1221 342 3 4 (
frC Ge 832 "holds" (top 70) 1231 347 3 3 (
frD iX 839 "days_from" "days_from" (top 72) 1242 350 3 (
frB iX 851 "__init__" "StandingOrder.__init__" (bj (top 73) 0) 1260 355 6 6 (
(858,(kT #[(kz "agreed" 1272),(kz "all_days" 1273),(kz "gone" 1274)]))::
(859,(kO (kY "dict") none (YL ((kE P "__module__" 1255 (kz "evenhall.standing" 1240))::(kE P "__firstlineno__" 1259 (kI 353 1258))::frM P [("__init__",1271,857),("__static_attributes__",1275,858),("__dict__",1277,861),("__weakref__",1279,862)] ((kE P "__doc__" 1280 kN)::[])).toArray 4) #[]))::
(860,(q0 "StandingOrder" 860 859 1248 1256))::
(861,(q2 1276 860))::
(862,(q1 1278 860))::
frB iX 872 "__init__" "Standing.__init__" (bj (top 74) 0) 1295 361 1 1 (
frB iX 879 "put" "Standing.put" (bj (top 74) 1) 1302 364 7 7 (
frB iX 886 "order" "Standing.order" (bj (top 74) 2) 1315 378 2 2 (
frB iX 893 "drop" "Standing.drop" (bj (top 74) 3) 1323 383 2 2 (
frB iX 900 "names" "Standing.names" (bj (top 74) 4) 1331 387 1 1 (
frB iX 907 "terms" "Standing.terms" (bj (top 74) 5) 1338 390 2 2 (
frB iX 914 "done" "Standing.done" (bj (top 74) 6) 1346 393 2 2 (
frB iX 921 "step" "Standing.step" (bj (top 74) 7) 1354 396 2 3 (
frD iX 928 "days" "Standing.days" (bj (top 74) 8) 1363 400 3 (
(933,(kT #[(kz "by_name" 1369)]))::
(934,(kO (kY "dict") none (YL ((kE P "__module__" 1290 (kz "evenhall.standing" 1240))::(kE P "__firstlineno__" 1294 (kI 359 1293))::frM P [("__init__",1301,878),("put",1314,885),("order",1322,892),("drop",1330,899),("names",1337,906),("terms",1345,913),("done",1353,920),("step",1362,927),("days",1368,932),("__static_attributes__",1370,933),("__dict__",1372,936),("__weakref__",1374,937)] ((kE P "__doc__" 1375 kN)::[])).toArray 4) #[]))::
(935,(q0 "Standing" 935 934 1283 1291))::
(936,(q2 1371 935))::
(937,(q1 1373 935))::
frC eW 940 "_law_cell_at" (top 76) 1380 404 2 2 (
frD eW 947 "_law_name_by" "_law_name_by" (top 77) 1388 408 2 (
frC eW 952 "_law_long" (top 78) 1394 418 1 2 (
frC eW 959 "_law_day" (top 79) 1402 423 2 5 (
frC eW 966 "_law_left" (top 80) 1413 429 2 10 (
frC eW 973 "_law_accounts" (top 81) 1429 438 3 7 (
frC eW 980 "_law_chart" (top 82) 1442 446 1 3 (
frC eW 987 "_law_order" (top 83) 1451 456 4 13 (
frD eW 994 "_law_is_booked" "_law_is_booked" (top 84) 1470 469 5 (
frD eW 999 "_law_run_due" "_law_run_due" cg 1476 481 5 (
frC eW 1004 "_law_put" (top 86) 1482 495 4 6 (
frC eW 1011 "_law_refused" (top 87) 1494 501 5 6 (
frC eW 1018 "_law_same" (top 88) 1506 507 2 3 (
frD eW 1025 "_law_state_good" "_law_state_good" (top 89) 1515 514 4 (
frC eW 1030 "_law_between" (top 90) 1521 521 8 8 (
frC eW 1037 "_law_begun" (top 91) 1535 531 3 4 (
frD eW 1044 "law" "law" cf 1545 537 1 ( [])))))))))))))))))))))))))))))))))))))))))))))))))))))))))))))))))))))))))))))))))))))))))))))))))))))))))))
noncomputable def frag(P:Params):W.Frag:=by
 refine(fun(x:W.Frag) (_:x=F7 P)=>x) ?l ?h
 case h=>
  dsimp only[F7,frB,frC,frD,frA,frX,frP,frM,Nat.reduceAdd];dsimp only[OfNat.ofNat,instOfNatNat];exact rfl
noncomputable def adrs:List Addr:=(frag { strHash:=fun _=>0,shareClass:=fun _=>0,mergeTok:=id,idOf:=fun _=>0,idOfShared:=fun _ _=>0,followText:=fun _=>true,idOfImm:=fun _=>0 }).map (·.1)
theorem adrs_eq(P:Params):adrs=(frag P).map (·.1):=by kernel_rfl
noncomputable def vw:Program:=PySem.W.view Qq [0,2,3,4,5,6,7,8,9,10,11,12,13,14,15,16,17,18,19,20,22,23,24,25,26,28,29,30,31,32,33,34,35,37,38,40,41,42,43,44,45,47,48,50,51,53,54,55,56,58,59,60,62,63,65,66,67,69,70,72,73,74,76,77,78,79,80,81,82,83,84,85,86,87,88,89,90,91,92]
open PySem.W in
noncomputable def tree0(P:Params):BT:=(.node (boot_o_0 P) (.node (boot_o_1 P) (.node (boot_o_3 P) (.node (boot_o_7 P) .nil .nil) .nil) (.node (boot_o_5 P) (.node (boot_o_9 P) .nil .nil) .nil)) (.node (boot_o_2 P) (.node (boot_o_4 P) (.node (boot_o_8 P) .nil .nil) .nil) (.node (boot_o_6 P) (.node (boot_o_10 P) .nil .nil) .nil)))
open PySem.W PyProof.Rows in
noncomputable def ran(p:Program)(t:BT)(b:Heap)(w:World)(os:OsState):Option SharedT:=TR.go p w 11 (some (.ref 6)) 17374 ⟨t,11,b.life,Array.mk [],boot_drawn,boot_toks,os⟩ (topStub p)
theorem JC{α β γ:Type}{o:Option α}{f:α->β}{g:α->γ}{a:β}{b:γ}(e:o.map (fun x=>(f x,g x))=some (a,b)):o.map f=some a:=by
 cases o with
 |none=>cases e
 |some x=>cases e;rfl
theorem Jk{α β γ:Type}{o:Option α}{f:α->β}{g:α->γ}{a:β}{b:γ}(e:o.map (fun x=>(f x,g x))=some (a,b)):o.map g=some b:=by
 cases o with
 |none=>cases e
 |some x=>cases e;rfl
noncomputable def runP(p v:Program)(t:PySem.W.BT)(b:Heap)(l:List Addr)(w:World)(os:OsState):=(ran p t b w os).map fun x=>(TR.lookB p b x.abs,(TR.s1 v x.abs,l.map (TR.atT x)))
noncomputable def runQ(p v:Program)(c:PySem.W.WRecords)(t:PySem.W.BT)(b:Heap)(w:World)(os:OsState):=(ran p t b w os).map fun x=>TR.s2 p v c x.abs
noncomputable def runF(p v:Program)(t:PySem.W.BT)(b:Heap)(w:World)(os:OsState):=(ran p t b w os).map fun x=>TR.s3 v x.abs
open PyProof PyProof.Rows PySem.W in
noncomputable def goodP(v:Program)(r:List (Option Obj))(_:OsState):=some (true,(expectedOf v,r))
noncomputable def goodF(v:Program)(_:OsState):=some (TR.d3 v)
lay_quick K28.runP
lay_quick K28.runQ
lay_quick K28.runF
lay_quick K28.goodP
lay_quick K28.goodF
theorem gP(w:World):PySem.W.Fast.tw10624080017030729259 Qq vw (tree0 w.params) (PySem.W.boot_heap w.params) adrs w=PySem.W.Fast.tw7419035299538160725 vw ((frag w.params).map fun p=>some p.2):=by kernel_rfl
open PyProof PyProof.Rows in
theorem gQ(w:World):PySem.W.Fast.tw8917435039568177160 Qq vw (PySem.W.RowW.records (PySem.W.OpenRow.toRowW (PySem.W.OpenLaw.row Qj))) (tree0 w.params) (PySem.W.boot_heap w.params) w=fun _=>some (PySem.bltViewBooted,true,true):=by kernel_rfl
theorem gF(w:World):PySem.W.Fast.tw6597282411783066732 Qq vw (tree0 w.params) (PySem.W.boot_heap w.params) w=PySem.W.Fast.tw9983647630980906897 vw:=by kernel_rfl
theorem left:PySem.W.LeftO Qq vw [] (fun s=>PySem.W.xlAt vw [] s&&PySem.W.recOk (PySem.W.RowW.records (PySem.W.OpenRow.toRowW (PySem.W.OpenLaw.row Qj))) s) (YB frag adrs adrs_eq).obs (YB frag adrs adrs_eq).val 17374:=
 TR.left (lo:=11) (an:=some (.ref 6)) (tr:=tree0) (PySem.W.boot_open (by kernel_rfl) (by decide) (fun s=>by kernel_rfl)) (fun P=>by kernel_rfl) (fun P=>by kernel_rfl) fun w=>funext fun os=>
  have a:=congrFun ((congrFun (congrFun (congrFun (congrFun (congrFun (congrFun PySem.W.Fast.te10624080017030729259 _) _) _) _) _) w).trans ((gP w).trans (congrFun (congrFun PySem.W.Fast.te7419035299538160725 _) _).symm)) os;have b:=congrFun ((congrFun (congrFun (congrFun (congrFun (congrFun (congrFun PySem.W.Fast.te8917435039568177160 _) _) _) _) _) w).trans (gQ w)) os;have c:=congrFun ((congrFun (congrFun (congrFun (congrFun (congrFun PySem.W.Fast.te6597282411783066732 _) _) _) _) w).trans ((gF w).trans (congrFun PySem.W.Fast.te9983647630980906897 _).symm)) os
  TR.three (JC a) (TR.seen3 (JC (Jk a)) b c) (TR.atTs (Jk (Jk a)))
noncomputable def wsaid(l:PySem.W.OpenLaw):Bool:=PySem.W.OpenLaw.wellSaid l
lay_quick K28.wsaid
theorem ws:wsaid Qj=true:=(congrFun PySem.W.Fast.te12757606040263445909 _).trans (by kernel_rfl)
end K28
namespace L2
open PySem PySem.Spec PyProof.Rows
abbrev Key:=Sum Int Str
noncomputable def qW:Key->Value->Bool
 | .inl k,v=>Value.isInt k v
 | .inr x,v=>Value.isStrOf x v
noncomputable def L4(w:World):Key->Int
 | .inl k=>hashInt k
 | .inr x=>hashStr w x
theorem cE:∀ {k:Key} {v:Value},qW k v=true->(∃i t,k=Sum.inl i/\v=Xv i t)\/(∃x t,k=Sum.inr x/\v=Ys x t)
 | .inl i,v,h=>by
  obtain⟨t,e⟩:=Value.isInt_shape (k:=i) (v:=v) h;exact .inl ⟨i,t,rfl,e⟩
 | .inr x,v,h=>by
  obtain⟨t,e⟩:=Value.isStrOf_shape (x:=x) (v:=v) h;exact .inr ⟨x,t,rfl,e⟩
theorem zX(i:Int)(t:Tok):qW (.inl i) (.int i t)=true:=by simp[qW,Value.isInt]
theorem zy(x:Str)(t:Tok):qW (.inr x) (.str x t)=true:=by simp[qW,Value.isStrOf]
theorem IR(a b:Int):decide ((Sum.inl a:Key)=Sum.inl b)=(a==b):=by
 by_cases e:a=b
 ·subst e;simp
 ·have h:¬ (Sum.inl a:Key)=Sum.inl b:=fun q=>e (Sum.inl.inj q)
  rw[decide_eq_false h];exact(beq_eq_false_iff_ne.mpr e).symm
theorem Hh(a b:Str):decide ((Sum.inr a:Key)=Sum.inr b)=decide (a=b):=by
 by_cases e:a=b
 ·subst e;simp
 ·have h:¬ (Sum.inr a:Key)=Sum.inr b:=fun q=>e (Sum.inr.inj q)
  rw[decide_eq_false h,decide_eq_false e]
theorem IH(a:Int)(b:Str):decide ((Sum.inl a:Key)=Sum.inr b)=false:=decide_eq_false (fun q=>nomatch q)
theorem HB(a:Str)(b:Int):decide ((Sum.inr a:Key)=Sum.inl b)=false:=decide_eq_false (fun q=>nomatch q)
noncomputable def bM(prog:Program)(w:World):PySem.KeyKind prog w Key where
 is:=qW
 hash:=L4 w
 inj:=fun v a b ha hb=>by
  rcases cE ha with ⟨i,t,rfl,rfl⟩|⟨x,t,rfl,rfl⟩
  ·rcases cE hb with ⟨j,u,rfl,e⟩|⟨y,u,rfl,e⟩
   ·injection e with e1 _;rw[e1]
   ·exact nomatch e
  ·rcases cE hb with ⟨j,u,rfl,e⟩|⟨y,u,rfl,e⟩
   ·exact nomatch e
   ·injection e with e1 _;rw[e1]
 byValue:=fun k v h=>by
  rcases cE h with ⟨i,t,rfl,rfl⟩|⟨x,t,rfl,rfl⟩ <;> rfl
 pyHash:=fun hv h=>by
  rcases cE hv with ⟨i,t,rfl,rfl⟩|⟨x,t,rfl,rfl⟩
  ·exact wpAny_pyHash_int h
  ·exact wpAny_pyHash_str h
 eqBool:=fun hu hv h=>by
  rcases cE hu with ⟨i,t,rfl,rfl⟩|⟨x,t,rfl,rfl⟩
  ·rcases cE hv with ⟨j,u,rfl,rfl⟩|⟨y,u,rfl,rfl⟩
   ·rw[IR]at h;exact wpAny_eqBool_int h
   ·rw[IH]at h;exact SeqAt.EqAt.int_str i t y u _ _ _ _ h
  ·rcases cE hv with ⟨j,u,rfl,rfl⟩|⟨y,u,rfl,rfl⟩
   ·rw[HB]at h;exact SeqAt.EqAt.str_int x t j u _ _ _ _ h
   ·rw[Hh]at h;exact wpAny_eqBool_str h
 «strs»:=fun k x t v h=>by
  rcases cE h with ⟨i,u,rfl,e⟩|⟨y,u,rfl,e⟩
  ·exact nomatch e
  ·injection e with e1 _
   subst e1;cases v <;> rfl
theorem wt(prog:Program)(w:World)(i:Int)(t:Tok):(bM prog w).is (.inl i) (.int i t)=true:=zX i t
theorem ww(prog:Program)(w:World)(x:Str)(t:Tok):(bM prog w).is (.inr x) (.str x t)=true:=zy x t
set_option genInjectivity true in
inductive V where
 |non|bl (b:Bool)|int (i:Int)|str (x:Str)|byt (b:Array UInt8)|flt (b:UInt64)|ref (a:Addr)|ty (n:String)
 deriving DecidableEq
def RelV:V->Value->Prop
 | .non,u=>u=Z2
 | .bl b,u=>u=Value.bool b
 | .int i,u=>∃t,u=Xv i t
 | .str x,u=>∃t,u=Ys x t
 | .byt b,u=>∃t,u=Value.bytes b t
 | .flt b,u=>∃t,u=Value.float b t
 | .ref a,u=>u=wU a
 | .ty n,u=>u=Yi n
abbrev Vals:List V->List Value->Prop:=Paired RelV
theorem Vals.length{xs:List V}{us:List Value}(r:Vals xs us):xs.length=us.length:=Paired.length r
theorem Vals.get:∀ {xs:List V} {us:List Value} {i:Nat} {x:V},Vals xs us->xs[i]? = some x->∃u,us[i]? = some u/\RelV x u
 |_,_,_,_,.nil,e=>by simp at e
 |_,_,0,_,.cons r _,e=>by simp at e;subst e;exact⟨_,rfl,r⟩
 |_,_,i+1,x,.cons _ t,e=>by
  obtain⟨u,h1,h2⟩:=Vals.get (i:=i) (x:=x) t (by simpa using e);exact⟨u,by simpa using h1,h2⟩
theorem Vals.set{x:V}{u:Value}(r:RelV x u):∀ {xs:List V} {us:List Value} (i:Nat),Vals xs us->Vals (xs.set i x) (us.set i u)
 |_,_,_,.nil=>.nil
 |_,_,0,.cons _ t=>.cons r t
 |_,_,i+1,.cons q t=>.cons q (Vals.set r i t)
theorem Vals.append:∀ {xs ys:List V} {us ws:List Value},Vals xs us->Vals ys ws->Vals (xs++ys) (us++ws)
 |_,_,_,_,.nil,s=>s
 |_,_,_,_,.cons r t,s=>.cons r (Vals.append t s)
theorem Vals.take:∀ {xs:List V} {us:List Value} (n:Nat),Vals xs us->Vals (xs.take n) (us.take n)
 |_,_,0,_=>.nil
 |_,_,_+1,.nil=>.nil
 |_,_,n+1,.cons r t=>.cons r (Vals.take n t)
theorem Vals.drop:∀ {xs:List V} {us:List Value} (n:Nat),Vals xs us->Vals (xs.drop n) (us.drop n)
 |_,_,0,r=>r
 |_,_,_+1,.nil=>.nil
 |_,_,n+1,.cons _ t=>Vals.drop n t
def RelO:Option V->Option Value->Prop
 |some v,some u=>RelV v u
 |none,none=>True
 |_,_=>False
def KV{κ:Type}:List (κ × V)->List (κ × Value)->Prop:=Paired fun(p:κ × V) (q:κ × Value)=>p.1=q.1/\RelV p.2 q.2
noncomputable def kV:Key->V
 | .inl i=>.int i
 | .inr x=>.str x
set_option genInjectivity true in
inductive HO where
 |lst (xs:List V)
 |tup (xs:List V)
 |dK (kvs:List (Key × V))|dT (kvs:List (List Key × V))
 |set (S:Int->Bool) (n:Nat)
 |ins (C dx:Addr) (fs:List (Str × V))
 |own (x:Addr)
 |xd (fs:List (Str × V))
 |met (f x:Addr)
 |rng (lo hi:Int)
 |frz (o:Obj) (u:HO)
 |tbl (ps:Array Value)
 |ext (φ:Heap->Prop)
abbrev Hp:=Addr->Option HO
noncomputable def upd(H:Hp)(a:Addr)(o:HO):Hp:=fun b=>if b=a then some o else H b
theorem af:upd H a o a=some o:=by unfold upd;rw[if_pos rfl]
theorem ai(h:b≠a):upd H a o b=H b:=by unfold upd;rw[if_neg h]
theorem ie:upd (upd H a o) a u=upd H a u:=by
 funext b;unfold upd;split <;> rfl
theorem Kh{H:Hp}{a b:Addr}{o u:HO}(h:H a=some o)(h':H b=some u)(d:o≠u):a≠b:=by
 intro e;subst e;rw[h]at h';exact d (Zp h')
theorem aL{H:Hp}{a b:Addr}{o:HO}(h:H a=some o)(h':H b=none):a≠b:=by
 intro e;subst e;rw[h]at h';cases h'
section
variable(P:Program)(w:World)
def ObjOk(H:Hp)(h:Heap)(a:Addr):HO->Prop
 | .lst xs=>xs.length<=sizeLine/\∃(its:List Value) (n:Nat),Vals xs its/\h.get? a=some { cls:=.type "list",data:=.seq its.toArray n }
 | .tup xs=>xs.length<=sizeLine/\∃its:List Value,Vals xs its/\IsTup h a its.toArray
 | .dK kvs=>kvs.length<=sizeLine/\(a==ZE)=false/\∃vs,KV kvs vs/\h.DictOf (bM P w) a vs
 | .dT kvs=>kvs.length<=sizeLine/\(a==ZE)=false/\∃xs:List (List Key × Addr × Value),
  Paired (fun(p:List Key × V) (q:List Key × Addr × Value)=>p.1=q.1/\H q.2.1=some (.tup (p.1.map kV))/\RelV p.2 q.2.2) kvs xs /\
  ∃o es ep,h.get? a=some o/\o.ExactDict/\o.data = .dict es ep/\es.toList=xs.map (entryOfKey (tupleKind (bM P w)))/\(xs.map (·.1)).Nodup
 | .set S n=>h.SetOf (intKind P w) a S n
 | .ins C dx fs=>H dx=some (.own a)/\fs.length<=1000/\dx≠a/\h.get? a=some (Yo C dx) /\
  ∃mA,h.Ns1 dx mA/\(∀f,RelO (fs.lookup f) (mA f))/\PySem.Within mA (fs.map (·.1))
 | .own _=>∃o,h.get? a=some o
 | .xd fs=>∃mA,h.Ns1 a mA/\∀f,RelO (fs.lookup f) (mA f)
 | .rng lo hi=>∃t u v,h.get? a=some { cls:=.type "range",data:=.fields #[.int lo t,.int hi u,.int 1 v] }
 | .frz o u=>h.get? a=some o/\ObjOk H h a u
 | .tbl ps=>h.get? a=some { cls:=.none,data:=.fields ps }
 | .met f x=>h.get? a=some (PySem.W.methodObj (.ref f) (.ref x))
 | .ext φ=>φ h/\(∃o,h.get? a=some o)/\∀h1 h2:Heap,φ h1->(∀o,h1.get? a=some o->h2.get? a=some o)->φ h2
def HOk(H:Hp)(h:Heap):Prop:=∀a o,H a=some o->ObjOk P w H h a o
end
section
variable{P:Program}{w:World}{H H':Hp}{h h':Heap}{a:Addr}{o:HO}
theorem ObjOk.lt(x:ObjOk P w H h a o):a<h.objs.size:=by
 cases o with
 |lst xs=>obtain⟨_,_,_,_,e⟩:=x;exact wF e
 |tup xs=>obtain⟨_,_,_,p⟩:=x;exact p.lt
 |dK kvs=>obtain⟨_,_,_,_,o,_,_,e,_⟩:=x;exact wF e
 |dT kvs=>obtain⟨_,_,_,_,o,_,_,e,_⟩:=x;exact wF e
 |set S n=>obtain⟨o,_,_,_,e,_⟩:=x;exact wF e
 |ins C dx fs=>obtain⟨_,_,_,e,_⟩:=x;exact wF e
 |own y=>obtain⟨_,e⟩:=x;exact wF e
 |xd fs=>obtain⟨_,⟨_,_,_,e,_⟩,_⟩:=x;exact wF e
 |rng lo hi=>obtain⟨_,_,_,e⟩:=x;exact wF e
 |frz ob u=>obtain⟨e,_⟩:=x;exact wF e
 |tbl ps=>exact wF (show h.get? a=some _ from x)
 |met f y=>exact wF (show h.get? a=some _ from x)
 |ext φ=>obtain⟨_,⟨_,e⟩,_⟩:=x;exact wF e
theorem Paired.mapP{α β:Type}{F G:α->β->Prop}:∀ {l₁:List α} {l₂:List β},Paired F l₁ l₂->(∀a b,F a b->G a b)->Paired G l₁ l₂
 |_,_,.nil,_=>.nil
 |_,_,.cons r t,f=>.cons (f _ _ r) (Paired.mapP t f)
theorem ObjOk.stay(x:ObjOk P w H h a o)(k:∀b u,(b=a\/H b=some (.own a))->h.get? b=some u->h'.get? b=some u)
 (ho:∀b,H b=some (.own a)->H' b=some (.own a)) (ht:∀b xs,H b=some (.tup xs)->H' b=some (.tup xs)):ObjOk P w H' h' a o:=by
 induction o with
 |lst xs=>obtain⟨z,its,n,r,e⟩:=x;exact⟨z,its,n,r,k _ _ (.inl rfl) e⟩
 |tup xs=>obtain⟨z,its,r,ob,e,c⟩:=x;exact⟨z,its,r,ob,k _ _ (.inl rfl) e,c⟩
 |dK kvs=>obtain⟨z,y,vs,r,ob,es,ep,e,c⟩:=x;exact⟨z,y,vs,r,ob,es,ep,k _ _ (.inl rfl) e,c⟩
 |dT kvs=>
  obtain⟨z,y,xs,r,ob,es,ep,e,c⟩:=x;exact⟨z,y,xs,Paired.mapP r fun p q z=>⟨z.1,ht _ _ z.2.1,z.2.2⟩,ob,es,ep,k _ _ (.inl rfl) e,c⟩
 |set S n=>obtain⟨ob,es,ep,t,e,c⟩:=x;exact⟨ob,es,ep,t,k _ _ (.inl rfl) e,c⟩
 |ins C dx fs=>
  obtain⟨d,z,ne,e,mA,⟨od,es,ep,e2,c⟩,r⟩:=x;exact⟨ho _ d,z,ne,k _ _ (.inl rfl) e,mA,⟨od,es,ep,k _ _ (.inr d) e2,c⟩,r⟩
 |own y=>obtain⟨ob,e⟩:=x;exact⟨ob,k _ _ (.inl rfl) e⟩
 |xd fs=>obtain⟨mA,⟨od,es,ep,e,c⟩,r⟩:=x;exact⟨mA,⟨od,es,ep,k _ _ (.inl rfl) e,c⟩,r⟩
 |rng lo hi=>obtain⟨t,u,v,e⟩:=x;exact⟨t,u,v,k _ _ (.inl rfl) e⟩
 |frz ob u ih=>obtain⟨e,q⟩:=x;exact⟨k _ _ (.inl rfl) e,ih q⟩
 |tbl ps=>
  have e:h.get? a=some { cls:=.none,data:=.fields ps }:=x;show h'.get? a=some { cls:=.none,data:=.fields ps };exact k a _ (.inl rfl) e
 |met f y=>
  have e:h.get? a=some (PySem.W.methodObj (.ref f) (.ref y)):=x;show h'.get? a=some (PySem.W.methodObj (.ref f) (.ref y));exact k a _ (.inl rfl) e
 |ext φ=>obtain⟨p,⟨o,e⟩,st⟩:=x;exact⟨st _ _ p fun o q=>k _ _ (.inl rfl) q,⟨o,k _ _ (.inl rfl) e⟩,st⟩
theorem HOk.lt(x:HOk P w H h)(e:H a=some o):a<h.objs.size:=(x a o e).lt
theorem HOk.fresh(x:HOk P w H h)(e:h.objs.size<=a):H a=none:=by
 cases q:H a with
 |none=>rfl
 |some u=>exact absurd (Zy (x.lt q) e) (ZJ _)
theorem HOk.kept(x:HOk P w H h)(k:∀b u,h.get? b=some u->h'.get? b=some u):HOk P w H h':=fun a o e=>
 (x a o e).stay (fun b u _ q=>k b u q) (fun _ q=>q) fun _ _ q=>q
theorem HOk.laid(x:HOk P w H h)(k:∀b u,h.get? b=some u->h'.get? b=some u)(hp:h.objs.size<=a)(new:ObjOk P w (upd H a o) h' a o):HOk P w (upd H a o) h':=fun b u e=>by
 have hn:=x.fresh hp;by_cases hb:b=a
 ·subst hb;rw[af]at e;cases e;exact new
 ·rw[ai hb]at e
  exact(x b u e).stay (fun c v _ q=>k c v q) (fun c q=>by rw[ai (aL q hn)];exact q) fun c xs q=>by rw[ai (aL q hn)];exact q
end
def Rd(H:Hp)(a:Addr)(u:HO):Prop:=H a=some u\/∃o,H a=some (.frz o u)
theorem Rd.ok{P:Program}{w:World}{H:Hp}{h:Heap}{a:Addr}{u:HO}(r:Rd H a u)(x:HOk P w H h):ObjOk P w H h a u:=by
 rcases r with r|⟨o,r⟩
 ·exact x a u r
 ·obtain⟨_,q⟩:=x a _ r
  exact q
def Mut:Option HO->Prop
 |some (.lst _)=>True
 |some (.dK _)=>True
 |some (.dT _)=>True
 |some (.set _ _)=>True
 |some (.ins _ _ _)=>True
 |some (.ext _)=>True
 |_=>False
section
variable{P:Program}{w:World}{H:Hp}{h h':Heap}{x e:Addr}{o':HO}
theorem HOk.write(ok:HOk P w H h)(mu:Mut (H x))(he:e=x\/H e=some (.own x))(k:∀b u,b≠e->h.get? b=some u->h'.get? b=some u)(heo:∃u,h'.get? e=some u)
 (new:ObjOk P w (upd H x o') h' x o'):HOk P w (upd H x o') h':=fun b u q=>by
 have nown:∀c y,H c=some (.own y)->c≠x:=fun c y r z=>by subst z;rw[r]at mu;exact mu
 have ntup:∀c xs,H c=some (.tup xs)->c≠x:=fun c xs r z=>by subst z;rw[r]at mu;exact mu
 by_cases hb:b=x
 ·subst hb;rw[af]at q;cases q;exact new
 ·rw[ai hb]at q
  by_cases hbe:b=e
  ·have q':H b=some (.own x):=by
    rcases he with z|z
    ·exact absurd (hbe.trans z) hb
    ·rw[hbe];exact z
   rw[q]at q';cases q';obtain⟨v,hv⟩:=heo;exact⟨v,by rw[hbe];exact hv⟩
  ·refine(ok b u q).stay (fun c v hc r=>k c v ?_ r) (fun c r=>by rw[ai (nown c b r)];exact r) fun c xs r=>by rw[ai (ntup c xs r)];exact r
   rcases hc with rfl|hc
   ·exact hbe
   ·rintro rfl
    rcases he with z|z
    ·exact nown c b hc z
    ·rw[hc]at z;cases z;exact hb rfl
end
structure Un(fs ex:List Addr)(H H':Hp)(h h':Heap):Prop where
 keep:∀b o,h.get? b=some o->H b=none->b∉fs->b∉ex->h'.get? b=some o
 slot:∀b o,h.get? b=some o->H b=none->b∈fs->b∉ex->∃sl,h'.get? b=some { o with slots:=sl }
 free:∀b o,h.get? b=some o->H b=none->b∉ex->H' b=none
 there:∀b o,h.get? b=some o->b∉ex->∃o',h'.get? b=some o'
 tups:∀b xs,H b=some (.tup xs)->H' b=some (.tup xs)
 frzs:∀b o u,H b=some (.frz o u)->H' b=some (.frz o u)
 tbls:∀b ps,H b=some (.tbl ps)->∃more,H' b=some (.tbl (ps++more))
section
variable{fs fs' ex ex':List Addr}{H H1 H2:Hp}{h h1 h2 h':Heap}{a x e:Addr}{o:HO}
theorem Un.any(u:Un fs ex H H1 h h1){b:Addr}{ob:Obj}(q:h.get? b=some ob)(n:H b=none)(hx:b∉ex):∃sl,h1.get? b=some { ob with slots:=sl }:=by
 by_cases hb:b∈fs
 ·exact u.slot b ob q n hb hx
 ·exact⟨ob.slots,u.keep b ob q n hb hx⟩
theorem Un.kept(k:∀b u,h.get? b=some u->h'.get? b=some u):Un fs ex H H h h':=
 ⟨fun b ob q _ _ _=>k b ob q,fun b ob q _ _ _=>⟨ob.slots,k b ob q⟩,fun _ _ _ n _=>n,fun b ob q _=>⟨ob,k b ob q⟩,fun _ _ q=>q,fun _ _ _ q=>q,fun _ ps q=>⟨#[],by rw[q];simp⟩⟩
theorem Un.refl:Un fs ex H H h h:=Un.kept fun _ _ q=>q
theorem Un.laid(k:∀b u,h.get? b=some u->h'.get? b=some u)(hp:h.objs.size<=a)(hn:H a=none):Un fs ex H (upd H a o) h h' where
 keep:=fun b u q _ _ _=>k b u q
 slot:=fun b u q _ _ _=>⟨u.slots,k b u q⟩
 free:=fun b u q n _=>by rw[ai (tG (Zy (wF q) hp))];exact n
 there:=fun b u q _=>⟨u,k b u q⟩
 tups:=fun b xs q=>by rw[ai (aL q hn)];exact q
 frzs:=fun b u xs q=>by rw[ai (aL q hn)];exact q
 tbls:=fun b ps q=>⟨#[],by rw[ai (aL q hn),q];simp⟩
theorem Un.write(mu:Mut (H x))(he:e=x\/H e=some (.own x))(k:∀b u,b≠e->h.get? b=some u->h'.get? b=some u)(heo:∃u,h'.get? e=some u):Un fs ex H (upd H x o) h h':=by
 have hx:∀b,H b=none->b≠x:=fun b n z=>by subst z;rw[n]at mu;exact mu
 have hb:∀b,H b=none->b≠e:=fun b n z=>by
  subst z;rcases he with r|r
  ·exact hx b n r
  ·rw[n]at r;cases r
 have hm:∀b u,H b=some u -> ¬ Mut (some u)->b≠x:=fun b u q nm z=>by subst z;rw[q]at mu;exact nm mu
 refine⟨fun b u q n _ _=>k b u (hb b n) q,fun b u q n _ _=>⟨u.slots,k b u (hb b n) q⟩,fun b u q n _=>by rw[ai (hx b n)];exact n,fun b u q _=>?_,
  fun b xs q=>by rw[ai (hm b _ q fun z=>z)];exact q,fun b u xs q=>by rw[ai (hm b _ q fun z=>z)];exact q,fun b ps q=>⟨#[],by rw[ai (hm b _ q fun z=>z),q];simp⟩⟩
 by_cases hbe:b=e
 ·subst hbe;exact heo
 ·exact⟨u,k b u hbe q⟩
end
noncomputable def trk(h:Heap)(H:Hp):List Addr:=(Zw h.objs.size).filter fun a=>(H a).isSome
noncomputable def uj(h:Heap)(H:Hp):Heap:=PySem.W.hideAll h (trk h H)
theorem Ar(h:Heap)(H:Hp):(uj h H).objs.size=h.objs.size:=PySem.W.hideAll_size _ _
theorem BZ{h:Heap}(e:h.get? b=some o)(n:H b=none):(uj h H).get? b=some o:=
 PySem.W.hideAll_get _ e fun hm=>by
  have q:(H b).isSome=true:=(Z9.mp hm).2;rw[n]at q;simp at q
theorem Ft{h:Heap}(e:(uj h H).get? b=some o):h.get? b=some o/\H b=none:=by
 have e':h.get? b=some o:=PySem.W.of_hideAll (trk h H) e;refine⟨e',?_⟩;cases q:H b with
 |none=>rfl
 |some x=>
  have hm:b∈trk h H:=Z9.mpr ⟨List.mem_range.mpr (wF e'),by simp[q]⟩;have z:(uj h H).get? b=none:=PySem.W.hideAll_none (trk h H) hm;rw[z]at e;cases e
noncomputable def FI(g h:Heap)(L:Addr):List (Addr × Obj):=(Zw h.objs.size).filterMap fun a=>if a=L\/(g.get? a).isSome=true then none else (h.get? a).map fun o=>(a,o)
noncomputable def rest(g h:Heap)(L d:Addr):List (Addr × Obj):=(FI g h L).filter fun p=>decide (p.1≠d)
structure Mod(K:W.Frag)(mg:Str->Option Value)(base:Heap):Prop where
 kin:K.In base
 glob:base.Ns ZL mg
 blt:∃mb,base.Ns builtinsNs mb/\∀x:Str,x ≠ "__name__" -> mb x=Zh x
 nolimit:base.NoLimit
structure Cx where
 prog:Program
 w:World
 K:W.Frag
 mg:Str->Option Value
 base:Heap
 A:Around
 N:List Str
 s₀:Shared
 H₀:Hp
 env:Env
 outer:List Env
 stack:List Env
 ex:List Addr
 fn:Str->Bool
 calm:Bool
 pn:List (Addr × Obj)
 xe:Value->Shared->Prop
noncomputable def frs(l:List Env):List Addr:=l.filterMap (·.frame)
noncomputable abbrev Cx.fs(X:Cx):List Addr:=frs X.outer
def Vis(sc:Scope)(x:Str):Prop:=sc.names.lookup x=some .local\/sc.names.lookup x=some .cell\/sc.names.lookup x=some .free
def Loc(sc:Scope)(x:Str):Prop:=sc.names.lookup x=some .local\/sc.names.lookup x=some .cell
def Mc(env:Env)(h:Heap)(m:Str->Option Value)(x:Str)(u:Value):Prop:=
 (env.kindOf x=some .local/\m x=some u)\/((env.kindOf x=some .cell\/env.kindOf x=some .free)/\∃c,env.cells.lookup x=some c/\h.IsCell c (some u))
structure Cx.Ok(X:Cx):Prop where
 mod:Mod X.K X.mg X.base
 kind:X.env.scope.kind = .function
 glob:X.env.globals=ZL
 blt:X.env.builtins=builtinsNs
 above:X.s₀.heap.objs.size<=X.env.locals
 inj:∀x y c,X.env.cells.lookup x=some c->X.env.cells.lookup y=some c->x=y
 has:∀x,(X.env.kindOf x=some .cell\/X.env.kindOf x=some .free)->∃c,X.env.cells.lookup x=some c
 cab:∀x c,X.fn x=true->X.env.cells.lookup x=some c->X.s₀.heap.objs.size<=c
 hd:X.calm=true->X.A.handled=none
 frames:X.A.frames=some X.stack
 stk:X.stack=X.outer\/(X.stack=X.env::X.outer/\X.env.frame=some X.env.locals)
 exf:∀b∈X.ex,b≠X.env.locals/\∀x c,X.env.cells.lookup x=some c->c≠b
 bs:∀b o,X.base.get? b=some o->X.s₀.heap.get? b=some o/\X.H₀ b=none
 bsz:X.base.objs.size<=X.s₀.heap.objs.size
 noex:∀b o,X.base.get? b=some o->b∉X.ex
 exfs:∀b∈X.ex,b∉X.fs
 funs:X.s₀.heap.FunFrames X.base X.outer
 frf:∀b∈X.fs,X.H₀ b=none
structure Inv(X:Cx)(pins:List (Addr × Obj))(σ:List (Option V))(H:Hp)(s:Shared):Prop where
 ok:X.Ok
 os:s.os=X.s₀.os
 bare:AllBare s.gens
 base:Un X.fs X.ex X.H₀ H X.s₀.heap s.heap
 loc:∃m,s.heap.Ns X.env.locals m/\∀(i:Nat) (x:Str) (v:V),X.N[i]? = some x->σ[i]? = some (some v)->Vis X.env.scope x->∃u,RelV v u/\Mc X.env s.heap m x u
 cell:∀x c,X.env.cells.lookup x=some c->∃v,s.heap.IsCell c v
 free:H X.env.locals=none
 freeC:∀x c,X.env.cells.lookup x=some c->H c=none
 pin:∀p∈X.pn++pins,s.heap.get? p.1=some p.2/\H p.1=none/\p.1≠X.env.locals/\p.1∉X.fs/\∀v,p.2.data ≠ .cell v
 hok:HOk X.prog X.w H s.heap
 len:σ.length=X.N.length
section
variable{X:Cx}{pins:List (Addr × Obj)}{σ:List (Option V)}{H H':Hp}{s:Shared}{h':Heap}
theorem Cx.Ok.nofr(ok:X.Ok)(e:X.base.get? b=some o):b∉X.fs:=fun hb=>by
 have:=(ok.funs.mem hb).1;rw[e]at this;cases this
theorem Inv.bs(I:Inv X pins σ H s):∀b o,X.base.get? b=some o->s.heap.get? b=some o/\H b=none:=fun b o e=>
 ⟨I.base.keep b o (I.ok.bs b o e).1 (I.ok.bs b o e).2 (I.ok.nofr e) (I.ok.noex b o e),I.base.free b o (I.ok.bs b o e).1 (I.ok.bs b o e).2 (I.ok.noex b o e)⟩
theorem Inv.bk(I:Inv X pins σ H s):∀b o,X.base.get? b=some o->s.heap.get? b=some o:=fun b o e=>(I.bs b o e).1
theorem Inv.mod(I:Inv X pins σ H s):Mod X.K X.mg X.base:=I.ok.mod
theorem Inv.kIn(I:Inv X pins σ H s):X.K.In s.heap:=I.ok.mod.kin.keeps I.bk
theorem Inv.lt(I:Inv X pins σ H s):X.env.locals<s.heap.objs.size:=let ⟨_,hn,_⟩:=I.loc;hn.lt
theorem Inv.sz(I:Inv X pins σ H s):X.s₀.heap.objs.size<=s.heap.objs.size:=Zt I.ok.above (Yu I.lt)
theorem Inv.nofs(I:Inv X pins σ H s)(h:s.heap.objs.size<=a):a∉X.fs:=fun hb=>by
 obtain⟨_,o,ho,_⟩:=I.ok.funs.mem hb;exact absurd (Zy (wF ho) (Zt I.sz h)) (ZJ _)
theorem Inv.cne(I:Inv X pins σ H s):∀x c,X.env.cells.lookup x=some c->c≠X.env.locals:=fun x c e z=>by
 obtain⟨v,o,ho,hd⟩:=I.cell x c e;obtain⟨m,⟨o',es,ep,ho',hd',_⟩,_⟩:=I.loc;rw[z,ho']at ho;cases ho;rw[hd']at hd;cases hd
theorem Inv.funs(I:Inv X pins σ H s):s.heap.FunFrames X.base X.outer:=by
 have all:∀(l:List Env),(∀b∈frs l,b∈X.fs)->X.s₀.heap.FunFrames X.base l->s.heap.FunFrames X.base l:=by
  intro l
  induction l with
  |nil=>intro _ _;trivial
  |cons env r ih=>
   intro hs hl;obtain⟨hk,⟨L,o,hf,hn,ho,hd⟩,hr⟩:=hl;have hL:L∈X.fs:=hs L (by unfold frs;rw[List.filterMap_cons,hf];exact Yw);obtain⟨sl,e⟩:=I.base.slot L o ho (I.ok.frf L hL) hL fun z=>I.ok.exfs L z hL;exact⟨hk,⟨L,_,hf,hn,e,hd⟩,ih (fun b hb=>hs b (by unfold frs;rw[List.filterMap_cons,hf];exact sU _ hb)) hr⟩
 exact all X.outer (fun _ hb=>hb) I.ok.funs
theorem Inv.stack(I:Inv X pins σ H s):s.heap.FunFrames X.base X.stack:=by
 rcases I.ok.stk with e|⟨e,hf⟩
 ·rw[e];exact I.funs
 ·rw[e]
  obtain⟨m,hn,_⟩:=I.loc;refine .cons (by rw[I.ok.kind];decide) hf hn ?_ I.funs;exact Heap.get?_none_of_le (Zt I.ok.bsz I.ok.above)
theorem Inv.stkSub(I:Inv X pins σ H s):∀b∈frs X.stack,b∈X.env.locals::X.fs:=fun b hb=>by
 rcases I.ok.stk with e|⟨e,hf⟩
 ·rw[e]at hb;exact sU _ hb
 ·rw[e]at hb
  unfold frs at hb;rw[List.filterMap_cons,hf]at hb;exact hb
theorem Inv.stkFree(I:Inv X pins σ H s):∀b∈frs X.stack,H b=none:=fun b hb=>by
 rcases zO.mp (I.stkSub b hb) with e|hb
 ·rw[e];exact I.free
 ·obtain⟨_,o,ho,_⟩:=I.ok.funs.mem hb
  exact I.base.free b o ho (I.ok.frf b hb) fun z=>I.ok.exfs b z hb
theorem Inv.step{g':Array GenState}{t':Nat}{d':Drawn}{ch:List Addr}(I:Inv X pins σ H s)
 (hch:∀b∈ch,(b∈X.ex\/X.s₀.heap.objs.size<=b)/\b≠X.env.locals/\(∀x c,X.env.cells.lookup x=some c->c≠b)/\∀p∈X.pn++pins,p.1≠b)
 (keep:∀b o,b≠X.env.locals->b∉X.fs->b∉ch->s.heap.get? b=some o->H b=none->h'.get? b=some o)
 (slot:∀b o,b≠X.env.locals->b∈X.fs->b∉ch->s.heap.get? b=some o->H b=none->∃sl,h'.get? b=some { o with slots:=sl }) (free:∀b o,b∉ch->s.heap.get? b=some o->H b=none->H' b=none)
 (there:∀b o,b∉ch->s.heap.get? b=some o->∃o',h'.get? b=some o')
 (tups:∀b xs,H b=some (.tup xs)->H' b=some (.tup xs)) (frzs:∀b o u,H b=some (.frz o u)->H' b=some (.frz o u)) (tbls:∀b ps,H b=some (.tbl ps)->∃more,H' b=some (.tbl (ps++more)))
 (ns:∀m,s.heap.Ns X.env.locals m->h'.Ns X.env.locals m) (hok:HOk X.prog X.w H' h') (hg:AllBare g') :
 Inv X pins σ H' { s with heap:=h',gens:=g',drawn:=d',toks:=t' }:=by
 have neL:∀b o,X.s₀.heap.get? b=some o->b≠X.env.locals:=fun b o e=>tG (Zy (wF e) I.ok.above);have neC:∀b o,X.s₀.heap.get? b=some o->b∉X.ex->b∉ch:=fun b o e hx hb=>by
  rcases(hch b hb).1 with z|z
  ·exact hx z
  ·exact absurd (Zy (wF e) z) (ZJ _)
 have cellK:∀x c,X.env.cells.lookup x=some c->∀v,s.heap.IsCell c v->h'.IsCell c v:=fun x c e v hq_=>by
  obtain⟨o,ho,hd⟩:=hq_;have nch:c∉ch:=fun z=>(hch c z).2.2.1 x c e rfl;by_cases hc:c∈X.fs
  ·obtain⟨sl,q⟩:=slot c o (I.cne x c e) hc nch ho (I.freeC x c e)
   exact⟨_,q,hd⟩
  ·exact⟨o,keep c o (I.cne x c e) hc nch ho (I.freeC x c e),hd⟩
 refine⟨I.ok,I.os,hg,⟨fun b o e n hb hx=>?_,fun b o e n hb hx=>?_,fun b o e n hx=>?_,fun b o e hx=>?_,fun b xs e=>tups b xs (I.base.tups b xs e),fun b o xs e=>frzs b o xs (I.base.frzs b o xs e),fun b ps e=>?_⟩,?_,fun x c e=>?_,?_,fun x c e=>?_,fun p hp=>?_,hok,I.len⟩
 ·exact keep b o (neL b o e) hb (neC b o e hx) (I.base.keep b o e n hb hx) (I.base.free b o e n hx)
 ·obtain⟨sl,e1⟩:=I.base.slot b o e n hb hx
  obtain⟨sl',e2⟩:=slot b _ (neL b o e) hb (neC b o e hx) e1 (I.base.free b o e n hx);exact⟨sl',e2⟩
 ·obtain⟨o',e1⟩:=I.base.there b o e hx
  exact free b o' (neC b o e hx) e1 (I.base.free b o e n hx)
 ·obtain⟨o',e1⟩:=I.base.there b o e hx
  exact there b o' (neC b o e hx) e1
 ·obtain⟨m1,e1⟩:=I.base.tbls b ps e
  obtain⟨m2,e2⟩:=tbls b _ e1;exact⟨m1++m2,by rw[e2,Array.append_assoc]⟩
 ·obtain⟨m,hn,hl⟩:=I.loc
  refine⟨m,ns m hn,fun i x v e1 e2 e3=>?_⟩;obtain⟨u,r,l⟩:=hl i x v e1 e2 e3;refine⟨u,r,?_⟩;rcases l with l|⟨k,c,e,z⟩
  ·exact .inl l
  ·exact .inr ⟨k,c,e,cellK x c e _ z⟩
 ·obtain⟨v,z⟩:=I.cell x c e
  exact⟨v,cellK x c e v z⟩
 ·obtain⟨m,⟨o,_,_,ho,_⟩,_⟩:=I.loc
  exact free _ o (fun z=>(hch _ z).2.1 rfl) ho I.free
 ·obtain⟨v,o,ho,hd⟩:=I.cell x c e
  exact free c o (fun z=>(hch c z).2.2.1 x c e rfl) ho (I.freeC x c e)
 ·obtain⟨e,n,ne,nf,d⟩:=I.pin p hp
  have nch:p.1∉ch:=fun z=>(hch p.1 z).2.2.2 p hp rfl;exact⟨keep p.1 p.2 ne nf nch e n,free p.1 p.2 nch e n,ne,nf,d⟩
theorem Inv.un{t':Nat}(I:Inv X pins σ H s)(u:Un X.fs [] H H' s.heap h')(hok:HOk X.prog X.w H' h'):Inv X pins σ H' { s with heap:=h',toks:=t' }:=by
 obtain⟨m,⟨o,es,ep,ho,r⟩,_⟩:=id I.loc;obtain⟨sl,hL⟩:=u.any ho I.free (by simp);exact I.step (g':=s.gens) (d':=s.drawn) (ch:=[]) (fun _ z=>nomatch z) (fun b o _ hb _ e n=>u.keep b o e n hb (by simp)) (fun b o _ hb _ e n=>u.slot b o e n hb (by simp)) (fun b o _ e n=>u.free b o e n (by simp)) (fun b o _ e=>u.there b o e (by simp)) u.tups u.frzs u.tbls (fun m' hm=>by
  obtain⟨o',es',ep',ho',r'⟩:=hm;rw[ho]at ho';cases ho';exact⟨_,es',ep',hL,r'⟩) hok I.bare
theorem Inv.call{g':Array GenState}{t':Nat}{d':Drawn}{ch:List Addr}(I:Inv X pins σ H s)(u:Un (frs X.stack) ch H H' s.heap h')(hok:HOk X.prog X.w H' h')(hg:AllBare g')
 (hch:∀b∈ch,(b∈X.ex\/X.s₀.heap.objs.size<=b)/\b≠X.env.locals/\(∀x c,X.env.cells.lookup x=some c->c≠b)/\∀p∈X.pn++pins,p.1≠b) :
 Inv X pins σ H' { s with heap:=h',gens:=g',drawn:=d',toks:=t' }:=by
 obtain⟨m,⟨o,es,ep,ho,r⟩,_⟩:=id I.loc;obtain⟨sl,hL⟩:=u.any ho I.free fun z=>(hch _ z).2.1 rfl;exact I.step (ch:=ch) hch (fun b o hL hb hc e n=>u.keep b o e n (fun z=>(zO.mp (I.stkSub b z)).elim hL hb) hc) (fun b o _ _ hc e n=>u.any e n hc) (fun b o hc e n=>u.free b o e n hc) (fun b o hc e=>u.there b o e hc) u.tups u.frzs u.tbls (fun m' hm=>by
  obtain⟨o',es',ep',ho',r'⟩:=hm;rw[ho]at ho';cases ho';exact⟨_,es',ep',hL,r'⟩) hok hg
theorem Inv.turned{t':Nat}{it:Addr}(I:Inv X pins σ H s)(k:∀b o,b≠it->s.heap.get? b=some o->h'.get? b=some o)(hn:H it=none)(hL:it≠X.env.locals)
 (h1:it∈X.ex\/X.s₀.heap.objs.size<=it) (h2:∀x c,X.env.cells.lookup x=some c->c≠it) (h3:∀p∈X.pn++pins,p.1≠it):Inv X pins σ H { s with heap:=h',toks:=t' }:=by
 have nit:∀b u,H b=some u->b≠it:=fun b u e z=>by rw[z,hn]at e;cases e
 refine I.step (g':=s.gens) (d':=s.drawn) (ch:=[it]) (fun b hb=>?_) (fun b o _ _ hc e _=>k b o (fun z=>hc (by simp[z])) e) (fun b o _ _ hc e _=>⟨o.slots,k b o (fun z=>hc (by simp[z])) e⟩) (fun _ _ _ _ n=>n)
  (fun b o hc e=>⟨o,k b o (fun z=>hc (by simp[z])) e⟩) (fun _ _ e=>e) (fun _ _ _ e=>e) (fun b ps e=>⟨#[],by rw[e];simp⟩) (fun m hm=>?_) (fun b u e=>?_) I.bare
 ·have e:b=it:=by simpa using hb
  subst e;exact⟨h1,hL,h2,h3⟩
 ·obtain⟨o,es,ep,ho,r⟩:=hm
  exact⟨o,es,ep,k _ o (Ne.symm hL) ho,r⟩
 ·refine(I.hok b u e).stay (fun c v hc q=>k c v ?_ q) (fun _ q=>q) fun _ _ q=>q
  rcases hc with z|z
  ·rw[z];exact nit b u e
  ·exact nit c _ z
theorem Inv.tok(I:Inv X pins σ H s)(t:Nat):Inv X pins σ H { s with toks:=t }:=I.un (h':=s.heap) (t':=t) Un.refl I.hok
theorem Inv.kept{t':Nat}(I:Inv X pins σ H s)(k:∀b u,s.heap.get? b=some u->h'.get? b=some u):Inv X pins σ H { s with heap:=h',toks:=t' }:=I.un (Un.kept k) (I.hok.kept k)
theorem Inv.laid{a:Addr}{o:HO}{t':Nat}(I:Inv X pins σ H s)(k:∀b u,s.heap.get? b=some u->h'.get? b=some u)(hp:s.heap.objs.size<=a)(new:ObjOk X.prog X.w (upd H a o) h' a o) :
 Inv X pins σ (upd H a o) { s with heap:=h',toks:=t' }:=I.un (Un.laid k hp (I.hok.fresh hp)) (I.hok.laid k hp new)
theorem Inv.write(I:Inv X pins σ H s)(mu:Mut (H x))(he:e=x\/H e=some (.own x))(k:∀b u,b≠e->s.heap.get? b=some u->h'.get? b=some u)(heo:∃u,h'.get? e=some u)
 (new:ObjOk X.prog X.w (upd H x o) h' x o):Inv X pins σ (upd H x o) { s with heap:=h',toks:=t' }:=I.un (Un.write mu he k heo) (I.hok.write mu he k heo new)
theorem Inv.pins_of(I:Inv X pins σ H s)(h:∀p∈pins',s.heap.get? p.1=some p.2/\H p.1=none/\p.1≠X.env.locals/\p.1∉X.fs/\∀v,p.2.data ≠ .cell v):Inv X pins' σ H s:=
 ⟨I.ok,I.os,I.bare,I.base,I.loc,I.cell,I.free,I.freeC,fun p hp=>(tT.mp hp).elim (fun z=>I.pin p (tW _ z)) (h p),I.hok,I.len⟩
theorem pe{N:List Str}(hN:N.Nodup){i j:Nat}{x:Str}(a:N[i]? = some x)(b:N[j]? = some x):i=j:=by
 obtain⟨h1,e1⟩:=List.getElem?_eq_some_iff.mp a;obtain⟨h2,e2⟩:=List.getElem?_eq_some_iff.mp b;exact(List.getElem_inj hN).mp (e1.trans e2.symm)
theorem q_{M:Model}{A:Around}{E:Value->Shared->Prop}{i:Nat}{x:Str}{v:V}{u:Value}{Q:Unit->Shared->Prop}(I:Inv X pins σ H s)(hN:X.N.Nodup)(hi:X.N[i]? = some x)(hx:Loc X.env.scope x)(r:RelV v u)
 (h:∀s',Inv X pins (σ.set i (some v)) H s'->(∃a,Heap.SameBut a s.heap s'.heap/\(a=X.env.locals\/X.env.cells.lookup x=some a))->Q () s') (hf:X.fn x=true\/X.env.scope.names.lookup x=some .local:=by first|exact .inl rfl|exact .inr rfl|assumption):wpAny M A (storeName X.env x u) Q E s:=by
 obtain⟨m,hn,hl⟩:=id I.loc;have hcls:(X.env.scope.kind == .class || (X.env.scope.kind == .module&&X.env.locals != X.env.globals))=false:=by rw[I.ok.kind];rfl
 have hiσ:i<σ.length:=by rw[I.len];exact(List.getElem?_eq_some_iff.mp hi).1
 have cne:=I.cne;have tracked:∀ {a:Addr} {h':Heap},(∃o,s.heap.get? a=some o/\H a=none)->Heap.SameBut a s.heap h'->HOk X.prog X.w H h':=fun {a h'} ha hs b ob e=>by
  obtain⟨_,_,hfree⟩:=ha;refine(I.hok b ob e).stay (fun c w' hc q=>(hs.2 c ?_).trans q) (fun _ q=>q) fun _ _ q=>q;rintro rfl;rcases hc with rfl|hc
  ·rw[hfree]at e;cases e
  ·rw[hfree]at hc;cases hc
 rcases hx with hk|hk
 ·refine wpAny_storeName_local hk hn (fun h' hn' hs=>?_) hcls
  obtain⟨oL,_,_,hoL,_⟩:=id hn;refine h _ ⟨I.ok,I.os,I.bare,⟨fun b o e n hb hx=>?_,fun b o e n hb hx=>?_,I.base.free,fun b o e hx=>?_,I.base.tups,I.base.frzs,I.base.tbls⟩,⟨_,hn',fun j y v' e1 e2 e3=>?_⟩,fun y c e=>?_,I.free,I.freeC,fun p hp=>?_,tracked ⟨oL,hoL,I.free⟩ hs,by simpa using I.len⟩ ⟨_,hs,.inl rfl⟩
  ·exact(hs.2 b (tG (Zy (wF e) I.ok.above))).trans (I.base.keep b o e n hb hx)
  ·obtain⟨sl,e1⟩:=I.base.slot b o e n hb hx
   exact⟨sl,(hs.2 b (tG (Zy (wF e) I.ok.above))).trans e1⟩
  ·obtain⟨o',e1⟩:=I.base.there b o e hx
   exact⟨o',(hs.2 b (tG (Zy (wF e) I.ok.above))).trans e1⟩
  ·by_cases hj:j=i
   ·subst hj
    rw[hi]at e1;cases e1;rw[List.getElem?_set_self hiσ]at e2;cases e2;exact⟨u,r,.inl ⟨hk,by simp⟩⟩
   ·rw[List.getElem?_set_ne (Ne.symm hj)]at e2
    obtain⟨u',r',q⟩:=hl j y v' e1 e2 e3;refine⟨u',r',?_⟩;rcases q with ⟨k,e⟩|⟨k,c,e,z⟩
    ·refine .inl ⟨k,?_⟩
     have:y≠x:=fun e=>hj (pe hN e1 (e ▸ hi));simp[this,e]
    ·exact .inr ⟨k,c,e,z.sameBut hs (cne y c e)⟩
  ·obtain⟨w',z⟩:=I.cell y c e
   exact⟨w',z.sameBut hs (cne y c e)⟩
  ·obtain⟨e,n,ne,nf,d⟩:=I.pin p hp
   exact⟨(hs.2 p.1 ne).trans e,n,ne,nf,d⟩
 ·have hfn:X.fn x=true:=by
   rcases hf with z|z
   ·exact z
   ·rw[z]at hk;cases hk
  obtain⟨c,hc⟩:=I.ok.has x (.inl hk);obtain⟨w',z⟩:=I.cell x c hc;refine wpAny_storeName_cell I.ok.kind hk hc z (fun h' hc' hs=>?_);obtain⟨oc,hoc,hocd⟩:=id z;refine h { s with heap:=h' } ⟨I.ok,I.os,I.bare,⟨fun b o e n hb hx=>?_,fun b o e n hb hx=>?_,I.base.free,fun b o e hx=>?_,I.base.tups,I.base.frzs,I.base.tbls⟩,⟨m,hn.sameBut hs (Ne.symm (cne x c hc)),fun j y v' e1 e2 e3=>?_⟩,fun y c' e=>?_,I.free,I.freeC,fun p hp=>?_,tracked ⟨oc,hoc,I.freeC x c hc⟩ hs,by simpa using I.len⟩ ⟨c,hs,.inr hc⟩
  ·exact(hs.2 b (tG (Zy (wF e) (I.ok.cab x c hfn hc)))).trans (I.base.keep b o e n hb hx)
  ·obtain⟨sl,e1⟩:=I.base.slot b o e n hb hx
   exact⟨sl,(hs.2 b (tG (Zy (wF e) (I.ok.cab x c hfn hc)))).trans e1⟩
  ·obtain⟨o',e1⟩:=I.base.there b o e hx
   exact⟨o',(hs.2 b (tG (Zy (wF e) (I.ok.cab x c hfn hc)))).trans e1⟩
  ·by_cases hj:j=i
   ·subst hj
    rw[hi]at e1;cases e1;rw[List.getElem?_set_self hiσ]at e2;cases e2;exact⟨u,r,.inr ⟨.inl hk,c,hc,hc'⟩⟩
   ·rw[List.getElem?_set_ne (Ne.symm hj)]at e2
    obtain⟨u',r',q⟩:=hl j y v' e1 e2 e3;refine⟨u',r',?_⟩;rcases q with q|⟨k,c',e,z'⟩
    ·exact .inl q
    ·refine .inr ⟨k,c',e,z'.sameBut hs ?_⟩
     rintro rfl;exact hj (pe hN e1 (I.ok.inj _ _ _ e hc ▸ hi))
  ·by_cases hcc:c'=c
   ·subst hcc;exact⟨_,hc'⟩
   ·obtain⟨w2,z2⟩:=I.cell y c' e
    exact⟨w2,z2.sameBut hs hcc⟩
  ·obtain⟨e,n,ne,nf,d⟩:=I.pin p hp
   refine⟨(hs.2 p.1 ?_).trans e,n,ne,nf,d⟩;intro q;rw[q,hoc]at e;have q':oc=p.2:=Zp e;exact d w' (by rw[<- q'];exact hocd)
theorem oC{M:Model}{A:Around}{E:Value->Shared->Prop}{i:Nat}{x:Str}{v:V}{u:Value}{Q:Unit->Shared->Prop}(I:Inv X pins σ H s)(hN:X.N.Nodup)(hi:X.N[i]? = some x)(hx:Loc X.env.scope x)(r:RelV v u)
 (h:∀s',Inv X pins (σ.set i (some v)) H s'->Q () s') (hf:X.fn x=true\/X.env.scope.names.lookup x=some .local:=by first|exact .inl rfl|exact .inr rfl|assumption):wpAny M A (storeName X.env x u) Q E s:=
 q_ I hN hi hx r (fun s' I' _=>h s' I') hf
theorem Inv.call'{s':Shared}(I:Inv X pins σ H s)(ho:s'.os=s.os)(u:Un (frs X.stack) ch H H' s.heap s'.heap)(hok:HOk X.prog X.w H' s'.heap)(hg:AllBare s'.gens)
 (hch:∀b∈ch,(b∈X.ex\/X.s₀.heap.objs.size<=b)/\b≠X.env.locals/\(∀x c,X.env.cells.lookup x=some c->c≠b)/\∀p∈X.pn++pins,p.1≠b):Inv X pins σ H' s':=by
 obtain⟨h',g',d',t',o'⟩:=s';have e:o'=s.os:=ho;subst e;exact I.call (g':=g') (t':=t') (d':=d') u hok hg hch
end
abbrev XK:=Value->Option Addr->Hp->Prop
abbrev St:=List (Option V)
abbrev VK:=V->Hp->Prop
abbrev TE:=St->Hp->VK->Prop
abbrev TT:=St->Hp->(Bool->Hp->Prop)->Prop
abbrev TA:=St->Hp->(List V->Hp->Prop)->Prop
structure iu where
 nx:St->Hp->Prop
 rt:VK
 bk:St->Hp->Prop:=fun _ _=>False
 ct:St->Hp->Prop:=fun _ _=>False
abbrev TS:=iu->St->Hp->Prop
def EP(X:Cx)(pins:List (Addr × Obj))(σ:St)(Q:VK)(u:Value)(s':Shared):Prop:=∃v H',Inv X pins σ H' s'/\RelV v u/\Q v H'
def TP(X:Cx)(pins:List (Addr × Obj))(σ:St)(Q:Bool->Hp->Prop)(b:Bool)(s':Shared):Prop:=∃H',Inv X pins σ H' s'/\Q b H'
def AP(X:Cx)(pins:List (Addr × Obj))(σ:St)(Q:List V->Hp->Prop)(us:List Value)(s':Shared):Prop:=∃vs H',Inv X pins σ H' s'/\Vals vs us/\Q vs H'
def SP(X:Cx)(pins:List (Addr × Obj))(D:iu)(f:Flow)(s':Shared):Prop:=
 match f with
 | .next=>∃σ' H',Inv X pins σ' H' s'/\D.nx σ' H'
 | .brk=>∃σ' H',Inv X pins σ' H' s'/\D.bk σ' H'
 | .cont=>∃σ' H',Inv X pins σ' H' s'/\D.ct σ' H'
 | .ret u=>∃v σ' H',Inv X pins σ' H' s'/\RelV v u/\D.rt v H'
def PE(X:Cx)(e:Expr)(t:TE):Prop:=
 ∀(pins:List (Addr × Obj)) (s:Shared) (σ:St) (H:Hp) (Q:VK),Inv X pins σ H s->t σ H Q->wpAny (model X.prog X.w) X.A (eval e X.env) (EP X pins σ Q) X.xe s
def PT(X:Cx)(e:Expr)(t:TT):Prop:=
 ∀(pins:List (Addr × Obj)) (s:Shared) (σ:St) (H:Hp) (Q:Bool->Hp->Prop),Inv X pins σ H s->t σ H Q->wpAny (model X.prog X.w) X.A (isTrue e X.env (eval e X.env)) (TP X pins σ Q) X.xe s
def PW(X:Cx)(e:Expr)(t:TT):Prop:=
 ∀(whole:Sem Value) (pins:List (Addr × Obj)) (s:Shared) (σ:St) (H:Hp) (Q:Bool->Hp->Prop),Inv X pins σ H s->t σ H Q->wpAny (model X.prog X.w) X.A (isTrue e X.env whole) (TP X pins σ Q) X.xe s
theorem PW.pt{X:Cx}{e:Expr}{t:TT}(h:PW X e t):PT X e t:=h _
def PA(X:Cx)(es:List Expr)(t:TA):Prop:=
 ∀(pos:Pos) (pins:List (Addr × Obj)) (s:Shared) (σ:St) (H:Hp) (Q:List V->Hp->Prop),Inv X pins σ H s->t σ H Q->wpAny (model X.prog X.w) X.A (spliced (backTo pos (starEach es X.env))) (AP X pins σ Q) X.xe s
def PS(X:Cx)(st:Stmt)(t:TS):Prop:=
 ∀(pins:List (Addr × Obj)) (s:Shared) (σ:St) (H:Hp) (D:iu),Inv X pins σ H s->t D σ H->wpAny (model X.prog X.w) X.A (exec st X.env) (SP X pins D) X.xe s
def PSs(X:Cx)(st:List Stmt)(t:TS):Prop:=
 ∀(pins:List (Addr × Obj)) (s:Shared) (σ:St) (H:Hp) (D:iu),Inv X pins σ H s->t D σ H->wpAny (model X.prog X.w) X.A (execs st X.env) (SP X pins D) X.xe s
theorem thn{α:Type}{t:Sem α}{Q Q':α->Shared->Prop}{M:Model}{A:Around}{E:Value->Shared->Prop}{s:Shared}(h:wpAny M A t Q E s)(hQ:∀a s,Q a s->Q' a s):wpAny M A t Q' E s:=Zs h hQ fun _ _ x=>x
section
variable{X:Cx}
def Mh(i:Nat):TE:=fun σ H Q=>∃v,σ[i]? = some (some v)/\Q v H
def tC(v:V):TE:=fun _ H Q=>Q v H
theorem IA(hN:X.N[i]? = some x)(hv:Vis X.env.scope x)(hd:(x==("__debug__":Str))=false:=by decide)(hcd:(x==("__classdict__":Str))=false:=by decide):PE X (.Name x pos) (Mh i):=by
 intro pins s σ H Q I h;obtain⟨v,e,h⟩:=h;obtain⟨m,hn,hl⟩:=I.loc;obtain⟨u,r,l⟩:=hl i x v hN e hv;have fin:EP X pins σ Q u s:=⟨v,H,I,r,h⟩;rcases l with ⟨hk,hm⟩|⟨hk,c,hc,hcell⟩
 ·exact wpAny_Name (wpAny_loadName_local I.ok.kind hk hn hm fin) hd
 ·rcases hk with hk|hk
  ·exact wpAny_Name (wpAny_loadName_cell I.ok.kind hk hc hcell fin) hd
  ·exact wpAny_Name (wpAny_loadName_free I.ok.kind hk hc hcell fin hcd) hd
theorem aa{i j pos}:PE X (.Constant (.int i) j pos) (tC (.int i)):=fun _ _ _ H _ I h=>wpAny_Constant_int ⟨.int i,H,I.tok _,⟨_,rfl⟩,h⟩
theorem eQ{b j pos}:PE X (.Constant (.bool b) j pos) (tC (.bl b)):=fun _ _ _ H _ I h=>Constant_bool ⟨.bl b,H,I,rfl,h⟩
theorem cY{j pos}:PE X (.Constant .none j pos) (tC .non):=fun _ _ _ H _ I h=>Constant_none ⟨.non,H,I,rfl,h⟩
theorem DI{x j pos}:PE X (.Constant (.str x) j pos) (tC (.str x)):=fun _ _ _ H _ I h=>Calls.Constant_str ⟨.str x,H,I.tok _,⟨_,rfl⟩,h⟩
def Gl(X:Cx)(x:Str):Prop:=X.env.kindOf x=some .globalImplicit
theorem gj{E:Value->Shared->Prop}{pins:List (Addr × Obj)}{s:Shared}{σ:St}{H:Hp}{x:Str}{u:Value}{pos:Pos}{Q:Value->Shared->Prop}(I:Inv X pins σ H s)(hg:Gl X x)(hm:X.mg x=some u)(h:Q u s)
 (hd:(x==("__debug__":Str))=false:=by decide):wpAny (model X.prog X.w) X.A (eval (.Name x pos) X.env) Q E s:=
 Calls.Name_function_global I.ok.kind hg (Calls.loadGlobal_global (by rw[I.ok.glob];exact I.mod.glob.keeps I.bk) hm h) hd
theorem oG{E:Value->Shared->Prop}{pins:List (Addr × Obj)}{s:Shared}{σ:St}{H:Hp}{x:Str}{u:Value}{pos:Pos}{Q:Value->Shared->Prop}(I:Inv X pins σ H s)(hg:Gl X x)(hm:X.mg x=none)(hv:Zh x=some u)(h:Q u s)
 (hn:x ≠ "__name__":=by decide) (hd:(x==("__debug__":Str))=false:=by decide):wpAny (model X.prog X.w) X.A (eval (.Name x pos) X.env) Q E s:=by
 obtain⟨mb,h1,h2⟩:=I.mod.blt;exact Calls.Name_function_global I.ok.kind hg (Calls.loadGlobal_builtin (by rw[I.ok.glob];exact I.mod.glob.keeps I.bk) hm (by rw[I.ok.blt];exact h1.keeps I.bk) ((h2 x hn).trans hv) h) hd
theorem jw(hg:Gl X x)(hm:X.mg x=some u)(r:RelV v u)(hd:(x==("__debug__":Str))=false:=by decide):PE X (.Name x pos) (tC v):=
 fun _ _ _ H _ I h=>gj I hg hm ⟨v,H,I,r,h⟩ hd
theorem cO(hg:Gl X x)(hm:X.mg x=none)(hv:Zh x=some u)(r:RelV v u)(hn:x ≠ "__name__":=by decide)(hd:(x==("__debug__":Str))=false:=by decide):PE X (.Name x pos) (tC v):=
 fun _ _ _ H _ I h=>oG I hg hm hv ⟨v,H,I,r,h⟩ hn hd
variable{a b:Expr}{ta tb:TE}{pos:Pos}
def PC(X:Cx)(op:CmpOp)(a b:Expr)(t:TE):Prop:=
 ∀(pins:List (Addr × Obj)) (s:Shared) (σ:St) (H:Hp) (Q:VK),Inv X pins σ H s->t σ H Q ->
  wpAny (model X.prog X.w) X.A (eval a X.env) (fun v s₁=>wpAny (model X.prog X.w) X.A (eval b X.env) (fun u s₂=>wpAny (model X.prog X.w) X.A (Zq op v u) (EP X pins σ Q) X.xe s₂) X.xe s₁) X.xe s
theorem wk(b:Expr){op:CmpOp}(h:op ≠ .In)(h2:op ≠ .NotIn):Yj op b=false:=by
 have e1:(op==CmpOp.In)=false:=by cases op <;> first|rfl|exact absurd rfl h
 have e2:(op==CmpOp.NotIn)=false:=by cases op <;> first|rfl|exact absurd rfl h2
 cases b <;> simp[Yj,e1,e2]
def Li(ta:TE):TE:=fun σ H Q=>ta σ H fun x H1=>Q (.bl (decide (x = .non))) H1
def GN(ta:TE):TE:=fun σ H Q=>ta σ H fun x H1=>Q (.bl (!decide (x = .non))) H1
theorem RelV.none_iff{x:V}{v:Value}(r:RelV x v):(v==Z2)=decide (x = .non):=by
 cases x with
 |non=>cases r;rfl
 |bl _=>cases r;rfl
 |int _=>obtain⟨t,rfl⟩:=r;rfl
 |str _=>obtain⟨t,rfl⟩:=r;rfl
 |byt _=>obtain⟨t,rfl⟩:=r;rfl
 |flt _=>obtain⟨t,rfl⟩:=r;rfl
 |ref _=>cases r;rfl
 |ty _=>cases r;rfl
theorem xy{j pos'}(ha:PE X a ta):PC X .Is a (.Constant .none j pos') (Li ta):=by
 intro pins s σ H Q I h;refine thn (ha pins s σ H _ I h) fun v s1 hq_=>?_;obtain⟨x,H1,I1,r1,q1⟩:=hq_;exact Constant_none (is_none_gen ⟨.bl _,H1,I1,by rw[r1.none_iff];rfl,q1⟩)
theorem dQ{j pos'}(ha:PE X a ta):PC X .IsNot a (.Constant .none j pos') (GN ta):=by
 intro pins s σ H Q I h;refine thn (ha pins s σ H _ I h) fun v s1 hq_=>?_;obtain⟨x,H1,I1,r1,q1⟩:=hq_;exact Constant_none (isnot_none_gen ⟨.bl _,H1,I1,by rw[r1.none_iff];rfl,q1⟩)
theorem wX(h:PC X op a b t)(h1:Yj op b=false:=by first|exact wk _ (by decide) (by decide)|rfl):PE X (.Compare a [op] [b] pos) t:=fun pins s σ H Q I hw=>wpAny_Compare1 (h pins s σ H Q I hw) h1
variable{tA tB':TT}{rest:List Expr}
def K4(t u:TT):TT:=fun σ H Q=>t σ H fun c H1=>if c=true then u σ H1 Q else Q false H1
def tOr(t u:TT):TT:=fun σ H Q=>t σ H fun c H1=>if c=true then Q true H1 else u σ H1 Q
def KO(t:TT):TT:=fun σ H Q=>t σ H fun c H1=>Q (!c) H1
theorem eM(ha:PT X a tA):PW X (.BoolOp .And [a] pos) tA:=by
 intro wh pins s σ H Q I h;refine isTrue_and (thn (ha pins s σ H Q I h) fun c s1 e=>?_);cases c with
 |true=>exact isTrue_and_nil e
 |false=>exact e
theorem d6(ha:PT X a tA):PW X (.BoolOp .Or [a] pos) tA:=by
 intro wh pins s σ H Q I h;refine isTrue_or (thn (ha pins s σ H Q I h) fun c s1 e=>?_);cases c with
 |false=>exact isTrue_or_nil e
 |true=>exact e
theorem gH(ha:PT X a tA)(hb:PW X (.BoolOp .And (b::rest) pos) tB'):PW X (.BoolOp .And (a::b::rest) pos) (K4 tA tB'):=by
 intro wh pins s σ H Q I h;refine isTrue_and (thn (ha pins s σ H _ I h) fun c s1 hq_=>?_);obtain⟨H1,I1,q1⟩:=hq_;cases c with
 |true=>exact hb wh pins s1 σ H1 Q I1 q1
 |false=>exact⟨H1,I1,q1⟩
theorem fE(ha:PT X a tA)(hb:PW X (.BoolOp .Or (b::rest) pos) tB'):PW X (.BoolOp .Or (a::b::rest) pos) (tOr tA tB'):=by
 intro wh pins s σ H Q I h;refine isTrue_or (thn (ha pins s σ H _ I h) fun c s1 hq_=>?_);obtain⟨H1,I1,q1⟩:=hq_;cases c with
 |true=>exact⟨H1,I1,q1⟩
 |false=>exact hb wh pins s1 σ H1 Q I1 q1
theorem bF(ha:PT X a tA):PT X (.UnaryOp .Not a pos) (KO tA):=by
 intro pins s σ H Q I h;exact isTrue_not (ha pins s σ H (fun c H1=>Q (!c) H1) I h)
theorem d7{op}(h:PE X a t):PE X (.BoolOp op [a] pos) t:=fun pins s σ H Q I hw=>BoolOp_one (h pins s σ H Q I hw)
def tIf(t:TT)(ta tb:TE):TE:=fun σ H Q=>t σ H fun c H1=>if c=true then ta σ H1 Q else tb σ H1 Q
theorem uI{c:Expr}(hc:PT X c tA)(ha:PE X a ta)(hb:PE X b tb):PE X (.IfExp c a b pos) (tIf tA ta tb):=by
 intro pins s σ H Q I h;refine wpAny_IfExp (thn (hc pins s σ H _ I h) fun d s1 hq_=>?_);obtain⟨H1,I1,q1⟩:=hq_;cases d with
 |true=>exact ha pins s1 σ H1 Q I1 q1
 |false=>exact hb pins s1 σ H1 Q I1 q1
end
def SqL(K:W.Frag)(H:Hp)(a:Addr)(xs:List V):Prop:=
 Rd H a (.lst xs) \/
  ∃(o:Obj) (its:Array Value) (n:Nat),K.lookup a=some o/\o.cls = .type "list" /\ o.dict=none/\o.data = .seq its n/\its.size<=sizeLine/\Vals xs its.toList
def SqT(K:W.Frag)(H:Hp)(a:Addr)(xs:List V):Prop:=
 Rd H a (.tup xs) \/
  ∃(o:Obj) (its:Array Value) (n:Nat),K.lookup a=some o/\o.cls = .type "tuple" /\ o.data = .seq its n/\its.size<=sizeLine/\Vals xs its.toList
noncomputable def LY:Value->Option V
 | .none=>some .non
 | .bool b=>some (.bl b)
 | .int i _=>some (.int i)
 | .str x _=>some (.str x)
 | .bytes b _=>some (.byt b)
 | .float b _=>some (.flt b)
 | .ref a=>some (.ref a)
 | .type n=>some (.ty n)
 |_=>none
theorem RelV.abs(r:RelV x u):LY u=some x:=by
 cases x with
 |non=>cases r;rfl
 |bl _=>cases r;rfl
 |int _=>obtain⟨t,rfl⟩:=r;rfl
 |str _=>obtain⟨t,rfl⟩:=r;rfl
 |byt _=>obtain⟨t,rfl⟩:=r;rfl
 |flt _=>obtain⟨t,rfl⟩:=r;rfl
 |ref _=>cases r;rfl
 |ty _=>cases r;rfl
theorem RelV.inj(r:RelV x u)(q:RelV y u):x=y:=Zp (r.abs.symm.trans q.abs)
theorem Vals.inj:∀ {xs ys:List V} {us:List Value},Vals xs us->Vals ys us->xs=ys
 |_,_,_,.nil,.nil=>rfl
 |_,_,_,.cons r t,.cons r' t'=>by rw[r.inj r',Vals.inj t t']
section
variable{X:Cx}{pins:List (Addr × Obj)}{σ:St}{H:Hp}{s:Shared}{a:Addr}{xs ys:List V}
theorem aA{K:W.Frag}(h:H a=some (.lst xs)):SqL K H a xs:=.inl (.inl h)
theorem bR{K:W.Frag}(h:H a=some (.tup xs)):SqT K H a xs:=.inl (.inl h)
theorem Inv.list(I:Inv X pins σ H s)(h:SqL X.K H a xs):∃its:List Value,Vals xs its/\PlainL s.heap a its.toArray/\xs.length<=sizeLine:=by
 rcases h with h|⟨o,its,n,hk,hc,hd,hs,hz,r⟩
 ·obtain⟨z,its,n,r,e⟩:=h.ok I.hok
  exact⟨its,r,⟨_,n,e,rfl,rfl,rfl⟩,z⟩
 ·refine⟨its.toList,r,⟨o,n,I.kIn a o hk,hc,hd,by simpa using hs⟩,?_⟩
  have e:=r.length;simp only[Z8]at e;lia
theorem Inv.tuple(I:Inv X pins σ H s)(h:SqT X.K H a xs):∃its:List Value,Vals xs its/\IsTup s.heap a its.toArray/\xs.length<=sizeLine:=by
 rcases h with h|⟨o,its,n,hk,hc,hs,hz,r⟩
 ·obtain⟨z,its,r,p⟩:=h.ok I.hok
  exact⟨its,r,p,z⟩
 ·refine⟨its.toList,r,⟨o,I.kIn a o hk,hc,n,by simpa using hs⟩,?_⟩
  have e:=r.length;simp only[Z8]at e;lia
theorem Inv.list_inj(I:Inv X pins σ H s)(h:SqL X.K H a xs)(h':SqL X.K H a ys):xs=ys:=by
 obtain⟨its,r,⟨o,n,e,_,_,d⟩,_⟩:=I.list h;obtain⟨its',r',⟨o',n',e',_,_,d'⟩,_⟩:=I.list h';rw[e]at e';cases e';rw[d]at d';injection d' with d1 _
 have:its=its':=by simpa using congrArg Array.toList d1
 subst this;exact r.inj r'
end
noncomputable abbrev Cx.wish(X:Cx)(E:Value->Shared->Prop):Cx:={ X with xe:=E }
noncomputable abbrev Cx.nox(X:Cx):Cx:=X.wish fun _ _=>False
section
variable{X:Cx}{st:Stmt}{rest:List Stmt}{t u:TS}{e:Expr}{te:TE}{pos:Pos}
def Gg:TS:=fun D σ H=>D.nx σ H
def Ju(t u:TS):TS:=fun D σ H=>t { D with nx:=u D } σ H
theorem aI:PSs X [] Gg:=fun _ _ σ H _ I h=>YE ⟨σ,H,I,h⟩
theorem ae(h1:PS X st t)(h2:PSs X rest u):PSs X (st::rest) (Ju t u):=by
 intro pins s σ H D I h;refine wpAny_execs_cons (thn (h1 pins s σ H { D with nx:=u D } I h) fun f s1 q=>?_);cases f with
 |next=>
  obtain⟨σ',H',I',q⟩:=q;exact h2 pins s1 σ' H' D I' q
 |ret v=>exact q
 |brk=>exact q
 |cont=>exact q
theorem ah(h1:PS X st t):PSs X [st] t:=by
 intro pins s σ H D I h;refine wpAny_execs_cons (thn (h1 pins s σ H D I h) fun f s1 q=>?_);cases f with
 |next=>exact YE q
 |ret v=>exact q
 |brk=>exact q
 |cont=>exact q
theorem Inv.quiet{pins:List (Addr × Obj)}{σ:St}{H:Hp}{s:Shared}(I:Inv X pins σ H s):interactive X.env=false:=by simp[interactive,I.ok.kind]
def GT(te:TE):TS:=fun D σ H=>te σ H fun _ H1=>D.nx σ H1
theorem bt(he:PE X e te)(hs:swapsWith e none pos.line X.env=pure false:=by rfl):PS X (.Expr e pos) (GT te):=by
 intro pins s σ H D I h;exact wpAny_Expr_any (thn (he pins s σ H _ I h) fun v s1 hq_=>(by obtain⟨x,H1,I1,r1,q1⟩:=hq_;exact⟨σ,H1,I1,q1⟩)) I.quiet hs
def KL(te:TE):TS:=fun D σ H=>te σ H D.rt
theorem aF(he:PE X e te):PS X (.Return (some e) pos) (KL te):=by
 intro pins s σ H D I h;exact wpAny_Return_some (thn (he pins s σ H _ I h) fun v s1 hq_=>(by obtain⟨x,H1,I1,r1,q1⟩:=hq_;exact⟨x,σ,H1,I1,r1,q1⟩))
def K9(c:TT)(t u:TS):TS:=fun D σ H=>c σ H fun b H1=>if b=true then t D σ H1 else u D σ H1
theorem ba{c:Expr}{a b:List Stmt}{tc:TT}(hc:PT X c tc)(ha:PSs X a t)(hb:PSs X b u):PS X (.If c a b pos) (K9 tc t u):=by
 intro pins s σ H D I h;refine wpAny_If (thn (hc pins s σ H _ I h) fun d s1 hq_=>?_);obtain⟨H1,I1,q1⟩:=hq_;cases d with
 |true=>exact ha pins s1 σ H1 D I1 q1
 |false=>exact hb pins s1 σ H1 D I1 q1
end
abbrev TG:=V->St->Hp->(St->Hp->Prop)->Prop
abbrev TGs:=List V->St->Hp->(St->Hp->Prop)->Prop
def PG(X:Cx)(target:Expr)(t:TG):Prop:=
 ∀(pins:List (Addr × Obj)) (s:Shared) (σ:St) (H:Hp) (v:V) (u:Value) (Q:St->Hp->Prop),Inv X pins σ H s->RelV v u->t v σ H Q ->
  wpAny (model X.prog X.w) X.A (assign target X.env u) (fun _ s'=>∃σ' H',Inv X pins σ' H' s'/\Q σ' H') X.xe s
def PGs(X:Cx)(ts:List Expr)(t:TGs):Prop:=
 ∀(pins:List (Addr × Obj)) (s:Shared) (σ:St) (H:Hp) (vs:List V) (us:List Value) (Q:St->Hp->Prop),Inv X pins σ H s->Vals vs us->t vs σ H Q ->
  wpAny (model X.prog X.w) X.A (assignInOrder ((YS ts X.env).map (·.2)) us) (fun _ s'=>∃σ' H',Inv X pins σ' H' s'/\Q σ' H') X.xe s
abbrev Hs:=V->V->V->Hp->(Hp->Prop)->Prop
def Ll(X:Cx)(t:Hs):Prop:=
 ∀(pins:List (Addr × Obj)) (s:Shared) (σ:St) (H:Hp) (o i v:V) (ov iv u:Value) (Q:Hp->Prop),Inv X pins σ H s->RelV o ov->RelV i iv->RelV v u->t o i v H Q ->
  wpAny (model X.prog X.w) X.A (setItem ov iv u) (fun _ s'=>∃H',Inv X pins σ H' s'/\Q H') X.xe s
section
variable{X:Cx}{pos:Pos}
def gZ(i:Nat):TG:=fun v σ H Q=>Q (σ.set i (some v)) H
theorem aK(hN:X.N.Nodup)(hi:X.N[i]? = some x)(hx:Loc X.env.scope x)(hf:X.fn x=true\/X.env.scope.names.lookup x=some .local:=by first|exact .inl rfl|exact .inr rfl|assumption):PG X (.Name x pos) (gZ i):=by
 intro pins s σ H v u Q I r h;exact wpAny_assign_Name (oC I hN hi hx r (fun s' I'=>⟨_,H,I',h⟩) hf)
def Kv:TGs:=fun vs σ H Q=>vs=[]/\Q σ H
def GH(t:TG)(u:TGs):TGs:=fun vs σ H Q=>∃v r,vs=v::r/\t v σ H fun σ' H'=>u r σ' H' Q
theorem eL:PGs X [] Kv:=by
 intro pins s σ H vs us Q I r h;obtain⟨e,h⟩:=h;subst e;cases r;exact assignInOrder_nil ⟨σ,H,I,h⟩
theorem a_{e:Expr}{es:List Expr}{t:TG}{u:TGs}(h1:PG X e t)(h2:PGs X es u)
 (hs:(YS (e::es) X.env).map (·.2)=assign e X.env::(YS es X.env).map (·.2):=by rfl):PGs X (e::es) (GH t u):=by
 intro pins s σ H vs us Q I r h;obtain⟨v,vr,e1,h⟩:=h;subst e1;cases r with
 |cons r rr=>
  rw[hs];refine assignInOrder_cons (thn (h1 pins s σ H _ _ _ I r h) fun _ s1 hq_=>?_);obtain⟨σ1,H1,I1,q1⟩:=hq_;exact h2 pins s1 σ1 H1 _ _ Q I1 rr q1
def Ji(K:W.Frag)(n:Nat)(t:TGs):TG:=fun v σ H Q=>∃a xs,v = .ref a/\SqT K H a xs/\xs.length=n/\t xs σ H Q
theorem II(hc:X.calm=true)(h:PGs X es t)
 (hn:(YS es X.env).length=n:=by rfl) (hst:(YS es X.env).findIdx? (·.1)=none:=by rfl):PG X (.Tuple es k pos) (Ji X.K n t):=by
 intro pins s σ H v u Q I r hw;obtain⟨a,xs,e1,hq,hl,hw⟩:=hw;subst e1;cases r;obtain⟨its,rv,ht,hz⟩:=I.tuple hq;refine assign_Tuple_tuple (I.ok.hd hc) ht (by simp[hn,<- hl,rv.length]) hst fun h' hx=>?_;have I1:Inv X pins σ H { s with heap:=h' }:=I.kept (t':=s.toks) fun b o e=>hx b o (tG (wF e)) e;exact h pins _ σ H xs _ Q I1 (by simpa using rv) hw
def Kb(to ti:TE)(t:Hs):TG:=fun v σ H Q=>to σ H fun o H1=>ti σ H1 fun i H2=>t o i v H2 fun H3=>Q σ H3
theorem xa{o i:Expr}{to ti:TE}{t:Hs}(ho:PE X o to)(hi:PE X i ti)(hs:Ll X t)
 (ha:∀v,assign (.Subscript o i pos) X.env v=(do
  let ov <- holding [v] (eval o X.env)
  let iv <- holding [v,ov] (eval i X.env)
  standAt pos
  holding [v,ov,iv] (setItem ov iv v)
  release [v,ov,iv] []):=by intro _;rfl):PG X (.Subscript o i pos) (Kb to ti t):=by
 intro pins s σ H v u Q I r h;rw[ha];refine zZ (ZK (thn (ho pins s σ H _ I h) fun ov s1 hq_=>?_));obtain⟨x,H1,I1,r1,q1⟩:=hq_;refine zZ (ZK (thn (hi pins s1 σ H1 _ I1 q1) fun iv s2 hq_=>?_));obtain⟨y,H2,I2,r2,q2⟩:=hq_;refine zZ (YC (zZ (ZK (thn (hs pins s2 σ H2 x y v ov iv u _ I2 r1 r2 r q2) fun _ s3 hq_=>?_))));obtain⟨H3,I3,q3⟩:=hq_;exact wpAny_release ⟨σ,H3,I3,q3⟩
def z5(te:TE)(g:TG):TS:=fun D σ H=>te σ H fun x H1=>g x σ H1 D.nx
theorem mJ{tg e:Expr}{te:TE}{g:TG}(he:PE X e te)(hg:PG X tg g)(hs:swapsWithSole [tg] e pos.line X.env=pure false:=by rfl)(hw:swappedStores [tg] e X.env=pure none:=by rfl)
 (h1:(YS [tg] X.env).map (·.2)=[assign tg X.env]:=by rfl):PS X (.Assign [tg] e pos) (z5 te g):=by
 intro pins s σ H D I h;refine wpAny_Assign_stores (thn (he pins s σ H _ I h) fun v s1 hq_=>?_) hs hw;obtain⟨x,H1,I1,r1,q1⟩:=hq_;rw[h1];exact thn (hg pins s1 σ H1 x v _ I1 r1 q1) fun _ s2 q=>q
theorem IS{i:Nat}{x:Str}{e:Expr}{te:TE}{pos':Pos}(hN:X.N.Nodup)(hi:X.N[i]? = some x)(hx:Loc X.env.scope x)(he:PE X e te)(hs:swapsWith e (some (.Name x pos')) pos.line X.env=pure false:=by rfl)(hf:X.fn x=true\/X.env.scope.names.lookup x=some .local:=by first|exact .inl rfl|exact .inr rfl|assumption) :
 PS X (.Assign [.Name x pos'] e pos) (z5 te (gZ i)):=by
 intro pins s σ H D I h;refine wpAny_Assign_Name (thn (he pins s σ H _ I h) fun v s1 hq_=>?_) hs;obtain⟨y,H1,I1,r1,q1⟩:=hq_;exact oC I1 hN hi hx r1 (fun s2 I2=>⟨_,H1,I2,q1⟩) hf
def Ib(c:TT)(tb:TS):TS:=fun D σ H=>∃W:Nat->St->Hp->Prop,(∃m,W m σ H)/\∀m σ H,W m σ H ->
 c σ H fun b H1=>if b=true then ∃N:St->Hp->Prop,(∀σ' H',N σ' H'->∃m',m'<m/\W m' σ' H')/\tb { D with nx:=N,ct:=N,bk:=D.nx } σ H1 else D.nx σ H1
theorem wa{c:Expr}{body:List Stmt}{tc:TT}{tb:TS}(hp:PassesOwn (model X.prog X.w) X.A X.env X.xe)(hc:PT X c tc)(hb:PSs X body tb):PS X (.While c body [] pos) (Ib tc tb):=by
 intro pins s σ H D I h;obtain⟨W,⟨m0,w0⟩,turn⟩:=h;refine wpAny_While (codeAny_whileLoop (fun n s'=>∃σ' H',Inv X pins σ' H' s'/\W n σ' H') ?_ m0 ⟨σ,H,I,w0⟩);rintro n s1 ⟨σ1,H1,I1,w1⟩;refine Yb hp (thn (hc pins s1 σ1 H1 _ I1 (turn n σ1 H1 w1)) fun b s2 hq_=>?_);obtain⟨H2,I2,q2⟩:=hq_;cases b with
 |true=>
  obtain⟨N,hN,q2⟩:=q2;rw[if_pos rfl];refine Yb hp (thn (hb pins s2 σ1 H2 _ I2 q2) fun f s3 q3=>?_);cases f with
  |next=>
   obtain⟨σ3,H3,I3,n3⟩:=q3;obtain⟨m',hm,w3⟩:=hN σ3 H3 n3;exact⟨m',hm,σ3,H3,I3,w3⟩
  |cont=>
   obtain⟨σ3,H3,I3,n3⟩:=q3;obtain⟨m',hm,w3⟩:=hN σ3 H3 n3;exact⟨m',hm,σ3,H3,I3,w3⟩
  |brk=>exact q3
  |ret v=>exact q3
 |false=>
  rw[if_neg vX];exact YE ⟨σ1,H2,I2,q2⟩
end
structure It where
 go:Nat->Hp->Prop
 yld:Nat->Hp->V->Hp->Prop
 stop:Nat->Hp->Prop
def qc(X:Cx)(pins:List (Addr × Obj))(H:Hp)(b:Addr):Prop:=
 H b=none/\b≠X.env.locals/\b∉X.fs/\(b∈X.ex\/X.s₀.heap.objs.size<=b)/\(∀x c,X.env.cells.lookup x=some c->c≠b)/\∀p∈X.pn++pins,p.1≠b
theorem Inv.fpOk{X:Cx}{pins:List (Addr × Obj)}{σ:St}{H H':Hp}{s:Shared}{b:Addr}(I:Inv X pins σ H s)(hb:s.heap.objs.size<=b)(hn:H' b=none):qc X pins H' b:=by
 refine⟨hn,Nat.ne_of_gt (Zy I.lt hb),I.nofs hb,.inr (Zt I.sz hb),fun x c e z=>?_,fun p hp z=>?_⟩
 ·obtain⟨v,q⟩:=I.cell x c e
  exact absurd (Zy q.lt (by rw[z];exact hb)) (ZJ _)
 ·exact absurd (Zy (wF (I.pin p hp).1) (by rw[z];exact hb)) (ZJ _)
structure CD(P:Program)(w:World)(K:W.Frag)(tg:Expr)(J:It)(fp:List Addr)(it:Addr)(tn:Nat->Heap->Prop):Prop where
 mem:it∈fp
 obj:∀i h,tn i h->∀b∈fp,∃o,h.get? b=some o/\∀v,o.data ≠ .cell v
 keep:∀i h h',tn i h->(∀b∈fp,∀o,h.get? b=some o->h'.get? b=some o)->tn i h'
 item:∀(X:Cx),X.prog=P->X.w=w->X.K=K->X.calm=true->∀(i:Nat) (pins:List (Addr × Obj)) (s:Shared) (σ:St) (H:Hp) (E:Value->Shared->Prop),Inv X pins σ H s->(∀b∈fp,qc X pins H b)->tn i s.heap->J.go i H ->
  wpAny (model P w) X.A (pyNext (.ref it)) (fun r s1=>∃u,r=some u /\
   wpAny (model P w) X.A (Xi tg (.ref it) u) (fun _ s2=>∃x H',Inv X pins σ H' s2/\RelV x u/\J.yld i H x H'/\tn (i+1) s2.heap/\∀b∈fp,H' b=none) E s1) E s
 done:∀(X:Cx),X.prog=P->X.w=w->X.K=K->X.calm=true->∀(i:Nat) (pins:List (Addr × Obj)) (s:Shared) (σ:St) (H:Hp) (E:Value->Shared->Prop),Inv X pins σ H s->(∀b∈fp,qc X pins H b)->tn i s.heap->J.stop i H ->
  wpAny (model P w) X.A (pyNext (.ref it)) (fun r s1=>r=none/\Inv X pins σ H s1) E s
 self:∀(A:Around) (i:Nat) (s:Shared) (Q:Value->Shared->Prop) (E:Value->Shared->Prop),tn i s.heap->Q (.ref it) s->wpAny (model P w) A (pyIter (.ref it)) Q E s
abbrev TI:=St->Hp->(It->Hp->Prop)->Prop
def PIE(X:Cx)(pins:List (Addr × Obj))(σ:St)(tg:Expr)(R:It->Hp->Prop)(itv:Value)(s2:Shared):Prop:=
 ∃(it:Addr) (fp:List Addr) (tn:Nat->Heap->Prop) (J:It) (H':Hp),itv = .ref it/\Inv X pins σ H' s2/\CD X.prog X.w X.K tg J fp it tn/\tn 0 s2.heap/\(∀b∈fp,qc X pins H' b)/\R J H'
def PI(X:Cx)(tg iter:Expr)(wi:TI):Prop:=
 ∀(pins:List (Addr × Obj)) (s:Shared) (σ:St) (H:Hp) (R:It->Hp->Prop),Inv X pins σ H s->wi σ H R ->
  wpAny (model X.prog X.w) X.A (eval iter X.env) (fun v s1=>wpAny (model X.prog X.w) X.A (pyIter v) (PIE X pins σ tg R) X.xe s1) X.xe s
theorem rf{s:Shared}{o:Obj}(ho:s.heap.get? it=some o)(hc:o.cls = .type n)(hd:o.data = .fields vs)
 (hn:["enumerate","zip","dict_itemiterator","dict_reverseitemiterator","odict_iterator","itertools.zip_longest","itertools.pairwise"].contains n=false) (hQ:Q () s):wpAny M A (Xi tg (.ref it) u) Q E s:=by
 unfold Xi;cases tg <;> first
  |exact xc hQ
  |(cases u <;> first
   |exact xc hQ
   |(refine zZ (wpAny_load ho ?_);rw[hc,hd];show wpAny M A (if (["enumerate","zip","dict_itemiterator","dict_reverseitemiterator","odict_iterator","itertools.zip_longest","itertools.pairwise"].contains n&&vs[0]? == some (rawInt _))=true then _ else _) Q E s;rw[if_neg (by intro h;rw[hn,Bool.false_and]at h;cases h)];exact xc hQ))
noncomputable def Itl(K:W.Frag)(a:Addr):It:=
 ⟨fun i H=>∃xs x,SqL K H a xs/\xs[i]? = some x,fun i H x H'=>H'=H/\∀xs,SqL K H a xs->xs[i]? = some x,fun i H=>∃xs,SqL K H a xs/\xs.length<=i⟩
noncomputable def Itr(lo:Int)(n:Nat):It:=⟨fun i _=>i<n,fun i H x H'=>H'=H/\x = .int (lo+i),fun i _=>n<=i⟩
theorem AF{P:Program}{w:World}{K:W.Frag}{tg:Expr}(a it:Addr):CD P w K tg (Itl K a) [it] it (fun i h=>h.IsListIter it a i) where
 mem:=by simp
 obj:=fun i h st b hb=>by
  have e:b=it:=by simpa using hb
  subst e;obtain⟨o,e,c,d⟩:=st;exact⟨o,e,fun v z=>by rw[d]at z;cases z⟩
 keep:=fun i h h' st k=>st.at fun o e=>k it (by simp) o e
 item:=by
  intro X hP hw hK hc i pins s σ H E I hf st hg;subst hP hw hK;obtain⟨xs,x,hq,hx⟩:=hg;obtain⟨its,rv,p,hz⟩:=I.list hq;obtain⟨u,hu,ru⟩:=rv.get hx;obtain⟨f0,f1,f2,f3,f4,f5⟩:=hf it (by simp);refine wpAny_pyNext_list_item st p.isList (x:=u) (by simpa using hu) fun h' st' sb=>?_;have I1:Inv X pins σ H { s with heap:=h' }:=I.turned (t':=s.toks) (fun b o hb e=>(sb.2 b hb).trans e) f0 f1 f3 f4 f5;obtain⟨o,e,c,d⟩:=id st';exact⟨u,rfl,rf (s:={ s with heap:=h' }) e c d (by decide) ⟨x,H,I1,ru,⟨rfl,fun ys hy=>by rw[I.list_inj hy hq];exact hx⟩,st',fun b hb=>(hf b hb).1⟩⟩
 done:=by
  intro X hP hw hK hc i pins s σ H E I hf st hg;subst hP hw hK;obtain⟨xs,hq,hx⟩:=hg;obtain⟨its,rv,p,hz⟩:=I.list hq;obtain⟨f0,f1,f2,f3,f4,f5⟩:=hf it (by simp);have hl:=rv.length;exact wpAny_pyNext_list_end (I.ok.hd hc) st p.isList (by simp;lia) fun h' eb=>⟨rfl,I.turned (t':=s.toks) (fun b o hb e=>eb b o hb e) f0 f1 f3 f4 f5⟩
 self:=fun _ _ _ _ _ st h=>wpAny_pyIter_listiter st h
theorem xk{P:Program}{w:World}{K:W.Frag}{tg:Expr}(it:Addr)(lo:Int)(n:Nat):CD P w K tg (Itr lo n) [it] it (fun i h=>IsRangeIter h it (lo+(i:Nat)*1) ((n:Int)-(i:Nat)) 1) where
 mem:=by simp
 obj:=fun i h st b hb=>by
  have e:b=it:=by simpa using hb
  subst e;exact⟨_,st,fun v z=>by
   have z':Data.fields _=Data.cell v:=z;cases z'⟩
 keep:=fun i h h' st k=>k it (by simp) _ st
 item:=by
  intro X hP hw hK hc i pins s σ H E I hf st hg;subst hP hw hK;obtain⟨f0,f1,f2,f3,f4,f5⟩:=hf it (by simp);have W:=Walks.range (prog:=X.prog) (w:=X.w) (I.ok.hd hc) it lo 1 n;refine W.item i s _ _ hg st fun v h' tk hv st' kk=>?_;obtain⟨t,rfl⟩:=hv;have I1:Inv X pins σ H { s with heap:=h',toks:=tk }:=I.turned (fun b o hb e=>kk b o (by simpa using hb) e) f0 f1 f3 f4 f5;refine⟨_,rfl,rf (s:={ s with heap:=h',toks:=tk }) (n:="range_iterator") st' rfl rfl (by decide) ⟨.int (lo+i),H,I1,⟨t,?_⟩,⟨rfl,rfl⟩,st',fun b hb=>(hf b hb).1⟩⟩;rw[Int.mul_one]
 done:=by
  intro X hP hw hK hc i pins s σ H E I hf st hg;subst hP hw hK;obtain⟨f0,f1,f2,f3,f4,f5⟩:=hf it (by simp);exact wpAny_pyNext_range_end (I.ok.hd hc) st (by have:n<=i:=hg;lia) fun h' eb=>⟨rfl,I.turned (t':=s.toks) (fun b o hb e=>eb b o hb e) f0 f1 f3 f4 f5⟩
 self:=fun _ _ _ _ _ st h=>wpAny_pyIter_rangeiter st h
section
variable{X:Cx}{tg:Expr}
def o6(K:W.Frag)(tl:TE):TI:=fun σ H R=>tl σ H fun x H1=>∃a,x = .ref a/\(∃xs,SqL K H1 a xs)/\R (Itl K a) H1
theorem E8{l:Expr}{tl:TE}(hl:PE X l tl):PI X tg l (o6 X.K tl):=by
 intro pins s σ H R I h;refine thn (hl pins s σ H _ I h) fun v s1 hq_=>?_;obtain⟨x,H1,I1,r1,q1⟩:=hq_;obtain⟨a,e,⟨xs,hq⟩,q⟩:=q1;subst e;cases r1;obtain⟨its,rv,p,hz⟩:=I1.list hq;refine wpAny_pyIter_list p.isList ?_;refine⟨s1.heap.objs.size,[s1.heap.objs.size],_,_,H1,rfl,I1.kept (t':=s1.toks) fun b o e=>Heap.get?_push_of_some _ e,AF a _,⟨_,Heap.get?_push_size _ rfl,rfl,rfl⟩,fun b hb=>?_,q⟩;have e:b=s1.heap.objs.size:=by simpa using hb
 subst e;exact I1.fpOk (xU _) (I1.hok.fresh (xU _))
theorem wv{pins:List (Addr × Obj)}{σ:St}{H:Hp}{s:Shared}{R:It->Hp->Prop}{E:Value->Shared->Prop}{lo hi:Int}{t u v:Tok}{tk:Nat}(I:Inv X pins σ H s)(h1:-(2 ^ 62)<=lo)(h2:lo<2 ^ 62)(h3:-(2 ^ 62)<=hi)(h4:hi<2 ^ 62)
 (q:R (Itr lo (hi-lo).toNat) H):wpAny (model X.prog X.w) X.A (pyIter (.ref s.heap.objs.size)) (PIE X pins σ tg R) E { s with heap:=s.heap.push { cls:=.type "range",data:=.fields #[.int lo t,.int hi u,.int 1 v] },toks:=tk }:=by
 refine wpAny_pyIter_range (IsRange.new ..) (small_one h1 h2 h3 h4) ?_;have I1:Inv X pins σ H { s with heap:=s.heap.push { cls:=.type "range",data:=.fields #[.int lo t,.int hi u,.int 1 v] },toks:=tk }:=I.kept fun b o e=>Heap.get?_push_of_some _ e;refine⟨(s.heap.push { cls:=.type "range",data:=.fields #[.int lo t,.int hi u,.int 1 v] }).objs.size,[(s.heap.push { cls:=.type "range",data:=.fields #[.int lo t,.int hi u,.int 1 v] }).objs.size],_,_,H,rfl,
  I1.kept (t':=tk) fun b o e=>Heap.get?_push_of_some _ e,xk _ lo (hi-lo).toNat,?_,fun b hb=>?_,q⟩
 ·have e1:lo+((0:Nat):Int)*1=lo:=by simp
  have e2:(((hi-lo).toNat:Nat):Int)-((0:Nat):Int)=Builtin.Range.rangeSize lo hi 1:=by rw[rangeSize_one];split <;> lia
  show IsRangeIter _ _ (lo+((0:Nat):Int)*1) ((((hi-lo).toNat:Nat):Int)-((0:Nat):Int)) 1;rw[e1,e2];exact Heap.get?_push_size _ rfl
 ·have e:b=(s.heap.push { cls:=.type "range",data:=.fields #[.int lo t,.int hi u,.int 1 v] }).objs.size:=by simpa using hb
  subst e;exact I1.fpOk (xU _) (I1.hok.fresh (xU _))
def Bv(ta:TA):TI:=fun σ H R=>ta σ H fun vs H1=>∃j:Int,vs=[.int j] /\ -(2 ^ 62)<=j/\j<2 ^ 62/\R (Itr 0 j.toNat) H1
def Di(ta:TA):TI:=fun σ H R=>ta σ H fun vs H1=>∃i j:Int,vs=[.int i,.int j]/\(-(2 ^ 62)<=i/\i<2 ^ 62 /\ -(2 ^ 62)<=j/\j<2 ^ 62)/\R (Itr i (j-i).toNat) H1
theorem eF{a:Expr}{ta:TA}{p pos:Pos}(hg:Gl X "range")(hm:X.mg "range" = none)(ha:PA X [a] ta)(hs:starEach [a] X.env=[(false,eval a X.env)]:=by rfl):PI X tg (.Call (.Name "range" p) [a] [] pos) (Bv ta):=by
 intro pins s σ H R I h;refine Call_ (oG I hg hm boot_range (Y6 (thn (ha pos pins s σ H _ I h) fun us s1 hq_=>?_) hs rfl));obtain⟨vs,H1,I1,r1,q1⟩:=hq_;obtain⟨j,e,q1,q2,q⟩:=q1;subst e;cases r1 with
 |cons r rr=>
  cases rr;obtain⟨t,rfl⟩:=r;exact call_range_1 (wv I1 (by lia) (by lia) q1 q2 (by simpa using q))
theorem mH{a b:Expr}{ta:TA}{p pos:Pos}(hg:Gl X "range")(hm:X.mg "range" = none)(ha:PA X [a,b] ta)(hs:starEach [a,b] X.env=[(false,eval a X.env),(false,eval b X.env)]:=by rfl)(hs2:starEach [b] X.env=[(false,eval b X.env)]:=by rfl) :
 PI X tg (.Call (.Name "range" p) [a,b] [] pos) (Di ta):=by
 intro pins s σ H R I h;refine Call_ (oG I hg hm boot_range (Y6 (thn (ha pos pins s σ H _ I h) fun us s1 ⟨vs,H1,I1,r1,q1⟩=>?_) (by rw[hs,hs2]) (by rw[hs2];rfl)));obtain⟨i,j,e,⟨q1,q2,q3,q4⟩,q⟩:=q1;subst e;cases r1 with
 |cons r rr=>
  cases rr with
  |cons r' rr=>
   cases rr;obtain⟨t,rfl⟩:=r;obtain⟨t',rfl⟩:=r';exact call_range_2 (wv I1 q1 q2 q3 q4 q)
def xM(wi:TI)(g:TG)(tb:TS):TS:=fun D σ H=>wi σ H fun J H1=>∃W:Nat->Nat->St->Hp->Prop,(∃m,W 0 m σ H1)/\∀i m σ H,W i m σ H ->
 (J.stop i H/\D.nx σ H)\/(J.go i H/\∃N:St->Hp->Prop,(∀σ' H',N σ' H'->∃m',m'<m/\W (i+1) m' σ' H')/\∀x H',J.yld i H x H'->g x σ H' fun σ2 H2=>tb { D with nx:=N,ct:=N,bk:=D.nx } σ2 H2)
noncomputable def p9(fp:List Addr)(h:Heap):List (Addr × Obj):=fp.filterMap fun b=>(h.get? b).map fun o=>(b,o)
theorem ix{fp:List Addr}{h:Heap}{b:Addr}{o:Obj}(hb:b∈fp)(e:h.get? b=some o):(b,o)∈p9 fp h:=List.mem_filterMap.mpr ⟨b,hb,by rw[e];rfl⟩
theorem AC{h:Heap}(hp:p∈p9 fp h):p.1∈fp/\h.get? p.1=some p.2:=by
 obtain⟨b,hb,e⟩:=List.mem_filterMap.mp hp;cases q:h.get? b with
 |none=>rw[q]at e;cases e
 |some o=>
  rw[q]at e;have e':(b,o)=p:=Zp e;subst e';exact⟨hb,q⟩
theorem Inv.pinned{pins:List (Addr × Obj)}{σ:St}{H:Hp}{s:Shared}{fp:List Addr}(I:Inv X pins σ H s)(hf:∀b∈fp,qc X pins H b)(ho:∀b∈fp,∃o,s.heap.get? b=some o/\∀v,o.data ≠ .cell v):Inv X (pins++p9 fp s.heap) σ H s:=
 I.pins_of fun p hp=>(tT.mp hp).elim (fun z=>I.pin p (wC _ z)) fun z=>by
  obtain⟨hb,e⟩:=AC z;obtain⟨f0,f1,f2,_⟩:=hf p.1 hb;obtain⟨o,e',d⟩:=ho p.1 hb;rw[e]at e';cases e';exact⟨e,f0,f1,f2,d⟩
theorem Inv.unpinned{pins pl:List (Addr × Obj)}{σ:St}{H:Hp}{s:Shared}(I:Inv X (pins++pl) σ H s):Inv X pins σ H s:=I.pins_of fun p hp=>I.pin p (wC _ (tW _ hp))
theorem dE{iter:Expr}{body:List Stmt}{wi:TI}{g:TG}{tb:TS}{pos:Pos}(hp:PassesOwn (model X.prog X.w) X.A X.env X.xe)(hc:X.calm=true)(hi:PI X tg iter wi)(hg:PG X tg g)(hb:PSs X body tb)
 (hs:∀x,Y0 iter X.env x=pure x:=by intro _;rfl):PS X (.For tg iter body [] pos) (xM wi g tb):=by
 intro pins s σ H D I h;refine wpAny_For (thn (hi pins s σ H _ I h) fun v s1 h1=>thn h1 fun itv s2 h2=>?_) hs;obtain⟨it,fp,tn,J,H2,e,I2,T,st2,f2,W,⟨m0,w0⟩,turn⟩:=h2;subst e;have stat:∀ {H':Hp},(∀b∈fp,H' b=none)->∀b∈fp,qc X pins H' b:=fun hn b hb=>⟨hn b hb,(f2 b hb).2⟩;refine codeAny_forLoop_any (fun n s'=>∃i σ' H',Inv X pins σ' H' s'/\tn i s'.heap/\(∀b∈fp,H' b=none)/\W i n σ' H') ?_ m0 ⟨0,σ,H2,I2,st2,fun b hb=>(f2 b hb).1,w0⟩;rintro n s3 ⟨i,σ3,H3,I3,st3,fr3,w3⟩;rcases turn i n σ3 H3 w3 with ⟨stop,qn⟩|⟨go,N,hN,step⟩
 ·refine Yb hp (thn (T.done X rfl rfl rfl hc i pins s3 σ3 H3 X.xe I3 (stat fr3) st3 stop) fun r s4 hq_=>?_)
  obtain⟨hr,I4⟩:=hq_;subst hr;exact YE ⟨σ3,H3,I4,qn⟩
 ·refine Yb hp (thn (T.item X rfl rfl rfl hc i pins s3 σ3 H3 X.xe I3 (stat fr3) st3 go) fun r s4 hq_=>?_)
  obtain⟨u,hr,h4⟩:=hq_;subst hr;refine Yb hp (thn h4 fun _ s5 hq_=>?_);obtain⟨x,H5,I5,r5,y5,st5,fr5⟩:=hq_;have I5':=I5.pinned (stat fr5) (T.obj _ _ st5);refine Yb hp (thn (hg _ s5 σ3 H5 x u _ I5' r5 (step x H5 y5)) fun _ s6 hq_=>?_);obtain⟨σ6,H6,I6,q6⟩:=hq_;refine Yb hp (thn (hb _ s6 σ6 H6 _ I6 q6) fun f s7 q7=>?_);have again:∀ {σ7:St} {H7:Hp},Inv X (pins++p9 fp s5.heap) σ7 H7 s7->N σ7 H7->∃m,m<n/\∃i σ' H',Inv X pins σ' H' s7/\tn i s7.heap/\(∀b∈fp,H' b=none)/\W i m σ' H':=fun {σ7 H7} I7 n7=>by
   obtain⟨m',hm,w7⟩:=hN σ7 H7 n7;refine⟨m',hm,i+1,σ7,H7,I7.unpinned,T.keep _ _ _ st5 fun b hb o e=>(I7.pin (b,o) (wC _ (wC _ (ix hb e)))).1,fun b hb=>?_,w7⟩;obtain⟨o,e,d⟩:=T.obj _ _ st5 b hb;exact(I7.pin (b,o) (wC _ (wC _ (ix hb e)))).2.1
  cases f with
  |next=>obtain⟨σ7,H7,I7,n7⟩:=q7;exact again I7 n7
  |cont=>obtain⟨σ7,H7,I7,n7⟩:=q7;exact again I7 n7
  |brk=>obtain⟨σ7,H7,I7,q7⟩:=q7;exact⟨σ7,H7,I7.unpinned,q7⟩
  |ret v=>obtain⟨x7,σ7,H7,I7,r7,q7⟩:=q7;exact⟨x7,σ7,H7,I7.unpinned,r7,q7⟩
end
theorem dH{K:W.Frag}{a:Addr}{xs:List V}{g:TG}{tb:TS}{D:iu}{σ:St}{H:Hp}(Pv:Nat->St->Hp->Prop)(h0:Pv 0 σ H)(hl:∀i σ H,i<=xs.length->Pv i σ H->SqL K H a xs)
 (hs:∀i x σ H,xs[i]? = some x->Pv i σ H->g x σ H fun σ2 H2=>tb { D with nx:=Pv (i+1),ct:=Pv (i+1),bk:=D.nx } σ2 H2) (hd:∀σ H,Pv xs.length σ H->D.nx σ H) :
 ∃W:Nat->Nat->St->Hp->Prop,(∃m,W 0 m σ H)/\∀i m σ H,W i m σ H ->
  ((Itl K a).stop i H/\D.nx σ H)\/((Itl K a).go i H/\∃N:St->Hp->Prop,(∀σ' H',N σ' H'->∃m',m'<m/\W (i+1) m' σ' H')/\∀x H',(Itl K a).yld i H x H'->g x σ H' fun σ2 H2=>tb { D with nx:=N,ct:=N,bk:=D.nx } σ2 H2):=by
 refine⟨fun i m σ H=>m=xs.length-i/\i<=xs.length/\Pv i σ H,⟨xs.length,by simp,Zv _,h0⟩,?_⟩;rintro i m σ H ⟨rfl,hi,p⟩;have q:=hl i σ H hi p;by_cases hlt:i<xs.length
 ·refine .inr ⟨⟨xs,xs[i],q,by simp[hlt]⟩,Pv (i+1),fun σ' H' p'=>⟨xs.length-(i+1),by lia,rfl,hlt,p'⟩,fun x H' y=>?_⟩
  obtain⟨e,y⟩:=y;subst e;exact hs i x σ _ (y xs q) p
 ·have e:i=xs.length:=by lia
  subst e;exact .inl ⟨⟨xs,q,xU _⟩,hd σ H p⟩
theorem g8{lo:Int}{n:Nat}{g:TG}{tb:TS}{D:iu}{σ:St}{H:Hp}(Pv:Nat->St->Hp->Prop)(h0:Pv 0 σ H)
 (hs:∀i σ H,i<n->Pv i σ H->g (.int (lo+i)) σ H fun σ2 H2=>tb { D with nx:=Pv (i+1),ct:=Pv (i+1),bk:=D.nx } σ2 H2) (hd:∀σ H,Pv n σ H->D.nx σ H) :
 ∃W:Nat->Nat->St->Hp->Prop,(∃m,W 0 m σ H)/\∀i m σ H,W i m σ H ->
  ((Itr lo n).stop i H/\D.nx σ H)\/((Itr lo n).go i H/\∃N:St->Hp->Prop,(∀σ' H',N σ' H'->∃m',m'<m/\W (i+1) m' σ' H')/\∀x H',(Itr lo n).yld i H x H'->g x σ H' fun σ2 H2=>tb { D with nx:=N,ct:=N,bk:=D.nx } σ2 H2):=by
 refine⟨fun i m σ H=>m=n-i/\i<=n/\Pv i σ H,⟨n,by simp,Zv _,h0⟩,?_⟩;rintro i m σ H ⟨rfl,hi,p⟩;by_cases hlt:i<n
 ·refine .inr ⟨hlt,Pv (i+1),fun σ' H' p'=>⟨n-(i+1),by lia,rfl,hlt,p'⟩,fun x H' y=>?_⟩
  obtain⟨e,y⟩:=y;subst e y;exact hs i σ _ hlt p
 ·have e:i=n:=by lia
  subst e;exact .inl ⟨xU _,hd σ H p⟩
abbrev R2:=V->V->Hp->VK->Prop
def OpR(X:Cx)(f:Value->Value->Sem Value)(r:R2):Prop:=
 ∀(pins:List (Addr × Obj)) (s:Shared) (σ:St) (H:Hp) (x y:V) (v u:Value) (Q:VK),Inv X pins σ H s->RelV x v->RelV y u->r x y H Q ->
  wpAny (model X.prog X.w) X.A (f v u) (EP X pins σ Q) X.xe s
def UnR(X:Cx)(f:Value->Sem Value)(r:V->Hp->VK->Prop):Prop:=
 ∀(pins:List (Addr × Obj)) (s:Shared) (σ:St) (H:Hp) (x:V) (v:Value) (Q:VK),Inv X pins σ H s->RelV x v->r x H Q ->
  wpAny (model X.prog X.w) X.A (f v) (EP X pins σ Q) X.xe s
def CallR(X:Cx)(f:Value)(r:List V->Hp->VK->Prop):Prop:=
 ∀(pins:List (Addr × Obj)) (s:Shared) (σ:St) (H:Hp) (xs:List V) (us:List Value) (Q:VK),Inv X pins σ H s->Vals xs us->r xs H Q ->
  wpAny (model X.prog X.w) X.A (call f us) (EP X pins σ Q) X.xe s
def Md(X:Cx)(r:V->Hp->(Bool->Hp->Prop)->Prop):Prop:=
 ∀(pins:List (Addr × Obj)) (s:Shared) (σ:St) (H:Hp) (x:V) (v:Value) (Q:Bool->Hp->Prop),Inv X pins σ H s->RelV x v->r x H Q ->
  wpAny (model X.prog X.w) X.A (truthy v) (TP X pins σ Q) X.xe s
def tOp(r:R2)(ta tb:TE):TE:=fun σ H Q=>ta σ H fun x H1=>tb σ H1 fun y H2=>r x y H2 Q
def tUn(r:V->Hp->VK->Prop)(ta:TE):TE:=fun σ H Q=>ta σ H fun x H1=>r x H1 Q
def rI(C:Int->Int->Prop)(g:Int->Int->V):R2:=fun x y H Q=>∃i j,x = .int i/\y = .int j/\C i j/\Q (g i j) H
def rI0(g:Int->Int->V):R2:=fun x y H Q=>∃i j,x = .int i/\y = .int j/\Q (g i j) H
def rU(g:Int->V):V->Hp->VK->Prop:=fun x H Q=>∃i,x = .int i/\Q (g i) H
section
variable{X:Cx}{a b c:Expr}{ta tb tc:TE}{pos:Pos}
theorem Hg(ha:PE X a ta)(hb:PE X b tb){pins:List (Addr × Obj)}{s:Shared}{σ:St}{H:Hp}{R:V->V->Hp->Prop}(I:Inv X pins σ H s)
 (h:ta σ H fun x H1=>tb σ H1 fun y H2=>R x y H2) {Q:Value->Shared->Prop} {f:Value->Value->Sem Value}
 (hf:∀v u s2 x y H2,Inv X pins σ H2 s2->RelV x v->RelV y u->R x y H2->wpAny (model X.prog X.w) X.A (f v u) Q X.xe s2) :
 wpAny (model X.prog X.w) X.A (eval a X.env) (fun v s₁=>wpAny (model X.prog X.w) X.A (eval b X.env) (fun u s₂=>wpAny (model X.prog X.w) X.A (f v u) Q X.xe s₂) X.xe s₁) X.xe s:=by
 refine thn (ha pins s σ H _ I h) fun v s1 hq_=>?_;obtain⟨x,H1,I1,r1,q1⟩:=hq_;refine thn (hb pins s1 σ H1 _ I1 q1) fun u s2 hq_=>?_;obtain⟨y,H2,I2,r2,q2⟩:=hq_;exact hf v u s2 x y H2 I2 r1 r2 q2
theorem au{op:Operator}{r:R2}(ho:OpR X (binaryOp op) r)(ha:PE X a ta)(hb:PE X b tb):PE X (.BinOp a op b pos) (tOp r ta tb):=by
 intro pins s σ H Q I h;exact wpAny_BinOp (Hg ha hb I h fun v u s2 x y H2 I2 rx ry q=>ho pins s2 σ H2 x y v u Q I2 rx ry q)
theorem qN{op:UnaryOp}{r:V->Hp->VK->Prop}(ho:UnR X (unaryOp op) r)(ha:PE X a ta):PE X (.UnaryOp op a pos) (tUn r ta):=by
 intro pins s σ H Q I h;exact UnaryOp_ (thn (ha pins s σ H _ I h) fun v s1 hq_=>(by obtain⟨x,H1,I1,r1,q1⟩:=hq_;exact ho pins s1 σ H1 x v Q I1 r1 q1))
theorem opI{f:Value->Value->Sem Value}{C:Int->Int->Prop}{g:Int->Int->Int}
 (rule:∀(i j:Int) (t u:Tok) (s:Shared) (Q:Value->Shared->Prop) (E:Value->Shared->Prop),C i j->Q (.int (g i j) s.toks) { s with toks:=s.toks+1 }->wpAny (model X.prog X.w) X.A (f (.int i t) (.int j u)) Q E s) :
 OpR X f (rI C fun i j=>.int (g i j)):=by
 intro pins s σ H x y v u Q I rx ry h;obtain⟨i,j,rfl,rfl,hc,q⟩:=h;obtain⟨t,rfl⟩:=rx;obtain⟨t',rfl⟩:=ry;exact rule i j t t' s _ _ hc ⟨.int (g i j),H,I.tok _,⟨_,rfl⟩,q⟩
theorem Kg{f:Value->Value->Sem Value}{g:Int->Int->Int}
 (rule:∀(i j:Int) (t u:Tok) (s:Shared) (Q:Value->Shared->Prop) (E:Value->Shared->Prop),Q (.int (g i j) s.toks) { s with toks:=s.toks+1 }->wpAny (model X.prog X.w) X.A (f (.int i t) (.int j u)) Q E s) :
 OpR X f (rI0 fun i j=>.int (g i j)):=by
 intro pins s σ H x y v u Q I rx ry h;obtain⟨i,j,rfl,rfl,q⟩:=h;obtain⟨t,rfl⟩:=rx;obtain⟨t',rfl⟩:=ry;exact rule i j t t' s _ _ ⟨.int (g i j),H,I.tok _,⟨_,rfl⟩,q⟩
theorem FZ{f:Value->Value->Sem Value}{g:Int->Int->Bool}
 (rule:∀(i j:Int) (t u:Tok) (s:Shared) (Q:Value->Shared->Prop) (E:Value->Shared->Prop),Q (.bool (g i j)) s->wpAny (model X.prog X.w) X.A (f (.int i t) (.int j u)) Q E s) :
 OpR X f (rI0 fun i j=>.bl (g i j)):=by
 intro pins s σ H x y v u Q I rx ry h;obtain⟨i,j,rfl,rfl,q⟩:=h;obtain⟨t,rfl⟩:=rx;obtain⟨t',rfl⟩:=ry;exact rule i j t t' s _ _ ⟨.bl (g i j),H,I,rfl,q⟩
def Jl(i j:Int):Prop:=0<j/\j<1073741824
def HX(i j:Int):Prop:=0<=j/\j<=1000000/\i.natAbs<2 ^ 64
def CMul(i j:Int):Prop:=(-(2 ^ 64)<i/\i<2 ^ 64)\/(-(2 ^ 64)<j/\j<2 ^ 64)
theorem CMul.ok{i j:Int}(h:CMul i j):IntMulOk i j:=by
 rcases h with ⟨h1,h2⟩|⟨h1,h2⟩
 ·exact .of_left (intBits_le_64 h1 h2)
 ·exact .of_right (intBits_le_64 h1 h2)
theorem HP:OpR X (binaryOp .Add) (rI0 fun i j=>.int (i+j)):=Kg fun _ _ _ _ _ _ _ q=>add_int q
theorem Im:OpR X (binaryOp .Sub) (rI0 fun i j=>.int (i-j)):=Kg fun _ _ _ _ _ _ _ q=>sub_int q
theorem Jn:OpR X (binaryOp .Mult) (rI CMul fun i j=>.int (i*j)):=opI fun _ _ _ _ _ _ _ hc q=>mul_int q hc.ok
theorem Eo:OpR X (binaryOp .FloorDiv) (rI Jl fun i j=>.int (i / j)):=opI fun i j _ _ _ _ _ hc q=>by
 have h1:(0:Int)<j:=hc.1;have h2:j<1073741824:=hc.2;exact floordiv_int (by lia) (by rw[Int.fdiv_eq_ediv_of_nonneg i (by lia)];exact q) (.inl (PyProof.noPylong_small (by lia)))
theorem ID:OpR X (binaryOp .Mod) (rI (fun _ j=>0<j) fun i j=>.int (i % j)):=opI fun i j _ _ _ _ _ hc q=>by
 have h1:(0:Int)<j:=hc;exact mod_int' (by lia) (by rw[Int.fmod_eq_emod_of_nonneg i (by lia)];exact q)
theorem G9:OpR X (binaryOp .Pow) (rI HX fun i j=>.int (i ^ j.toNat)):=opI fun _ _ _ _ _ _ _ hc q=>pow_int_small hc.1 hc.2.1 hc.2.2 q
theorem unI{f:Value->Sem Value}{g:Int->Int}
 (rule:∀(i:Int) (t:Tok) (s:Shared) (Q:Value->Shared->Prop) (E:Value->Shared->Prop),Q (.int (g i) s.toks) { s with toks:=s.toks+1 }->wpAny (model X.prog X.w) X.A (f (.int i t)) Q E s) :
 UnR X f (rU fun i=>.int (g i)):=by
 intro pins s σ H x v Q I rx h;obtain⟨i,rfl,q⟩:=h;obtain⟨t,rfl⟩:=rx;exact rule i t s _ _ ⟨.int (g i),H,I.tok _,⟨_,rfl⟩,q⟩
theorem Hr:UnR X (unaryOp .USub) (rU fun i=>.int (-i)):=unI fun _ _ _ _ _ q=>neg_int q
end
noncomputable def Hm:V->V->Bool
 | .non,.non=>true | .non,.int _=>true | .int _,.non=>true | .non,.bl _=>true | .bl _,.non=>true | .non,.str _=>true | .str _,.non=>true
 | .int _,.int _=>true | .bl _,.bl _=>true | .str _,.str _=>true | .byt _,.byt _=>true
 | .int _,.str _=>true | .str _,.int _=>true | .bl _,.str _=>true | .str _,.bl _=>true
 |_,_=>false
def rEq:R2:=fun x y H Q=>Hm x y=true/\Q (.bl (decide (x=y))) H
def rNe:R2:=fun x y H Q=>Hm x y=true/\Q (.bl (!decide (x=y))) H
theorem zj:decide (V.int i=V.int j)=(i==j):=by
 rw[YZ];simp
theorem Dd:decide (V.bl i=V.bl j)=(i==j):=by
 rw[YZ];simp
theorem y9:decide (V.str i=V.str j)=(i==j):=by
 rw[YZ];simp
theorem yH{i j:Array UInt8}:decide (V.byt i=V.byt j)=(i.toList==j.toList):=by
 rw[YZ];cases i;cases j;simp
section
variable{X:Cx}{a b c:Expr}{ta tb tc:TE}{pos:Pos}
theorem bG(I:Inv X pins σ H s)(q:Q (.bl k) H)(e:k=k'):EP X pins σ Q (.bool k') s:=by
 subst e;exact⟨.bl k,H,I,rfl,q⟩
theorem KJ:OpR X (Zq .Eq) rEq:=by
 intro pins s σ H x y v u Q I rx ry h;obtain⟨hs,q⟩:=h;cases x with
 |non=>
  cases rx;cases y with
  |non=>cases ry;exact PySem.EqNone.eq_none_none (bG I q (by simp))
  |bl j=>cases ry;exact PySem.EqNone.eq_none_bool (bG I q (by simp))
  |int j=>obtain⟨t',rfl⟩:=ry;exact PySem.EqNone.eq_none_int (bG I q (by simp))
  |str j=>obtain⟨t',rfl⟩:=ry;exact PySem.EqNone.eq_none_str (bG I q (by simp))
  |_=>exact absurd (show false=true from hs) vX
 |bl i=>
  cases rx;cases y with
  |non=>cases ry;exact PySem.EqNone.eq_bool_none (bG I q (by simp))
  |bl j=>cases ry;exact eq_bool (bG I q Dd)
  |str j=>obtain⟨t',rfl⟩:=ry;exact PySem.EqMixed.eq_bool_str (bG I q (by simp))
  |_=>exact absurd (show false=true from hs) vX
 |int i=>
  obtain⟨t,rfl⟩:=rx;cases y with
  |non=>cases ry;exact PySem.EqNone.eq_int_none (bG I q (by simp))
  |int j=>obtain⟨t',rfl⟩:=ry;exact eq_int (bG I q zj)
  |str j=>obtain⟨t',rfl⟩:=ry;exact PySem.EqMixed.eq_int_str (bG I q (by simp))
  |_=>exact absurd (show false=true from hs) vX
 |str i=>
  obtain⟨t,rfl⟩:=rx;cases y with
  |non=>cases ry;exact PySem.EqNone.eq_str_none (bG I q (by simp))
  |bl j=>cases ry;exact PySem.EqMixed.eq_str_bool (bG I q (by simp))
  |int j=>obtain⟨t',rfl⟩:=ry;exact PySem.EqMixed.eq_str_int (bG I q (by simp))
  |str j=>obtain⟨t',rfl⟩:=ry;exact eq_str (bG I q y9)
  |_=>exact absurd (show false=true from hs) vX
 |byt i=>
  obtain⟨t,rfl⟩:=rx;cases y with
  |byt j=>obtain⟨t',rfl⟩:=ry;exact PySem.W.eq_bytes (bG I q yH)
  |_=>exact absurd (show false=true from hs) vX
 |_=>cases y <;> exact absurd (show false=true from hs) vX
theorem Kl:OpR X (Zq .NotEq) rNe:=by
 intro pins s σ H x y v u Q I rx ry h;obtain⟨hs,q⟩:=h;cases x with
 |non=>
  cases rx;cases y with
  |non=>cases ry;exact PySem.EqNone.ne_none_none (bG I q (by simp))
  |bl j=>cases ry;exact PySem.EqNone.ne_none_bool (bG I q (by simp))
  |int j=>obtain⟨t',rfl⟩:=ry;exact PySem.EqNone.ne_none_int (bG I q (by simp))
  |str j=>obtain⟨t',rfl⟩:=ry;exact PySem.EqNone.ne_none_str (bG I q (by simp))
  |_=>exact absurd (show false=true from hs) vX
 |bl i=>
  cases rx;cases y with
  |non=>cases ry;exact PySem.EqNone.ne_bool_none (bG I q (by simp))
  |bl j=>cases ry;exact ne_bool (bG I q (congrArg not Dd))
  |str j=>obtain⟨t',rfl⟩:=ry;exact PySem.EqMixed.ne_bool_str (bG I q (by simp))
  |_=>exact absurd (show false=true from hs) vX
 |int i=>
  obtain⟨t,rfl⟩:=rx;cases y with
  |non=>cases ry;exact PySem.EqNone.ne_int_none (bG I q (by simp))
  |int j=>obtain⟨t',rfl⟩:=ry;exact ne_int (bG I q (congrArg not zj))
  |str j=>obtain⟨t',rfl⟩:=ry;exact PySem.EqMixed.ne_int_str (bG I q (by simp))
  |_=>exact absurd (show false=true from hs) vX
 |str i=>
  obtain⟨t,rfl⟩:=rx;cases y with
  |non=>cases ry;exact PySem.EqNone.ne_str_none (bG I q (by simp))
  |bl j=>cases ry;exact PySem.EqMixed.ne_str_bool (bG I q (by simp))
  |int j=>obtain⟨t',rfl⟩:=ry;exact PySem.EqMixed.ne_str_int (bG I q (by simp))
  |str j=>obtain⟨t',rfl⟩:=ry;exact ne_str (bG I q (congrArg not y9))
  |_=>exact absurd (show false=true from hs) vX
 |byt i=>
  obtain⟨t,rfl⟩:=rx;cases y with
  |byt j=>obtain⟨t',rfl⟩:=ry;exact PySem.W.ne_bytes (bG I q (congrArg not yH))
  |_=>exact absurd (show false=true from hs) vX
 |_=>cases y <;> exact absurd (show false=true from hs) vX
theorem JH:OpR X (Zq .Lt) (rI0 fun i j=>.bl (decide (i<j))):=FZ fun _ _ _ _ _ _ _ q=>lt_int q
theorem KR:OpR X (Zq .LtE) (rI0 fun i j=>.bl (decide (i<=j))):=FZ fun _ _ _ _ _ _ _ q=>le_int q
theorem JF:OpR X (Zq .Gt) (rI0 fun i j=>.bl (decide (j<i))):=FZ fun _ _ _ _ _ _ _ q=>gt_int q
theorem KB:OpR X (Zq .GtE) (rI0 fun i j=>.bl (decide (j<=i))):=FZ fun _ _ _ _ _ _ _ q=>ge_int q
theorem zG:OpR X (Zq .Lt) (fun x y H Q=>∃i j,x = .str i/\y = .str j/\Q (.bl (decide (i.cps.toList<j.cps.toList))) H):=by
 intro pins s σ H x y v u Q I rx ry h;obtain⟨i,j,rfl,rfl,q⟩:=h;obtain⟨t,rfl⟩:=rx;obtain⟨t',rfl⟩:=ry;exact lt_str (bG I q rfl)
theorem AN:OpR X (Zq .In) (fun x y H Q=>∃i j,x = .str i/\y = .str j/\Q (.bl (!(Builtin.Str.occurrences j i 0 j.length 1).isEmpty)) H):=by
 intro pins s σ H x y v u Q I rx ry h;obtain⟨i,j,rfl,rfl,q⟩:=h;obtain⟨t,rfl⟩:=rx;obtain⟨t',rfl⟩:=ry;exact in_str (bG I q rfl)
theorem OpR.or{f:Value->Value->Sem Value}{r r':R2}(h:OpR X f r)(h':OpR X f r'):OpR X f (fun x y H Q=>r x y H Q\/r' x y H Q):=by
 intro pins s σ H x y v u Q I rx ry q;rcases q with q|q
 ·exact h pins s σ H x y v u Q I rx ry q
 ·exact h' pins s σ H x y v u Q I rx ry q
theorem fe(b:Expr)(h:op ≠ .In:=by decide)(h2:op ≠ .NotIn:=by decide):Yj op b=false:=by
 have e1:(op==CmpOp.In)=false:=by cases op <;> first|rfl|exact absurd rfl h
 have e2:(op==CmpOp.NotIn)=false:=by cases op <;> first|rfl|exact absurd rfl h2
 cases b <;> simp[Yj,e1,e2]
theorem d_{op:CmpOp}{r:R2}(ho:OpR X (Zq op) r)(ha:PE X a ta)(hb:PE X b tb)(hm:Yj op b=false):PE X (.Compare a [op] [b] pos) (tOp r ta tb):=by
 intro pins s σ H Q I h;exact wpAny_Compare1 (Hg ha hb I h fun v u s2 x y H2 I2 rx ry q=>ho pins s2 σ H2 x y v u Q I2 rx ry q) hm
def Mg(K:W.Frag)(x:V)(H:Hp)(k:Bool):Prop:=
 match x with
 | .non=>k=false
 | .bl b=>k=b
 | .int i=>k=(i != 0)
 | .str y=>y.length<=sizeLine/\k=((y.length:Int) != 0)
 | .byt y=>y.size<=sizeLine/\k=((y.size:Int) != 0)
 | .ref p=>(∃xs,SqL K H p xs/\k = !xs.isEmpty)\/(∃xs,SqT K H p xs/\k = !xs.isEmpty)\/∃kvs,H p=some (.dK kvs)/\k = !kvs.isEmpty
 |_=>False
theorem yf{κ:Type}{kvs:List (κ × V)}{vs:List (κ × Value)}(r:KV kvs vs):(!vs.isEmpty) = !kvs.isEmpty:=by
 cases r <;> rfl
theorem pQ{xs:List V}{its:List Value}(r:Vals xs its):(!its.toArray.isEmpty) = !xs.isEmpty:=by
 cases r <;> simp
theorem lG:(sizeLine:Nat)<2 ^ 63:=by rw[uz];decide
theorem L_:Md X (fun x H Q=>∃k,Mg X.K x H k/\Q k H):=by
 intro pins s σ H x v Q I rx h;obtain⟨k,e,q⟩:=h;have hl:=lG;have hs:sizeLine=16777216:=uz;cases x with
 |non=>
  cases rx;have e':k=false:=e;subst e';exact truthy_none ⟨H,I,q⟩
 |bl b=>
  cases rx;have e':k=b:=e;subst e';exact Zd ⟨H,I,q⟩
 |int i=>
  obtain⟨t,rfl⟩:=rx;have e':k=(i != 0):=e;subst e';exact PySem.P.truthy_int ⟨H,I,q⟩
 |str y=>
  obtain⟨t,rfl⟩:=rx;obtain⟨hy,e'⟩:y.length<=sizeLine/\k=((y.length:Int) != 0):=e;subst e';exact PySem.P.truthy_str (by lia) ⟨H,I.tok _,q⟩
 |byt y=>
  obtain⟨t,rfl⟩:=rx;obtain⟨hy,e'⟩:y.size<=sizeLine/\k=((y.size:Int) != 0):=e;subst e';exact PySem.W.truthy_bytes (by lia) ⟨H,I.tok _,q⟩
 |ref p=>
  cases rx;have e':(∃xs,SqL X.K H p xs/\k = !xs.isEmpty)\/(∃xs,SqT X.K H p xs/\k = !xs.isEmpty)\/∃kvs,H p=some (.dK kvs)/\k = !kvs.isEmpty:=e;rcases e' with ⟨xs,hx,e'⟩|⟨xs,hx,e'⟩|⟨kvs,hx,e'⟩
  ·subst e'
   obtain⟨its,r,pl,hz⟩:=I.list hx;have hlen:=r.length;exact wpAny_truthy_list pl.isList (by simp only[z8];lia) ⟨H,I.tok _,by rw[pQ r];exact q⟩
  ·subst e'
   obtain⟨its,r,pl,hz⟩:=I.tuple hx;have hlen:=r.length;exact truthy_tuple pl (by simp only[z8];lia) ⟨H,I.tok _,by rw[pQ r];exact q⟩
  ·subst e'
   obtain⟨hz,hS,vs,r,m⟩:kvs.length<=sizeLine/\(p==ZE)=false/\∃vs,KV kvs vs/\s.heap.DictOf (bM X.prog X.w) p vs:=I.hok p _ hx;have hlen:kvs.length=vs.length:=Paired.length r;exact wpAny_truthy_dict hS m (by lia) ⟨H,I.tok _,by rw[yf r];exact q⟩
 |_=>exact(show False from e).elim
theorem xR:OpR X (binaryOp .Add) (fun x y H Q=>∃i j,x = .str i/\y = .str j/\i.length+j.length<=sizeLine/\Q (.str (i++j)) H):=by
 intro pins s σ H x y v u Q I rx ry h;obtain⟨i,j,rfl,rfl,hz,q⟩:=h;obtain⟨t,rfl⟩:=rx;obtain⟨t',rfl⟩:=ry;exact add_str (fun t' tk=>⟨.str (i++j),H,I.tok _,⟨_,rfl⟩,q⟩) hz
theorem d5(r:Vals [x] us):∃u,us=[u]/\RelV x u:=by
 cases r with
 |cons r1 r2=>cases r2;exact⟨_,rfl,r1⟩
theorem vS(r:Vals [x,y] us):∃u w',us=[u,w']/\RelV x u/\RelV y w':=by
 cases r with
 |cons r1 r2=>
  cases r2 with
  |cons r3 r4=>cases r4;exact⟨_,_,rfl,r1,r3⟩
theorem Ao(hc:X.calm=true):CallR X (.builtin "max") (fun xs H Q=>∃i j,xs=[.int i,.int j]/\Q (.int (if j > i then j else i)) H):=by
 intro pins s σ H xs us Q I r h;obtain⟨i,j,rfl,q⟩:=h;obtain⟨u,w',rfl,⟨t,rfl⟩,⟨t',rfl⟩⟩:=vS r;refine max_two_ints (I.ok.hd hc) fun h' tk k=>⟨_,H,I.kept k,?_,q⟩;by_cases hj:j > i
 ·rw[if_pos hj,if_pos hj];exact⟨_,rfl⟩
 ·rw[if_neg hj,if_neg hj];exact⟨_,rfl⟩
theorem zQ(hc:X.calm=true):CallR X (.builtin "min") (fun xs H Q=>∃i j,xs=[.int i,.int j]/\Q (.int (if j<i then j else i)) H):=by
 intro pins s σ H xs us Q I r h;obtain⟨i,j,rfl,q⟩:=h;obtain⟨u,w',rfl,⟨t,rfl⟩,⟨t',rfl⟩⟩:=vS r;refine min_two_ints (I.ok.hd hc) fun h' tk k=>⟨_,H,I.kept k,?_,q⟩;by_cases hj:j<i
 ·rw[if_pos hj,if_pos hj];exact⟨_,rfl⟩
 ·rw[if_neg hj,if_neg hj];exact⟨_,rfl⟩
theorem AS:CallR X (.type "int") (fun xs H Q=>(∃i,xs=[.int i]/\Q (.int i) H)\/∃k,xs=[.bl k]/\Q (.int (if k then 1 else 0)) H):=by
 intro pins s σ H xs us Q I r h;rcases h with ⟨i,rfl,q⟩|⟨k,rfl,q⟩
 ·obtain⟨u,rfl,t,rfl⟩:=d5 r
  exact call_int_int ⟨.int i,H,I,⟨_,rfl⟩,q⟩
 ·obtain⟨u,rfl,r1⟩:=d5 r
  cases r1;exact call_int_bool ⟨.int (if k then 1 else 0),H,I.tok _,⟨_,rfl⟩,q⟩
def LT(K:W.Frag)(x:V)(H:Hp)(n:Nat):Prop:=
 match x with
 | .str y=>y.length<=sizeLine/\n=y.length
 | .byt y=>y.size<=sizeLine/\n=y.size
 | .ref p=>(∃xs,SqL K H p xs/\n=xs.length)\/∃xs,SqT K H p xs/\n=xs.length
 |_=>False
theorem DG:CallR X (.builtin "len") (fun xs H Q=>∃x n,xs=[x]/\LT X.K x H n/\Q (.int n) H):=by
 intro pins s σ H xs us Q I r h;obtain⟨x,n,rfl,e,q⟩:=h;obtain⟨u,rfl,rx⟩:=d5 r;have hl:=lG;have hs:sizeLine=16777216:=uz;cases x with
 |str y=>
  obtain⟨t,rfl⟩:=rx;obtain⟨hy,e'⟩:y.length<=sizeLine/\n=y.length:=e;subst e';exact len_str (by lia) ⟨.int _,H,I.tok _,⟨_,rfl⟩,q⟩
 |byt y=>
  obtain⟨t,rfl⟩:=rx;obtain⟨hy,e'⟩:y.size<=sizeLine/\n=y.size:=e;subst e';exact PySem.W.len_bytes (by lia) ⟨.int _,H,I.tok _,⟨_,rfl⟩,q⟩
 |ref p=>
  cases rx;have e':(∃xs,SqL X.K H p xs/\n=xs.length)\/∃xs,SqT X.K H p xs/\n=xs.length:=e;rcases e' with ⟨xs,hx,e'⟩|⟨xs,hx,e'⟩
  ·subst e'
   obtain⟨its,r',pl,hz⟩:=I.list hx;have hlen:=r'.length;exact Calls.call_len_list pl.isList (by simp only[z8];lia) ⟨.int xs.length,H,I.tok _,⟨_,by simp only[z8];rw[hlen]⟩,q⟩
  ·subst e'
   obtain⟨its,r',pl,hz⟩:=I.tuple hx;have hlen:=r'.length;exact len_tuple pl (by simp only[z8];lia) ⟨.int xs.length,H,I.tok _,⟨_,by simp only[z8];rw[hlen]⟩,q⟩
 |_=>exact(show False from e).elim
end
structure ObjM(h:Heap)(x dx C:Addr)(mA:Str->Option Value):Prop where
 obj:h.get? x=some (Yo C dx)
 ns:h.Ns1 dx mA
 ne:dx≠x
theorem At{h:Heap}(n:h.Ns1 dx mA):∃od,h.get? dx=some od/\∀name,PySem.W.lookIn name od=some (mA name):=by
 obtain⟨o,es,ep,ho,hd,hk,_,hm⟩:=n;refine⟨o,ho,fun name=>?_⟩;have e:=hm name;unfold nsFind findBy at e;rw[<- Array.find?_toList]at e;unfold PySem.W.lookIn;rw[hd];dsimp only;split
 ·rename_i y q
  rw[q]at e;exact congrArg some e
 ·rename_i q
  rw[q]at e;have a:es.toList.any (·.refKey)=false:=by
   rw[List.any_eq_false];intro y hy;obtain⟨z,t,hkey⟩:=hk y (Array.mem_toList_iff.mp hy);simp[YM.refKey,hkey]
  have a':¬ es.toList.any (·.refKey)=true:=by rw[a];exact vX
  rw[if_neg a'];exact congrArg some e
theorem ObjM.look(I:ObjM h x dx C mA):∃od,PySem.W.InstAt h x (Yo C dx) C (some od)/\∀name,PySem.W.lookIn name od=some (mA name):=
 let ⟨od,ho,hl⟩:=At I.ns
 ⟨od,⟨I.obj,rfl,rfl,ho⟩,hl⟩
section
variable{prog:Program}{w:World}{A:Around}{E:Value->Shared->Prop}{s:Shared}{K:W.Frag}{x dx C f:Addr}{mA:Str->Option Value}{name:Str}{v:Value}
theorem Fg(X:K.In s.heap)(I:ObjM s.heap x dx C mA)(hg:PySem.W.plainGet K C name=true)(hh:Y3 K C=true)
 (ha:Zu K (.ref C) name=some none) (hv:mA name=some v) (hv':PySem.W.handedIn v=true) (h:Q v { s with toks:=s.toks+1 }) :
 wpAny (model prog w) A (getAttr (.ref x) name expr) Q E s:=by
 obtain⟨od,J,hl⟩:=I.look;exact PySem.W.get_value X J (PySem.W.plainGet_of hg).1 (PySem.W.findObj_own hh ha rfl (by rw[hl,hv])) hv' h
theorem Bl{Q:Value × List Value->Shared->Prop}(X:K.In s.heap)(I:ObjM s.heap x dx C mA)(hg:PySem.W.plainGet K C name=true)
 (hf:Zu K (.ref C) name=some (some (.ref f))) (ht:PySem.W.isFn K (.ref f)=true) (hv:mA name=none) (h:Q (.ref f,[.ref x]) s) :
 wpAny (model prog w) A (getMethod (.ref x) name pl) Q E s:=by
 obtain⟨od,J,hl⟩:=I.look;exact PySem.W.method_fn X J (PySem.W.plainGet_of hg).1 (PySem.W.plainGet_of hg).2 hf (beq_iff_eq.mp ht) (by show(PySem.W.lookIn name od).map (·.isSome)=some false;rw[hl,hv];rfl) h
theorem Fc{ns:List Str}(X:K.In s.heap)(I:ObjM s.heap x dx C mA)
 (hs:Zu K (.ref C) "__setattr__" = some (some (.builtin "object.__setattr__"))) (hp:PySem.W.plainOver K C=true) (ht:PySem.W.takerIn K C name=some none) (hh:Y3 K C=true)
 (hw:PySem.Within mA ns) (hsz:ns.length<=sizeLine)
 (h:∀h',ObjM h' x dx C (fun y=>if y=name then some v else mA y)->Heap.SameBut dx s.heap h'->Q () { s with heap:=h',toks:=s.toks+2 }) :
 wpAny (model prog w) A (setAttr (.ref x) name v) Q E s:=by
 obtain⟨od,J,hl⟩:=I.look;refine PySem.W.set_plain X J hs (PySem.W.osa_open (s:={ s with toks:=s.toks+1 }) (r:=none) X J hp ht fun b=>?_);obtain⟨cd,hc,hd'⟩:=PySem.W.any_some hh;have hx:s.heap.get? x=some ⟨.ref C,some dx,.plain,#[]⟩:=I.obj;refine zZ (xc (zZ (zZ (wpAny_loadPart hx (zZ (PySem.W.Looks.here (s:={ s with toks:=s.toks+1 }) (PySem.W.looks_clsIn X hc) ?_))))));rw[hd'];refine xc (a:=some dx) (zZ (xc (zZ ?_)));refine wpAny_nsSet1 (s:={ s with toks:=s.toks+1 }) I.ns fun h' hn2 hs2=>?_;obtain⟨oD,esD,epD,hoD,hdD,hcD⟩:=hn2.count (PySem.Within.cons name v hw);refine zZ (wpAny_lookBehind hoD (by rw[hdD];exact pastItsLine_dict (Zt hcD (by rw[sq];lia))) ?_);exact xc (h _ ⟨(hs2.2 _ (Ne.symm I.ne)).trans I.obj,hn2,I.ne⟩ hs2)
theorem BN(X:K.In s.heap)(hm:PySem.W.makesIn K C=true)
 (hi:Zu K (.ref C) "__init__" = some (some (.ref f))) (hf:PySem.W.typeIn K (.ref f)=some (.type "function"))
 (h:codeAny (model prog w) (A.under (.builtin "type.__call__" ⟨.ref C::vs,kw⟩)) (.call (.ref f) ⟨.ref (s.heap.objs.size+1)::vs,kw⟩) (PySem.W.InitBack (s.heap.objs.size+1) R)
  { s with heap:=(s.heap.push ZB).push (Yo C s.heap.objs.size) }) :
 codeAny (model prog w) A (.call (.ref C) ⟨vs,kw⟩) R s:=by
 obtain⟨hh,g,d,t,os⟩:=s;exact PySem.W.make_core (PySem.W.makes_of X hm) (PySem.W.looks_findIn X hi) (fun self=>PySem.W.bind_fn X self hf) (.inl rfl) h
end
noncomputable def cZ(f:Str)(v:V):List (Str × V)->List (Str × V)
 | []=>[(f,v)]
 |(g,x)::r=>if g=f then (g,v)::r else (g,x)::cZ f v r
theorem m8(f g:Str)(v:V):∀fs:List (Str × V),(cZ f v fs).lookup g=if g=f then some v else fs.lookup g
 | []=>by
  show vL g [(f,v)]=_;by_cases h:g=f
  ·have hb:(g==f)=true:=beq_iff_eq.mpr h
   simp only[vL,hb,if_pos h]
  ·have hb:(g==f)=false:=beq_eq_false_iff_ne.mpr h
   simp only[vL,hb,if_neg h]
 |(k,x)::r=>by
  have ih:=m8 f g v r;rw[show cZ f v ((k,x)::r)=(if k=f then (k,v)::r else (k,x)::cZ f v r) from rfl];by_cases hk:k=f
  ·rw[if_pos hk]
   by_cases h:g=k
   ·have hb:(g==k)=true:=beq_iff_eq.mpr h
    simp only[vL,hb,if_pos (h.trans hk)]
   ·have hb:(g==k)=false:=beq_eq_false_iff_ne.mpr h
    simp only[vL,hb,if_neg (fun e:g=f=>h (e.trans hk.symm))]
  ·rw[if_neg hk]
   by_cases h:g=k
   ·have hb:(g==k)=true:=beq_iff_eq.mpr h
    simp only[vL,hb,if_neg (fun e:g=f=>hk (h.symm.trans e))]
   ·have hb:(g==k)=false:=beq_eq_false_iff_ne.mpr h
    simp only[vL,hb];exact ih
theorem mf(f:Str)(v:V):∀fs:List (Str × V),f∈(cZ f v fs).map (·.1)/\∀g,g∈fs.map (·.1)->g∈(cZ f v fs).map (·.1)
 | []=>⟨by simp[cZ],fun g h=>by simp at h⟩
 |(k,x)::r=>by
  obtain⟨i1,i2⟩:=mf f v r;rw[show cZ f v ((k,x)::r)=(if k=f then (k,v)::r else (k,x)::cZ f v r) from rfl];by_cases hk:k=f
  ·rw[if_pos hk]
   subst hk;exact⟨by simp,fun g h=>by simpa using h⟩
  ·rw[if_neg hk]
   refine⟨?_,fun g h=>?_⟩
   ·rw[wV]
    exact sU _ i1
   ·rw[wV]at h |-
    rcases zO.mp h with e|e
    ·exact zO.mpr (.inl e)
    ·exact sU _ (i2 g e)
theorem nn(f:Str)(v:V):∀fs:List (Str × V),(cZ f v fs).length<=fs.length+1
 | []=>by simp[cZ]
 |(k,x)::r=>by
  have ih:=nn f v r;rw[show cZ f v ((k,x)::r)=(if k=f then (k,v)::r else (k,x)::cZ f v r) from rfl];by_cases hk:k=f
  ·rw[if_pos hk,sq,sq];lia
  ·rw[if_neg hk,sq,sq];lia
theorem RelO.some_of(r:RelO (some v) o):∃u,o=some u/\RelV v u:=by
 cases o with
 |none=>exact(show False from r).elim
 |some u=>exact⟨u,rfl,r⟩
theorem RelO.none_of(r:RelO none o):o=none:=by
 cases o with
 |none=>rfl
 |some u=>exact(show False from r).elim
theorem z7(r:RelV v u):PySem.W.handedIn u=true:=by
 cases v with
 |non=>cases (show u=Z2 from r);rfl
 |bl b=>cases (show u=Value.bool b from r);rfl
 |int i=>obtain⟨t,e⟩:=(show ∃t,u=Xv i t from r);cases e;rfl
 |str x=>obtain⟨t,e⟩:=(show ∃t,u=Ys x t from r);cases e;rfl
 |byt b=>obtain⟨t,e⟩:=(show ∃t,u=Value.bytes b t from r);cases e;rfl
 |flt b=>obtain⟨t,e⟩:=(show ∃t,u=Value.float b t from r);cases e;rfl
 |ref a=>cases (show u=wU a from r);rfl
 |ty n=>cases (show u=Yi n from r);rfl
section
variable{P:Program}{w:World}{H H':Hp}{h h':Heap}{a C dx:Addr}{fs fs':List (Str × V)}
theorem ou(hok:HOk P w H h)(e:H a=some (.ins C dx fs)):∃mA,ObjM h a dx C mA/\(∀f,RelO (fs.lookup f) (mA f))/\PySem.Within mA (fs.map (·.1))/\fs.length<=1000/\H dx=some (.own a):=by
 obtain⟨d,z,ne,ob,mA,n,r,q⟩:=(show ObjOk P w H h a (.ins C dx fs) from hok a _ e);exact⟨mA,⟨ob,n,ne⟩,r,q,z,d⟩
end
structure Cls(K:W.Frag)(C:Addr):Prop where
 pg:PySem.W.plainGet K C Str.empty=true
 hd:Y3 K C=true
 po:PySem.W.plainOver K C=true
 sa:Zu K (.ref C) "__setattr__" = some (some (.builtin "object.__setattr__"))
theorem Cls.get{K:W.Frag}{C:Addr}(c:Cls K C)(f:Str):PySem.W.plainGet K C f=true:=c.pg
def NoAttr(K:W.Frag)(C:Addr)(f:Str):Prop:=Zu K (.ref C) f=some none
theorem NoAttr.taker{K:W.Frag}{C:Addr}{f:Str}(n:NoAttr K C f):PySem.W.takerIn K C f=some none:=by
 unfold PySem.W.takerIn;rw[show Zu K (.ref C) f=some none from n]
 rfl
structure Au(K:W.Frag)(C:Addr)(m:Str)(f:Addr):Prop where
 at_:Zu K (.ref C) m=some (some (.ref f))
 fn:PySem.W.isFn K (.ref f)=true
 kp:Z4 K (.ref f)=true
section
variable{X:Cx}{pins:List (Addr × Obj)}{σ:St}{H:Hp}{s:Shared}{a C dx:Addr}{fs:List (Str × V)}{f:Str}{v:V}{A:Around}{E:Value->Shared->Prop}
theorem wQ{b:Bool}{Q:Value->Shared->Prop}(I:Inv X pins σ H s)(e:H a=some (.ins C dx fs))(c:Cls X.K C)(n:NoAttr X.K C f)(l:fs.lookup f=some v)
 (h:∀u s',Inv X pins σ H s'->RelV v u->Q u s'):wpAny (model X.prog X.w) A (getAttr (.ref a) f b) Q E s:=by
 obtain⟨mA,O,r,_,_,_⟩:=ou I.hok e;obtain⟨u,hu,ru⟩:=RelO.some_of (v:=v) (o:=mA f) (by rw[<- l];exact r f);exact Fg I.kIn O (c.get f) c.hd n hu (z7 ru) (h u _ (I.tok _) ru)
theorem py{m:Str}{g:Addr}{pl:Sem Bool}{Q:Value × List Value->Shared->Prop}(I:Inv X pins σ H s)(e:H a=some (.ins C dx fs))(c:Cls X.K C)(k:Au X.K C m g)(l:fs.lookup m=none)
 (h:Q (.ref g,[.ref a]) s):wpAny (model X.prog X.w) A (getMethod (.ref a) m pl) Q E s:=by
 obtain⟨mA,O,r,_,_,_⟩:=ou I.hok e;have hn:mA m=none:=RelO.none_of (by rw[<- l];exact r m);exact Bl I.kIn O (c.get m) k.at_ k.fn hn h
theorem wG{y:V}{u:Value}{Q:Unit->Shared->Prop}(I:Inv X pins σ H s)(e:H a=some (.ins C dx fs))(c:Cls X.K C)(n:NoAttr X.K C f)(hl:fs.length<1000)(ry:RelV y u)
 (h:∀s',Inv X pins σ (upd H a (.ins C dx (cZ f y fs))) s'->Q () s'):wpAny (model X.prog X.w) A (setAttr (.ref a) f u) Q E s:=by
 obtain⟨mA,O,r,wi,_,ho⟩:=ou I.hok e;have hz:(fs.map (·.1)).length<=sizeLine:=by rw[zV,uz];lia
 refine Fc I.kIn O c.sa c.po n.taker c.hd wi hz fun h' O' sb=>h _ ?_;have hd:∃o,h'.get? dx=some o:=let ⟨o,_,_,e',_⟩:=O'.ns;⟨o,e'⟩;refine I.write (x:=a) (e:=dx) (by rw[e];exact ZD) (.inr ho) (fun b q hb z=>(sb.2 b hb).trans z) hd ?_;refine⟨by rw[ai O.ne];exact ho,?_,O.ne,O'.obj,_,O'.ns,fun g=>?_,fun g hg=>?_⟩
 ·have:=nn f y fs;lia
 ·show RelO ((cZ f y fs).lookup g) (if g=f then some u else mA g)
  rw[m8];by_cases q:g=f
  ·rw[if_pos q,if_pos q];exact ry
  ·rw[if_neg q,if_neg q];exact r g
 ·by_cases q:g=f
  ·rw[q];exact(mf f y fs).1
  ·refine(mf f y fs).2 g (wi g fun z=>hg ?_)
   show(if g=f then some u else mA g)=none;rw[if_neg q];exact z
theorem Inv.made(I:Inv X pins σ H s):Inv X pins σ (upd (upd H s.heap.objs.size (.own (s.heap.objs.size+1))) (s.heap.objs.size+1) (.ins C s.heap.objs.size []))
 { s with heap:=(s.heap.push ZB).push (Yo C s.heap.objs.size) }:=by
 have e1:(s.heap.push ZB).get? s.heap.objs.size=some ZB:=Heap.get?_push_size s.heap rfl;have e2:((s.heap.push ZB).push (Yo C s.heap.objs.size)).get? (s.heap.objs.size+1)=some (Yo C s.heap.objs.size):=by
  have:=Heap.get?_push_size (s.heap.push ZB) (o:=Yo C s.heap.objs.size) rfl
  rwa [Heap.size_push]at this
 have e3:(s.heap.push ZB).Ns s.heap.objs.size (fun _=>none):=⟨ZB,#[],_,e1,rfl,(fun e he=>absurd he (by simp)),fun _=>rfl⟩;have I1:=I.laid (a:=s.heap.objs.size) (o:=.own (s.heap.objs.size+1)) (h':=s.heap.push ZB) (t':=s.toks) (fun b u q=>Heap.get?_push_of_some _ q) (xU _) ⟨_,e1⟩;refine I1.laid (a:=s.heap.objs.size+1) (o:=.ins C s.heap.objs.size []) (t':=s.toks) (fun b u q=>Heap.get?_push_of_some _ q) (Nat.le_of_eq (Heap.size_push _ _)) ?_;have ne:s.heap.objs.size≠s.heap.objs.size+1:=tG (Nat.lt_succ_self _);refine⟨by rw[ai ne,af],Zv _,ne,e2,fun _=>none,(Heap.Ns1.of_empty e3).at fun o q=>Heap.get?_push_of_some _ q,fun _=>ZD,fun y hy=>absurd rfl hy⟩
theorem Ec{prog:Program}{w:World}{env:Env}{e:Expr}{f:Str}{pos:Pos}{s:Shared}{Q:Value->Shared->Prop}(hb:YR e f env (eval e env)=eval e env)
 (h:wpAny (model prog w) A (eval e env) (fun o s₁=>wpAny (model prog w) A (getAttr o f true) Q E s₁) E s):wpAny (model prog w) A (eval (.Attribute e f pos) env) Q E s:=
 Attribute_any_ h (by rw[arm_eval_Attribute,hb])
end
section
variable{X:Cx}{pins:List (Addr × Obj)}{σ:St}{H:Hp}{s:Shared}{A:Around}{E:Value->Shared->Prop}{Q:Value->Shared->Prop}{c:Value}{b:Bool}
inductive j5 (K:W.Frag) (H:Hp):V->Value->Prop where
 |non:j5 K H .non (.type "NoneType")
 |bl (x:Bool):j5 K H (.bl x) (.type "bool")
 |int (i:Int):j5 K H (.int i) (.type "int")
 |str (x:Str):j5 K H (.str x) (.type "str")
 |flt (x:UInt64):j5 K H (.flt x) (.type "float")
 |lst {a:Addr} {xs:List V} (e:H a=some (.lst xs)):j5 K H (.ref a) (.type "list")
 |frz {a:Addr} {o:Obj} {xs:List V} (e:H a=some (.frz o (.lst xs))):j5 K H (.ref a) (.type "list")
 |tup {a:Addr} {xs:List V} (e:H a=some (.tup xs)):j5 K H (.ref a) (.type "tuple")
 |dK {a:Addr} {kvs:List (Key × V)} (e:H a=some (.dK kvs)):j5 K H (.ref a) (.type "dict")
 |dT {a:Addr} {kvs:List (List Key × V)} (e:H a=some (.dT kvs)):j5 K H (.ref a) (.type "dict")
 |ins {a C dx:Addr} {fs:List (Str × V)} (e:H a=some (.ins C dx fs)) (cl:Cls K C) (ha:Zu K (.ref C) "__class__" = some (some (.builtin "object.__class__")))
  (hn:PySem.W.specialIn K (.builtin "object.__class__") "__get__" = some (some (.builtin "getset_descriptor.__get__"))) (htk:PySem.W.takesIn K (.builtin "object.__class__")=some true)
  (hm:Z1 K C (.type "object")=some true):j5 K H (.ref a) (.ref C)
theorem zY(I:Inv X pins σ H s)(rx:RelV x u)(ty:j5 X.K H x t)(e:Zr X.K t c=some b)(h:∀tk,Q (.bool b) { s with toks:=tk }) :
 wpAny (model X.prog X.w) A (call (.builtin "isinstance") [u,c]) Q E s:=by
 cases ty with
 |non=>cases (show u=Z2 from rx);exact ZI PySem.W.kitx_none I.kIn ZD e (fun z=>nomatch z) h
 |bl y=>cases (show u=Value.bool y from rx);exact ZI PySem.W.kitx_bool I.kIn ZD e (fun z=>nomatch z) h
 |int i=>obtain⟨t,q⟩:=(show ∃t,u=Xv i t from rx);cases q;exact ZI PySem.W.kitx_int I.kIn ZD e (fun z=>nomatch z) h
 |str y=>obtain⟨t,q⟩:=(show ∃t,u=Ys y t from rx);cases q;exact ZI PySem.W.kitx_str I.kIn ZD e (fun z=>nomatch z) h
 |flt y=>obtain⟨t,q⟩:=(show ∃t,u=Value.float y t from rx);cases q;exact ZI PySem.W.kitx_float I.kIn ZD e (fun z=>nomatch z) h
 | @lst a xs ea=>
  cases (show u=wU a from rx);obtain⟨_,_,n,_,h1⟩:=(show ObjOk X.prog X.w H s.heap a (.lst xs) from I.hok a _ ea);exact ZI PySem.W.kitx_list I.kIn ⟨_,h1,rfl⟩ e (fun z=>nomatch z) h
 | @frz a ob xs ea=>
  cases (show u=wU a from rx);obtain⟨_,_,_,n,_,h1⟩:=(show ObjOk X.prog X.w H s.heap a (.frz ob (.lst xs)) from I.hok a _ ea);exact ZI PySem.W.kitx_list I.kIn ⟨_,h1,rfl⟩ e (fun z=>nomatch z) h
 | @tup a xs ea=>
  cases (show u=wU a from rx);obtain⟨_,_,_,p⟩:=(show ObjOk X.prog X.w H s.heap a (.tup xs) from I.hok a _ ea);obtain⟨o,h1,h2,_⟩:=p;exact ZI PySem.W.kitx_tuple I.kIn ⟨o,h1,h2⟩ e (fun z=>nomatch z) h
 | @dK a kvs ea=>
  cases (show u=wU a from rx);obtain⟨_,_,vs,_,p⟩:=(show ObjOk X.prog X.w H s.heap a (.dK kvs) from I.hok a _ ea);obtain⟨o,es,ep,h1,h2,_⟩:=p;exact ZI PySem.W.kitx_dict I.kIn ⟨o,h1,h2.1⟩ e (fun z=>nomatch z) h
 | @dT a kvs ea=>
  cases (show u=wU a from rx);obtain⟨_,_,xs,_,o,es,ep,h1,h2,_⟩:=(show ObjOk X.prog X.w H s.heap a (.dT kvs) from I.hok a _ ea);exact ZI PySem.W.kitx_dict I.kIn ⟨o,h1,h2.1⟩ e (fun z=>nomatch z) h
 | @ins a C dx fs ea cl ha hn htk hm=>
  cases (show u=wU a from rx);obtain⟨mA,O,_⟩:=ou I.hok ea;obtain⟨od,J,_⟩:=O.look;exact ZI (PySem.W.kitx_own (cl.get _) cl.hd ha hn htk hm) I.kIn J e (fun z=>nomatch z) h
end
structure Room(k:Nat)(A:Around):Prop where
 hd:A.handled=none
 dp:A.depth+3*k+5<recursionLimit
 un:A.units+16*k+200<cLine
theorem Room.mono(r:Room k A)(h:j<=k:=by decide):Room j A:=⟨r.hd,by have:=r.dp;lia,by have:=r.un;lia⟩
theorem Room.deeper{A:Around}(r:Room (k+1) A)(env:Env):Room k (A.deeper env):=
 ⟨r.hd,by have:=r.dp;show A.depth+1+3*k+5<_;lia,by have:=r.un;show A.units+3+16*k+200<_;lia⟩
theorem wT{A:Around}:(A.under (.builtin "type.__call__" ⟨.ref C::us,kw⟩)).depth=A.depth+1:=by
 first|rfl|simp[Around.under,Code.weight,Code.isCreation,Code.isGuard,Code.isCaller,Code.frames,Code.isFrame,guardIds]
theorem ye{A:Around}:(A.under (.builtin "type.__call__" ⟨.ref C::us,kw⟩)).units=A.units+1:=by
 first|rfl|simp[Around.under,Code.cUnits,Code.frames,Code.isFrame]
theorem Room.make{A:Around}(r:Room (k+1) A)(C:Addr)(us:List Value)(kw:List (Str × Value)):Room k (A.under (.builtin "type.__call__" ⟨.ref C::us,kw⟩)):=
 ⟨r.hd,by have:=r.dp;rw[wT];lia,by have:=r.un;rw[ye];lia⟩
theorem Room.depth{A:Around}(r:Room k A):A.depth<recursionLimit:=by have:=r.dp;lia
def ky:TA:=fun _ H Q=>Q [] H
def c_(ta:TE)(tr:TA):TA:=fun σ H Q=>ta σ H fun x H1=>tr σ H1 fun xs H2=>Q (x::xs) H2
section
variable{X:Cx}{e:Expr}{es:List Expr}{te:TE}{t:TA}{pos:Pos}
theorem IV:PA X [] ky:=fun _ _ _ _ H Q I h=>Calls.spliced_nil ⟨[],H,I,.nil,h⟩
theorem EH(ha:PE X e te)(hr:PA X es t)(hs:starEach (e::es) X.env=(false,eval e X.env)::starEach es X.env:=by rfl):PA X (e::es) (c_ te t):=by
 intro pos pins s σ H Q I h;rw[hs];show wpAny _ _ (spliced ((false,eval e X.env)::backTo pos (starEach es X.env))) _ _ s;refine Xg (thn (ha pins s σ H _ I h) fun u s1 hq_=>?_);obtain⟨x,H1,I1,r1,q1⟩:=hq_;exact thn (hr pos pins s1 σ H1 _ I1 q1) fun us s2 hq_=>(by obtain⟨xs,H2,I2,r2,q2⟩:=hq_;exact⟨x::xs,H2,I2,.cons r1 r2,q2⟩)
def Lu(t:TA):TE:=fun σ H Q=>t σ H fun xs H1=>xs.length<=sizeLine/\∀p,H1 p=none->Q (.ref p) (upd H1 p (.tup xs))
def JZ(t:TA):TE:=fun σ H Q=>t σ H fun xs H1=>xs.length<=sizeLine/\∀p,H1 p=none->Q (.ref p) (upd H1 p (.lst xs))
theorem b7{x1}(h:PA X es t):PE X (.Tuple es x1 pos) (Lu t):=by
 intro pins s σ H Q I hq;refine wpAny_Tuple_spliced (thn (h pos pins s σ H _ I hq) fun us s1 ⟨xs,H1,I1,r,z,q⟩=>⟨by rw[<- r.length];exact z,?_⟩);have hf:H1 s1.heap.objs.size=none:=I1.hok.fresh (xU _);refine⟨.ref s1.heap.objs.size,upd H1 s1.heap.objs.size (.tup xs),I1.laid (t':=s1.toks) (fun b u e=>Heap.get?_push_of_some _ e) (xU _) ?_,rfl,q _ hf⟩;exact⟨z,us,r,⟨_,Heap.get?_push_size _ rfl,rfl,_,rfl⟩⟩
theorem cj(h:PA X es t):PE X (.List es pos) (JZ t):=by
 intro pins s σ H Q I hq;refine wpAny_List_spliced (thn (h pos pins s σ H _ I hq) fun us s1 ⟨xs,H1,I1,r,z,q⟩=>⟨by rw[<- r.length];exact z,?_⟩);have hf:H1 s1.heap.objs.size=none:=I1.hok.fresh (xU _);refine⟨.ref s1.heap.objs.size,upd H1 s1.heap.objs.size (.lst xs),I1.laid (t':=s1.toks) (fun b u e=>Heap.get?_push_of_some _ e) (xU _) ?_,rfl,q _ hf⟩;exact⟨z,us,0,r,Heap.get?_push_size _ rfl⟩
end
abbrev Sp:=List V->Hp->VK->XK->Prop
abbrev CXT:=List Env->Hp->Shared->XK->Value->Shared->Prop
structure Env0(P:Program)(w:World)(K:W.Frag)(mg:Str->Option Value)(base:Heap)(A:Around)(outer:List Env)(s:Shared)(H:Hp):Prop where
 frames:A.frames=some outer
 mod:Mod K mg base
 bs:∀b o,base.get? b=some o->s.heap.get? b=some o/\H b=none
 bsz:base.objs.size<=s.heap.objs.size
 funs:s.heap.FunFrames base outer
 frf:∀b∈frs outer,H b=none
 hok:HOk P w H s.heap
 bare:AllBare s.gens
def CE(outer:List Env)(P:Program)(w:World)(H:Hp)(s:Shared)(Q:VK)(u:Value)(s':Shared):Prop:=
 ∃v H',s'.os=s.os/\AllBare s'.gens/\Un (frs outer) [] H H' s.heap s'.heap/\HOk P w H' s'.heap/\RelV v u/\Q v H'
def CR(CX:CXT)(outer:List Env)(P:Program)(w:World)(H:Hp)(s:Shared)(Q:VK)(E:XK)(r:Result)(s':Shared):Prop:=
 match r with
 | .ok (.ret u)=>CE outer P w H s Q u s'
 | .ok _=>False
 | .error e=>CX outer H s E e s'
structure ig(P:Program)(w:World)(K:W.Frag)(mg:Str->Option Value)(base:Heap)(CX:CXT)(k:Nat)(f:Addr)(fd:FuncData)(ps:List Str)(sp:Sp):Prop where
 len:∀vs H Q E,sp vs H Q E->vs.length=ps.length
 run:∀(A:Around) (outer:List Env) (s:Shared) (H:Hp) (args:Args) (us:List Value) (vs:List V) (Q:VK) (E:XK),Room k A->Env0 P w K mg base A outer s H->BindsTo s fd args (ps.zip us)->Vals vs us->sp vs H Q E ->
  codeAny (model P w) A (.call (.ref f) args) (CR CX outer P w H s Q E) s
theorem Env0.make{P:Program}{w:World}{K:W.Frag}{mg:Str->Option Value}{base:Heap}{A:Around}{outer:List Env}{s:Shared}{H:Hp}(e:Env0 P w K mg base A outer s H)(C:Addr)(us:List Value)(kw:List (Str × Value)) :
 Env0 P w K mg base (A.under (.builtin "type.__call__" ⟨.ref C::us,kw⟩)) outer s H:=⟨by first|exact e.frames|(simpa [Around.under,Code.envs,Code.isFrame,pushEnvs] using e.frames),e.mod,e.bs,e.bsz,e.funs,e.frf,e.hok,e.bare⟩
section
variable{X:Cx}{pins:List (Addr × Obj)}{σ:St}{H:Hp}{s s':Shared}
theorem Inv.env0(I:Inv X pins σ H s):Env0 X.prog X.w X.K X.mg X.base X.A X.stack s H:=
 ⟨I.ok.frames,I.ok.mod,I.bs,Zt I.ok.bsz I.sz,I.stack,I.stkFree,I.hok,I.bare⟩
theorem Inv.after(I:Inv X pins σ H s)(h:CE X.stack X.prog X.w H s Q u s'):EP X pins σ Q u s':=by
 obtain⟨v,H',os,bare,un,hok,r,q⟩:=h;obtain⟨hh,g,d,t,os'⟩:=s';obtain rfl:os'=s.os:=os;exact⟨v,H',I.call (h':=hh) (g':=g) (d':=d) (t':=t) (ch:=[]) un hok bare (fun b z=>absurd z (by simp)),r,q⟩
end
def Binds(K:W.Frag)(fd:FuncData)(ps:List Str)(ds:List Value):Prop:=
 ∀(s:Shared) (us:List Value),K.In s.heap->(us++ds).length=ps.length->BindsTo s fd ⟨us,[]⟩ (ps.zip (us++ds))
theorem Binds.all{K:W.Frag}{fd:FuncData}{ps:List Str}(h:∀us:List Value,us.length=ps.length->bindArgs fd ⟨us,[]⟩=pure (ps.zip us)):Binds K fd ps []:=fun s us _ hl=>by
 rw[Ze]at hl |-
 exact .of_eq (h us hl)
section
variable{X:Cx}{CX:CXT}{k:Nat}{f C:Addr}{fd:FuncData}{ps:List Str}{sp:Sp}{dvs:List V}{ds:List Value}{E:XK}{x m:Str}{p pos apos:Pos}{e o:Expr}{es:List Expr}{ta:TE}{t:TA}
structure Mk(K:W.Frag)(C f:Addr):Prop where
 makes:PySem.W.makesIn K C=true
 init:Zu K (.ref C) "__init__" = some (some (.ref f))
 fn:PySem.W.isFn K (.ref f)=true
 kp:Z4 K (.ref C)=true
end
structure dA(N P:List Str)(sc:Scope):Prop where
 kind:sc.kind = .function
 co:sc.isCoroutine=false
 gen:sc.isGenerator=false
 nd:N.Nodup
 pre:N.take P.length=P
 par:∀x∈P,sc.names.lookup x=some .local\/sc.names.lookup x=some .cell
 nofree:∀y∈sc.names,y.2 ≠ .free
theorem rA{kindOf:Str->Option NameKind}{x:Str}:∀ {binds:List (Str × Value)} {m:Str->Option Value},(∀v,(x,v)∉binds)->bindL kindOf binds m x=m x
 | [],_,_=>rfl
 |(n,v)::r,m,h=>by
  unfold bindL;rw[rA fun w hw=>h w (sU _ hw)];split
  ·have:x≠n:=by rintro rfl;exact h v Yw
   simp[this]
  ·rfl
theorem rF{kindOf:Str->Option NameKind}{x:Str}:∀ {binds:List (Str × Value)} {m:Str->Option Value},(∀v,(x,v)∉binds)->bindC kindOf binds m x=m x
 | [],_,_=>rfl
 |(n,v)::r,m,h=>by
  unfold bindC;rw[rF fun w hw=>h w (sU _ hw)];split
  ·rfl
  ·have:x≠n:=by rintro rfl;exact h v Yw
   simp[this]
theorem qT{kindOf:Str->Option NameKind}{x:Str}{v:Value}:∀ {P:List Str} {vs:List Value} {i:Nat} {m:Str->Option Value},P.Nodup->P[i]? = some x->vs[i]? = some v->kindOf x=some .local ->
 bindL kindOf (P.zip vs) m x=some v
 | [],_,_,_,_,h,_,_=>by simp at h
 |_::_,[],_,_,_,_,h,_=>by simp at h
 |p::P,w::vs,0,m,nd,h1,h2,hk=>by
  simp at h1 h2;subst h1;subst h2;show bindL kindOf ((p,w)::P.zip vs) m p=_;unfold bindL;rw[rA fun v hv=>(Zi.mp nd).1 (List.of_mem_zip hv).1,if_pos hk];simp
 |p::P,w::vs,i+1,m,nd,h1,h2,hk=>by
  show bindL kindOf ((p,w)::P.zip vs) m x=_;unfold bindL;exact qT (i:=i) (Zi.mp nd).2 (by simpa using h1) (by simpa using h2) hk
theorem rX{kindOf:Str->Option NameKind}{x:Str}{v:Value}:∀ {P:List Str} {vs:List Value} {i:Nat} {m:Str->Option Value},P.Nodup->P[i]? = some x->vs[i]? = some v->kindOf x≠some .local ->
 bindC kindOf (P.zip vs) m x=some v
 | [],_,_,_,_,h,_,_=>by simp at h
 |_::_,[],_,_,_,_,h,_=>by simp at h
 |p::P,w::vs,0,m,nd,h1,h2,hk=>by
  simp at h1 h2;subst h1;subst h2;show bindC kindOf ((p,w)::P.zip vs) m p=_;unfold bindC;rw[rF fun v hv=>(Zi.mp nd).1 (List.of_mem_zip hv).1,if_neg hk];simp
 |p::P,w::vs,i+1,m,nd,h1,h2,hk=>by
  show bindC kindOf ((p,w)::P.zip vs) m x=_;unfold bindC;exact rX (i:=i) (Zi.mp nd).2 (by simpa using h1) (by simpa using h2) hk
noncomputable def eD(N:List Str)(vs:List V):St:=vs.map some++Zm (N.length-vs.length) none
noncomputable def cp(CX:CXT)(P:Program)(w:World)(K:W.Frag)(mg:Str->Option Value)(base:Heap)(N:List Str)(qual:Str)(scope:Scope)(f:Addr)(cd:Value)(A:Around)(outer:List Env)(s:Shared)(H:Hp)(E:XK):Cx where
 prog:=P
 w:=w
 K:=K
 mg:=mg
 base:=base
 A:=A.deeper (envOfC qual scope s.heap.objs.size f cd)
 N:=N
 s₀:=s
 H₀:=H
 env:=envOfC qual scope s.heap.objs.size f cd
 outer:=outer
 stack:=envOfC qual scope s.heap.objs.size f cd::outer
 ex:=[]
 calm:=true
 fn:=fun _=>true
 pn:=[]
 xe:=fun e s'=>wpAny (model P w) (A.deeper (envOfC qual scope s.heap.objs.size f cd)) (leaving (envOfC qual scope s.heap.objs.size f cd) e) (fun _ s''=>CX outer H s E e s'') (fun e' s''=>CX outer H s E e' s'') s'
theorem vJ{sc:Scope}(h:sc.names.lookup x=some .cell):∃c,(cellsFrom n sc.names []).lookup x=some c:=by
 have q:=PySem.W.cellsFrom_some sc.names n [] (.inl h);exact Option.isSome_iff_exists.mp q
theorem Ay{CX:CXT}{P:Program}{w:World}{K:W.Frag}{mg:Str->Option Value}{base:Heap}{N ps:List Str}{qual:Str}{scope:Scope}{f:Addr}{cd:Value}{A:Around}{outer:List Env}{s s1:Shared}{H:Hp}{E:XK}{us:List Value}{vs:List V}
 (S:dA N ps scope) (hd:A.handled=none) (e0:Env0 P w K mg base A outer s H) (hl:vs.length=ps.length) (r:Vals vs us)
 (x:InCallC s s.heap.objs.size (bindL (envOfC qual scope s.heap.objs.size f cd).kindOf (ps.zip us) fun _=>none) (cellsFrom (s.heap.objs.size+1) scope.names []) (bindC (envOfC qual scope s.heap.objs.size f cd).kindOf (ps.zip us) fun _=>none) s1) :
 Inv (cp CX P w K mg base N qual scope f cd A outer s H E) [] (eD N vs) H s1:=by
 have hpl:ps.length<=N.length:=by have:=congrArg ZO S.pre;rw[Zx]at this;lia
 obtain⟨h1,tk,rfl,hk⟩:=x.done;have noA:∀b:Addr,b∉(cp CX P w K mg base N qual scope f cd A outer s H E).ex:=fun b z=>absurd (show b∈([]:List Addr) from z) (by simp);refine⟨⟨e0.mod,S.kind,rfl,rfl,xU _,fun y z c h1 h2=>?_,fun y hy=>?_,fun y c _ h=>?_,fun _=>hd,Around.frames_deeper e0.frames,.inr ⟨rfl,rfl⟩,fun b z=>absurd z (noA b),e0.bs,e0.bsz,fun b _ _=>noA b,fun b z=>absurd z (noA b),e0.funs,e0.frf⟩,
  rfl,e0.bare,Un.kept hk,⟨_,x.toInCall.ns,fun i y v h1 h2 h3=>?_⟩,fun y c h=>⟨_,x.cell y c h⟩,e0.hok.fresh (xU _),fun y c h=>?_,fun p hp=>absurd (show p∈([]:List (Addr × Obj)) from hp) (by simp),e0.hok.kept hk,?_⟩
 ·exact name_of_addr x.apart (Z7 h1) (Z7 h2)
 ·have hy:scope.names.lookup y=some .cell\/scope.names.lookup y=some .free:=hy
  rcases hy with hy|hy
  ·exact vJ hy
  ·exact absurd rfl (S.nofree _ (Z7 hy))
 ·exact Yu (x.above y c (Z7 h))
 ·have hi:i<vs.length:=by
   unfold eD at h2;by_cases hi:i<vs.length
   ·exact hi
   ·rw[List.getElem?_append_right (by simpa using hi)]at h2
    rw[List.getElem?_replicate]at h2;split at h2 <;> cases h2
  have ha:vs[i]? = some v:=by
   unfold eD at h2;rw[List.getElem?_append_left (by simpa using hi),List.getElem?_map]at h2;cases e:vs[i]? with
   |none=>rw[e]at h2;cases h2
   |some a=>rw[e]at h2;cases h2;rfl
  obtain⟨u,hu,rv⟩:=r.get ha;have hp:ps[i]? = some y:=by
   rw[<- S.pre,List.getElem?_take_of_lt (by lia)];exact h1
  have ndP:ps.Nodup:=by rw[<- S.pre];exact S.nd.sublist (List.take_sublist _ _)
  refine⟨u,rv,?_⟩;rcases S.par y (vW hp) with k|k
  ·exact .inl ⟨k,qT ndP hp hu k⟩
  ·obtain⟨c,e⟩:=vJ (n:=s.heap.objs.size+1) k
   refine .inr ⟨.inl k,c,e,?_⟩;have q:=x.cell y c e;rw[rX ndP hp hu (by show scope.names.lookup y≠_;rw[k];decide)]at q;exact q
 ·exact e0.hok.fresh (Yu (x.above y c (Z7 h)))
 ·unfold eD
  show _=N.length;rw[vx,zV,List.length_replicate];lia
theorem KI{CX:CXT}{P:Program}{w:World}{K:W.Frag}{mg:Str->Option Value}{base:Heap}{k:Nat}{f:Addr}{name qual:Str}{params:Arguments}{body:List Stmt}{scope:Scope}{dV kV doc pm cdv ct oc:Value}{an od:Option Addr}
 {osl:Array (Option Value)} {N ps:List Str} {sp:Sp} (lk:K.lookup f=some ⟨oc,od,.func (YX name qual params body scope dV kV doc pm an cdv ct),osl⟩) (hcd:PySem.W.codeIn K cdv qual=true) (S:dA N ps scope)
 (len:∀vs H Q E,sp vs H Q E->vs.length=ps.length)
 (hbody:∀(A:Around) (outer:List Env) (s:Shared) (H:Hp) (vs:List V) (Q:VK) (E:XK),Room k (A.deeper (envOfC qual scope s.heap.objs.size f cdv))->sp vs H Q E ->
  ∃t,PSs (cp CX P w K mg base N qual scope f cdv A outer s H E) body t/\t { nx:=fun _ H'=>Q .non H',rt:=Q } (eD N vs) H) :
 ig P w K mg base CX (k+1) f (YX name qual params body scope dV kV doc pm an cdv ct) ps sp:=by
 refine⟨len,fun A outer s H args us vs Q E hr e0 hb r hsp=>?_⟩;have hl:=len _ _ _ _ hsp;have KX:K.In s.heap:=e0.mod.kin.keeps fun b o e=>(e0.bs b o e).1;have lim:s.heap.NoLimit:=e0.mod.nolimit.keeps fun b o e=>(e0.bs b o e).1;have hkind:∀y∈ps.zip us,scope.names.lookup y.1=some .local\/(scope.names.lookup y.1=some .cell/\((cellsFrom (s.heap.objs.size+1) scope.names []).lookup y.1).isSome=true):=fun hq_ hy=>by
  obtain⟨n,v⟩:=hq_;rcases S.par n (List.of_mem_zip hy).1 with q|q
  ·exact .inl q
  ·exact .inr ⟨q,PySem.W.cellsFrom_some _ _ _ (.inl q)⟩
 refine codeAny_call_function hr.depth (KX _ _ lk) rfl S.co S.gen rfl (PySem.W.codeRec_of KX hcd) (hb _ _ _ _ ?_);refine wpAny_newFunctionEnv_cells S.kind hkind fun env he s1 x=>?_;subst he;refine⟨lim.keeps x.toInCall.keep,codeAny_func ?_⟩;obtain⟨t,ht,hq⟩:=hbody A outer s H vs Q E (hr.deeper _) hsp;have I:Inv (cp CX P w K mg base N qual scope f cdv A outer s H E) [] (eD N vs) H s1:=Ay S hr.hd e0 hl r x;refine Zs (ht [] s1 (eD N vs) H _ I hq) (fun fl s' hs=>?_) fun e s' hs=>hs;have fin:∀ {σ':St} {H':Hp} {v:V} {u:Value},Inv (cp CX P w K mg base N qual scope f cdv A outer s H E) [] σ' H' s'->RelV v u->Q v H'->CE outer P w H s Q u s':=
  fun {σ' H' v u} J rv q=>⟨v,H',J.os,J.bare,J.base,J.hok,rv,q⟩
 cases fl with
 |ret u=>
  obtain⟨v,σ',H',J,rv,q⟩:=hs;exact fin J rv q
 |next=>
  obtain⟨σ',H',J,q⟩:=hs;exact fin (v:=V.non) (u:=Z2) J rfl q
 |brk=>
  obtain⟨_,_,_,q⟩:=hs;exact Z3 q
 |cont=>
  obtain⟨_,_,_,q⟩:=hs;exact Z3 q
section
variable{X:Cx}{x:Str}{p pos:Pos}{e:Expr}{es:List Expr}{t:TA}{id T:String}{r:List V->Hp->VK->Prop}
def tCB(r:List V->Hp->VK->Prop)(t:TA):TE:=fun σ H Q=>t σ H fun vs H1=>r vs H1 Q
theorem aC(hc:CallR X (.builtin id) r)(hg:Gl X x)(hm:X.mg x=none)(hv:Zh x=some (.builtin id))(ha:PA X (e::es) t)(hn:x ≠ "__name__":=by decide)(hdb:(x==("__debug__":Str))=false:=by decide)
 (he:starEach (e::es) X.env=(false,eval e X.env)::starEach es X.env:=by rfl) (hpl:(backTo pos (starEach es X.env)).any (·.1)=false:=by rfl):PE X (.Call (.Name x p) (e::es) [] pos) (tCB r t):=by
 intro pins s σ H Q I h;refine YH (oG I hg hm hv ?_ hn hdb);exact PyProof.Rows.callWith_builtin1 (thn (ha pos pins s σ H _ I h) fun us s1 hq_=>(by obtain⟨vs,H1,I1,r1,q1⟩:=hq_;exact hc pins s1 σ H1 vs us Q I1 r1 q1)) he hpl
theorem da(hc:CallR X (.type T) r)(hg:Gl X x)(hm:X.mg x=none)(hv:Zh x=some (.type T))(ha:PA X (e::es) t)(hn:x ≠ "__name__":=by decide)(hdb:(x==("__debug__":Str))=false:=by decide)
 (he:starEach (e::es) X.env=(false,eval e X.env)::starEach es X.env:=by rfl) (hpl:(backTo pos (starEach es X.env)).any (·.1)=false:=by rfl):PE X (.Call (.Name x p) (e::es) [] pos) (tCB r t):=by
 intro pins s σ H Q I h;refine YH (oG I hg hm hv ?_ hn hdb);exact Y6 (thn (ha pos pins s σ H _ I h) fun us s1 hq_=>(by obtain⟨vs,H1,I1,r1,q1⟩:=hq_;exact hc pins s1 σ H1 vs us Q I1 r1 q1)) he hpl
end
end L2
namespace HT
open PySem PyProof.Rows
section
variable{prog:Program}{w:World}{A:Around}{E:Value->Shared->Prop}{s:Shared}
noncomputable def sIx(n d:Nat):Option Int->Nat
 |none=>d
 |some v=>if v<0 then (v+(n:Int)).toNat else min v.toNat n
theorem sIx_none(n d:Nat):sIx n d none=d:=rfl
theorem sIx_nat(n d k:Nat):sIx n d (some (k:Int))=min k n:=by
 show(if (k:Int)<0 then ((k:Int)+(n:Int)).toNat else min (k:Int).toNat n)=min k n;rw[if_neg (by lia),Y5]
theorem Jc(n d:Nat)(hd:d<=n)(o:Option Int):sIx n d o<=n:=by
 cases o with
 |none=>exact hd
 |some v=>
  show(if v<0 then (v+(n:Int)).toNat else min v.toNat n)<=n;by_cases hv:v<0
  ·rw[if_pos hv];lia
  ·rw[if_neg hv];exact Nat.min_le_right _ _
theorem yG(v:Int)(n d:Nat):(if v<0 then max (v+(n:Int)) 0 else min v (n:Int))=((sIx n d (some v):Nat):Int):=by
 show(if v<0 then max (v+(n:Int)) 0 else min v (n:Int))=(((if v<0 then (v+(n:Int)).toNat else min v.toNat n):Nat):Int);by_cases hv:v<0
 ·simp only[if_pos hv];lia
 ·simp only[if_neg hv];lia
theorem w_(lo hi:Option Int)(n:Nat):Xp lo hi 1 (n:Int)=(((sIx n 0 lo:Nat):Int),((sIx n n hi:Nat):Int)):=by
 have h1:¬ ((1:Int)<0):=by lia
 unfold Xp;simp only[h1,if_false];refine Prod.ext ?_ ?_
 ·cases lo with
  |none=>rfl
  |some v=>exact yG v n 0
 ·cases hi with
  |none=>rfl
  |some v=>exact yG v n n
theorem wL(i j:Nat):Yd (i:Int) (j:Int) 1=j-i:=by
 unfold Yd;have h1:(1:Int) > 0:=by lia
 simp only[h1,if_true,Int.ediv_one];split <;> lia
theorem oP{Q:Option Int->Shared->Prop}(p:IsPart v o)(h:Q o s):wpAny (model prog w) A (Builtin.Slice.slicePartIndex v) Q E s:=by
 cases p with
 |none=>exact slicePart_none h
 |int i t=>exact slicePart_int h
theorem l6{sl:Addr}{vl vu:Value}{lo hi:Option Int}{n:Nat}{Q:Int × Int × Nat->Shared->Prop}(hs:s.heap.IsSliceOf sl vl vu .none)(pl:IsPart vl lo)(pu:IsPart vu hi)
 (h:Q (((sIx n 0 lo:Nat):Int),1,sIx n n hi-sIx n 0 lo) s):wpAny (model prog w) A (Builtin.Slice.sliceApplied (.ref sl) (pure (n:Int))) Q E s:=by
 obtain⟨os,hos,hcs,hds⟩:=id hs;unfold Builtin.Slice.sliceApplied Builtin.Slice.sliceFields;refine zZ (zZ (wpAny_field hos hds (x:=vl) rfl (zZ (wpAny_field hos hds (x:=vu) rfl (zZ (wpAny_field hos hds (x:=.none) rfl (xc ?_)))))));refine zZ (slicePart_none ?_);show wpAny _ _ (if ((1:Int)==0)=true then _ else _) _ _ s;rw[if_neg (by decide)];refine zZ (oP pl (zZ (oP pu (zZ (xc ?_)))));show wpAny _ _ (match Xp lo hi 1 (n:Int) with|(lo,hi)=>pure (lo,(1:Int),Yd lo hi 1)) _ _ s;rw[w_ lo hi n];show wpAny _ _ (pure (((sIx n 0 lo:Nat):Int),(1:Int),Yd ((sIx n 0 lo:Nat):Int) ((sIx n n hi:Nat):Int) 1)) _ _ s;rw[wL];exact xc h
theorem DF(xs:Array Value)(i k:Nat):((Zw k).filterMap fun(m:Nat)=>xs[((i:Int)+(m:Int)*1).toNat]?).toArray=((xs.toList.drop i).take k).toArray:=by
 have e:(fun(m:Nat)=>xs[((i:Int)+(m:Int)*1).toNat]?)=fun m=>xs[i+m]?:=by
  funext m;have:((i:Int)+(m:Int)*1).toNat=i+m:=by lia
  rw[this]
 rw[e];have:=pick_run xs i k;rw[List.filterMap_map]at this;have e2:((fun x=>xs[x]?) ∘ fun x=>i+x)=fun m=>xs[i+m]?:=rfl;rw[e2]at this;rw[this]
theorem getItem_tuple_cut{t sl:Addr}{items:Array Value}{vl vu:Value}{lo hi:Option Int}{Q:Value->Shared->Prop}(ht:IsTup s.heap t items)(hs:s.heap.IsSliceOf sl vl vu .none)(pl:IsPart vl lo)(pu:IsPart vu hi)
 (hw:¬ (sIx items.size 0 lo=0/\sIx items.size items.size hi=items.size))
 (h:Q (.ref s.heap.objs.size) { s with heap:=s.heap.push { cls:=.type "tuple",data:=.seq ((items.toList.drop (sIx items.size 0 lo)).take (sIx items.size items.size hi-sIx items.size 0 lo)).toArray } })
 (hsz:items.size<=sizeLine):wpAny (model prog w) A (getItem (.ref t) (.ref sl)) Q E s:=by
 have htake:sizeOk (.seq ((items.toList.drop (sIx items.size 0 lo)).take (sIx items.size items.size hi-sIx items.size 0 lo)).toArray):=by
  show((items.toList.drop (sIx items.size 0 lo)).take (sIx items.size items.size hi-sIx items.size 0 lo)).toArray.size<=sizeLine;rw[z8,Zx,YK,Z8];lia
 have hj:sIx items.size items.size hi<=items.size:=Jc _ _ (xU _) hi;obtain⟨os,hos,hcs,hds⟩:=id hs;have hTs:s.TypeIs (.ref sl) "slice":=⟨os,hos,hcs⟩;unfold getItem
 try with_reducible refine ZK ?_
 first|refine zZ (xc ?_)|skip
 refine zZ (wpAny_sequenceKey ht.typeIs (by decide) ?_);refine zZ (wpAny_callSpecial?_slot (name:=zS "__getitem__") ht.typeIs PyProof.Rows.slot_tuple_getitem
  (Z0 PyProof.Rows.slot_tuple_getitem ht.typeIs entry_tuple_getitem ?_ (args_tuple_getitem _ _)))
 show wpAny _ _ (Builtin.Tuple.tupleItemsOf (.ref t) >>= _) _ _ s;refine zZ (tupleItemsOf_ ht ?_);refine zZ (wpAny_typeOf hTs ?_);rw[if_pos (by decide)];refine zZ (l6 hs pl pu ?_);have hno:¬ ((((sIx items.size 0 lo:Nat):Int)==0&&(1:Int)==1&&(sIx items.size items.size hi-sIx items.size 0 lo)==items.size)=true):=by
  intro q;rw[ZH,ZH]at q;have q1:((sIx items.size 0 lo:Nat):Int)=0:=eq_of_beq q.1.1;have q2:sIx items.size items.size hi-sIx items.size 0 lo=items.size:=eq_of_beq q.2;exact hw ⟨by lia,by lia⟩
 show wpAny _ _ (if (((sIx items.size 0 lo:Nat):Int)==0&&(1:Int)==1&&(sIx items.size items.size hi-sIx items.size 0 lo)==items.size)=true then _ else _) _ _ s;rw[if_neg hno,DF]
 first
  |exact zZ (m:=YN _) (Z5 (xc ⟨_,rfl,xc h⟩) htake)
  |exact zZ (m:=YN _) (Z5 (zZ (xc (xc ⟨_,rfl,xc h⟩))) htake)
  |exact zZ (zZ (m:=YN _) (Z5 (xc (xc ⟨_,rfl,xc h⟩)) htake))
  |exact zZ (zZ (m:=YN _) (Z5 (xc ⟨_,rfl,xc h⟩) htake))
end
end HT
namespace L2
open PySem PySem.Spec PyProof.Rows
abbrev TO:=St->Hp->(Option Int->Hp->Prop)->Prop
def PO(X:Cx)(e:Option Expr)(t:TO):Prop:=
 ∀(pins:List (Addr × Obj)) (s:Shared) (σ:St) (H:Hp) (Q:Option Int->Hp->Prop),Inv X pins σ H s->t σ H Q ->
  wpAny (model X.prog X.w) X.A (evalPart e X.env) (fun u s'=>∃o H',Inv X pins σ H' s'/\IsPart u o/\Q o H') X.xe s
def zo:TO:=fun _ H Q=>Q none H
def GA(t:TE):TO:=fun σ H Q=>t σ H fun x H1=>∃i,x = .int i/\Q (some i) H1
theorem pD{ns:List Int}:∀ {us:List Value},Vals (ns.map V.int) us->IntsAre us ns:=by
 induction ns with
 |nil=>intro us r;rw[ZX]at r;cases r;exact .nil
 |cons n ns ih=>
  intro us r;rw[wV]at r;cases r with
  |cons r1 r2=>
   obtain⟨t,e⟩:=r1;subst e;exact .cons n t (ih r2)
section
variable{X:Cx}{e:Expr}{te:TE}{lo hi:Option Expr}{tl th:TO}{pos p2:Pos}
theorem oq:PO X none zo:=by
 intro pins s σ H Q I h;rw[evalPart_none];exact xc ⟨none,H,I,.none,h⟩
theorem oa(h:PE X e te):PO X (some e) (GA te):=by
 intro pins s σ H Q I hw;rw[evalPart_some];refine thn (h pins s σ H _ I hw) fun u s1 hq_=>?_;obtain⟨x,H1,I1,r1,q1⟩:=hq_;obtain⟨i,rfl,q⟩:=q1;obtain⟨t,rfl⟩:=r1;exact⟨some i,H1,I1,.int i t,q⟩
def SlR(X:Cx)(r:V->Option Int->Option Int->Hp->VK->Prop):Prop:=
 ∀(pins:List (Addr × Obj)) (s:Shared) (σ:St) (H:Hp) (x:V) (v vl vu:Value) (lo hi:Option Int) (sl:Addr) (Q:VK),Inv X pins σ H s->RelV x v->s.heap.IsSliceOf sl vl vu .none->IsPart vl lo->IsPart vu hi->r x lo hi H Q ->
  ∃T id,typeLookup (.type T) "__getitem__" = pure (some (.builtin id))/\s.TypeIs v T/\wpAny (model X.prog X.w) X.A (getItem v (.ref sl)) (EP X pins σ Q) X.xe s
def tSl(r:V->Option Int->Option Int->Hp->VK->Prop)(te:TE)(tl th:TO):TE:=fun σ H Q=>te σ H fun x H1=>tl σ H1 fun l H2=>th σ H2 fun u H3=>r x l u H3 Q
theorem lA{r:V->Option Int->Option Int->Hp->VK->Prop}(hr:SlR X r)(he:PE X e te)(hl:PO X lo tl)(hu:PO X hi th):PE X (.Subscript e (.Slice lo hi none p2) pos) (tSl r te tl th):=by
 intro pins s σ H Q I h;refine Subscript_ (thn (he pins s σ H _ I h) fun v s1 hq_=>?_);obtain⟨x,H1,I1,r1,q1⟩:=hq_;refine wpAny_Slice (thn (hl pins s1 σ H1 _ I1 q1) fun vl s2 ⟨l,H2,I2,pl,q2⟩=>thn (hu pins s2 σ H2 _ I2 q2) fun vu s3 hq_=>?_);obtain⟨u,H3,I3,pu,q3⟩:=hq_;rw[evalPart_none];refine xc ?_;have I4:Inv X pins σ H3 { s3 with heap:=s3.heap.push { cls:=.type "slice",data:=.fields #[vl,vu,.none] } }:=I3.kept (t':=s3.toks) fun b ob q=>Heap.get?_push_of_some _ q;obtain⟨T,id,hT,ht,hg⟩:=hr pins { s3 with heap:=s3.heap.push { cls:=.type "slice",data:=.fields #[vl,vu,.none] } } σ H3 x v vl vu l u s3.heap.objs.size Q I4 r1 (Heap.IsSliceOf.new ..) pl pu q3;show wpAny (model X.prog X.w) X.A (subscriptTail e (.Slice lo hi none p2) v (.ref s3.heap.objs.size)) (EP X pins σ Q) X.xe { s3 with heap:=s3.heap.push { cls:=.type "slice",data:=.fields #[vl,vu,.none] } };exact tail_any (ops:=[.ref s3.heap.objs.size,v]) ht hT hg (by with_unfolding_all rfl)
noncomputable def lm(xs:List V)(lo hi:Option Int):List V:=(xs.drop (HT.sIx xs.length 0 lo)).take (HT.sIx xs.length xs.length hi-HT.sIx xs.length 0 lo)
theorem mR(xs:List V)(lo hi:Option Int):(lm xs lo hi).length<=xs.length:=by
 unfold lm;rw[Zx,YK];lia
def KA(K:W.Frag):V->Option Int->Option Int->Hp->VK->Prop:=fun x lo hi H Q=>∃a xs,x = .ref a/\SqT K H a xs /\
 ¬ (HT.sIx xs.length 0 lo=0/\HT.sIx xs.length xs.length hi=xs.length)/\∀p,H p=none->Q (.ref p) (upd H p (.tup (lm xs lo hi)))
theorem Hb:SlR X (KA X.K):=by
 intro pins s σ H x v vl vu lo hi sl Q I rx hs pl pu h;obtain⟨a,xs,rfl,hx,hw,q⟩:=h;cases rx;obtain⟨its,r,ht,hz⟩:=I.tuple hx;have hlen:its.toArray.size=xs.length:=by rw[z8];exact r.length.symm
 refine⟨"tuple",_,PyProof.Rows.slot_tuple_getitem.lookup,ht.typeIs,?_⟩;refine HT.getItem_tuple_cut ht hs pl pu (by rw[hlen];exact hw) ?_ (by rw[hlen];exact hz);rw[hlen];refine⟨.ref s.heap.objs.size,_,I.laid (t':=s.toks) (o:=.tup (lm xs lo hi)) (fun b ob q=>Heap.get?_push_of_some _ q) (xU _) ?_,rfl,q _ (I.hok.fresh (xU _))⟩;exact⟨Zt (mR xs lo hi) hz,_,(r.drop (HT.sIx xs.length 0 lo)).take (HT.sIx xs.length xs.length hi-HT.sIx xs.length 0 lo),IsTup.new _ _⟩
end
noncomputable def ixN(n:Nat)(i:Int):Option Nat:=if 0<=i then (if i<n then some i.toNat else none) else if -(n:Int)<=i then some (i+n).toNat else none
noncomputable def atI{α:Type}(xs:List α)(i:Int):Option α:=(ixN xs.length i).bind fun j=>xs[j]?
theorem yC{i:Int}(h:ixN n i=some j):seqIndex? i n=some j/\j<n /\ -(n:Int)<=i/\i<n:=by
 unfold ixN at h;by_cases h0:0<=i
 ·rw[if_pos h0]at h
  by_cases h1:i<n
  ·rw[if_pos h1]at h
   have e:i.toNat=j:=Zp h;exact⟨by rw[seqIndex_of h0 h1,e],by lia,by lia,h1⟩
  ·rw[if_neg h1]at h;cases h
 ·rw[if_neg h0]at h
  by_cases h1:-(n:Int)<=i
  ·rw[if_pos h1]at h
   have e:(i+n).toNat=j:=Zp h;exact⟨by rw[seqIndex_neg (by lia) h1,e],by lia,h1,by lia⟩
  ·rw[if_neg h1]at h;cases h
theorem sW{α:Type}{xs:List α}{i:Int}{v:α}(h:atI xs i=some v):∃j,seqIndex? i xs.length=some j/\xs[j]? = some v/\j<xs.length /\ -(xs.length:Int)<=i/\i<xs.length:=by
 unfold atI at h;cases e:ixN xs.length i with
 |none=>rw[e]at h;cases h
 |some j=>
  rw[e]at h;obtain⟨h1,h2,h3,h4⟩:=yC e;exact⟨j,h1,h,h2,h3,h4⟩
theorem aJ{α:Type}{xs:List α}{j:Nat}{v:α}(h:xs[j]? = some v):atI xs (j:Int)=some v:=by
 have hj:j<xs.length:=(List.getElem?_eq_some_iff.mp h).1;have e:ixN xs.length (j:Int)=some j:=by
  unfold ixN;rw[if_pos (by lia),if_pos (by lia)];simp
 unfold atI;rw[e];exact h
theorem uO{α:Type}(xs:List α)(v:α):atI (xs++[v]) (-1)=some v:=by
 have hl:(xs++[v]).length=xs.length+1:=by simp
 have e:ixN (xs++[v]).length (-1)=some xs.length:=by
  unfold ixN;rw[hl,if_neg (by decide),if_pos (by lia)]
  congr 1
  lia
 unfold atI;rw[e];show(xs++[v])[xs.length]? = some v;simp
def tw(b:Expr):Prop:=∀o i,subscripted b false o i=operate [o,i] (getItem o i)
def IxR(X:Cx)(r:R2):Prop:=
 ∀(value slice:Expr) (pins:List (Addr × Obj)) (s:Shared) (σ:St) (H:Hp) (x y:V) (v u:Value) (Q:VK),Inv X pins σ H s->RelV x v->RelV y u->r x y H Q ->
  subscripted slice false v u=operate [v,u] (getItem v u)->wpAny (model X.prog X.w) X.A (subscriptTail value slice v u) (EP X pins σ Q) X.xe s
def MtR(X:Cx)(id:String)(r:V->List V->Hp->VK->Prop):Prop:=
 ∀(pins:List (Addr × Obj)) (s:Shared) (σ:St) (H:Hp) (x:V) (xs:List V) (v:Value) (us:List Value) (Q:VK),Inv X pins σ H s->RelV x v->Vals xs us->r x xs H Q ->
  wpAny (model X.prog X.w) X.A (call (.builtin id) (v::us)) (EP X pins σ Q) X.xe s
section
variable{X:Cx}{a b:Expr}{ta tb:TE}{pos:Pos}
theorem IxR.or{r r':R2}(h:IxR X r)(h':IxR X r'):IxR X (fun x y H Q=>r x y H Q\/r' x y H Q):=by
 intro value slice pins s σ H x y v u Q I rx ry q hs;rcases q with q|q
 ·exact h value slice pins s σ H x y v u Q I rx ry q hs
 ·exact h' value slice pins s σ H x y v u Q I rx ry q hs
theorem Kq{r:R2}(hr:IxR X r)(ha:PE X a ta)(hb:PE X b tb)(hs:tw b):PE X (.Subscript a b pos) (tOp r ta tb):=by
 intro pins s σ H Q I h;exact Subscript_ (Hg ha hb I h fun v u s2 x y H2 I2 rx ry q=>hr a b pins s2 σ H2 x y v u Q I2 rx ry q (hs _ _))
def Kk(K:W.Frag):R2:=fun x y H Q=>∃p xs i v,x = .ref p/\y = .int i/\SqL K H p xs/\atI xs i=some v/\Q v H
def JO(K:W.Frag):R2:=fun x y H Q=>∃p xs i v,x = .ref p/\y = .int i/\SqT K H p xs/\atI xs i=some v/\Q v H
def Lz:R2:=fun x y H Q=>∃z i c,x = .str z/\y = .int i/\z.length<=sizeLine/\atI z.cps.toList i=some c/\Q (.str ⟨#[c]⟩) H
theorem yp:IxR X (Kk X.K):=by
 intro value slice pins s σ H x y v u Q I rx ry h hs;obtain⟨p,xs,i,z,rfl,rfl,hq,he,q⟩:=h;cases rx;obtain⟨t,rfl⟩:=ry;obtain⟨its,r,pl,hz⟩:=I.list hq;obtain⟨j,h1,h2,h3,h4,h5⟩:=sW he;obtain⟨w,ew,rw'⟩:=r.get h2;have hl:=r.length;have hn:=lG;have fin:EP X pins σ Q w s:=⟨z,H,I,rw',q⟩;by_cases h0:0<=i
 ·have hj:i.toNat=j:=by
   rw[seqIndex_of h0 h5]at h1;exact Zp h1
  exact item_listR pl.isList h0 (by lia) (by rw[hj];simpa using ew) fin hs
 ·have hj:(i+(its.toArray.size:Int)).toNat=j:=by
   rw[seqIndex_neg (by lia) h4]at h1;rw[z8,<- hl];exact Zp h1
  exact subscriptTail_builtinR (x:=w) pl.isList.typeIs slot_list_getitem.lookup
   (wpAny_getItem_list_neg (Q:=fun r s'=>r=w/\EP X pins σ Q r s') pl.isList (by lia) (by rw[z8] <;> lia) (by lia) (by rw[hj];simpa using ew) ⟨rfl,fin⟩) hs
theorem Hl:IxR X (JO X.K):=by
 intro value slice pins s σ H x y v u Q I rx ry h hs;obtain⟨p,xs,i,z,rfl,rfl,hq,he,q⟩:=h;cases rx;obtain⟨t,rfl⟩:=ry;obtain⟨its,r,pl,hz⟩:=I.tuple hq;obtain⟨j,h1,h2,h3,h4,h5⟩:=sW he;obtain⟨w,ew,rw'⟩:=r.get h2;have hl:=r.length;have hn:=lG;have fin:EP X pins σ Q w s:=⟨z,H,I,rw',q⟩;exact subscriptTail_builtinR (x:=w) pl.typeIs slot_tuple_getitem.lookup
  (getItem_tuple (j:=j) (Q:=fun r s'=>r=w/\EP X pins σ Q r s') pl (by lia) (by lia) (by rw[z8,<- hl];exact h1) (by simpa using ew) ⟨rfl,fin⟩) hs
theorem Jd:IxR X Lz:=by
 intro value slice pins s σ H x y v u Q I rx ry h hs;obtain⟨z,i,c,rfl,rfl,hz,he,q⟩:=h;obtain⟨t,rfl⟩:=rx;obtain⟨t',rfl⟩:=ry;obtain⟨j,h1,h2,h3,h4,h5⟩:=sW he;have hl:z.cps.toList.length=z.length:=by simp[Yp]
 rw[hl]at h1 h4 h5;have hn:=lG;exact tail_any (typeIs_str s z t) slot_str_getitem.lookup (getItem_str (c:=c) (by
  have e1:decide (i < -(2 ^ 63:Int))=false:=decide_eq_false (by lia);have e2:decide (i ≥ 2 ^ 63)=false:=decide_eq_false (by lia);rw[e1,e2,Bool.or_false]) (by rw[h1];simpa using h2) ⟨.str ⟨#[c]⟩,H,I.tok _,⟨_,rfl⟩,q⟩) hs
def rIx(K:W.Frag):R2:=fun x y H Q=>Kk K x y H Q\/JO K x y H Q\/Lz x y H Q
theorem Iz:IxR X (rIx X.K):=yp.or (Hl.or Jd)
theorem xn(its:List Value)(n j:Nat)(u:Value):ZT (·.setIfInBounds j u) { cls:=.type "list",data:=.seq its.toArray n } = { cls:=.type "list",data:=.seq (its.set j u).toArray n }:=by
 simp[ZT]
theorem Inv.lst{pins:List (Addr × Obj)}{σ:St}{H:Hp}{s:Shared}{p:Addr}{xs:List V}(I:Inv X pins σ H s)(h:H p=some (.lst xs)) :
 ∃(its:List Value) (n:Nat),Vals xs its/\s.heap.get? p=some { cls:=.type "list",data:=.seq its.toArray n }/\xs.length<=sizeLine:=by
 obtain⟨z,its,n,r,e⟩:=I.hok p _ h;exact⟨its,n,r,e,z⟩
theorem Inv.lstUpd{s:Shared}{xs ys:List V}{its its':List Value}(I:Inv X pins σ H s)(h:H p=some (.lst xs))
 (ho:s.heap.get? p=some { cls:=.type "list",data:=.seq its.toArray n }) (hf:f { cls:=.type "list",data:=.seq its.toArray n } = { cls:=.type "list",data:=.seq its'.toArray n' }) (r:Vals ys its') (hz:ys.length<=sizeLine) (t:Nat) :
 Inv X pins σ (upd H p (.lst ys)) { s with heap:=s.heap.update p f,toks:=t }:=by
 have e:(s.heap.update p f).get? p=some { cls:=.type "list",data:=.seq its'.toArray n' }:=by
  rw[Heap.get?_update_self f ho (by rw[hf] <;> rfl),hf]
 refine I.write (x:=p) (e:=p) (by rw[h];trivial) (.inl rfl) (fun b u hb q=>(Heap.get?_update_other _ _ (Ne.symm hb)).trans q) ⟨_,e⟩ ?_;exact⟨hz,its',n',r,e⟩
def Gn:V->V->V->Hp->(Hp->Prop)->Prop:=fun o i v H Q=>∃p xs k j,o = .ref p/\i = .int k/\H p=some (.lst xs)/\ixN xs.length k=some j/\Q (upd H p (.lst (xs.set j v)))
theorem pA:Ll X Gn:=by
 intro pins s σ H o i v ov iv u Q I ro ri rv h;obtain⟨p,xs,k,j,rfl,rfl,hp,hj,q⟩:=h;cases ro;obtain⟨t,rfl⟩:=ri;obtain⟨its,n,r,ho,hz⟩:=I.lst hp;obtain⟨h1,h2,h3,h4⟩:=yC hj;have hl:=r.length;have hn:=lG;have I':Inv X pins σ (upd H p (.lst (xs.set j v))) { s with heap:=s.heap.update p (ZT (·.setIfInBounds j u)) }:=
  I.lstUpd hp ho (xn its n j u) (r.set rv j) (by rw[List.length_set];exact hz) s.toks
 by_cases h0:0<=k
 ·have hk:k.toNat=j:=by
   rw[seqIndex_of h0 h4]at h1;exact Zp h1
  exact PySem.W.ki_setAt ho h0 (by lia) (by rw[z8,<- hl];exact h4) (by rw[hk];exact⟨_,I',q⟩)
 ·have hk:(k+(its.toArray.size:Int)).toNat=j:=by
   rw[seqIndex_neg (by lia) h3]at h1;rw[z8,<- hl];exact Zp h1
  exact PySem.W.ki_setBack ho (by lia) (by rw[z8,<- hl];exact h3) (by lia) (by rw[hk];exact⟨_,I',q⟩)
theorem sS(lo hi:Option Int)(n:Nat):(YY lo hi none n).1=((HT.sIx n 0 lo:Nat):Int)/\(YY lo hi none n).2.1=((HT.sIx n n hi:Nat):Int)/\(YY lo hi none n).2.2=1:=by
 refine⟨?_,?_,rfl⟩
 ·cases lo with
  |none=>simp[YY,HT.sIx]
  |some i=>
   simp only[YY,HT.sIx,Option.getD_none,show(1:Int) > 0 by decide,if_true];by_cases h:i<0
   ·simp only[h,if_true] <;> lia
   ·simp only[h,if_false] <;> lia
 ·cases hi with
  |none=>simp[YY,HT.sIx]
  |some i=>
   simp only[YY,HT.sIx,Option.getD_none,show(1:Int) > 0 by decide,if_true];by_cases h:i<0
   ·simp only[h,if_true] <;> lia
   ·simp only[h,if_false] <;> lia
theorem qA(its:List Value)(lo hi:Option Int):slicePick its.toArray lo hi none=((its.drop (HT.sIx its.length 0 lo)).take (HT.sIx its.length its.length hi-HT.sIx its.length 0 lo)).toArray:=by
 obtain⟨h1,h2,h3⟩:=sS lo hi its.toArray.size;unfold slicePick;rw[h1,h2,h3];simp only[sliceRange_one,pick_run,z8] <;> rfl
def Jz(K:W.Frag):V->Option Int->Option Int->Hp->VK->Prop:=fun x lo hi H Q=>∃a xs,x = .ref a/\SqL K H a xs/\∀p,H p=none->Q (.ref p) (upd H p (.lst (lm xs lo hi)))
theorem Fb:SlR X (Jz X.K):=by
 intro pins s σ H x v vl vu lo hi sl Q I rx hs pl pu h;obtain⟨a,xs,rfl,hx,q⟩:=h;cases rx;obtain⟨its,r,ht,hz⟩:=I.list hx;have hlen:=r.length;refine⟨"list",_,slot_list_getitem.lookup,ht.isList.typeIs,?_⟩;refine wpAny_getItem_list_slice ht.isList hs pl pu .none (by simp) ?_ (by rw[z8] <;> lia);rw[qA,<- hlen];refine⟨.ref s.heap.objs.size,_,I.laid (t':=s.toks) (o:=.lst (lm xs lo hi)) (fun b ob q=>Heap.get?_push_of_some _ q) (xU _) ?_,rfl,q _ (I.hok.fresh (xU _))⟩;exact⟨Zt (mR xs lo hi) hz,_,0,(r.drop (HT.sIx xs.length 0 lo)).take (HT.sIx xs.length xs.length hi-HT.sIx xs.length 0 lo),Heap.get?_push_size _ rfl⟩
noncomputable def eh:V->Bool
 | .non=>true
 | .bl _=>true
 | .int _=>true
 | .str _=>true
 |_=>false
noncomputable def eqV:V->V->Bool
 | .non,.non=>true
 | .bl a,.bl b=>a==b
 | .bl a,.int b=>(if a then 1 else 0)==b
 | .int a,.bl b=>a==(if b then 1 else 0)
 | .int a,.int b=>a==b
 | .str a,.str b=>a==b
 |_,_=>false
theorem wH(ry:RelV y u)(rx:RelV x v)(fy:eh y=true)(fx:eh x=true):SeqAt.EqAt A s u v (eqV y x):=by
 cases y with
 |non=>
  cases ry;cases x with
  |non=>cases rx;exact SeqAt.EqAt.same _
  |bl b=>cases rx;exact SeqAt.EqAt.none_bool b
  |int b=>obtain⟨t,rfl⟩:=rx;exact SeqAt.EqAt.none_int b t
  |str b=>obtain⟨t,rfl⟩:=rx;exact SeqAt.EqAt.none_str b t
  |_=>exact absurd (show false=true from fx) vX
 |bl a=>
  cases ry;cases x with
  |non=>cases rx;exact SeqAt.EqAt.bool_none a
  |bl b=>cases rx;exact SeqAt.EqAt.bool_bool a b
  |int b=>obtain⟨t,rfl⟩:=rx;exact SeqAt.EqAt.bool_int a b t
  |str b=>obtain⟨t,rfl⟩:=rx;exact SeqAt.EqAt.bool_str a b t
  |_=>exact absurd (show false=true from fx) vX
 |int a=>
  obtain⟨t',rfl⟩:=ry;cases x with
  |non=>cases rx;exact SeqAt.EqAt.int_none a t'
  |bl b=>cases rx;exact SeqAt.EqAt.int_bool a t' b
  |int b=>obtain⟨t,rfl⟩:=rx;exact SeqAt.EqAt.int_int a t' b t
  |str b=>obtain⟨t,rfl⟩:=rx;exact SeqAt.EqAt.int_str a t' b t
  |_=>exact absurd (show false=true from fx) vX
 |str a=>
  obtain⟨t',rfl⟩:=ry;cases x with
  |non=>cases rx;exact SeqAt.EqAt.str_none a t'
  |bl b=>cases rx;exact SeqAt.EqAt.str_bool a t' b
  |int b=>obtain⟨t,rfl⟩:=rx;exact SeqAt.EqAt.str_int a t' b t
  |str b=>obtain⟨t,rfl⟩:=rx;exact SeqAt.EqAt.str_str a t' b t
  |_=>exact absurd (show false=true from fx) vX
 |_=>exact absurd (show false=true from fy) vX
noncomputable def eqU(x:V)(u:Value):Bool:=match u with
 | .none=>eqV .non x
 | .bool b=>eqV (.bl b) x
 | .int i _=>eqV (.int i) x
 | .str z _=>eqV (.str z) x
 |_=>false
theorem Dy(r:RelV y u)(f:eh y=true):eqU x u=eqV y x:=by
 cases y with
 |non=>cases r;rfl
 |bl b=>cases r;rfl
 |int i=>obtain⟨t,rfl⟩:=r;rfl
 |str z=>obtain⟨t,rfl⟩:=r;rfl
 |_=>exact absurd (show false=true from f) vX
theorem sd:∀ {xs:List V} {us:List Value},Vals xs us->xs.all eh=true->us.any (eqU x)=xs.any fun y=>eqV y x
 |_,_,.nil,_=>rfl
 |y::xs,u::us,.cons r t,f=>by
  rw[List.all_cons,ZH]at f;rw[List.any_cons,List.any_cons,Dy r f.1,sd t f.2]
theorem pJ(rx:RelV x v)(fx:eh x=true):∀ {xs:List V} {us:List Value},Vals xs us->xs.all eh=true->∀u∈us,SeqAt.EqAt A s u v (eqU x u)
 |_,_,.nil,_=>fun u hu=>by cases hu
 |y::xs,u::us,.cons r t,f=>fun u' hu=>by
  rw[List.all_cons,ZH]at f;rcases zO.mp hu with rfl|hu
  ·rw[Dy r f.1];exact wH r rx f.1 fx
  ·exact pJ rx fx t f.2 u' hu
noncomputable def inV(x:V)(xs:List V):Bool:=xs.any fun y=>eqV y x
def rIn(K:W.Frag)(neg:Bool):R2:=fun x y H Q=>∃p xs,y = .ref p/\(SqL K H p xs\/SqT K H p xs)/\eh x=true/\xs.all eh=true/\Q (.bl (if neg then !inV x xs else inV x xs)) H
theorem sI:OpR X (Zq .NotIn) (rIn X.K true):=by
 intro pins s σ H x y v u Q I rx ry h;obtain⟨p,xs,rfl,hq,fx,fs,q⟩:=h;cases ry;rcases hq with hq|hq
 ·obtain⟨its,r,pl,hz⟩:=I.list hq
  refine SeqAt.notIn_listAt (eqU x) pl.isList (fun w hw=>pJ rx fx r fs w (by simpa using hw)) ⟨.bl _,H,I,rfl,?_⟩;rw[show its.toArray.any (eqU x)=its.any (eqU x) by simp,sd r fs];exact q
 ·obtain⟨its,r,pl,hz⟩:=I.tuple hq
  refine SeqAt.notIn_tupleAt (eqU x) pl (fun w hw=>pJ rx fx r fs w (by simpa using hw)) ⟨.bl _,H,I,rfl,?_⟩;rw[show its.toArray.any (eqU x)=its.any (eqU x) by simp,sd r fs];exact q
theorem CallR.or{f:Value}{r r':List V->Hp->VK->Prop}(h:CallR X f r)(h':CallR X f r'):CallR X f (fun xs H Q=>r xs H Q\/r' xs H Q):=by
 intro pins s σ H xs us Q I rs q;rcases q with q|q
 ·exact h pins s σ H xs us Q I rs q
 ·exact h' pins s σ H xs us Q I rs q
theorem tH:CallR X (.type "list") (fun xs H Q=>∃p ys,xs=[.ref p]/\(SqL X.K H p ys\/SqT X.K H p ys)/\∀l,H l=none->Q (.ref l) (upd H l (.lst ys))):=by
 intro pins s σ H xs us Q I r h;obtain⟨p,ys,rfl,hq,q⟩:=h;obtain⟨u,rfl,rx⟩:=d5 r;cases rx;have fin:∀(its:List Value),Vals ys its->ys.length<=sizeLine->∀(h':Heap) (c':Nat),(∀b o',s.heap.get? b=some o'->h'.get? b=some o') ->
  h'.get? s.heap.objs.size=some { cls:=.type "list",dict:=none,data:=.seq its.toArray c',slots:=#[] }->EP X pins σ Q (.ref s.heap.objs.size) { s with heap:=h' }:=fun its r' hz h' c' kp e=>
  ⟨.ref s.heap.objs.size,_,I.laid (t':=s.toks) kp (xU _) (show ObjOk X.prog X.w _ h' _ (.lst ys) from⟨hz,its,c',r',e⟩),rfl,q _ (I.hok.fresh (xU _))⟩
 rcases hq with hq|hq
 ·obtain⟨its,r',pl,hz⟩:=I.list hq
  have hlen:=r'.length;obtain⟨o,ho,hc,n,hd⟩:=pl.isList;exact call_list_seq p (.inl rfl) ho hc hd (fun h' c' kp e=>fin its r' hz h' c' kp e) (by simp only[z8] <;> lia)
 ·obtain⟨its,r',pl,hz⟩:=I.tuple hq
  have hlen:=r'.length;obtain⟨o,ho,hc,n,hd⟩:=pl;exact call_list_seq p (.inr rfl) ho hc hd (fun h' c' kp e=>fin its r' hz h' c' kp e) (by simp only[z8] <;> lia)
theorem qx:CallR X (.type "tuple") (fun xs H Q=>∃p ys,xs=[.ref p]/\((SqL X.K H p ys/\∀l,H l=none->Q (.ref l) (upd H l (.tup ys)))\/(SqT X.K H p ys/\Q (.ref p) H))):=by
 intro pins s σ H xs us Q I r h;obtain⟨p,ys,rfl,h⟩:=h;obtain⟨u,rfl,rx⟩:=d5 r;cases rx;rcases h with ⟨hq,q⟩|⟨hq,q⟩
 ·obtain⟨its,r',pl,hz⟩:=I.list hq
  have hlen:=r'.length;refine call_tuple_list pl.isList (fun h' kp=>?_) (by simp only[z8] <;> lia);have I1:Inv X pins σ H { s with heap:=h' }:=I.kept (t':=s.toks) kp;have I2:Inv X pins σ (upd H h'.objs.size (.tup ys)) { s with heap:=h'.push { cls:=.type "tuple",data:=.seq its.toArray } }:=
   I1.laid (t':=s.toks) (fun b o e=>Heap.get?_push_of_some _ e) (xU _) (show ObjOk X.prog X.w _ _ _ (.tup ys) from⟨hz,its,r',IsTup.new _ _⟩)
  exact⟨.ref h'.objs.size,_,I2,rfl,q _ (I1.hok.fresh (xU _))⟩
 ·obtain⟨its,r',pl,hz⟩:=I.tuple hq
  exact call_tuple_same pl ⟨.ref p,H,I,rfl,q⟩
def tyV(K:W.Frag)(T:String)(x:V)(H:Hp):Prop:=match x with
 | .str _=>T = "str"
 | .int _=>T = "int"
 | .ref p=>(T = "list" /\ ∃xs,SqL K H p xs)\/(T = "tuple" /\ ∃o,K.lookup p=some o/\o.cls = .type "tuple" /\ o.dict=none) \/
  (T = "dict" /\ ((∃kvs,H p=some (.dK kvs))\/∃kvs,H p=some (.dT kvs)))\/(T = "set" /\ ∃S n,H p=some (.set S n))
 |_=>False
theorem CO{pins:List (Addr × Obj)}{σ:St}{H:Hp}{s:Shared}{T:String}{x:V}{v:Value}(I:Inv X pins σ H s)(r:RelV x v)(ty:tyV X.K T x H) :
 s.TypeIs v T/\∀a,v = .ref a->∃ob,s.heap.get? a=some ob/\ob.dict=none:=by
 cases x with
 |str z=>
  obtain⟨t,rfl⟩:=r;cases (show T = "str" from ty);exact⟨typeIs_str s z t,fun _ e=>nomatch e⟩
 |int i=>
  obtain⟨t,rfl⟩:=r;cases (show T = "int" from ty);exact⟨typeIs_int s i t,fun _ e=>nomatch e⟩
 |ref p=>
  cases r;rcases ty with ⟨rfl,xs,hq⟩|⟨rfl,o,hk,hc,hd⟩|⟨rfl,hk⟩|⟨rfl,S,n,hk⟩
  ·obtain⟨its,_,pl,_⟩:=I.list hq
   refine⟨pl.isList.typeIs,fun a e=>?_⟩;cases e;obtain⟨o,n,e,c,hd,_⟩:=pl;exact⟨o,e,hd⟩
  ·refine⟨⟨o,I.kIn p o hk,hc⟩,fun a e=>?_⟩
   cases e;exact⟨o,I.kIn _ o hk,hd⟩
  ·have z:∃o,s.heap.get? p=some o/\o.ExactDict:=by
    rcases hk with ⟨kvs,hk⟩|⟨kvs,hk⟩
    ·obtain⟨_,_,_,_,o,_,_,e,ex,_⟩:=I.hok p _ hk
     exact⟨o,e,ex⟩
    ·obtain⟨_,_,_,_,o,_,_,e,ex,_⟩:=I.hok p _ hk
     exact⟨o,e,ex⟩
   obtain⟨o,e,ex⟩:=z;refine⟨⟨o,e,ex.1⟩,fun a e2=>?_⟩;cases e2;exact⟨o,e,ex.2.1⟩
  ·obtain⟨o,_,_,_,e,ex,_⟩:=I.hok p _ hk
   refine⟨⟨o,e,ex.1⟩,fun a e2=>?_⟩;cases e2;exact⟨o,e,ex.2.1⟩
 |_=>exact Z3 ty
def Jo(K:W.Frag)(T:String)(r:V->List V->Hp->VK->Prop)(to:TE):TE:=fun σ H Q=>to σ H fun x H1=>tyV K T x H1/\r x [] H1 Q
def tBM(K:W.Frag)(T:String)(r:V->List V->Hp->VK->Prop)(to:TE)(t:TA):TE:=fun σ H Q=>to σ H fun x H1=>tyV K T x H1/\t σ H1 fun xs H2=>r x xs H2 Q
variable{o e:Expr}{es:List Expr}{to:TE}{t:TA}{name:Str}{apos cpos:Pos}{T id:String}{r:V->List V->Hp->VK->Prop}
theorem Ja(pa:PlainAttrs T)(slot:Slot T name id)(hty:typeOf (.builtin id)=pure (.type "method_descriptor"))(hm:MtR X id r)(ho:PE X o to)
 (hbase:YR o name X.env (eval o X.env)=eval o X.env:=by rfl) (hline:(apos.endLine==cpos.line)=true:=by rfl):PE X (.Call (.Attribute o name apos) [] [] cpos) (Jo X.K T r to):=by
 intro pins s σ H Q I h;refine wpAny_Call_method0_late hbase hline (thn (ho pins s σ H _ I h) fun v s1 hq_=>?_);obtain⟨x,H1,I1,r1,ty,q1⟩:=hq_;obtain⟨h1,h2⟩:=CO I1 r1 ty;exact⟨T,id,pa,slot,hty,h1,h2,YF rfl (PySem.evalArgs_none (hm pins s1 σ H1 x [] v [] Q I1 r1 .nil q1))⟩
theorem K7(pa:PlainAttrs T)(slot:Slot T name id)(hty:typeOf (.builtin id)=pure (.type "method_descriptor"))(hm:MtR X id r)(ho:PE X o to)(ha:PA X (e::es) t)
 (hbase:YR o name X.env (eval o X.env)=eval o X.env:=by rfl)
 (hfew:((backTo cpos (starEach (e::es) X.env)).all (fun x=>!x.1)&&(backToKw cpos (Y8 [] X.env)).all (fun x=>x.1.isSome)
  && decide ((e::es).length+([]:List Keyword).length+(if ([]:List Keyword).isEmpty then 0 else 1)<30))=true:=by rfl)
 (hline:(apos.endLine==cpos.line)=true:=by rfl) (hs:starEach (e::es) X.env=(false,eval e X.env)::starEach es X.env:=by rfl) (hplain:(backTo cpos (starEach es X.env)).any (·.1)=false:=by rfl) :
 PE X (.Call (.Attribute o name apos) (e::es) [] cpos) (tBM X.K T r to t):=by
 intro pins s σ H Q I h;refine wpAny_Call_method_late hbase hfew hline rfl (thn (ho pins s σ H _ I h) fun v s1 hq_=>?_);obtain⟨x,H1,I1,r1,ty,q1⟩:=hq_;obtain⟨h1,h2⟩:=CO I1 r1 ty;refine⟨T,id,pa,slot,hty,h1,h2,?_⟩;have hA:=ha cpos pins s1 σ H1 _ I1 q1;rw[hs]at hA |-
 refine YF (by show(false || (backTo cpos (starEach es X.env)).any (·.1))=false;rw[hplain] <;> rfl) (YT ?_);exact thn hA fun us s2 hq_=>(by obtain⟨vs,H2,I2,r2,q2⟩:=hq_;exact hm pins s2 σ H2 x vs v us Q I2 r1 r2 q2)
end
def MtM(X:Cx)(id:String)(r:V->List V->Hp->VK->Prop):Prop:=
 ∀(pins:List (Addr × Obj)) (s:Shared) (σ:St) (H:Hp) (x:V) (xs:List V) (v:Value) (us:List Value) (Q:VK),Inv X pins σ H s->RelV x v->Vals xs us->r x xs H Q ->
  wpAny (model X.prog X.w) X.A (call (.builtin id) (v::us)) (EP X pins σ Q) X.xe s
theorem Vals.one:∀ {x:V} {us:List Value},Vals [x] us->∃u,us=[u]/\RelV x u
 |_,_,.cons r .nil=>⟨_,rfl,r⟩
theorem Vals.zero:∀ {us:List Value},Vals [] us->us=[]
 |_,.nil=>rfl
theorem Vals.dropLast{xs:List V}{us:List Value}(h:Vals xs us):Vals xs.dropLast us.dropLast:=by
 induction h with
 |nil=>exact .nil
 |cons r t ih=>
  cases t with
  |nil=>exact .nil
  |cons q t'=>exact .cons r ih
theorem xV{α:Type}(l:List α):l.eraseIdx (l.length-1)=l.dropLast:=by
 induction l with
 |nil=>rfl
 |cons a r ih=>
  cases r with
  |nil=>rfl
  |cons b r=>
   have e:(a::b::r).length-1=((b::r).length-1)+1:=by
    have h1:(a::b::r).length=r.length+2:=rfl;have h2:(b::r).length=r.length+1:=rfl;lia
   rw[e,List.eraseIdx_cons_succ,ih]
   all_goals rfl
section
variable{X:Cx}{pins:List (Addr × Obj)}{σ:St}{H:Hp}{s:Shared}{l b:Addr}{xs ys zs:List V}
theorem Inv.lset{its its':List Value}{f:Array Value->Array Value}(I:Inv X pins σ H s)(hH:H l=some (.lst xs))
 (e:s.heap.get? l=some { cls:=.type "list",data:=.seq its.toArray n }) (hf:f its.toArray=its'.toArray) (hv:Vals ys its') (hz:ys.length<=sizeLine) :
 Inv X pins σ (upd H l (.lst ys)) { s with heap:=s.heap.update l (ZT f),toks:=t' }:=by
 have q:=PySem.IsL.update e f;rw[hf]at q;refine I.write (x:=l) (e:=l) (by rw[hH];exact trivial) (.inl rfl) (fun b' u hb hu=>(Heap.get?_update_other s.heap (ZT f) (Ne.symm hb)).trans hu) ⟨_,q⟩ ?_;exact⟨hz,its',_,hv,q⟩
theorem Inv.lnew{its:List Value}(I:Inv X pins σ H s)(hv:Vals ys its)(hz:ys.length<=sizeLine) :
 Inv X pins σ (upd H s.heap.objs.size (.lst ys)) { s with heap:=s.heap.push { cls:=.type "list",data:=.seq its.toArray },toks:=t' }:=
 I.laid (fun _ _ q=>Heap.get?_push_of_some _ q) (xU _) ⟨hz,its,0,hv,Heap.get?_push_size _ rfl⟩
theorem Inv.fresh(I:Inv X pins σ H s):H s.heap.objs.size=none:=I.hok.fresh (xU _)
theorem Inv.lstM(I:Inv X pins σ H s)(hH:H l=some (.lst xs)):xs.length<=sizeLine/\∃(its:List Value) (n:Nat),Vals xs its/\xs.length=its.length/\s.heap.get? l=some { cls:=.type "list",data:=.seq its.toArray n }:=by
 obtain⟨z,its,n,r,e⟩:=I.hok l _ hH;exact⟨z,its,n,r,r.length,e⟩
theorem o9(h:n<=sizeLine):Xj n=false:=by
 unfold Xj;exact decide_eq_false (by lia)
end
section
variable{X:Cx}
def yX:V->List V->Hp->VK->Prop:=fun x vs H Q=>∃l xs y,x = .ref l/\vs=[y]/\H l=some (.lst xs)/\xs.length<sizeLine/\Q .non (upd H l (.lst (xs++[y])))
theorem dX:MtM X "list.append" yX:=by
 intro pins s σ H x vs v us Q I rx rv h;obtain⟨l,xs,y,rfl,rfl,hH,hz,q⟩:=h;cases rx;obtain⟨u,rfl,ru⟩:=rv.one;obtain⟨z,its,n,r,hl,e⟩:=I.lstM hH;refine Y7 F.slot_list_append ⟨_,e,rfl⟩ F.entry_list_append (F.args_list_append_2 _ _) (PySem.list_append l its.toArray n u (by rw[z8];lia)) ⟨e,?_⟩;refine⟨.non,_,I.lset (its':=its++[u]) hH e (by simp) (r.append (.cons ru .nil)) ?_,rfl,q⟩;rw[vx,Ye];lia
def Eg:V->List V->Hp->VK->Prop:=fun x vs H Q=>∃l b xs zs,x = .ref l/\vs=[.ref b]/\H l=some (.lst xs)/\H b=some (.lst zs)/\xs.length+zs.length<=sizeLine/\Q .non (upd H l (.lst (xs++zs)))
theorem Jr:MtM X "list.extend" Eg:=by
 intro pins s σ H x vs v us Q I rx rv h;obtain⟨l,b,xs,zs,rfl,rfl,hH,hB,hz,q⟩:=h;cases rx;obtain⟨u,rfl,ru⟩:=rv.one;cases ru;obtain⟨z,its,n,r,hl,e⟩:=I.lstM hH;obtain⟨z2,its2,n2,r2,hl2,e2⟩:=I.lstM hB;have hsz:its.toArray.size+its2.toArray.size<=sizeLine:=by rw[z8,z8];lia
 have hlong:¬ (!its.toArray.isEmpty&&Xj (its.toArray.size+its2.toArray.size))=true:=by
  rw[o9 hsz,Bool.and_false];exact vX
 refine Y7 F.slot_list_extend ⟨_,e,rfl⟩ F.entry_list_extend (F.args_list_extend_2 _ _)
  (AutoSeq1.list_extend_list_list_0 l its.toArray n b its2.toArray n2 hlong (by rw[z8];lia) (by lia)) ⟨e,e2,?_⟩
 refine⟨.non,_,I.lset (its':=its++its2) hH e (by simp) (r.append r2) ?_,rfl,q⟩;rw[vx];lia
def Mb:V->List V->Hp->VK->Prop:=fun x vs H Q=>∃l xs y,x = .ref l/\vs=[]/\H l=some (.lst xs)/\xs[xs.length-1]? = some y/\Q y (upd H l (.lst xs.dropLast))
theorem LB:MtM X "list.pop" Mb:=by
 intro pins s σ H x vs v us Q I rx rv h;obtain⟨l,xs,y,rfl,rfl,hH,hy,q⟩:=h;cases rx;have hus:=rv.zero;subst hus;obtain⟨z,its,n,r,hl,e⟩:=I.lstM hH;obtain⟨u,hu,ru⟩:=r.get hy;have hy':its.toArray[its.toArray.size-1]? = some u:=by
  show its.toArray[its.length-1]? = some u;rw[<- Array.getElem?_toList,<- hl];exact hu
 refine Y7 F.slot_list_pop ⟨_,e,rfl⟩ F.entry_list_pop (F.args_list_pop_1 _) (MeetsSeq.list_pop_last l its.toArray n u hy' (by rw[z8];lia)) ⟨e,?_⟩;refine⟨y,_,I.lset (its':=its.dropLast) hH e ?_ r.dropLast ?_,ru,q⟩
 ·show its.toArray.eraseIdxIfInBounds (its.toArray.size-1)=its.dropLast.toArray
  rw[z8,List.eraseIdxIfInBounds_toArray,xV]
 ·rw[List.length_dropLast]
  lia
def CF:V->List V->Hp->VK->Prop:=fun x vs H Q=>∃l xs,x = .ref l/\vs=[]/\H l=some (.lst xs)/\Q .non (upd H l (.lst []))
theorem Cn:MtM X "list.clear" CF:=by
 intro pins s σ H x vs v us Q I rx rv h;obtain⟨l,xs,rfl,rfl,hH,q⟩:=h;cases rx;have hus:=rv.zero;subst hus;obtain⟨z,its,n,r,hl,e⟩:=I.lstM hH;refine Y7 F.slot_list_clear ⟨_,e,rfl⟩ F.entry_list_clear (F.args_list_clear_1 _) (AutoSeq1.list_clear_list_0 l its.toArray n (by rw[z8];lia)) ⟨e,?_⟩;exact⟨.non,_,I.lset (its':=[]) (ys:=[]) hH e rfl .nil (Zv _),rfl,q⟩
def L7:R2:=fun x y H Q=>∃l b xs zs,x = .ref l/\y = .ref b/\H l=some (.lst xs)/\H b=some (.lst zs)/\xs.length+zs.length<=sizeLine/\∀p,H p=none->Q (.ref p) (upd H p (.lst (xs++zs)))
theorem HN:OpR X (binaryOp .Add) L7:=by
 intro pins s σ H x y v u Q I rx ry h;obtain⟨l,b,xs,zs,rfl,rfl,hH,hB,hz,q⟩:=h;cases rx;cases ry;obtain⟨z,its,n,r,hl,e⟩:=I.lstM hH;obtain⟨z2,its2,n2,r2,hl2,e2⟩:=I.lstM hB;refine PySem.P.add_list e e2 ?_ (by rw[z8,z8];lia);have ea:its.toArray++its2.toArray=(its++its2).toArray:=by simp
 rw[ea];exact⟨.ref _,_,I.lnew (t':=s.toks) (r.append r2) (by rw[vx];lia),rfl,q _ I.fresh⟩
end
end L2
namespace Att
open PySem PySem.W PySem.Calls PyProof.Rows
theorem nE:∀(ns:List Int) (vs:List Value),WellAll P h vs (ns.map WData.int)->IntsAre vs ns:=by
 intro ns
 induction ns with
 |nil=>
  intro vs w;rw[ZX]at w;cases w;exact .nil
 |cons n ns ih=>
  intro vs w;rw[wV]at w;cases w with
  |cons a b=>
   cases a;exact .cons _ _ (ih _ b)
theorem zu{l:OpenLaw}(hn:l.most=some n){h:Heap}
 (hpre:l.row.toRowW.claim.pre args=true) (hwl:WellAll P h vals args) :
 ∃a vs ns,vals=[wU a]/\args=[WData.list (ns.map WData.int)]/\h.get? a=some { cls:=.type "list",data:=.seq vs.toArray }/\IntsAre vs ns/\ns.length<=n:=by
 have hsh:WShape.hasAll [] args [.list .int]=true:=(pre_splitW hpre).1;have hc:l.pre.holds [] { args:=args }=true:=(pre_splitW hpre).2;obtain⟨d,r,rfl,h1,h2⟩:=hasAllW_cons hsh;obtain rfl:=hasAllW_nil h2;obtain⟨xs,rfl,h3⟩:=hasW_list h1;obtain⟨ns,rfl⟩:=items_int h3;have hlen:ns.length<=n:=by
  unfold OpenLaw.pre at hc;have h4:(WTm.not (.lt (.lit (.int (n:Int))) (.len (.arg 0)))).holds [] { args:=[.list (ns.map .int)] }=true:=by
   have h4:=(holds_andW hc).1;rw[hn]at h4;exact h4
  have h5:=condW_of h4 (w_not (w_lt w_lit (w_len_list (w_arg rfl))));rw[zV]at h5;refine Nat.le_of_not_lt fun q=>?_;have q':(n:Int)<((ns.length:Nat):Int):=by lia
  first
   |(rw[decide_eq_true q']at h5;exact absurd h5 (by decide))
   |(simp at h5;lia)
 cases hwl with
 |cons w1 w2=>
  cases w2;cases w1 with
  |list ho hall=>exact⟨_,_,ns,rfl,rfl,ho,nE ns _ hall,hlen⟩
theorem Am(l:OpenLaw)(args:List WData):l.row.toRowW.claim.post args (.bool true) args=true:=
 postW_of (r:=l.row.toRowW) (X:=(true==true))
  (show WShape.has [] (.bool true) .bool=true by first|rfl|decide|simp[WShape.has,WShape.arms,WShape.armsAll])
  (show(WTm.eq .res (.lit (.bool true))).value [] { args:=args,res:=some (.bool true),after:=args }=some (.bool (true==true)) from w_eq_bool (w_res rfl) w_lit) rfl
theorem attach_call{l:OpenLaw}{XP:(Str->Option Value)->Heap->Prop}{d:DefRec}
 (hn:l.most=some n) (hdf:d.params.defaults=[])
 (call:∀(w:World) (s₀ s₁:Shared) (mg mb:Str->Option Value) (fa:Addr) (o:Obj) (pm cd doc:Value) (a:Addr) (vs:List Value) (ns:List Int),
  Ground q loose [] XP w s₀ mg mb s₁.heap->YP w s₁.heap ->
  s₁.heap.get? fa=some o->o.data = .func (docDef d.name d.params d.body d.scope pm cd doc)->s₁.heap.CodeRec cd d.name->mg d.name=some (.ref fa) ->
  s₁.heap.get? a=some { cls:=.type "list",data:=.seq vs.toArray }->IntsAre vs ns->ns.length<=n->s₁.gens = #[] ->
  codeAny (model l.prog w) callerA (.call (.ref fa) ⟨[.ref a],[]⟩) (fun r s'=>r = .ok (.ret (.bool true))/\OldK s₁.heap s'.heap/\s'.os=s₁.os/\AllBare s'.gens) s₁) :
 WalkO q loose XP YP l.row.toRowW d [] (fun f vs=>PySem.call f vs):=by
 intro w s₀ s₁ mg mb G Y fa o pm cd doc dV kV ho hd hcd hD hmg hg args vals as hpre hlay hrd hwl hlo;obtain rfl:dV = .none:=Dflts.none hD hdf;obtain rfl:kV = .none:=Dflts.noKw hD;obtain⟨a,vs,ns,rfl,rfl,hobj,hints,hlen⟩:=zu hn hpre hwl;refine enter_call (codeAny_mono (call w s₀ s₁ mg mb fa o pm cd doc a vs ns G Y ho (fd_plain hd) hcd hmg hobj hints hlen hg) fun r s' hq=>?_);obtain⟨rfl,h2,h3,h4⟩:=hq;exact⟨.inl ⟨.bool true,.bool true,[],rfl,fun _=>rfl,.bool true,Am l _,fun _=>⟨List.Pairwise.nil,fun _ hm=>(nomatch hm)⟩⟩,h2,h3,h4⟩
end Att
namespace L2
open PySem PySem.Spec PyProof.Rows
theorem qS:∀ {vs:List Value} {ns:List Int},IntsAre vs ns->Vals (ns.map V.int) vs
 |_,_,.nil=>.nil
 |_,_,.cons n t h=>.cons ⟨t,rfl⟩ (qS h)
def An(H:Hp):Prop:=∀b,H b=none\/∃o xs,H b=some (.frz o (.lst xs))
theorem Dx{K:W.Frag}{s₁:Shared}{vs:List Value}{ns:List Int}
 (KX:K.In s₁.heap) (hns:s₁.heap.Ns ZL mg) (hb:s₁.heap.Ns builtinsNs mb) (hbb:∀x:Str,x ≠ "__name__" -> mb x=Zh x) (hlim:s₁.heap.NoLimit) (hg:s₁.gens = #[])
 (ha:s₁.heap.get? a=some { cls:=.type "list",data:=.seq vs.toArray }) (hi:IntsAre vs ns) (hl:ns.length<=sizeLine) (hr:Room k callerA)
 (F:∀base:Heap,K.In base->base.Ns ZL mg->ig P w K mg base CX k fa fd [x] sp) (hbind:∀(s:Shared) (u:Value),BindsTo s fd ⟨[u],[]⟩ [(x,u)])
 (hsp:∀H:Hp,An H->SqL K H a (ns.map V.int)->sp [.ref a] H (fun v _=>v = .bl true) fun _ _ _=>False)
 (hCX:∀H e s',CX [] H s₁ (fun _ _ _=>False) e s'->False) :
 codeAny (model P w) callerA (.call (.ref fa) ⟨[.ref a],[]⟩) (fun r s'=>r = .ok (.ret (.bool true))/\OldK s₁.heap s'.heap/\s'.os=s₁.os/\AllBare s'.gens) s₁:=by
 have rv:=qS hi;have lenV:=hi.length;have core:∀H:Hp,An H->SqL K H a (ns.map V.int)->HOk P w H s₁.heap->(∀b,H b≠none->b=a)->(H a≠none->K.lookup a=none) ->
  codeAny (model P w) callerA (.call (.ref fa) ⟨[.ref a],[]⟩) (fun r s'=>r = .ok (.ret (.bool true))/\OldK s₁.heap s'.heap/\s'.os=s₁.os/\AllBare s'.gens) s₁:=by
  intro H hO hS hok hA hK;have base_of:∀ {b:Addr} {o:Obj},s₁.heap.get? b=some o->H b=none->(uj s₁.heap H).get? b=some o:=fun e n=>BZ e n;have noA:∀ {b:Addr} {o:Obj} {es:Array YM} {ep:Nat},s₁.heap.get? b=some o->o.data = .dict es ep->H b=none:=fun {b o es ep} e d=>by
   cases q:H b with
   |none=>rfl
   |some u=>
    have e':b=a:=hA b (by rw[q];simp);subst e';rw[ha]at e;cases e;have d':Data.seq vs.toArray _=YL es ep:=d;cases d'
  have nsK:∀ {b:Addr} {m:Str->Option Value},s₁.heap.Ns b m->(uj s₁.heap H).Ns b m:=fun {b m} ⟨o,es,ep,e,d,r⟩=>⟨o,es,ep,base_of e (noA e d),d,r⟩;have hKb:K.In (uj s₁.heap H):=fun b o e=>base_of (KX b o e) (by
   cases q:H b with
   |none=>rfl
   |some u=>
    have e':b=a:=hA b (by rw[q];simp);subst e';rw[hK (by rw[q];simp)]at e;cases e)
  have hM:Mod K mg (uj s₁.heap H):=⟨hKb,nsK hns,⟨mb,nsK hb,hbb⟩,let ⟨mc,h1,h2⟩:=hlim;⟨mc,nsK h1,h2⟩⟩;have e0:Env0 P w K mg (uj s₁.heap H) callerA [] s₁ H:=⟨rfl,hM,fun b o e=>Ft e,Nat.le_of_eq (Ar _ _),trivial,fun b hb=>absurd (show b∈([]:List Addr) from hb) (by simp),hok,.of_eq hg⟩;refine codeAny_mono ((F _ hKb (nsK hns)).run callerA [] s₁ H ⟨[.ref a],[]⟩ [.ref a] [.ref a] _ _ hr e0 (hbind s₁ (.ref a)) (.cons rfl .nil) (hsp H hO hS)) fun r s' h=>?_;cases r with
  |error e=>exact(hCX H e s' h).elim
  |ok fl=>
   cases fl with
   |next=>exact Z3 h
   |brk=>exact Z3 h
   |cont=>exact Z3 h
   |ret u=>
    obtain⟨v,H',os,bare,un,hok',r',q⟩:=h;have q':v = .bl true:=q;subst q';obtain rfl:u=Value.bool true:=r';refine⟨rfl,OldK.of_keep fun b o e=>?_,os,bare⟩;cases q:H b with
    |none=>exact un.keep b o e q (by intro z;exact absurd (show b∈([]:List Addr) from z) (by simp)) (by simp)
    |some u=>
     rcases hO b with z|⟨ob,xs,z⟩
     ·rw[q]at z;cases z
     ·have z2:=un.frzs b ob _ z
      obtain⟨e1,_⟩:=hok b _ z;obtain⟨e2,_⟩:=hok' b _ z2;rw[e]at e1;cases e1;exact e2
 cases hk:K.lookup a with
 |some o=>
  have e:=KX a o hk;rw[ha]at e;cases e;refine core (fun _=>none) (fun _=>.inl rfl) (.inr ⟨_,vs.toArray,_,hk,rfl,rfl,rfl,by rw[z8,lenV];exact hl,by simpa using rv⟩) (fun b u z=>by have z':(none:Option HO)=some u:=z;cases z') (fun b z=>absurd rfl z) fun z=>absurd rfl z
 |none=>
  refine core (fun b=>if b=a then some (.frz { cls:=.type "list",data:=.seq vs.toArray } (.lst (ns.map V.int))) else none) (fun b=>?_) (.inl (.inr ⟨{ cls:=.type "list",data:=.seq vs.toArray },if_pos rfl⟩)) (fun b u z=>?_) (fun b z=>?_) fun _=>hk
  ·by_cases hb:b=a
   ·exact .inr ⟨_,_,if_pos hb⟩
   ·exact .inl (if_neg hb)
  ·by_cases hb:b=a
   ·have z':=(if_pos hb).symm.trans z
    cases z';subst hb;exact⟨ha,by rw[zV];exact hl,vs,_,rv,ha⟩
   ·have z':=(if_neg hb).symm.trans z
    cases z'
  ·by_cases hb:b=a
   ·exact hb
   ·exact absurd (if_neg hb) z
theorem Fd{l:PySem.W.OpenLaw}{n k:Nat}{q:Program}{loose:List Str}{XP:(Str->Option Value)->Heap->Prop}{YP:World->Heap->Prop}{d:DefRec}{K:Params->W.Frag}{CX:World->CXT}{sp:World->Sp}{x:Str}
 (hn:l.most=some n) (hn2:n<=sizeLine) (hdf:d.params.defaults=[]) (hr:Room k callerA)
 (hY:∀(w:World) (h:Heap),YP w h->(K w.params).In h)
 (F:∀(w:World) (mg:Str->Option Value) (fa:Addr) (h:Heap),(K w.params).In h->h.Ns ZL mg->mg d.name=some (.ref fa) ->
  ∃fd:FuncData,(∀(s:Shared) (u:Value),BindsTo s fd ⟨[u],[]⟩ [(x,u)]) /\
   ∀base:Heap,(K w.params).In base->base.Ns ZL mg->ig l.prog w (K w.params) mg base (CX w) k fa fd [x] (sp w))
 (hsp:∀(w:World) (H:Hp) (a:Addr) (ns:List Int),ns.length<=n->An H->SqL (K w.params) H a (ns.map V.int)->sp w [.ref a] H (fun v _=>v = .bl true) fun _ _ _=>False)
 (hCX:∀(w:World) (H:Hp) (s:Shared) (e:Value) (s':Shared),CX w [] H s (fun _ _ _=>False) e s'->False) :
 PySem.W.WalkO q loose XP YP l.row.toRowW d [] (fun f vs=>PySem.call f vs):=by
 refine Att.attach_call hn hdf fun w s₀ s₁ mg mb fa o pm cd doc a vs ns G Y ho hd hcd hmg hobj hints hlen hg=>?_;have KX:=hY w _ Y;obtain⟨fd,hb,hF⟩:=F w mg fa _ KX G.T.g hmg;exact Dx KX G.T.g G.T.b G.T.builtins G.T.nolimit hg hobj hints (Zt hlen hn2) hr hF hb (fun H hO hS=>hsp w H a ns hlen hO hS) fun H e s'=>hCX w H s₁ e s'
abbrev CX0:CXT:=fun _ _ _ _ _ _=>False
structure Fun(K:W.Frag)(x qual:Str)(st:Stmt)(f:Addr)(fd:FuncData):Prop where
 ex:∃(oc:Value) (od:Option Addr) (kV doc pm:Value) (an:Option Addr) (cdv ct:Value) (osl:Array (Option Value)),
  fd=YX x qual (iD st) (bh st) (ay st) .none kV doc pm an cdv ct/\K.lookup f=some ⟨oc,od,.func fd,osl⟩/\PySem.W.codeIn K cdv qual=true
 kp:Z4 K (.ref f)=true
section
variable{P:Program}{w:World}{K:W.Frag}{mg:Str->Option Value}{base:Heap}
theorem Fun.binds{x qual:Str}{st:Stmt}{f:Addr}{fd:FuncData}{ps:List Str}(F:Fun K x qual st f fd)
 (h:∀(kV doc pm:Value) (an:Option Addr) (cdv ct:Value) (us:List Value),us.length=ps.length->bindArgs (YX x qual (iD st) (bh st) (ay st) .none kV doc pm an cdv ct) ⟨us,[]⟩=pure (ps.zip us)):Binds K fd ps []:=by
 obtain⟨oc,od,kV,doc,pm,an,cdv,ct,osl,rfl,lk,hcd⟩:=F.ex;exact .all (h kV doc pm an cdv ct)
theorem xQ{x qual:Str}{st:Stmt}{f:Addr}{oc:Value}{od an:Option Addr}{osl:Array (Option Value)}{kV doc pm cdv ct:Value}(l:K.lookup f=some ⟨oc,od,.func (YX x qual (iD st) (bh st) (ay st) .none kV doc pm an cdv ct),osl⟩)
 (c:PySem.W.codeIn K cdv qual=true) (k:Z4 K (.ref f)=true):Fun K x qual st f (YX x qual (iD st) (bh st) (ay st) .none kV doc pm an cdv ct):=⟨⟨oc,od,kV,doc,pm,an,cdv,ct,osl,rfl,l,c⟩,k⟩
end
theorem JN{A B:Prop}(h:B):if false=true then A else B:=by
 rw[if_neg vX];exact h
theorem Ka{A B:Prop}(h:A):if true=true then A else B:=by
 rw[if_pos rfl];exact h
def Same(H H':Hp):Prop:=∀b o,H b=some o->H' b=some o
theorem Same.refl(H:Hp):Same H H:=fun _ _ h=>h
theorem Same.trans(a:Same H H1)(b:Same H1 H2):Same H H2:=fun c o h=>b c o (a c o h)
theorem Same.free{H H':Hp}(e:Same H H'){l:Addr}(h:H' l=Option.none):H l=Option.none:=by
 cases q:H l with
 |none=>rfl
 |some o=>
  rw[e l o q]at h;cases h
noncomputable def iU:HO->Bool
 | .dT _=>false
 | .frz _ u=>iU u
 |_=>true
def NoT(H:Hp):Prop:=∀a o,H a=some o->iU o=true
noncomputable def jS:HO->Bool
 | .lst _=>true
 | .tup _=>true
 | .dK _=>true
 | .rng _ _=>true
 |_=>false
structure Gc(H G H':Hp):Prop where
 a:Same H G
 b:Same G H'
 c:∀p o,G p=some o->H p=some o\/jS o=true
section
variable{P:Program}{w:World}{H G H':Hp}{h h':Heap}{a:Addr}{o:HO}
theorem ObjOk.gc(n:iU o=true)(x0:ObjOk P w H h a o)(x:ObjOk P w H' h' a o):ObjOk P w H h' a o:=by
 induction o with
 |ins C dx fs=>exact⟨x0.1,x.2⟩
 |dT kvs=>cases n
 |frz ob u ih=>exact⟨x.1,ih n x0.2 x.2⟩
 |_=>exact x
theorem ObjOk.plain(n:jS o=true)(x:ObjOk P w H' h' a o):ObjOk P w H h' a o:=by
 cases o with
 |lst xs=>exact x
 |tup xs=>exact x
 |dK kvs=>exact x
 |rng lo hi=>exact x
 |_=>cases n
theorem HOk.gc(n:NoT H)(x0:HOk P w H h)(x:HOk P w H' h')(g:Gc H G H'):HOk P w G h':=fun a o e=>by
 rcases g.c a o e with q|q
 ·refine(((x0 a o q).gc (n a o q) (x a o (g.b a o e)))).stay (fun _ _ _ z=>z) (fun b z=>g.a _ _ z) fun b xs z=>g.a _ _ z
 ·exact(x a o (g.b a o e)).plain q
theorem Un.gc(u:Un fs ex H H' h h')(g:Gc H G H'):Un fs ex H G h h':=
 ⟨u.keep,u.slot,fun b o q n hx=>g.b.free (u.free b o q n hx),u.there,fun b xs q=>g.a _ _ q,fun b o x q=>g.a _ _ q,fun b ps q=>⟨#[],by rw[Array.append_empty];exact g.a _ _ q⟩⟩
theorem Gc.refl:Gc H H H:=⟨Same.refl H,Same.refl H,fun _ _ e=>.inl e⟩
theorem Gc.none(s:Same H H'):Gc H H H':=⟨Same.refl H,s,fun _ _ e=>.inl e⟩
theorem aj(o:HO)(hp:H p=Option.none):Same H (upd H p o):=fun b u e=>by rw[ai (aL e hp)];exact e
theorem Gc.one(s:Same H H')(hp:H p=Option.none)(e:H' p=some o)(n:jS o=true):Gc H (upd H p o) H':=
 ⟨aj o hp,fun b u z=>by
  by_cases hb:b=p
  ·subst hb;rw[af]at z;cases z;exact e
  ·rw[ai hb]at z;exact s b u z,fun b u z=>by
  by_cases hb:b=p
  ·subst hb;rw[af]at z;cases z;exact .inr n
  ·rw[ai hb]at z;exact .inl z⟩
theorem NoT.upd(n:NoT H)(d:iU o=true):NoT (upd H p o):=fun b u z=>by
 by_cases hb:b=p
 ·subst hb;rw[af]at z;cases z;exact d
 ·rw[ai hb]at z;exact n b u z
end
theorem Inv.gc(n:NoT H)(I:Inv X pins σ H s)(J:Inv X pins' σ' H' s')(g:Gc H G H'):Inv X pins' σ' G s':=
 ⟨J.ok,J.os,J.bare,⟨J.base.keep,J.base.slot,fun b o q z hx=>g.b.free (J.base.free b o q z hx),J.base.there,fun b xs q=>g.a _ _ (I.base.tups b xs q),fun b o x q=>g.a _ _ (I.base.frzs b o x q),fun b ps q=>let ⟨m,e⟩:=I.base.tbls b ps q;⟨m,g.a _ _ e⟩⟩,
  J.loc,J.cell,g.b.free J.free,fun x c e=>g.b.free (J.freeC x c e),fun p hp=>let ⟨e,z,r⟩:=J.pin p hp;⟨e,g.b.free z,r⟩,HOk.gc n I.hok J.hok g,J.len⟩
def tGc(t:TE):TE:=fun σ H Q=>NoT H/\t σ H fun v H'=>∃G,Gc H G H'/\Q v G
theorem GG(h:PE X e t):PE X e (tGc t):=fun pins s σ H Q I ⟨n,q⟩=>
 thn (h pins s σ H _ I q) fun u s1 ⟨v,H1,I1,r,G,g,q1⟩=>⟨v,G,I.gc n I1 g,r,q1⟩
def Ky(t:TT):TT:=fun σ H Q=>NoT H/\t σ H fun v H'=>∃G,Gc H G H'/\Q v G
theorem yF(h:PT X e t):PT X e (Ky t):=fun pins s σ H Q I ⟨n,q⟩=>
 thn (h pins s σ H _ I q) fun u s1 ⟨H1,I1,G,g,q1⟩=>⟨G,I.gc n I1 g,q1⟩
def K2{α:Type}:Sem α->Prop
 | .rule _ k=>K2 (k ())
 | .at _ k=>K2 (k ())
 | .load _ _ k=>∀o,K2 (k o)
 | .update _ _ f k=>(∀(o:Obj) vs,o.data = .fields vs->∃ws,(f o).data = .fields ws/\ws[2]? = vs[2]?)/\K2 (k ())
 | .loadIfAlive _ k=>∀o,K2 (k o)
 | .point _ k=>K2 (k ())
 | .alloc _ k=>∀a,K2 (k a)
 | .fresh k=>∀n,K2 (k n)
 | .ask k=>∀x,K2 (k x)
 | .choose _ _ k=>∀n,K2 (k n)
 | .os _ _ k=>∀x,K2 (k x)
 | .call ..=>False
 | .handled _ k=>∀x,K2 (k x)
 | .genState _ k=>∀x,K2 (k x)
 | .newGen _ k=>∀n,K2 (k n)
 | .resume ..=>False
 | .stack k=>∀x,K2 (k x)
 | .thread k=>∀n,K2 (k n)
 |_=>True
def F2(h:Heap)(e:Addr):Prop:=∃o vs,h.get? e=some o/\o.data = .fields vs/\vs[2]? = some .none
theorem K2.bind{α β:Type}{t:Sem α}{f:α->Sem β}(h:K2 t)(g:∀a,K2 (f a)):K2 (t >>= f):=by
 show K2 (t.bind f)
 induction t with
 |pure a=>exact g a
 |rule _ k ih=>exact ih () h
 | «at» _ k ih=>exact ih () h
 |load _ _ k ih=>exact fun o=>ih o (h o)
 |update _ _ _ k ih=>exact⟨h.1,ih () h.2⟩
 |loadIfAlive _ k ih=>exact fun o=>ih o (h o)
 |point _ k ih=>exact ih () h
 |alloc _ k ih=>exact fun o=>ih o (h o)
 |fresh k ih=>exact fun o=>ih o (h o)
 |ask k ih=>exact fun o=>ih o (h o)
 |choose _ _ k ih=>exact fun o=>ih o (h o)
 |os _ _ k ih=>exact fun o=>ih o (h o)
 |call=>exact h.elim
 |handled _ k ih=>exact fun o=>ih o (h o)
 |genState _ k ih=>exact fun o=>ih o (h o)
 |newGen _ k ih=>exact fun o=>ih o (h o)
 |resume=>exact h.elim
 |stack k ih=>exact fun o=>ih o (h o)
 |thread k ih=>exact fun o=>ih o (h o)
 |_=>trivial
theorem F2.push{h:Heap}{e:Addr}(x:F2 h e)(o:Obj):F2 (h.push o) e:=by
 obtain⟨oe,vs,e1,e2⟩:=x;exact⟨oe,vs,Heap.get?_push_of_some _ e1,e2⟩
theorem F2.update{h:Heap}{e:Addr}(x:F2 h e)(a:Addr){f:Obj->Obj}(hf:∀(o:Obj) vs,o.data = .fields vs->∃ws,(f o).data = .fields ws/\ws[2]? = vs[2]?):F2 (h.update a f) e:=by
 obtain⟨oe,vs,e1,e2,e3⟩:=x;by_cases ea:a=e
 ·subst ea
  obtain⟨ws,w1,w2⟩:=hf oe vs e2;exact⟨_,ws,Heap.get?_update_self _ e1 (Obj.isFreed_of_fields w1),w1,w2.trans e3⟩
 ·exact⟨oe,vs,(Heap.get?_update_other _ _ ea).trans e1,e2,e3⟩
theorem Lm{α:Type}{M:Model}{Γ:PySem.Ctx}{e:Addr}{t:Sem α}:∀ {Q:α->Pos->Shared->Prop} {E:Value->Pos->Shared->Prop} {p:Pos} {s:Shared},K2 t->Sem.wp M Γ t Q E p s->F2 s.heap e->Sem.wp M Γ t (fun a p s'=>Q a p s'/\F2 s'.heap e) (fun x p s'=>E x p s'/\F2 s'.heap e) p s:=by
 induction t with
 |pure a=>intro Q E p s _ h f;rw[Sem.wp]at h |-; exact⟨h,f⟩
 |raise x=>intro Q E p s _ h f;rw[Sem.wp]at h |-; exact⟨h,f⟩
 |unsupported=>intro Q E p s _ h f;rw[Sem.wp]at h;exact h.elim
 |finish=>intro Q E p s _ h f;rw[Sem.wp]at h;exact h.elim
 |rule _ k ih=>intro Q E p s g h f;rw[Sem.wp]at h |-; exact ih () g h f
 | «at» _ k ih=>intro Q E p s g h f;rw[Sem.wp]at h |-; exact ih () g h f
 |load _ _ k ih=>intro Q E p s g h f;rw[Sem.wp]at h |-; obtain⟨o,h1,h2⟩:=h;exact⟨o,h1,ih o (g o) h2 f⟩
 |update a _ _ k ih=>intro Q E p s g h f;rw[Sem.wp]at h |-; exact⟨h.1,ih () g.2 h.2 (f.update a g.1)⟩
 |loadIfAlive _ k ih=>intro Q E p s g h f;rw[Sem.wp]at h |-; exact ih _ (g _) h f
 |point _ k ih=>intro Q E p s g h f;rw[Sem.wp]at h |-; exact ih () g h f
 |register=>intro Q E p s _ h f;rw[Sem.wp]at h;exact h.elim
 |alloc o k ih=>intro Q E p s g h f;rw[Sem.wp]at h |-; exact ih _ (g _) h (f.push o)
 |fresh k ih=>intro Q E p s g h f;rw[Sem.wp]at h |-; exact ih _ (g _) h f
 |ask k ih=>intro Q E p s g h f;rw[Sem.wp]at h |-; exact ih _ (g _) h f
 |choose _ _ k ih=>intro Q E p s g h f;rw[Sem.wp]at h |-; exact⟨h.1,ih _ (g _) h.2 f⟩
 |os _ _ k ih=>intro Q E p s g h f;rw[Sem.wp]at h |-; exact ih _ (g _) h f
 |call=>intro Q E p s g;exact g.elim
 |handled _ k ih=>intro Q E p s g h f;rw[Sem.wp]at h |-; exact ih _ (g _) h f
 |genState _ k ih=>intro Q E p s g h f;rw[Sem.wp]at h |-; obtain⟨st,h1,h2⟩:=h;exact⟨st,h1,ih _ (g _) h2 f⟩
 |newGen _ k ih=>intro Q E p s g h f;rw[Sem.wp]at h |-; exact ih _ (g _) h f
 |resume=>intro Q E p s g;exact g.elim
 |yield=>intro Q E p s _ h f;rw[Sem.wp]at h;exact h.elim
 |stack k ih=>intro Q E p s g h f;rw[Sem.wp]at h |-; exact ih _ (g _) h f
 |fork=>intro Q E p s _ h f;rw[Sem.wp]at h;exact h.elim
 |thread k ih=>intro Q E p s g h f;rw[Sem.wp]at h |-; exact ih _ (g _) h f
 |await=>intro Q E p s _ h f;rw[Sem.wp]at h;exact h.elim
theorem Dj{α:Type}{M:Model}{A:Around}{e:Addr}{t:Sem α}{Q:α->Shared->Prop}{E:Value->Shared->Prop}{s:Shared}(k:K2 t)(f:F2 s.heap e)(h:wpAny M A t Q E s):wpAny M A t (fun a s'=>Q a s'/\F2 s'.heap e) (fun x s'=>E x s'/\F2 s'.heap e) s:=fun Γ p hg=>Lm k (h Γ p hg) f
theorem k_(v:Value)(i:Nat):K2 (field v i):=by
 refine K2.bind ?_ fun vs=>?_
 ·unfold fieldsOf
  split
  ·refine K2.bind (fun o=>trivial) fun o=>?_
   split <;> trivial
  ·trivial
 ·split <;> trivial
theorem jg(v:Value){i:Nat}(h:i≠2)(x:Value):K2 (setField v i x):=by
 unfold setField;split
 ·unfold updateField
  refine K2.bind (fun o=>trivial) fun o=>?_;split
  ·split
   ·refine⟨fun o vs e=>⟨_,Obj.data_mapFields e _,?_⟩,trivial⟩
    rw[Array.getElem?_setIfInBounds_ne h]
   ·trivial
  ·trivial
 ·trivial
theorem vQ:∀l:List Env,K2 (readyFrames l)
 | []=>trivial
 |env::outer=>by
  unfold readyFrames;split
  ·refine K2.bind (fun o=>trivial) fun o=>?_
   split
   ·trivial
   ·refine K2.bind ?_ fun im=>K2.bind ?_ fun bk=>K2.bind ?_ fun _=>vQ outer
    ·unfold behindIsImport
     split
     ·trivial
     ·split
      ·trivial
      ·exact K2.bind (k_ _ _) fun _=>trivial
    ·unfold keptBack
     split
     ·split
      ·trivial
      ·refine K2.bind ?_ fun _=>trivial
       exact K2.bind (fun st=>trivial) fun _=>trivial
     ·trivial
    ·exact⟨fun o vs e=>⟨vs,e,rfl⟩,trivial⟩
  ·trivial
theorem xp(env:Env):K2 (PySem.frameOf env):=by
 unfold PySem.frameOf frameEnvs;refine K2.bind (fun st=>trivial) fun es=>K2.bind ?_ fun o=>?_
 ·unfold frameObject
  split
  ·trivial
  ·exact K2.bind (vQ _) fun _=>trivial
 ·split <;> trivial
theorem BE(a b c d f:Value)(p:List Value):K2 (EntryCells.newEntry a b c d f p):=by
 unfold EntryCells.newEntry newFields newObj;dsimp only;have nw:∀d:Data,K2 (newObjAsIs (Yi "traceback") d):=fun d=>by
  unfold newObjAsIs;exact K2.bind (fun a=>trivial) fun a=>trivial
 generalize ([a,b,c,d,f]++if p.isEmpty=true then Zm 6 Z2 else p).toArray=l;split
 ·exact K2.bind trivial fun _=>nw _
 ·exact nw _
theorem DJ(f:Addr)(b:Bool):K2 (entryPlaceOf f b):=by
 unfold entryPlaceOf;refine K2.bind (fun st=>trivial) fun st=>?_;split <;> trivial
theorem sf(e:Value)(env:Env):K2 (noteFrame e env):=by
 unfold noteFrame;split
 ·refine K2.bind (k_ _ _) fun hd=>?_
  have jp:∀f:Addr,K2 (do let a <- PySem.frameOf env;let b <- entryPlaceOf f (hd != Z2);let c <- EntryCells.newEntry hd a Z2 (rawInt f) Z2 b;setField e 1 c):=fun f=>K2.bind (xp _) fun a=>K2.bind (DJ _ _) fun b=>K2.bind (BE ..) fun c=>jg _ (by decide) _;dsimp only;split
  ·refine K2.bind (k_ _ _) fun x=>?_
   split
   ·trivial
   ·exact K2.bind (jg _ (by decide) _) fun _=>jp _
  ·exact jp _
 ·trivial
theorem g9(e:Value)(fr:Option Addr):K2 (setFlight e fr):=by
 unfold setFlight;refine K2.bind (k_ _ _) fun tb=>?_;split
 ·exact jg _ (by decide) _
 ·trivial
theorem j2(env:Env)(e:Value):K2 (leaving env e):=by
 unfold leaving;exact K2.bind (sf _ _) fun _=>g9 _ _
theorem cA{α:Type}{M:Model}{A:Around}{e:Addr}{t:Sem α}{Q:α->Shared->Prop}{E:Value->Shared->Prop}{s:Shared}(k:K2 t)(f:F2 s.heap e)(h:wpAny M A t (fun a s'=>F2 s'.heap e->Q a s') E s):wpAny M A t Q E s:=
 Zs (Dj k f h) (fun _ _ q=>q.1 q.2) (fun _ _ q=>q.1)
theorem ObjOk.at_(x:ObjOk P w H h a o):∃ob,h.get? a=some ob:=by
 cases o with
 |lst xs=>obtain⟨_,_,_,_,e⟩:=x;exact⟨_,e⟩
 |tup xs=>obtain⟨_,_,_,ob,e,_⟩:=x;exact⟨_,e⟩
 |dK kvs=>obtain⟨_,_,_,_,o,_,_,e,_⟩:=x;exact⟨_,e⟩
 |dT kvs=>obtain⟨_,_,_,_,o,_,_,e,_⟩:=x;exact⟨_,e⟩
 |set S n=>obtain⟨o,_,_,_,e,_⟩:=x;exact⟨_,e⟩
 |ins C dx fs=>obtain⟨_,_,_,e,_⟩:=x;exact⟨_,e⟩
 |own y=>obtain⟨_,e⟩:=x;exact⟨_,e⟩
 |xd fs=>obtain⟨_,⟨_,_,_,e,_⟩,_⟩:=x;exact⟨_,e⟩
 |rng lo hi=>obtain⟨_,_,_,e⟩:=x;exact⟨_,e⟩
 |frz ob u=>obtain⟨e,_⟩:=x;exact⟨_,e⟩
 |tbl ps=>exact⟨_,(show h.get? a=some _ from x)⟩
 |met f y=>exact⟨_,(show h.get? a=some _ from x)⟩
 |ext φ=>obtain⟨_,⟨_,e⟩,_⟩:=x;exact⟨_,e⟩
theorem HOk.none_of(x:HOk P w H h)(e:h.get? a=none):H a=none:=by
 cases q:H a with
 |none=>rfl
 |some u=>
  obtain⟨ob,z⟩:=(x a u q).at_;rw[e]at z;cases z
noncomputable def hid(h:Heap)(l:List Env)(rs:List Addr):Heap:=PySem.W.hideAll h (frs l++rs)
theorem gv(e:h.get? b=some o)(h1:b∉frs l)(h2:b∉rs):(hid h l rs).get? b=some o:=
 PySem.W.hideAll_get _ e fun z=>(tT.mp z).elim h1 h2
theorem oM(e:(hid h l rs).get? b=some o):h.get? b=some o:=PySem.W.of_hideAll _ e
theorem j0(e:b∈rs):(hid h l rs).get? b=none:=PySem.W.hideAll_none _ (wC _ e)
theorem gg{h base:Heap}(e:h.FunFrames base l):h.FunFrames (hid h l rs) l:=
 PySem.W.funFrames_hide e fun _ he _ ha=>tW _ (List.mem_filterMap.mpr ⟨_,he,ha⟩)
def Fly(l:List Env)(rs:List Addr)(e:Addr)(cls:Value)(h:Heap):Prop:=e∈rs/\∃a0,Heap.FlyingW (hid h l rs) l e cls a0 h/\F2 h e
def XE(P:Program)(w:World):CXT:=fun outer H s E ev s'=>∃(e:Addr) (C:Value) (rs:List Addr) (H':Hp),ev = .ref e/\s'.os=s.os/\AllBare s'.gens/\Un (frs outer) [] H H' s.heap s'.heap /\
 HOk P w H' s'.heap/\(∀b∈rs,s.heap.get? b=none/\H' b=none)/\Fly outer rs e C s'.heap/\E C none H'
section
variable{X:Cx}{pins:List (Addr × Obj)}{σ:St}{H:Hp}{s:Shared}{h':Heap}{rs:List Addr}
theorem Inv.s0_none(I:Inv X pins σ H s)(hex:X.ex=[])(e:s.heap.get? b=none):X.s₀.heap.get? b=none:=by
 cases q:X.s₀.heap.get? b with
 |none=>rfl
 |some o=>
  obtain⟨o',z⟩:=I.base.there b o q (by rw[hex];simp);rw[e]at z;cases z
theorem Inv.noteUn(I:Inv X pins σ H s)(hex:X.ex=[])(hrs:∀b∈rs,X.s₀.heap.get? b=none)
 (stay:∀b o,s.heap.get? b=some o->b∉frs X.stack->b∉rs->h'.get? b=some o) (up:s.heap.UpToSlots h'):Un X.fs [] X.H₀ H X.s₀.heap h':=by
 have B:=I.base;rw[hex]at B;have nrs:∀b o,X.s₀.heap.get? b=some o->b∉rs:=fun b o e z=>by rw[hrs b z]at e;cases e
 have nst:∀b o,X.s₀.heap.get? b=some o->b∉X.fs->b∉frs X.stack:=fun b o e hb z=>by
  rcases zO.mp (I.stkSub b z) with q|q
  ·exact absurd (Zy (wF e) I.ok.above) (by rw[q];exact ZJ _)
  ·exact hb q
 refine⟨fun b o q n hb hx=>stay b o (B.keep b o q n hb hx) (nst b o q hb) (nrs b o q),fun b o q n hb hx=>?_,fun b o q n hx=>B.free b o q n hx,fun b o q hx=>?_,B.tups,B.frzs,B.tbls⟩
 ·obtain⟨sl,e1⟩:=B.slot b o q n hb hx
  obtain⟨_,o',ho',hd⟩:=I.funs.mem hb;rw[e1]at ho';cases ho';obtain⟨sl',e2⟩:=up b _ e1 hd;exact⟨sl',e2⟩
 ·obtain⟨o',e1⟩:=B.there b o q hx
  by_cases hb:b∈frs X.stack
  ·obtain⟨_,o2,ho2,hd⟩:=I.stack.mem hb
   obtain⟨sl',e2⟩:=up b _ ho2 hd;exact⟨_,e2⟩
  ·exact⟨o',stay b o' e1 hb (nrs b o q)⟩
theorem Inv.noteOk(I:Inv X pins σ H s)(hrs:∀b∈rs,H b=none)(stay:∀b o,s.heap.get? b=some o->b∉frs X.stack->b∉rs->h'.get? b=some o):HOk X.prog X.w H h':=fun a o e=>
 (I.hok a o e).stay (fun b u hb q=>stay b u q (fun z=>by
  have n:=I.stkFree b z;rcases hb with r|r
  ·rw[r,e]at n;cases n
  ·rw[r]at n;cases n) fun z=>by
  have n:=hrs b z;rcases hb with r|r
  ·rw[r,e]at n;cases n
  ·rw[r]at n;cases n) (fun _ q=>q) fun _ _ q=>q
theorem tD(hl:h.FunFrames base l)(up:h.UpToSlots h1)(e:(hid h l rs).get? T=none)(hT:h1.get? T=some oT)(hd:oT.data = .fields ts):h.get? T=none\/T∈rs:=by
 by_cases hr:T∈rs
 ·exact .inr hr
 ·refine .inl ?_
  cases q:h.get? T with
  |none=>rfl
  |some o=>
   by_cases hf:T∈frs l
   ·obtain⟨_,o2,ho2,hnf⟩:=hl.mem hf
    rw[q]at ho2;cases ho2;obtain⟨sl,e2⟩:=up T o q hnf;rw[hT]at e2;cases e2;exact absurd hd (hnf ts)
   ·rw[gv q hf hr]at e;cases e
end
section
variable{P:Program}{w:World}{K:W.Frag}{mg:Str->Option Value}{base:Heap}{N:List Str}{qual:Str}{scope:Scope}{f:Addr}{cd:Value}{A:Around}{outer:List Env}{s₀:Shared}{H₀:Hp}{E:XK}
theorem wD{s:Shared}
 (I:Inv (cp (XE P w) P w K mg base N qual scope f cd A outer s₀ H₀ E) pins σ H s) (hx:Heap.MadeExcOf s.heap h' e cls args) (q:E cls none H) :
 (cp (XE P w) P w K mg base N qual scope f cd A outer s₀ H₀ E).xe (.ref e) { s with heap:=h' }:=by
 show wpAny (model P w) (A.deeper (envOfC qual scope s₀.heap.objs.size f cd)) (leaving (envOfC qual scope s₀.heap.objs.size f cd) (.ref e)) (fun _ s''=>XE P w outer H₀ s₀ E (.ref e) s'') (fun e' s''=>XE P w outer H₀ s₀ E e' s'') { s with heap:=h' };have hst:s.heap.FunFrames base (envOfC qual scope s₀.heap.objs.size f cd::outer):=I.stack;have g0:F2 h' e:=by
  obtain⟨t,he,_,_⟩:=hx.there;exact⟨_,_,he,rfl,rfl⟩
 refine cA (e:=e) (j2 _ _) g0 (wpAny_leaves_madeW (base:=hid s.heap (envOfC qual scope s₀.heap.objs.size f cd::outer) []) (h:=s.heap) I.ok.frames rfl (fun b o z=>oM z) (gg hst) hx fun h'' t fl tup tn up g2=>?_);obtain⟨f1,f2,f3,oe,vs,T,oT,ts,he,hc,hd,h1,hnT,hTe,hT,hdT,h3⟩:=fl;have up':s.heap.UpToSlots h'':=(Heap.UpToSlots.of_keeps hx.keeps).trans up;have nT:s.heap.get? T=none:=(tD hst up' hnT hT hdT).elim id fun z=>nomatch z;have stay:∀b o,s.heap.get? b=some o->b∉frs (envOfC qual scope s₀.heap.objs.size f cd::outer)->b∉[e,T]->h''.get? b=some o:=fun b o z hb _=>f1 b o (gv z hb fun y=>nomatch y);have n0:∀b∈[e,T],s.heap.get? b=none:=fun b hb=>by
  rcases zO.mp hb with r|r
  ·rw[r];exact hx.new
  ·rw[zz.mp r];exact nT
 have n1:∀b∈[e,T],s₀.heap.get? b=none:=fun b hb=>I.s0_none rfl (n0 b hb);have n2:∀b∈[e,T],H b=none:=fun b hb=>I.hok.none_of (n0 b hb);refine⟨e,cls,[e,T],H,rfl,I.os,I.bare,I.noteUn rfl n1 stay up',I.noteOk n2 stay,fun b hb=>⟨n1 b hb,n2 b hb⟩,⟨.head _,.ref t,?_,g2⟩,q⟩;exact⟨fun b o z=>oM z,j0 (.head _),gg f3,oe,vs,T,oT,ts,he,hc,hd,h1,j0 (.tail _ (.head _)),hTe,hT,hdT,h3⟩
abbrev XKs:=St->XK
def bZ(CX:CXT)(X:Cx)(E:XKs):Prop:=∀(pins:List (Addr × Obj)) (σ:St) (H:Hp) (s:Shared) (e:Value) (s':Shared),Inv X pins σ H s->CX X.stack H s (E σ) e s'->X.xe e s'
def xI(X:Cx)(E:XKs):Prop:=∀(pins:List (Addr × Obj)) (σ:St) (H:Hp) (s:Shared) (h':Heap) (e:Addr) (cls:Value) (args:List Value),Inv X pins σ H s->Heap.MadeExcOf s.heap h' e cls args->E σ cls none H->X.xe (.ref e) { s with heap:=h' }
theorem bw:xI (cp (XE P w) P w K mg base N qual scope f cd A outer s₀ H₀ E) (fun _=>E):=fun _ _ _ _ _ _ _ _ I hx q=>wD I hx q
theorem av:bZ (XE P w) (cp (XE P w) P w K mg base N qual scope f cd A outer s₀ H₀ E) (fun _=>E):=by
 intro pins σ H s ev s' I hq;obtain⟨e,C,rs,H',rfl,os,bare,un,hok,hrs,⟨her,a0,fl,g0⟩,q⟩:=hq;have J:Inv (cp (XE P w) P w K mg base N qual scope f cd A outer s₀ H₀ E) pins σ H' s':=I.call' os un hok bare (fun b z=>nomatch z);show wpAny (model P w) (A.deeper (envOfC qual scope s₀.heap.objs.size f cd)) (leaving (envOfC qual scope s₀.heap.objs.size f cd) (.ref e)) (fun _ s''=>XE P w outer H₀ s₀ E (.ref e) s'') (fun e' s''=>XE P w outer H₀ s₀ E e' s'') s';have hst:s'.heap.FunFrames base (envOfC qual scope s₀.heap.objs.size f cd::outer):=J.stack;refine cA (e:=e) (j2 _ _) g0 (wpAny_leaves_onW (base:=hid s'.heap (envOfC qual scope s₀.heap.objs.size f cd::outer) rs) I.ok.frames rfl fl fun h'' fl' up g2=>?_);obtain⟨f1,f2,f3,oe,vs,T,oT,ts,he,hc,hd,h1,hnT,hTe,hT,hdT,h3⟩:=fl';have nT:=tD hst up hnT hT hdT;have stay:∀b o,s'.heap.get? b=some o->b∉frs (envOfC qual scope s₀.heap.objs.size f cd::outer)->b∉T::rs->h''.get? b=some o:=fun b o z hb hr=>f1 b o (gv z hb fun y=>hr (.tail _ y));have n1:∀b∈T::rs,s₀.heap.get? b=none:=fun b hb=>by
  rcases zO.mp hb with r|r
  ·rw[r]
   rcases nT with z|z
   ·exact J.s0_none rfl z
   ·exact I.s0_none rfl (hrs T z).1
  ·exact I.s0_none rfl (hrs b r).1
 have n2:∀b∈T::rs,H' b=none:=fun b hb=>by
  rcases zO.mp hb with r|r
  ·rw[r]
   rcases nT with z|z
   ·exact hok.none_of z
   ·exact(hrs T z).2
  ·exact(hrs b r).2
 refine⟨e,C,T::rs,H',rfl,J.os,J.bare,J.noteUn rfl n1 stay up,J.noteOk n2 stay,fun b hb=>⟨n1 b hb,n2 b hb⟩,⟨.tail _ her,a0,?_,g2⟩,q⟩;exact⟨fun b o z=>oM z,j0 (.tail _ her),gg f3,oe,vs,T,oT,ts,he,hc,hd,h1,j0 (.head _),hTe,hT,hdT,h3⟩
end
def sw(sp:Sp)(dvs:List V)(E:XKs)(t:TA):TE:=fun σ H Q=>t σ H fun vs H1=>sp (vs++dvs) H1 Q (E σ)
section
variable{X:Cx}{CX:CXT}{k:Nat}{f C:Addr}{fd:FuncData}{ps:List Str}{sp:Sp}{dvs:List V}{ds:List Value}{E:XKs}{x m:Str}{p pos apos:Pos}{e o:Expr}{es:List Expr}{ta:TE}{t:TA}
theorem si(F:ig X.prog X.w X.K X.mg X.base CX k f fd ps sp)(hr:Room k X.A)(hb:Binds X.K fd ps ds)(hd:Vals dvs ds)(hx:bZ CX X E)
 (I:Inv X pins σ H s) (r:Vals vs us) (h:sp (vs++dvs) H Q (E σ)):wpAny (model X.prog X.w) X.A (call (.ref f) us) (EP X pins σ Q) X.xe s:=by
 have r2:Vals (vs++dvs) (us++ds):=r.append hd;have hl:(us++ds).length=ps.length:=by rw[<- r2.length];exact F.len _ _ _ _ h
 refine wpAny_call (codeAny_mono (F.run X.A X.stack s H ⟨us,[]⟩ (us++ds) (vs++dvs) Q (E σ) hr I.env0 (hb s us I.kIn hl) r2 h) fun r s' hq=>?_);cases r with
 |error e=>exact hx pins σ H s e s' I hq
 |ok fl=>
  cases fl with
  |ret u=>exact I.after hq
  |next=>exact Z3 hq
  |brk=>exact Z3 hq
  |cont=>exact Z3 hq
theorem BU(F:ig X.prog X.w X.K X.mg X.base CX k f fd ps sp)(hr:Room k X.A)(hg:Gl X x)(hm:X.mg x=some (.ref f))(hk:Z4 X.K (.ref f)=true)(hb:Binds X.K fd ps ds)(hd:Vals dvs ds)(hx:bZ CX X E)
 (ha:PA X (e::es) t) (hdb:(x==("__debug__":Str))=false:=by decide) (he:starEach (e::es) X.env=(false,eval e X.env)::starEach es X.env:=by rfl) (hpl:(backTo pos (starEach es X.env)).any (·.1)=false:=by rfl) :
 PE X (.Call (.Name x p) (e::es) [] pos) (sw sp dvs E t):=by
 intro pins s σ H Q I h;refine YH (gj I hg hm ?_ hdb);refine PySem.W.callWith_K (h₀:=X.base) I.ok.mod.kin hk (thn (ha pos pins s σ H _ I h) fun us s1 ⟨vs,H1,I1,r,q⟩=>⟨I1.kIn,?_⟩) he hpl;exact si F hr hb hd hx I1 r q
end
section
variable{P:Program}{w:World}{K:W.Frag}{mg:Str->Option Value}{base:Heap}
theorem Fun.okX{x qual:Str}{st:Stmt}{f:Addr}{fd:FuncData}{N ps:List Str}{k:Nat}{sp:Sp}(F:Fun K x qual st f fd)(S:dA N ps (ay st))(len:∀vs H Q E,sp vs H Q E->vs.length=ps.length)
 (hbody:∀(cdv:Value) (A:Around) (outer:List Env) (s:Shared) (H:Hp) (vs:List V) (Q:VK) (E:XK),Room k (A.deeper (envOfC qual (ay st) s.heap.objs.size f cdv))->sp vs H Q E ->
  ∃t,PSs (cp (XE P w) P w K mg base N qual (ay st) f cdv A outer s H E) (bh st) t/\t { nx:=fun _ H'=>Q .non H',rt:=Q } (eD N vs) H):ig P w K mg base (XE P w) (k+1) f fd ps sp:=by
 obtain⟨oc,od,kV,doc,pm,an,cdv,ct,osl,rfl,lk,hcd⟩:=F.ex;exact KI lk hcd S len fun A outer s H vs Q E hr hsp=>hbody cdv A outer s H vs Q E hr hsp
end
theorem EZ{K:W.Frag}{h:Heap}(X:K.In h)(q:PySem.W.excIn K C bmB newId=true) :
 ∃bm N nm qn bs hdct sn sub ab col dd k0 k1 k2 k3 k5 mN,h.get? C=some (Y9 nm qn C N bs bm hdct sn sub ab col dd k0 k1 k2 k3 k5 newId)/\h.Ns N mN/\mN "__init__" = none/\OwnTail h bmB bm:=by
 unfold PySem.W.excIn at q;split at q
 ·rename_i dd cd sl ho
  split at q
  ·rename_i C' bm k0 k1 k2 k3 n k5 hm hs
   simp only[ZH,beq_iff_eq,Bool.not_eq_true']at q;obtain⟨⟨⟨⟨⟨rfl,rfl⟩,hdel⟩,ht⟩,hok⟩,hni⟩:=q;obtain⟨nm,bs,mro,ns,qn,hd,sn,sub,ab,col,del⟩:=cd;dsimp only at hm hdel hok hni;subst hm hdel;have hsl:sl = #[k0,k1,k2,k3,some (.builtin n),k5]:=by
    obtain⟨l⟩:=sl;simp only at hs;rw[hs]
   subst hsl;exact⟨bm,ns,nm,qn,bs,hd,sn,sub,ab,col,dd,k0,k1,k2,k3,k5,_,X _ _ ho,.of_isNs (PySem.W.isNs_of_in X hok),PySem.W.nsMap_none_of_in X hok hni,PySem.W.tail_of_in X ht⟩
  ·cases q
 ·cases q
def xN(C:Addr)(E:XKs)(t:TA):TS:=fun _ σ H=>t σ H fun vs H1=>vs.length<=sizeLine/\E σ (.ref C) none H1
theorem Dz{X:Cx}(O:PySem.W.excIn X.K C bmB newId=true)(FB:ExcBaseFacts B newId initId bmB)
 (hc:X.calm=true) (hg:Gl X x) (hm:X.mg x=some (.ref C)) (hx:xI X E) (ha:PA X (e::es) t) (hdb:(x==("__debug__":Str))=false:=by decide)
 (he:starEach (e::es) X.env=(false,eval e X.env)::starEach es X.env:=by rfl) (hpl:(backTo cpos (starEach es X.env)).any (·.1)=false:=by rfl) :
 PS X (.Raise (some (.Call (.Name x np) (e::es) [] cpos)) none pos) (xN C E t):=by
 intro pins s σ H D I h;obtain⟨tl,N,nm,q,bs,hdct,sn,sub,ab,col,dd,k0,k1,k2,k3,k5,mN,hC,hN,hni,T⟩:=EZ I.mod.kin O;refine wpAny_Raise_call_subT (C:=C) (nm:=nm) (q:=q) (N:=N) (bs:=bs) (bm:=tl) (hdct:=hdct) (sn:=sn) (sub:=sub) (ab:=ab) (col:=col) (dd:=dd) (k0:=k0) (k1:=k1) (k2:=k2) (k3:=k3) (k5:=k5)
  FB (mN:=mN) (T.hasType FB.hasBase) (I.ok.hd hc) (by rw[he];show(false || (backTo cpos (starEach es X.env)).any (·.1))=false;rw[hpl];rfl) hni (gj I hg hm ⟨rfl,?_⟩ hdb)
 have hA:=ha cpos pins s σ H _ I h;rw[he]at hA |-
 refine YT (thn hA fun us s1 ⟨vs,H1,I1,r,hz,q1⟩=>⟨rfl,by rw[<- r.length];exact hz,I1.bk _ _ hC,hN.keeps I1.bk,T.keeps I1.bk,fun h' e' hm'=>?_⟩);exact hx pins σ H1 s1 h' e' (.ref C) us I1 hm' q1
section
variable{X:Cx}{pins:List (Addr × Obj)}{σ:St}{H:Hp}{s:Shared}{h':Heap}{rs:List Addr}
theorem Inv.noted(I:Inv X pins σ H s)(hrs:∀b∈rs,X.s₀.heap.get? b=none/\H b=none)(hpin:∀p∈X.pn++pins,p.1∉rs)
 (stay:∀b o,s.heap.get? b=some o->b∉frs X.stack->b∉rs->h'.get? b=some o) (up:s.heap.UpToSlots h'):Inv X pins σ H { s with heap:=h',toks:=t' }:=by
 have B:=I.base;have cellK:∀c v,s.heap.IsCell c v->h'.IsCell c v:=fun c v hq_=>by
  obtain⟨o,ho,hd⟩:=hq_;obtain⟨sl,e⟩:=up c o ho fun vs q=>by rw[hd]at q;cases q
  exact⟨_,e,hd⟩
 have nrs:∀b o,X.s₀.heap.get? b=some o->b∉rs:=fun b o e z=>by rw[(hrs b z).1]at e;cases e
 have nst:∀b o,X.s₀.heap.get? b=some o->b∉X.fs->b∉frs X.stack:=fun b o e hb z=>by
  rcases zO.mp (I.stkSub b z) with q|q
  ·exact absurd (Zy (wF e) I.ok.above) (by rw[q];exact ZJ _)
  ·exact hb q
 refine⟨I.ok,I.os,I.bare,⟨fun b o q n hb hx=>stay b o (B.keep b o q n hb hx) (nst b o q hb) (nrs b o q),fun b o q n hb hx=>?_,fun b o q n hx=>B.free b o q n hx,fun b o q hx=>?_,B.tups,B.frzs,B.tbls⟩,?_,fun x c e=>?_,I.free,I.freeC,fun p hp=>?_,I.noteOk (fun b hb=>(hrs b hb).2) stay,I.len⟩
 ·obtain⟨sl,e1⟩:=B.slot b o q n hb hx
  obtain⟨_,o',ho',hd⟩:=I.funs.mem hb;rw[e1]at ho';cases ho';obtain⟨sl',e2⟩:=up b _ e1 hd;exact⟨sl',e2⟩
 ·obtain⟨o',e1⟩:=B.there b o q hx
  by_cases hb:b∈frs X.stack
  ·obtain⟨_,o2,ho2,hd⟩:=I.stack.mem hb
   obtain⟨sl',e2⟩:=up b _ ho2 hd;exact⟨_,e2⟩
  ·exact⟨o',stay b o' e1 hb (nrs b o q)⟩
 ·obtain⟨m,hn,hl⟩:=I.loc
  refine⟨m,up.ns hn,fun i x v e1 e2 e3=>?_⟩;obtain⟨u,r,l⟩:=hl i x v e1 e2 e3;refine⟨u,r,?_⟩;rcases l with l|⟨k,c,e,z⟩
  ·exact .inl l
  ·exact .inr ⟨k,c,e,cellK c _ z⟩
 ·obtain⟨v,z⟩:=I.cell x c e
  exact⟨v,cellK c v z⟩
 ·obtain⟨e,n,ne,nf,d⟩:=I.pin p hp
  exact⟨stay p.1 p.2 e (fun z=>(zO.mp (I.stkSub _ z)).elim ne nf) (hpin p hp),n,ne,nf,d⟩
theorem Inv.track(I:Inv X pins σ H s)(hn:H a=none)(h0:X.s₀.heap.get? a=none)(hL:a≠X.env.locals)(hc:∀x c,X.env.cells.lookup x=some c->c≠a)(hp:∀p∈X.pn++pins,p.1≠a)
 (new:ObjOk X.prog X.w (upd H a o) s.heap a o):Inv X pins σ (upd H a o) s:=by
 have B:=I.base;refine⟨I.ok,I.os,I.bare,⟨B.keep,B.slot,fun b ob q n hx=>?_,B.there,fun b xs q=>?_,fun b ob xs q=>?_,fun b ps q=>?_⟩,I.loc,I.cell,?_,fun x c e=>?_,fun p hp'=>?_,fun b u e=>?_,I.len⟩
 ·have:b≠a:=fun z=>by rw[z,h0]at q;cases q
  rw[ai this];exact B.free b ob q n hx
 ·have e:=B.tups b xs q
  rw[ai (aL e hn)];exact e
 ·have e:=B.frzs b ob xs q
  rw[ai (aL e hn)];exact e
 ·obtain⟨m,e⟩:=B.tbls b ps q
  exact⟨m,by rw[ai (aL e hn)];exact e⟩
 ·rw[ai (Ne.symm hL)];exact I.free
 ·rw[ai (hc x c e)];exact I.freeC x c e
 ·obtain⟨e,n,ne,nf,d⟩:=I.pin p hp'
  exact⟨e,by rw[ai (hp p hp')];exact n,ne,nf,d⟩
 ·by_cases hb:b=a
  ·subst hb
   rw[af]at e;cases e;exact new
  ·rw[ai hb]at e
   refine(I.hok b u e).stay (fun c v _ q=>q) (fun c q=>?_) fun c xs q=>?_
   ·rw[ai (aL q hn)];exact q
   ·rw[ai (aL q hn)];exact q
theorem Cx.Ok.re(ok:X.Ok)(A':Around)(hf:A'.frames=X.A.frames)(cm:Bool)(hh:cm=true->A'.handled=none)(pn:List (Addr × Obj))(xe:Value->Shared->Prop):({ X with A:=A',calm:=cm,pn:=pn,xe:=xe }:Cx).Ok:=
 ⟨ok.mod,ok.kind,ok.glob,ok.blt,ok.above,ok.inj,ok.has,ok.cab,hh,hf.trans ok.frames,ok.stk,ok.exf,ok.bs,ok.bsz,ok.noex,ok.exfs,ok.funs,ok.frf⟩
theorem Inv.toPn(I:Inv X pins σ H s)(xe:Value->Shared->Prop):Inv { X with pn:=X.pn++pins,xe:=xe } [] σ H s:=
 ⟨I.ok.re X.A rfl X.calm I.ok.hd _ _,I.os,I.bare,I.base,I.loc,I.cell,I.free,I.freeC,fun p hp=>I.pin p (by rw[Ze]at hp;exact hp),I.hok,I.len⟩
theorem Inv.ofPn(ok:X.Ok)(I:Inv { X with pn:=X.pn++pins,xe:=xe } pins' σ H s):Inv X pins σ H s:=
 ⟨ok,I.os,I.bare,I.base,I.loc,I.cell,I.free,I.freeC,fun p hp=>I.pin p (tW _ hp),I.hok,I.len⟩
noncomputable abbrev Cx.caught(X:Cx)(e:Addr):Cx:={ X with A:=X.A.mark (some (.ref e)),calm:=false,pn:=X.pn,xe:=fun _ _=>False }
theorem Inv.toCaught(I:Inv X pins σ H s)(e:Addr):Inv (X.caught e) pins σ H s:=
 ⟨I.ok.re (X.A.mark (some (.ref e))) rfl false (fun z=>nomatch z) _ _,I.os,I.bare,I.base,I.loc,I.cell,I.free,I.freeC,I.pin,I.hok,I.len⟩
theorem Inv.ofCaught(ok:X.Ok)(I:Inv (X.caught e) pins σ H s):Inv X pins σ H s:=
 ⟨ok,I.os,I.bare,I.base,I.loc,I.cell,I.free,I.freeC,I.pin,I.hok,I.len⟩
theorem js(I:Inv X pins σ H s)(hN:X.N.Nodup)(hi:X.N[i]? = some n)(hk:X.env.kindOf n=some .local)
 (h:∀s',Inv X pins (σ.set i none) H s'->Q () s'):wpAny M A (do bindName X.env n .none;unbindBehindTheSuite X.env n pos) Q E s:=by
 obtain⟨m,hn,hl⟩:=id I.loc;have hcls:(X.env.scope.kind == .class || (X.env.scope.kind == .module&&X.env.locals != X.env.globals))=false:=by rw[I.ok.kind];rfl
 have cne:=I.cne;refine wpAny_nameGoes_keeps hk hn hcls fun h' v hn' hs=>?_;obtain⟨oL,_,_,hoL,_⟩:=id hn;refine h _ ⟨I.ok,I.os,I.bare,⟨fun b o e n hb hx=>?_,fun b o e n hb hx=>?_,I.base.free,fun b o e hx=>?_,I.base.tups,I.base.frzs,I.base.tbls⟩,⟨_,hn',fun j y v' e1 e2 e3=>?_⟩,fun y c e=>?_,I.free,I.freeC,fun p hp=>?_,fun b ob e=>?_,by simpa using I.len⟩
 ·exact(hs.2 b (tG (Zy (wF e) I.ok.above))).trans (I.base.keep b o e n hb hx)
 ·obtain⟨sl,e1⟩:=I.base.slot b o e n hb hx
  exact⟨sl,(hs.2 b (tG (Zy (wF e) I.ok.above))).trans e1⟩
 ·obtain⟨o',e1⟩:=I.base.there b o e hx
  exact⟨o',(hs.2 b (tG (Zy (wF e) I.ok.above))).trans e1⟩
 ·by_cases hj:j=i
  ·subst hj
   rw[List.getElem?_set]at e2;simp at e2
  ·rw[List.getElem?_set_ne (Ne.symm hj)]at e2
   obtain⟨u',r',q⟩:=hl j y v' e1 e2 e3;refine⟨u',r',?_⟩;rcases q with ⟨k,e⟩|⟨k,c,e,z⟩
   ·refine .inl ⟨k,?_⟩
    have:y≠n:=fun e=>hj (pe hN e1 (e ▸ hi));simp[this,e]
   ·exact .inr ⟨k,c,e,z.sameBut hs (cne y c e)⟩
 ·obtain⟨w',z⟩:=I.cell y c e
  exact⟨w',z.sameBut hs (cne y c e)⟩
 ·obtain⟨e,n,ne,nf,d⟩:=I.pin p hp
  exact⟨(hs.2 p.1 ne).trans e,n,ne,nf,d⟩
 ·refine(I.hok b ob e).stay (fun c w' hc q=>(hs.2 c ?_).trans q) (fun _ q=>q) fun _ _ q=>q
  rintro rfl;rcases hc with rfl|hc
  ·rw[I.free]at e;cases e
  ·rw[I.free]at hc;cases hc
end
theorem kx{s:Shared}{K:W.Frag}{e C D:Addr}{oe:Obj}(X:K.In s.heap)(he:s.heap.get? e=some oe)(hcls:oe.cls = .ref C)
 (hx:ZR K (.ref C) (.ref D)=some true) (h:Q true s):wpAny M A (excMatches (.ref e) (.ref D)) Q E s:=
 (PySem.W.exm_one (M:=M) X (hcls ▸ (PySem.W.Looks.ld he).andThen .now) hx).here h
noncomputable def iG(C:Value)(e:Addr):HO:=HO.ext fun h=>∃o vs,h.get? e=some o/\o.cls=C/\o.data = .fields vs/\vs[2]? = some .none
def JL(K:W.Frag)(CH:Addr)(i:Nat)(tb:XKs->TS)(th:Addr->TS):TS:=fun D σ H=>
 tb (fun σ' C _ H'=>∃Ce,C = .ref Ce/\ZR K (.ref Ce) (.ref CH)=some true/\∀e,H' e=none ->
  th e { nx:=fun σ2 H2=>D.nx (σ2.set i none) H2,rt:=D.rt,bk:=fun σ2 H2=>D.bk (σ2.set i none) H2,ct:=fun σ2 H2=>D.ct (σ2.set i none) H2 } (σ'.set i (some (.ref e))) (upd H' e (iG (.ref Ce) e))) D σ H
def Kj(K:W.Frag)(CH:Addr)(i:Nat)(tb:XKs->TS)(th:TS):TS:=fun D σ H=>
 tb (fun σ' C _ H'=>∃Ce,C = .ref Ce/\ZR K (.ref Ce) (.ref CH)=some true/\∀e,H' e=none ->
  th { nx:=fun σ2 H2=>D.nx (σ2.set i none) H2,rt:=D.rt,bk:=fun σ2 H2=>D.bk (σ2.set i none) H2,ct:=fun σ2 H2=>D.ct (σ2.set i none) H2 } (σ'.set i (some (.ref e))) (upd H' e (iG (.ref Ce) e))) D σ H
theorem FX(hN:X.N.Nodup)(hi:X.N[i]? = some n)(hk:X.env.kindOf n=some .local)
 (hg:Gl X x) (hm:X.mg x=some (.ref CH))
 (hex:X.ex=[]) (hst:X.stack=X.env::X.outer) (hfr:X.env.frame=some X.env.locals)
 (hb:∀(pn:List (Addr × Obj)) (Ee:Value->Shared->Prop) (Ex:XKs),bZ (XE X.prog X.w) { X with pn:=pn,xe:=Ee } Ex->PSs { X with pn:=pn,xe:=Ee } body (tb Ex))
 (hh:∀e:Addr,PSs (X.caught e) (b₀::suite) (th e)) (hdb:(x==("__debug__":Str))=false:=by decide) :
 PS X (.Try body [.ExceptHandler (some (.Name x np)) (some n) (b₀::suite) hpos] [] [] pos) (JL X.K CH i tb th):=by
 intro pins s σ H D I h;refine wpAny_Try_except ?_;have ok:=I.ok;refine Zs (hb (X.pn++pins) _ _ ?hP [] s σ H D (I.toPn _) h) (fun f s1 hf=>?_) (fun _ _ z=>z)
 case hP=>
  intro pins' σ' H1 s1 ev s1' I1 hq;obtain⟨e,C,rs,H',rfl,os,bare,un,hok,hrs,⟨her,a0,fl,g0⟩,⟨Ce,rfl,hmro,hth⟩⟩:=hq;have J1:=I1.call' os un hok bare (fun b z=>nomatch z);have J:Inv X pins σ' H' s1':=J1.ofPn ok;have I0:Inv X pins σ' H1 s1:=I1.ofPn ok;have hn0:∀b∈rs,X.s₀.heap.get? b=none/\H' b=none:=fun b hb=>by
   refine⟨?_,(hrs b hb).2⟩;cases q:X.s₀.heap.get? b with
   |none=>rfl
   |some o=>
    obtain⟨o',z⟩:=I0.base.there b o q (by rw[hex];simp);rw[(hrs b hb).1]at z;cases z
  have hpin:∀p∈X.pn++pins,p.1∉rs:=fun p hp z=>by
   have:=(I0.pin p hp).1;rw[(hrs _ z).1]at this;cases this
  have hstk:s1'.heap.FunFrames X.base (X.env::X.outer):=by rw[<- hst];exact J.stack
  rw[show X.stack=X.env::X.outer from hst]at fl;have hfrm:X.A.frames=some (X.env::X.outer):=by rw[<- hst];exact ok.frames
  show wpAny (model X.prog X.w) X.A (noteFrame (.ref e) X.env) _ _ s1';refine cA (e:=e) (sf _ _) g0 (wpAny_looks_onW (base:=hid s1'.heap (X.env::X.outer) rs) hfrm hfr fl fun h₄ held up4 g4=>?_);refine cA (e:=e) (g9 _ _) g4 (wpAny_landsW held fun h₅ fl5 up5 g5=>?_);have nin:∀b,b∉frs X.stack->b∉frs (X.env::X.outer):=fun b hb=>by rw[<- hst];exact hb
  have stay5:∀b o,s1'.heap.get? b=some o->b∉frs X.stack->b∉rs->h₅.get? b=some o:=fun b o z hb hr=>fl5.1 b o (gv z (nin b hb) hr);have I5:Inv X pins σ' H' { s1' with heap:=h₅,toks:=s1'.toks }:=J.noted hn0 hpin stay5 (up4.trans up5);obtain⟨ob,hob,hobc⟩:=fl5.there;refine wpAny_handleBy_cons (codeAny_handlers_test (gj (X:=X.caught e) (I5.toCaught e) hg hm (kx I5.kIn hob hobc hmro ?_) hdb)) (by intro q;cases q);refine codeAny_handlers_suite_as (cA (e:=e) (g9 _ _) g5 (lands_againW fl5 fun h₆ fl6 up6 g6=>?_));have stay6:∀b o,s1'.heap.get? b=some o->b∉frs X.stack->b∉rs->h₆.get? b=some o:=fun b o z hb hr=>fl6.1 b o (gv z (nin b hb) hr);have I6:Inv X pins σ' H' { s1' with heap:=h₆,toks:=s1'.toks }:=J.noted hn0 hpin stay6 ((up4.trans up5).trans up6);have e1:s1.heap.get? e=none:=(hrs e her).1;obtain⟨oe,vs,hoe,hoed,ho2⟩:=g6;have hoec:oe.cls = .ref Ce:=by
   obtain⟨o2,q1,q2⟩:=fl6.there;rw[hoe]at q1;cases q1;exact q2
  have I6':Inv X pins σ' (upd H' e (iG (.ref Ce) e)) { s1' with heap:=h₆,toks:=s1'.toks }:=by
   refine I6.track (hrs e her).2 (hn0 e her).1 ?_ ?_ (fun p hp z=>hpin p hp (by rw[z];exact her)) ?_
   ·intro z
    obtain⟨m,⟨oL,_,_,hoL,_⟩,_⟩:=I0.loc;rw[<- z,e1]at hoL;cases hoL
   ·intro x c hc z
    obtain⟨v,o,ho,_⟩:=I0.cell x c hc;rw[z,e1]at ho;cases ho
   ·exact⟨⟨oe,vs,hoe,hoec,hoed,ho2⟩,⟨oe,hoe⟩,fun h1 h2 hq_ k=>(by obtain⟨o,ws,a1,a2,a3⟩:=hq_;exact⟨o,ws,k o a1,a2,a3⟩)⟩
  refine oC (X:=X.caught e) (I6'.toCaught e) hN hi (Or.inl hk) (v:=.ref e) rfl (fun s7 I7=>?_) (.inr hk);refine Zs (hh e pins s7 _ _ _ I7 (hth e (hrs e her).2)) (fun f s8 hf=>?_) (fun _ _ z=>z.elim);show wpAny (model X.prog X.w) X.A (do bindName X.env n .none;unbindBehindTheSuite X.env n hpos) (fun _ s₃=>SP X pins D f s₃) X.xe s8;cases f with
  |next=>
   obtain⟨σ2,H2,J2,q⟩:=hf;exact js (J2.ofCaught ok) hN hi hk fun s9 I9=>⟨_,_,I9,q⟩
  |brk=>
   obtain⟨σ2,H2,J2,q⟩:=hf;exact js (J2.ofCaught ok) hN hi hk fun s9 I9=>⟨_,_,I9,q⟩
  |cont=>
   obtain⟨σ2,H2,J2,q⟩:=hf;exact js (J2.ofCaught ok) hN hi hk fun s9 I9=>⟨_,_,I9,q⟩
  |ret u=>
   obtain⟨v,σ2,H2,J2,r,q⟩:=hf;exact js (J2.ofCaught ok) hN hi hk fun s9 I9=>⟨v,_,_,I9,r,q⟩
 cases f with
 |next=>
  obtain⟨σ',H',J,q⟩:=hf;exact YE ⟨σ',H',J.ofPn ok,q⟩
 |brk=>
  obtain⟨σ',H',J,q⟩:=hf;exact⟨σ',H',J.ofPn ok,q⟩
 |cont=>
  obtain⟨σ',H',J,q⟩:=hf;exact⟨σ',H',J.ofPn ok,q⟩
 |ret u=>
  obtain⟨v,σ',H',J,r,q⟩:=hf;exact⟨v,σ',H',J.ofPn ok,r,q⟩
theorem I_(hN:X.N.Nodup)(hi:X.N[i]? = some n)(hk:X.env.kindOf n=some .local)
 (hg:Gl X x) (hm:X.mg x=some (.ref CH))
 (hex:X.ex=[]) (hst:X.stack=X.env::X.outer) (hfr:X.env.frame=some X.env.locals)
 (hb:∀(pn:List (Addr × Obj)) (Ee:Value->Shared->Prop) (Ex:XKs),bZ (XE X.prog X.w) { X with pn:=pn,xe:=Ee } Ex->PSs { X with pn:=pn,xe:=Ee } body (tb Ex))
 (hh:∀e:Addr,PSs (X.caught e) (b₀::suite) th) (hdb:(x==("__debug__":Str))=false:=by decide) :
 PS X (.Try body [.ExceptHandler (some (.Name x np)) (some n) (b₀::suite) hpos] [] [] pos) (Kj X.K CH i tb th):=FX (th:=fun _=>th) hN hi hk hg hm hex hst hfr hb hh hdb
end L2
namespace L2
open PySem PySem.Spec PyProof.Rows PySem.W
inductive zW:V->Value->Prop where
 |ty (n:String):zW (.ty n) (.type n)
 |own (a:Addr):zW (.ref a) (.ref a)
section
variable{X:Cx}
theorem vC:CallR X (.builtin "isinstance") (fun xs H Q=>∃x c t u b,xs=[x,c]/\zW c u/\j5 X.K H x t/\Zr X.K t u=some b/\Q (.bl b) H):=by
 intro pins s σ H xs us Q I r h;obtain⟨x,c,t,u,b,rfl,rc,ty,e,q⟩:=h;obtain⟨ux,uc,rfl,rx,rc'⟩:=vS r;have ec:uc=u:=by
  cases rc with
  |ty n=>exact rc'
  |own a=>exact rc'
 subst ec;exact zY I rx ty e fun tk=>⟨.bl b,H,I.tok _,rfl,q⟩
end
structure dt(K:Frag)(C:Addr):Prop where
 l1:findIn K (.ref C) "__getattribute__" = some (some (.builtin "BaseException.__getattribute__"))
 l2:findIn K (.ref C) "__getattr__" = some none
 l3:findIn K (.ref C) "__class__" = some (some (.builtin "object.__class__"))
 c1:(clsIn K C).isSome=true
 m1:mroIn K C (.type "object")=some true
 m2:mroIn K C (.type "BaseException")=some true
section
variable{prog:Program}{w:World}{A:Around}{E:Value->Shared->Prop}{K:Frag}{e C:Addr}{o:Obj}{s:Shared}
open Builtin Builtin.ObjectAttr Builtin.Getset_descriptor PySem.Calls in
theorem qI(X:K.In s.heap)(Z:dt K C)(hx:s.heap.get? e=some o)(hc:o.cls = .ref C)
 (h:R (.ok (.ret (.ref C))) s):codeAny (model prog w) A (.call (.builtin "getset_descriptor.__get__") ⟨[.builtin "object.__class__",.ref e,tp],[]⟩) R s:=by
 obtain⟨hh,g,dr,t,os⟩:=s;have L0:Looks (model prog w) hh (typeOf (.ref e)) (.ref C):=hc ▸ (Looks.ld hx).andThen .now;have L1:=looks_mroIn (M:=model prog w) X Z.m1;refine codeAny_call_builtin KF.slot_gs.plain KF.entry_gs (KF.slot_gs.check _ _ _ _ _ _ _ _ KF.type_class (KF.args_gs _ _ _) ?_);unfold Builtin.«getset_descriptor.__get__» descrGet;rw[dga_obj];refine zZ (xc ?_);unfold descrGetter descrCheckInstance descrNameAndClass isInstance;simp only[KF.owner_class]
 repeat lk
 refine⟨Code.quiet_builtin _ (by decide +kernel),codeAny_builtin KF.entry_class ?_⟩;unfold Builtin.«object.__class__» shownTypeOf
 repeat lk
 exact h
theorem ug(X:K.In s.heap)(Z:dt K C)(hx:s.heap.get? e=some o)(hc:o.cls = .ref C)(hq:Q () s) :
 wpAny M A (checkBuiltinCall "BaseException.__getattribute__" ⟨[.ref e,nameV],[]⟩) Q E s:=by
 have hk:builtinKind "BaseException.__getattribute__" = some .slot:=by decide +kernel
 have hsplit:splitId "BaseException.__getattribute__" = some ("BaseException","__getattribute__"):=by decide +kernel
 have ha:=F.args_bexc_ga (.ref e) nameV;obtain⟨hh,g,dr,t,os⟩:=s;have L0:Looks M hh (typeOf (.ref e)) (.ref C):=hc ▸ (Looks.ld hx).andThen .now;have L1:=looks_mroIn (M:=M) X Z.m2;have LI:Looks M hh (isInstance (.ref e) (.type "BaseException")) true:=L0.andThen L1;simp only[checkBuiltinCall,hk,hsplit];refine zZ (LI.at ?_)
 repeat (first|assumption|wp_step)
theorem s_(X:K.In s.heap)(Z:dt K C)(hx:s.heap.get? e=some o)(hc:o.cls = .ref C)(hq:Q (.done (.ret (.ref C))) s) :
 wpAny (model prog w) A (Builtin.«object.__getattribute__» ⟨[.ref e,.str "__class__" tk],[]⟩) Q E s:=by
 obtain⟨hh,g,dr,t,os⟩:=s;have L0:Looks (model prog w) hh (typeOf (.ref e)) (.ref C):=hc ▸ (Looks.ld hx).andThen .now;have L3:=looks_findIn (M:=model prog w) X Z.l3;have f5:=KF.type_class;have f6:=F.slot_gs_get.lookup;have f7:=F.slot_gs_set.lookup
 repeat (any_goals (first|assumption|with_reducible refine L0.at ?_|with_reducible refine L3.at ?_|wp_step))
 refine qI X Z hx hc ?_
 repeat (any_goals (first|assumption|wp_step))
theorem qa(X:K.In s.heap)(Z:dt K C)(hx:s.heap.get? e=some o)(hc:o.cls = .ref C)(h:Q (some (.ref C)) { s with toks:=s.toks+1 }) :
 wpAny (model prog w) A (getAttr? (.ref e) "__class__") Q E s:=by
 obtain⟨hh,g,dr,t,os⟩:=s;have L0:Looks (model prog w) hh (typeOf (.ref e)) (.ref C):=hc ▸ (Looks.ld hx).andThen .now;have L1:=looks_findIn (M:=model prog w) X Z.l1;have L2:=looks_findIn (M:=model prog w) X Z.l2;have f3:=F.excAttr_ValueError.ga.bind (.ref e);have hx2:(Xm "BaseException.__getattribute__" == Xm "object.__getattribute__")=false:=by decide +kernel
 have hx0:∀ex:Bool,(ex&&onTheHeap (Xm "BaseException.__getattribute__"))=false:=fun ex=>by cases ex <;> rfl
 have hx1:(onTheHeap (wU C)&&Xm "BaseException.__getattribute__" == Xm "object.__getattribute__")=false:=by rw[hx2];rfl
 unfold getAttr?
 repeat (any_goals (first|assumption|with_reducible refine L0.at ?_|with_reducible refine L1.at ?_|with_reducible refine L2.at ?_|wp_step))
 refine codeAny_call_builtin F.excAttr_ValueError.ga.plain F.entry_bexc_ga (ug X Z hx hc (s_ X Z hx hc ?_))
 repeat (any_goals (first|assumption|wp_step))
theorem u0(Z:dt K C):KitX K (.ref e) (.ref C) (fun h=>∃o,h.get? e=some o/\o.cls = .ref C) where
 ty:=fun M h _ hq_=>(by obtain⟨o,h1,h2⟩:=hq_;exact h2 ▸ (Looks.ld h1).andThen .now)
 it:=fun M h X _=>by
  have c1:=Z.c1;unfold clsIn at c1;split at c1
  ·rename_i c' d' cd' sl' ho
   intro A' Q' E' s' k q;unfold isType loadHead;exact zZ (wpAny_loadPart (k _ _ (X _ _ ho)) (xc q))
  ·cases c1
 ne:=fun h tp dd its n sl X htp=>by
  refine Bool.eq_false_iff.mpr fun q=>?_;have e':C=tp:=wU.inj (beq_iff_eq.mp q);subst e';have c1:=Z.c1;unfold clsIn at c1;split at c1
  ·rename_i c' d' cd' sl' ho
   have z:=(X _ _ ho).symm.trans htp;cases z
  ·cases c1
 ca:=fun X hq_ k=>(by obtain⟨o,h1,h2⟩:=hq_;exact qa X Z h1 h2 k)
end
section
variable{X:Cx}
theorem ur:CallR X (.builtin "isinstance") (fun xs H Q=>∃e c C u b,xs=[.ref e,c]/\zW c u/\H e=some (iG (.ref C) e)/\dt X.K C/\Zr X.K (.ref C) u=some b/\Q (.bl b) H):=by
 intro pins s σ H xs us Q I r h;obtain⟨e,c,C,u,b,rfl,rc,he,Z,k,q⟩:=h;obtain⟨ux,uc,rfl,rx,rc'⟩:=vS r;have ec:uc=u:=by
  cases rc with
  |ty n=>exact rc'
  |own a=>exact rc'
 subst ec;cases (show ux=wU e from rx);obtain⟨⟨o,vs,h1,h2,_⟩,_,_⟩:=(show ObjOk X.prog X.w H s.heap e (iG (.ref C) e) from I.hok e _ he);exact kia_one (u0 Z) I.kIn ⟨o,h1,h2⟩ k (fun z=>nomatch z) fun tk=>⟨.bl b,H,I.tok _,rfl,q⟩
theorem sy(hc:X.calm=true):CallR X (.builtin "sum") (fun xs H Q=>∃(p:Addr) (ns:List Int),xs=[.ref p]/\SqT X.K H p (ns.map V.int)/\Q (.int ns.sum) H):=by
 intro pins s σ H xs us Q I r h;obtain⟨p,ns,rfl,hq,q⟩:=h;obtain⟨u,rfl,rx⟩:=d5 r;cases (show u=wU p from rx);obtain⟨its,r',pl,hz⟩:=I.tuple hq;have hi:=pD r';obtain⟨ys,hy⟩:=hi.allInts.items;have hn:numsOf its.toArray.toList=ns:=by rw[show its.toArray.toList=its from rfl,hi.numsOf]
 rw[hy]at pl hn;rw[nums_intItems]at hn;refine ktm_sumG (I.ok.hd hc) pl fun h' tk t' hk=>?_;rw[preSum_eq,ZG (by simp),hn];exact⟨.int ns.sum,H,I.kept hk,⟨_,rfl⟩,q⟩
end
end L2
namespace L2
open PySem PySem.Spec PyProof.Rows
section
variable{X:Cx}{a b:Expr}{ta:TE}
noncomputable def GY(xs ys:List V):Bool:=(Zw (min xs.length ys.length)).all (fun j=>eqV (xs.getD j .non) (ys.getD j .non))&&xs.length==ys.length
def Ek(K:W.Frag)(neg:Bool):R2:=fun x y H Q=>∃p p' xs ys,x = .ref p/\y = .ref p'/\SqT K H p xs/\SqT K H p' ys/\xs.all eh=true/\ys.all eh=true/\Q (.bl (neg ^^ GY xs ys)) H
theorem pE(r:Vals xs us)(r':Vals ys vs)(fx:xs.all eh=true)(fy:ys.all eh=true)(j:Nat)(h1:j<us.toArray.size)(h2:j<vs.toArray.size) :
 SeqAt.EqAt A s us.toArray[j] vs.toArray[j] (eqV (xs.getD j .non) (ys.getD j .non)):=by
 have e1:us[j]? = some us.toArray[j]:=by simp at h1;simp[h1]
 have e2:vs[j]? = some vs.toArray[j]:=by simp at h2;simp[h2]
 have l1:j<xs.length:=by rw[r.length];simpa using h1
 have l2:j<ys.length:=by rw[r'.length];simpa using h2
 have g1:xs[j]? = some (xs.getD j .non):=by simp[List.getD,l1]
 have g2:ys[j]? = some (ys.getD j .non):=by simp[List.getD,l2]
 obtain⟨u,hu,ru⟩:=r.get g1;obtain⟨v,hv,rv⟩:=r'.get g2;rw[e1]at hu;rw[e2]at hv;rw[Zp hu,Zp hv];exact wH ru rv (Zo.mp fx _ (vW g1)) (Zo.mp fy _ (vW g2))
theorem Hz(hu:X.A.units<cLine):OpR X (Zq .Eq) (Ek X.K false):=by
 intro pins s σ H x y v u Q I rx ry h;obtain⟨p,p',xs,ys,rfl,rfl,hx,hy,fx,fy,q⟩:=h;cases (show v=wU p from rx);cases (show u=wU p' from ry);obtain⟨its,r,pl,hz⟩:=I.tuple hx;obtain⟨its',r',pl',hz'⟩:=I.tuple hy;refine SeqAt.eq_tupleAt pl pl' hu (fun j h1 h2=>pE r r' fx fy j h1 h2) ⟨.bl _,H,I,rfl,?_⟩;rw[z8,z8,<- r.length,<- r'.length]
 simpa [GY] using q
theorem IN(hu:X.A.units<cLine):OpR X (Zq .NotEq) (Ek X.K true):=by
 intro pins s σ H x y v u Q I rx ry h;obtain⟨p,p',xs,ys,rfl,rfl,hx,hy,fx,fy,q⟩:=h;cases (show v=wU p from rx);cases (show u=wU p' from ry);obtain⟨its,r,pl,hz⟩:=I.tuple hx;obtain⟨its',r',pl',hz'⟩:=I.tuple hy;refine SeqAt.RcNeAt.tuples pl pl' hu (fun j h1 h2=>pE r r' fx fy j h1 h2) X.prog X.w X.xe _ ⟨.bl _,H,I,rfl,?_⟩;rw[z8,z8,<- r.length,<- r'.length]
 simpa [GY] using q
theorem Jq(hu:X.A.units<cLine):OpR X (Zq .Eq) (fun x y H Q=>rEq x y H Q\/Ek X.K false x y H Q):=KJ.or (Hz hu)
theorem Hk(hu:X.A.units<cLine):OpR X (Zq .NotEq) (fun x y H Q=>rNe x y H Q\/Ek X.K true x y H Q):=Kl.or (IN hu)
theorem zM:CallR X (.builtin "isinstance") (fun xs H Q=>(∃x c t u b,xs=[x,c]/\zW c u/\j5 X.K H x t/\Zr X.K t u=some b/\Q (.bl b) H) \/
 ∃e c C u b,xs=[.ref e,c]/\zW c u/\H e=some (iG (.ref C) e)/\dt X.K C/\Zr X.K (.ref C) u=some b/\Q (.bl b) H):=vC.or ur
end
noncomputable abbrev T(l:List Nat):V:=.str ⟨⟨l⟩⟩
noncomputable def cs(x:Str):List Nat:=x.cps.toList
theorem Ie(x:Str):V.str x=T (cs x):=rfl
section
variable{X:Cx}{e a b c:Expr}{pos:Pos}
theorem PE.imp(h:PE X e t)(i:∀σ H Q,t' σ H Q->t σ H Q):PE X e t':=fun pins s σ H Q I q=>h pins s σ H Q I (i σ H Q q)
theorem OpR.imp(h:OpR X f r)(i:∀x y H Q,r' x y H Q->r x y H Q):OpR X f r':=fun pins s σ H x y v u Q I rx ry q=>h pins s σ H x y v u Q I rx ry (i _ _ _ _ q)
theorem UnR.imp(h:UnR X f r)(i:∀x H Q,r' x H Q->r x H Q):UnR X f r':=fun pins s σ H x v Q I rx q=>h pins s σ H x v Q I rx (i _ _ _ q)
theorem CallR.imp(h:CallR X f r)(i:∀x H Q,r' x H Q->r x H Q):CallR X f r':=fun pins s σ H x v Q I rx q=>h pins s σ H x v Q I rx (i _ _ _ q)
theorem IxR.imp(h:IxR X r)(i:∀x y H Q,r' x y H Q->r x y H Q):IxR X r':=fun va sl pins s σ H x y v u Q I rx ry q hs=>h va sl pins s σ H x y v u Q I rx ry (i _ _ _ _ q) hs
def Aj(i:Nat):TE:=fun σ H Q=>match σ[i]? with
 |some (some v)=>Q v H
 |_=>False
theorem fv(i:Nat)(hN:X.N[i]? = some x:=by rfl)(hv:Vis X.env.scope x:=by first|exact Or.inl rfl|exact Or.inr (Or.inl rfl)|exact Or.inr (Or.inr rfl))(hd:(x==("__debug__":Str))=false:=by decide)
 (hcd:(x==("__classdict__":Str))=false:=by decide):PE X (.Name x pos) (Aj i):=(IA hN hv hd hcd).imp fun σ H Q h=>by
 unfold Aj at h;split at h
 ·exact⟨_,by assumption,h⟩
 ·exact h.elim
theorem bv{j}(l:List Nat)(h:x=⟨⟨l⟩⟩:=by decide +kernel):PE X (.Constant (.str x) j pos) (tC (T l)):=h ▸ DI
def Ai:R2
 | .int i,.int j,H,Q=>Q (.int (i+j)) H
 | .str i,.str j,H,Q=>(cs i).length+(cs j).length<=sizeLine/\Q (T (cs i++cs j)) H
 |_,_,_,_=>False
theorem Id(i j:Str):V.str (i++j)=T (cs i++cs j):=by
 show V.str ⟨i.cps++j.cps⟩=V.str ⟨⟨i.cps.toList++j.cps.toList⟩⟩
 congr 1
 congr 1
 exact(Array.ext' (by simp))
theorem aP:OpR X (binaryOp .Add) Ai:=(HP.or xR).imp fun x y H Q h=>by
 cases x with
 |int _=>
  cases y with
  |int _=>exact .inl ⟨_,_,rfl,rfl,h⟩
  |_=>exact(id h:False).elim
 |str _=>
  cases y with
  |str _=>
   refine .inr ⟨_,_,rfl,rfl,by simpa [cs,Yp] using h.1,?_⟩;rw[Id];exact h.2
  |_=>exact(id h:False).elim
 |_=>exact(id h:False).elim
def gI(g:Int->Int->V):R2
 | .int i,.int j,H,Q=>Q (g i j) H
 |_,_,_,_=>False
def gIC(C:Int->Int->Prop)(g:Int->Int->V):R2
 | .int i,.int j,H,Q=>C i j/\Q (g i j) H
 |_,_,_,_=>False
theorem Ch:∀x y H Q,gI g x y H Q->rI0 g x y H Q:=fun x y H Q h=>by
 cases x with
 |int _=>
  cases y with
  |int _=>exact⟨_,_,rfl,rfl,h⟩
  |_=>exact(id h:False).elim
 |_=>exact(id h:False).elim
theorem tS:∀x y H Q,gIC C g x y H Q->rI C g x y H Q:=fun x y H Q h=>by
 cases x with
 |int _=>
  cases y with
  |int _=>exact⟨_,_,rfl,rfl,h.1,h.2⟩
  |_=>exact(id h:False).elim
 |_=>exact(id h:False).elim
theorem iY:OpR X (binaryOp .Sub) (gI fun i j=>.int (i-j)):=Im.imp Ch
theorem fg:OpR X (binaryOp .Mult) (gIC CMul fun i j=>.int (i*j)):=Jn.imp tS
theorem bi:OpR X (binaryOp .Mod) (gIC (fun _ j=>0<j) fun i j=>.int (i % j)):=ID.imp tS
theorem bB:OpR X (binaryOp .FloorDiv) (gIC Jl fun i j=>.int (i / j)):=Eo.imp tS
theorem xH:OpR X (binaryOp .Pow) (gIC HX fun i j=>.int (i ^ j.toNat)):=G9.imp tS
def K8:V->Hp->VK->Prop
 | .int i,H,Q=>Q (.int (-i)) H
 |_,_,_=>False
theorem lO:UnR X (unaryOp .USub) K8:=Hr.imp fun x H Q h=>by
 cases x with
 |int _=>exact⟨_,rfl,h⟩
 |_=>exact(id h:False).elim
noncomputable def leN(a b:List Nat):Bool:=!decide (b<a)
theorem Aq:OpR X (Zq .LtE) (fun x y H Q=>∃i j,x = .str i/\y = .str j/\Q (.bl (leN (cs i) (cs j))) H):=by
 intro pins s σ H x y v u Q I rx ry h;obtain⟨i,j,rfl,rfl,q⟩:=h;obtain⟨t,rfl⟩:=rx;obtain⟨t',rfl⟩:=ry;exact PySem.P.le_str ⟨.bl _,H,I,rfl,q⟩
def gLe:R2
 | .int i,.int j,H,Q=>Q (.bl (decide (i<=j))) H
 | .str i,.str j,H,Q=>Q (.bl (leN (cs i) (cs j))) H
 |_,_,_,_=>False
theorem fX:OpR X (Zq .LtE) gLe:=(KR.or Aq).imp fun x y H Q h=>by
 cases x with
 |int _=>
  cases y with
  |int _=>exact .inl ⟨_,_,rfl,rfl,h⟩
  |_=>exact(id h:False).elim
 |str _=>
  cases y with
  |str _=>exact .inr ⟨_,_,rfl,rfl,h⟩
  |_=>exact(id h:False).elim
 |_=>exact(id h:False).elim
def gLt:R2
 | .int i,.int j,H,Q=>Q (.bl (decide (i<j))) H
 | .str i,.str j,H,Q=>Q (.bl (decide (cs i<cs j))) H
 |_,_,_,_=>False
theorem yS:OpR X (Zq .Lt) gLt:=(JH.or zG).imp fun x y H Q h=>by
 cases x with
 |int _=>
  cases y with
  |int _=>exact .inl ⟨_,_,rfl,rfl,h⟩
  |_=>exact(id h:False).elim
 |str _=>
  cases y with
  |str _=>exact .inr ⟨_,_,rfl,rfl,h⟩
  |_=>exact(id h:False).elim
 |_=>exact(id h:False).elim
theorem rR:OpR X (Zq .Gt) (gI fun i j=>.bl (decide (j<i))):=JF.imp Ch
theorem Lv:OpR X (Zq .GtE) (gI fun i j=>.bl (decide (j<=i))):=KB.imp Ch
noncomputable def eqS:V->V->Option Bool
 | .int i,.int j=>some (decide (i=j))
 | .bl i,.bl j=>some (decide (i=j))
 | .str i,.str j=>some (decide (cs i=cs j))
 | .non,.non=>some true
 | .non,.int _=>some false | .int _,.non=>some false | .non,.bl _=>some false | .bl _,.non=>some false | .non,.str _=>some false | .str _,.non=>some false
 | .int _,.str _=>some false | .str _,.int _=>some false | .bl _,.str _=>some false | .str _,.bl _=>some false
 |_,_=>none
theorem xt(i j:Str):V.str i=V.str j↔cs i=cs j:=by
 constructor
 ·intro h;injection h with h;rw[h]
 ·intro h
  congr 1
  obtain⟨⟨a⟩⟩:=i;obtain⟨⟨b⟩⟩:=j;have h':a=b:=h;rw[h']
theorem uY(h:eqS x y=some k):Hm x y=true/\decide (x=y)=k:=by
 cases x with
 |int i=>
  cases y with
  |int j=>cases h;exact⟨rfl,decide_eq_decide.mpr (by simp)⟩
  |non=>cases h;exact⟨rfl,rfl⟩
  |str j=>cases h;exact⟨rfl,rfl⟩
  |_=>cases h
 |bl i=>
  cases y with
  |bl j=>cases h;exact⟨rfl,decide_eq_decide.mpr (by simp)⟩
  |non=>cases h;exact⟨rfl,rfl⟩
  |str j=>cases h;exact⟨rfl,rfl⟩
  |_=>cases h
 |str i=>
  cases y with
  |str j=>cases h;exact⟨rfl,decide_eq_decide.mpr (xt i j)⟩
  |non=>cases h;exact⟨rfl,rfl⟩
  |int j=>cases h;exact⟨rfl,rfl⟩
  |bl j=>cases h;exact⟨rfl,rfl⟩
  |_=>cases h
 |non=>
  cases y with
  |non=>cases h;exact⟨rfl,rfl⟩
  |int j=>cases h;exact⟨rfl,rfl⟩
  |bl j=>cases h;exact⟨rfl,rfl⟩
  |str j=>cases h;exact⟨rfl,rfl⟩
  |_=>cases h
 |_=>cases h
variable{ta tb tc:TE}{rest:List Expr}
def kB(Q:Bool->Hp->Prop):VK:=fun x H=>match x with
 | .bl k=>Q k H
 |_=>False
def qP(t:TE):TT:=fun σ H Q=>t σ H (kB Q)
theorem kA(h:kB Q x H):∃k,x = .bl k/\Q k H:=by
 cases x with
 |bl _=>exact⟨_,rfl,h⟩
 |_=>exact(id h:False).elim
theorem xA(ho:OpR X (Zq op) r)(ha:PE X a ta)(hb:PE X b tb)(hm:Yj op b=false):PT X (.Compare a [op] [b] pos) (qP (tOp r ta tb)):=by
 intro pins s σ H Q I h;refine wpAny_isTrue_Compare1 (thn (ha pins s σ H _ I h) fun v s1 ⟨x,H1,I1,r1,q1⟩=>thn (hb pins s1 σ H1 _ I1 q1) fun u s2 ⟨y,H2,I2,r2,q2⟩=>
  thn (ho pins s2 σ H2 x y v u _ I2 r1 r2 q2) fun c s3 ⟨z,H3,I3,r3,q3⟩=>?_) hm
 obtain⟨k,e,q3⟩:=kA q3;subst e;cases r3;exact Zd ⟨H3,I3,q3⟩
theorem dZ(h:PC X op a b t)(h1:Yj op b=false:=by first|exact wk _ (by decide) (by decide)|rfl):PT X (.Compare a [op] [b] pos) (qP t):=by
 intro pins s σ H Q I hw;refine wpAny_isTrue_Compare1 (thn (h pins s σ H _ I hw) fun v s1 h1=>thn h1 fun u s2 h2=>thn h2 fun c s3 hq_=>?_) h1;obtain⟨x,H1,I1,r1,q1⟩:=hq_;obtain⟨d,rfl,q⟩:=kA q1;cases r1;exact Zd ⟨H1,I1,q⟩
theorem bA(h:PE X e t)(he:∀whole,isTrue e X.env whole=(do let v <- whole;standAt e.pos;holding [v] (truthy v)):=by intro _;rfl):PT X e (qP t):=by
 intro pins s σ H Q I hw;refine isTrue_plain (thn (h pins s σ H _ I hw) fun v s1 hq_=>?_) (he _);obtain⟨x,H1,I1,r1,q1⟩:=hq_;obtain⟨d,rfl,q⟩:=kA q1;cases r1;exact Zd ⟨H1,I1,q⟩
def xu(r r':R2)(ta tb tc:TE):TE:=fun σ H Q=>ta σ H fun x H1=>tb σ H1 fun y H2=>r x y H2 (kB fun k H3=>if k=true then tc σ H3 fun w' H4=>r' y w' H4 Q else Q (.bl false) H3)
theorem kW(ho:OpR X (Zq op) r)(ho':OpR X (Zq op') r')(ha:PE X a ta)(hb:PE X b tb)(hc:PE X c tc)
 (hm:lastMarks [op,op'] [b,c]=false:=by with_unfolding_all rfl):PE X (.Compare a [op,op'] [b,c] pos) (xu r r' ta tb tc):=by
 intro pins s σ H Q I h;refine Compare_chain (thn (ha pins s σ H _ I h) fun v s1 ⟨x,H1,I1,r1,q1⟩=>chain_link (thn (hb pins s1 σ H1 _ I1 q1) fun u s2 ⟨y,H2,I2,r2,q2⟩=>
  thn (ho pins s2 σ H2 x y v u _ I2 r1 r2 q2) fun d s3 ⟨z,H3,I3,r3,q3⟩=>?_)) hm
 obtain⟨k,e,q3⟩:=kA q3;subst e;cases r3;refine Zd ?_;cases k with
 |false=>exact ite_ff ⟨.bl false,H3,I3,rfl,q3⟩
 |true=>exact ite_tt (chain_last (thn (hc pins s3 σ H3 _ I3 q3) fun w' s4 hq_=>(by obtain⟨z',H4,I4,r4,q4⟩:=hq_;exact ho' pins s4 σ H4 y z' u w' Q I4 r2 r4 q4)))
theorem Ba(ho:OpR X (Zq op) r)(ho':OpR X (Zq op') r')(ha:PE X a ta)(hb:PE X b tb)(hc:PE X c tc)
 (hm:lastMarks [op,op'] [b,c]=false:=by with_unfolding_all rfl):PT X (.Compare a [op,op'] [b,c] pos) (qP (xu r r' ta tb tc)):=by
 intro pins s σ H Q I h;refine isTrue_chain (thn (ha pins s σ H _ I h) fun v s1 ⟨x,H1,I1,r1,q1⟩=>test_link (thn (hb pins s1 σ H1 _ I1 q1) fun u s2 ⟨y,H2,I2,r2,q2⟩=>
  thn (ho pins s2 σ H2 x y v u _ I2 r1 r2 q2) fun d s3 ⟨z,H3,I3,r3,q3⟩=>?_)) hm
 obtain⟨k,e,q3⟩:=kA q3;subst e;cases r3;refine Zd ?_;cases k with
 |false=>exact ite_ff ⟨H3,I3,q3⟩
 |true=>
  refine ite_tt (test_last (thn (hc pins s3 σ H3 _ I3 q3) fun w' s4 ⟨z',H4,I4,r4,q4⟩=>thn (ho' pins s4 σ H4 y z' u w' _ I4 r2 r4 q4) fun d' s5 hq_=>?_));obtain⟨z2,H5,I5,r5,q5⟩:=hq_;obtain⟨k2,e2,q5⟩:=kA q5;subst e2;cases r5;exact Zd ⟨H5,I5,q5⟩
def Kd(ta tb:TE):TE:=fun σ H Q=>ta σ H (kB fun c H1=>if c=true then tb σ H1 Q else Q (.bl false) H1)
def fOr(ta tb:TE):TE:=fun σ H Q=>ta σ H (kB fun c H1=>if c=true then Q (.bl true) H1 else tb σ H1 Q)
def J5(ta:TE):TE:=fun σ H Q=>ta σ H (kB fun c H1=>Q (.bl (!c)) H1)
theorem dm(ha:PE X a ta)(hb:PE X (.BoolOp .And (b::rest) pos) tb):PE X (.BoolOp .And (a::b::rest) pos) (Kd ta tb):=by
 intro pins s σ H Q I h;refine BoolOp_and (thn (ha pins s σ H _ I h) fun v s1 hq_=>?_);obtain⟨x,H1,I1,r1,q1⟩:=hq_;obtain⟨c,rfl,q1⟩:=kA q1;cases r1;refine Zd ?_;cases c with
 |true=>exact hb pins s1 σ H1 Q I1 q1
 |false=>exact⟨.bl false,H1,I1,rfl,q1⟩
theorem F_(ha:PE X a ta)(hb:PE X (.BoolOp .Or (b::rest) pos) tb):PE X (.BoolOp .Or (a::b::rest) pos) (fOr ta tb):=by
 intro pins s σ H Q I h;refine BoolOp_or (thn (ha pins s σ H _ I h) fun v s1 hq_=>?_);obtain⟨x,H1,I1,r1,q1⟩:=hq_;obtain⟨c,rfl,q1⟩:=kA q1;cases r1;refine Zd ?_;cases c with
 |false=>exact hb pins s1 σ H1 Q I1 q1
 |true=>exact⟨.bl true,H1,I1,rfl,q1⟩
theorem DT(ha:PE X a ta):PE X (.UnaryOp .Not a pos) (J5 ta):=by
 intro pins s σ H Q I h;refine UnaryOp_ (thn (ha pins s σ H _ I h) fun v s1 hq_=>?_);obtain⟨x,H1,I1,r1,q1⟩:=hq_;obtain⟨c,rfl,q1⟩:=kA q1;cases r1;exact not_of (Zd ⟨.bl (!c),H1,I1,rfl,q1⟩)
def LX:List V->Hp->VK->Prop
 | [.int i],H,Q=>Q (.int (if i<0 then -i else i)) H
 |_,_,_=>False
def KC:List V->Hp->VK->Prop
 | [.int i,.int j],H,Q=>Q (.int (if j<i then j else i)) H
 |_,_,_=>False
theorem eX(hc:X.calm=true):CallR X (.builtin "min") KC:=(zQ hc).imp fun x H Q h=>by
 rcases x with _|⟨i,x⟩
 ·exact(id h:False).elim
 cases i with
 |int i=>
  rcases x with _|⟨j,x⟩
  ·exact(id h:False).elim
  cases j with
  |int j=>
   cases x with
   |nil=>exact⟨_,_,rfl,h⟩
   |cons=>exact(id h:False).elim
  |_=>exact(id h:False).elim
 |_=>exact(id h:False).elim
def KZ:List V->Hp->VK->Prop
 | [.int i,.int j],H,Q=>Q (.int (if j > i then j else i)) H
 |_,_,_=>False
theorem Iu(hc:X.calm=true):CallR X (.builtin "max") KZ:=(Ao hc).imp fun x H Q h=>by
 rcases x with _|⟨i,x⟩
 ·exact(id h:False).elim
 cases i with
 |int i=>
  rcases x with _|⟨j,x⟩
  ·exact(id h:False).elim
  cases j with
  |int j=>
   cases x with
   |nil=>exact⟨_,_,rfl,h⟩
   |cons=>exact(id h:False).elim
  |_=>exact(id h:False).elim
 |_=>exact(id h:False).elim
def Hu(K:W.Frag):List V->Hp->VK->Prop
 | [.str y],H,Q=>(cs y).length<=sizeLine/\Q (.int (cs y).length) H
 | [.ref p],H,Q=>∃xs,(SqL K H p xs\/SqT K H p xs)/\Q (.int xs.length) H
 |_,_,_=>False
theorem Hv:CallR X (.builtin "len") (Hu X.K):=DG.imp fun x H Q h=>by
 rcases x with _|⟨i,x⟩
 ·exact(id h:False).elim
 cases i with
 |str y=>
  cases x with
  |nil=>exact⟨_,_,rfl,⟨by simpa [cs,Yp] using h.1,rfl⟩,by simpa [cs,Yp] using h.2⟩
  |cons=>exact(id h:False).elim
 |ref p=>
  cases x with
  |nil=>
   obtain⟨xs,hx,q⟩:=h;rcases hx with hx|hx
   ·exact⟨_,_,rfl,.inl ⟨xs,hx,rfl⟩,q⟩
   ·exact⟨_,_,rfl,.inr ⟨xs,hx,rfl⟩,q⟩
  |cons=>exact(id h:False).elim
 |_=>exact(id h:False).elim
noncomputable def cS(H:Hp):V->Option String
 | .non=>some "NoneType"
 | .bl _=>some "bool"
 | .int _=>some "int"
 | .str _=>some "str"
 | .ref p=>match H p with
  |some (.lst _)=>some "list"
  |some (.frz _ (.lst _))=>some "list"
  |some (.tup _)=>some "tuple"
  |some (.dK _)=>some "dict"
  |_=>none
 |_=>none
noncomputable def cn(t n:String):Bool:=t==n || (t == "bool" && n == "int")
def jf(t:String):Prop:=t = "NoneType" \/ t = "bool" \/ t = "int" \/ t = "str" \/ t = "list" \/ t = "tuple" \/ t = "dict"
theorem Kp{K:W.Frag}{t n:String}(h:jf t)(hn:n = "int" \/ n = "bool" \/ n = "str" \/ n = "list" \/ n = "tuple" \/ n = "dict"):Zr K (.type t) (.type n)=some (cn t n):=by
 rcases h with rfl|rfl|rfl|rfl|rfl|rfl|rfl <;> rcases hn with rfl|rfl|rfl|rfl|rfl|rfl <;> kernel_rfl
theorem wl{K:W.Frag}{H:Hp}{x:V}{t:String}(h:cS H x=some t):j5 K H x (.type t)/\jf t:=by
 unfold cS at h;split at h
 ·cases h;exact⟨.non,by simp[jf]⟩
 ·cases h;exact⟨.bl _,by simp[jf]⟩
 ·cases h;exact⟨.int _,by simp[jf]⟩
 ·cases h;exact⟨.str _,by simp[jf]⟩
 ·split at h
  ·rename_i e;cases h;exact⟨.lst e,by simp[jf]⟩
  ·rename_i e;cases h;exact⟨.frz e,by simp[jf]⟩
  ·rename_i e;cases h;exact⟨.tup e,by simp[jf]⟩
  ·rename_i e;cases h;exact⟨.dK e,by simp[jf]⟩
  ·cases h
 ·cases h
noncomputable def vz(n:String):Bool:=n == "int" || n == "bool" || n == "str" || n == "list" || n == "tuple" || n == "dict"
def Es(K:W.Frag):List V->Hp->VK->Prop
 | [x,.ty n],H,Q=>(match cS H x with
  |some t=>vz n=true/\Q (.bl (cn t n)) H
  |none=>∃e C b,x = .ref e/\H e=some (iG (.ref C) e)/\dt K C/\Zr K (.ref C) (.type n)=some b/\Q (.bl b) H)
 | [.ref e,.ref D],H,Q=>∃C b,H e=some (iG (.ref C) e)/\dt K C/\Zr K (.ref C) (.ref D)=some b/\Q (.bl b) H
 |_,_,_=>False
theorem IJ:CallR X (.builtin "isinstance") (Es X.K):=zM.imp fun xs H Q h=>by
 unfold Es at h;split at h
 ·rename_i x n
  split at h
  ·rename_i t ht
   obtain⟨ty,hb⟩:=wl (K:=X.K) ht;obtain⟨hn,q⟩:=h;refine .inl ⟨x,_,_,_,_,rfl,.ty n,ty,Kp hb ?_,q⟩
   simpa [vz,or_assoc] using hn
  ·obtain⟨e,C,b,rfl,he,Z,k,q⟩:=h
   exact .inr ⟨e,_,C,_,b,rfl,.ty n,he,Z,k,q⟩
 ·rename_i e D
  obtain⟨C,b,he,Z,k,q⟩:=h;exact .inr ⟨e,_,C,_,b,rfl,.own D,he,Z,k,q⟩
 ·exact h.elim
end
section
variable{X:Cx}{a b:Expr}{ta tb:TE}{pos pos':Pos}
def gIx(K:W.Frag):R2
 | .str z,.int i,H,Q=>(cs z).length<=sizeLine/\(match atI (cs z) i with
  |some c=>Q (T [c]) H
  |none=>False)
 | .ref p,.int i,H,Q=>∃xs v,(SqL K H p xs\/SqT K H p xs)/\atI xs i=some v/\Q v H
 |_,_,_,_=>False
theorem HS:IxR X (gIx X.K):=Iz.imp fun x y H Q h=>by
 unfold gIx at h;split at h
 ·obtain⟨hz,h⟩:=h
  split at h
  ·rename_i c hc
   exact .inr (.inr ⟨_,_,c,rfl,rfl,by simpa [cs,Yp] using hz,hc,h⟩)
  ·exact h.elim
 ·obtain⟨xs,v,hs|hs,hv,q⟩:=h
  ·exact .inl ⟨_,xs,_,v,rfl,rfl,hs,hv,q⟩
  ·exact .inr (.inl ⟨_,xs,_,v,rfl,rfl,hs,hv,q⟩)
 ·exact h.elim
def gz(xs:List V)(H H1:Hp)(Q:VK):V->Prop
 | .int i=>(match atI xs i with
  |some (.ref q)=>H q=none/\(match H1 q with
   |some o=>jS o=true/\Q (.ref q) (upd H q o)
   |none=>False)
  |some v=>Q v H
  |none=>False)
 |_=>False
def Dq(ta:TA)(ti:TE):TE:=fun σ H Q=>NoT H/\ta σ H fun xs H1=>Same H H1/\xs.length<=sizeLine/\∀p,H1 p=none->ti σ (upd H1 p (.lst xs)) fun y H2=>H2=upd H1 p (.lst xs)/\gz xs H H1 Q y
theorem DC(s:Same H H1)(hp:H1 p=none)(h:gz xs H H1 Q y):∃i v G,y = .int i/\atI xs i=some v/\Gc H G (upd H1 p o)/\Q v G:=by
 unfold gz at h;have s2:Same H (upd H1 p o):=s.trans (aj o hp);split at h
 ·rename_i i
  split at h
  ·rename_i q hq
   obtain⟨hn,h⟩:=h;split at h
   ·rename_i o' ho'
    exact⟨i,_,_,rfl,hq,Gc.one s2 hn (by rw[ai (aL ho' hp)];exact ho') h.1,h.2⟩
   ·exact h.elim
  ·rename_i v _ hv
   exact⟨i,v,H,rfl,hv,Gc.none s2,h⟩
  ·exact h.elim
 ·exact h.elim
theorem fV(ha:PA X es t)(hb:PE X b tb)(hs:tw b):PE X (.Subscript (.List es pos') b pos) (Dq t tb):=by
 intro pins s σ H Q I h;obtain⟨n,h⟩:=h;refine Subscript_ (wpAny_List_spliced (thn (ha pos' pins s σ H _ I h) fun us s1 ⟨xs,H1,I1,r,sm,z,q⟩=>⟨by rw[<- r.length];exact z,?_⟩));have hf:H1 s1.heap.objs.size=none:=I1.hok.fresh (xU _);refine thn (hb pins _ σ (upd H1 s1.heap.objs.size (.lst xs)) _ (I1.laid (t':=s1.toks) (fun b u e=>Heap.get?_push_of_some _ e) (xU _) ⟨z,us,0,r,Heap.get?_push_size _ rfl⟩) (q _ hf)) fun u s3 ⟨y,H3,I3,ry,e,k⟩=>?_;subst e;obtain⟨i,v,G,rfl,hv,g,hq⟩:=DC (o:=.lst xs) sm hf k;exact thn (yp (.List es pos') b pins s3 σ _ (.ref _) (.int i) _ u (fun v' H'=>v'=v/\H'=upd H1 s1.heap.objs.size (.lst xs)) I3 rfl ry ⟨_,xs,i,v,rfl,rfl,aA af,hv,rfl,rfl⟩ (hs _ _))
  fun u' s4 hq_=>(by obtain⟨v',H4,I4,r4,e1,e2⟩:=hq_;exact⟨v,G,I.gc n (e2 ▸ I4) g,e1 ▸ r4,hq⟩)
end
def sp0(f:Hp->VK->XK->Prop):Sp:=fun vs H Q E=>match vs with
 | []=>f H Q E
 |_=>False
def sp1(f:V->Hp->VK->XK->Prop):Sp:=fun vs H Q E=>match vs with
 | [x]=>f x H Q E
 |_=>False
def sp2(f:V->V->Hp->VK->XK->Prop):Sp:=fun vs H Q E=>match vs with
 | [x,y]=>f x y H Q E
 |_=>False
def sp3(f:V->V->V->Hp->VK->XK->Prop):Sp:=fun vs H Q E=>match vs with
 | [x,y,z]=>f x y z H Q E
 |_=>False
def sp4(f:V->V->V->V->Hp->VK->XK->Prop):Sp:=fun vs H Q E=>match vs with
 | [x,y,z,u]=>f x y z u H Q E
 |_=>False
section
variable{vs:List V}{H:Hp}{Q:VK}{E:XK}
theorem sp1.inv{f}(h:sp1 f vs H Q E):∃x,vs=[x]/\f x H Q E:=by
 rcases vs with _|⟨x,_|⟨w,r⟩⟩
 rotate_left 1
 ·exact⟨_,rfl,h⟩
 all_goals exact(id h:False).elim
theorem sp2.inv{f}(h:sp2 f vs H Q E):∃x y,vs=[x,y]/\f x y H Q E:=by
 rcases vs with _|⟨x,_|⟨y,_|⟨w,r⟩⟩⟩
 rotate_left 2
 ·exact⟨_,_,rfl,h⟩
 all_goals exact(id h:False).elim
theorem sp3.inv{f}(h:sp3 f vs H Q E):∃x y z,vs=[x,y,z]/\f x y z H Q E:=by
 rcases vs with _|⟨x,_|⟨y,_|⟨z,_|⟨w,r⟩⟩⟩⟩
 rotate_left 3
 ·exact⟨_,_,_,rfl,h⟩
 all_goals exact(id h:False).elim
theorem sp4.inv{f}(h:sp4 f vs H Q E):∃x y z u,vs=[x,y,z,u]/\f x y z u H Q E:=by
 rcases vs with _|⟨x,_|⟨y,_|⟨z,_|⟨u,_|⟨w,r⟩⟩⟩⟩⟩
 rotate_left 4
 ·exact⟨_,_,_,_,rfl,h⟩
 all_goals exact(id h:False).elim
theorem sp1.len{f}(h:sp1 f vs H Q E):vs.length=1:=by obtain⟨_,rfl,_⟩:=sp1.inv h;rfl
theorem sp2.len{f}(h:sp2 f vs H Q E):vs.length=2:=by obtain⟨_,_,rfl,_⟩:=sp2.inv h;rfl
theorem sp3.len{f}(h:sp3 f vs H Q E):vs.length=3:=by obtain⟨_,_,_,rfl,_⟩:=sp3.inv h;rfl
theorem sp4.len{f}(h:sp4 f vs H Q E):vs.length=4:=by obtain⟨_,_,_,_,rfl,_⟩:=sp4.inv h;rfl
end
def asI(x:V)(f:Int->Prop):Prop:=match x with
 | .int i=>f i
 |_=>False
def asT(x:V)(f:List Nat->Prop):Prop:=match x with
 | .str y=>f (cs y)
 |_=>False
def asB(x:V)(f:Bool->Prop):Prop:=match x with
 | .bl y=>f y
 |_=>False
def asR(x:V)(f:Addr->Prop):Prop:=match x with
 | .ref y=>f y
 |_=>False
theorem aW(h:asI x f):∃i,x = .int i/\f i:=by
 cases x with
 |int _=>exact⟨_,rfl,h⟩
 |_=>exact(id h:False).elim
theorem cM(h:asT x f):∃l,x=T l/\f l:=by
 unfold asT at h;split at h
 ·exact⟨_,rfl,h⟩
 ·exact h.elim
theorem LU(h:asB x f):∃i,x = .bl i/\f i:=by
 cases x with
 |bl _=>exact⟨_,rfl,h⟩
 |_=>exact(id h:False).elim
theorem aE(h:asR x f):∃i,x = .ref i/\f i:=by
 cases x with
 |ref _=>exact⟨_,rfl,h⟩
 |_=>exact(id h:False).elim
def asK(H:Hp)(x:V)(f:String->Prop):Prop:=match cS H x with
 |some t=>f t
 |none=>False
theorem eY{H:Hp}{x:V}{f:String->Prop}(h:asK H x f):∃t,cS H x=some t/\jf t/\f t:=by
 unfold asK at h;split at h
 ·rename_i t ht
  exact⟨t,ht,(wl (K:=default) ht).2,h⟩
 ·exact h.elim
theorem asK.of(e:cS H x=some t)(h:f t):asK H x f:=by unfold asK;rw[e];exact h
theorem Dc{ns:List Int}{k:Int}(h0:0<=k)(h1:k<ns.length):atI (ns.map V.int) k=some (.int (ns.getD k.toNat 0)):=by
 obtain⟨j,rfl⟩:∃j:Nat,k=j:=⟨k.toNat,by lia⟩;refine aJ ?_;have l:j<ns.length:=by lia
 simp[List.getD,l]
theorem zR{ns:List Int}{i:Int}(h0:0<=i)(h1:i<ns.length)(q:Q (.int (ns.getD i.toNat 0)) H):gz (ns.map V.int) H H1 Q (.int i):=by
 unfold gz;simp only[Dc h0 h1];exact q
section
variable{X:Cx}(K:W.Frag)
theorem cH(h:X.K=K:=by rfl):CallR X (.builtin "isinstance") (Es K):=h ▸ IJ
theorem cG(h:X.K=K:=by rfl):CallR X (.builtin "len") (Hu K):=h ▸ Hv
theorem EY(h:X.K=K:=by rfl):IxR X (gIx K):=h ▸ HS
theorem FH(h:X.K=K:=by rfl):SlR X (KA K):=h ▸ Hb
theorem bQ(hl:PE X l tl)(h:X.K=K:=by rfl):PI X tg l (o6 K tl):=h ▸ E8 hl
end
theorem Lh{A B:Prop}(h:A):if false=false then A else B:=by
 rw[if_pos rfl];exact h
theorem K6{A B:Prop}(h:B):if true=false then A else B:=by
 rw[if_neg (by decide)];exact h
theorem Ds:cS (upd H e (iG C e)) (.ref e)=none:=by simp[cS,af,iG]
theorem JP:cS H (.bl b)=some "bool":=rfl
theorem Ho:cS H (.int i)=some "int":=rfl
theorem HJ:cS H (.str s)=some "str":=rfl
theorem Ht:cS H .non=some "NoneType":=rfl
theorem GZ:vz "int" = true:=by decide
theorem nC:cn "NoneType" "int" = false:=by decide
theorem vg:cn "bool" "int" = true:=by decide
theorem wY:cn "int" "int" = true:=by decide
theorem yd:cn "str" "int" = false:=by decide
theorem wx:cn "list" "int" = false:=by decide
theorem tm:cn "tuple" "int" = false:=by decide
theorem u_:cn "dict" "int" = false:=by decide
theorem EJ:vz "bool" = true:=by decide
theorem lH:cn "NoneType" "bool" = false:=by decide
theorem ut:cn "bool" "bool" = true:=by decide
theorem wd:cn "int" "bool" = false:=by decide
theorem u7:cn "str" "bool" = false:=by decide
theorem tV:cn "list" "bool" = false:=by decide
theorem qD:cn "tuple" "bool" = false:=by decide
theorem sk:cn "dict" "bool" = false:=by decide
theorem HF:vz "str" = true:=by decide
theorem nH:cn "NoneType" "str" = false:=by decide
theorem vk:cn "bool" "str" = false:=by decide
theorem wZ:cn "int" "str" = false:=by decide
theorem yg:cn "str" "str" = true:=by decide
theorem wc:cn "list" "str" = false:=by decide
theorem uv:cn "tuple" "str" = false:=by decide
theorem vp:cn "dict" "str" = false:=by decide
theorem FP:vz "list" = true:=by decide
theorem mB:cn "NoneType" "list" = false:=by decide
theorem tQ:cn "bool" "list" = false:=by decide
theorem vF:cn "int" "list" = false:=by decide
theorem vE:cn "str" "list" = false:=by decide
theorem ua:cn "list" "list" = true:=by decide
theorem qo:cn "tuple" "list" = false:=by decide
theorem tO:cn "dict" "list" = false:=by decide
theorem DX:vz "tuple" = true:=by decide
theorem j9:cn "NoneType" "tuple" = false:=by decide
theorem qG:cn "bool" "tuple" = false:=by decide
theorem tY:cn "int" "tuple" = false:=by decide
theorem sL:cn "str" "tuple" = false:=by decide
theorem qH:cn "list" "tuple" = false:=by decide
theorem oR:cn "tuple" "tuple" = true:=by decide
theorem qy:cn "dict" "tuple" = false:=by decide
theorem Ep:vz "dict" = true:=by decide
theorem lK:cn "NoneType" "dict" = false:=by decide
theorem tL:cn "bool" "dict" = false:=by decide
theorem vn:cn "int" "dict" = false:=by decide
theorem uR:cn "str" "dict" = false:=by decide
theorem t7:cn "list" "dict" = false:=by decide
theorem qL:cn "tuple" "dict" = false:=by decide
theorem sQ:cn "dict" "dict" = true:=by decide
theorem KW:asK H (.bl b) f=f "bool":=rfl
theorem Jh:asK H (.int i) f=f "int":=rfl
theorem Jj:asK H (.str i) f=f "str":=rfl
theorem GW:asK H .non f=f "NoneType":=rfl
noncomputable def b9:Expr->Bool
 | .Starred _ _=>false
 |_=>true
theorem zx(h:b9 e=true):starEach (e::es) env=(false,eval e env)::starEach es env:=by
 cases e <;> first|rfl|cases h
structure FA(X:Cx)(es:List Expr)(t:TA):Prop where
 pa:PA X es t
theorem cv:FA X [] ky:=⟨IV⟩
theorem aN(ha:PE X e te)(hr:FA X es t)(h:b9 e=true:=by rfl):FA X (e::es) (c_ te t):=⟨EH ha hr.pa (zx h)⟩
theorem Fu{H:Hp}{P:Hp->Prop}:(∃G,Gc H G H/\P G)↔P H:=by
 constructor
 ·rintro⟨G,g,p⟩
  have e:G=H:=by
   funext b;cases h:H b with
   |none=>exact g.b.free h
   |some o=>exact g.a b o h
  rw[<- e];exact p
 ·exact fun p=>⟨H,Gc.refl,p⟩
theorem Mf{CX:CXT}{P:Program}{w:World}{K:W.Frag}{mg:Str->Option Value}{base:Heap}{N:List Str}{qual:Str}{scope:Scope}{f:Addr}{cd:Value}{A:Around}{outer:List Env}{s:Shared}{H:Hp}{E:XK} :
 (cp CX P w K mg base N qual scope f cd A outer s H E).K=K:=rfl
noncomputable def isI:V->Bool
 | .int _=>true
 |_=>false
noncomputable def isS:V->Bool
 | .str _=>true
 |_=>false
theorem Cp(h:cS H x=some t):(t == "int")=isI x:=by
 unfold cS at h;split at h
 case h_5=>split at h <;> cases h <;> simp[isI]
 all_goals (cases h <;> simp[isI])
theorem Bi(h:cS H x=some t):(t == "str")=isS x:=by
 unfold cS at h;split at h
 case h_5=>split at h <;> cases h <;> simp[isS]
 all_goals (cases h <;> simp[isS])
theorem AR:Same H H↔True:=⟨fun _=>trivial,fun _=>Same.refl H⟩
theorem aq(hN:NoT H)(d:iU o=true):NoT (upd H p o):=hN.upd d
theorem Fk:isI (.int i)=true:=rfl
theorem IB:isI (.bl i)=false:=rfl
theorem E5:isI (.str i)=false:=rfl
theorem EN:isI (.ref i)=false:=rfl
theorem EF  : isI (.non)=false:=rfl
theorem D9:isS (.int i)=false:=rfl
theorem G8:isS (.bl i)=false:=rfl
theorem Em:isS (.str i)=true:=rfl
theorem FQ:isS (.ref i)=false:=rfl
theorem E6  : isS (.non)=false:=rfl
theorem C1(h:An H):NoT H:=fun b o e=>by
 rcases h b with z|⟨ob,xs,z⟩
 ·rw[e]at z;cases z
 ·rw[e]at z;cases z;rfl
def gcE(H:Hp)(E:XK):XK:=fun C d H'=>∃G,Gc H G H'/\E C d G
theorem Fun.okG{P:Program}{w:World}{K:W.Frag}{mg:Str->Option Value}{base:Heap}{x qual:Str}{st:Stmt}{f:Addr}{fd:FuncData}{N ps:List Str}{k:Nat}{sp:Sp}(F:Fun K x qual st f fd)(S:dA N ps (ay st))
 (len:∀vs H Q E,sp vs H Q E->vs.length=ps.length)
 (hbody:∀(cdv:Value) (A:Around) (outer:List Env) (s:Shared) (H:Hp) (vs:List V) (Q:VK) (E:XK),Room k (A.deeper (envOfC qual (ay st) s.heap.objs.size f cdv))->sp vs H Q E ->
  NoT H/\∃t,PSs (cp (XE P w) P w K mg base N qual (ay st) f cdv A outer s H (gcE H E)) (bh st) t/\t { nx:=fun _ H'=>∃G,Gc H G H'/\Q .non G,rt:=fun v H'=>∃G,Gc H G H'/\Q v G } (eD N vs) H):ig P w K mg base (XE P w) (k+1) f fd ps sp:=by
 have F':ig P w K mg base (XE P w) (k+1) f fd ps (fun vs H Q' E'=>∃Q E,sp vs H Q E/\Q'=(fun v H'=>∃G,Gc H G H'/\Q v G)/\E'=gcE H E):=by
  refine F.okX S (fun vs H Q' E' hq_=>(by obtain⟨Q,E,h,_⟩:=hq_;exact len vs H Q E h)) (fun cdv A outer s H vs Q' E' hr h=>?_);obtain⟨Q,E,h,rfl,rfl⟩:=h;exact(hbody cdv A outer s H vs Q E hr h).2
 refine⟨len,fun A outer s H args us vs Q E hr e0 hb r hsp=>?_⟩;have nT:NoT H:=by
  obtain⟨oc,od,kV,doc,pm,an,cdv,ct,osl,rfl,lk,hcd⟩:=F.ex;exact(hbody cdv A outer s H vs Q E (hr.deeper _) hsp).1
 refine codeAny_mono (F'.run A outer s H args us vs _ _ hr e0 hb r ⟨Q,E,hsp,rfl,rfl⟩) fun res s' h=>?_;cases res with
 |error e=>
  obtain⟨ea,C,rs,H',h1,h2,h3,un,hok,hrs,fly,G,g,q⟩:=h;exact⟨ea,C,rs,G,h1,h2,h3,un.gc g,HOk.gc nT e0.hok hok g,fun b hb=>⟨(hrs b hb).1,g.b.free (hrs b hb).2⟩,fly,q⟩
 |ok fl=>
  cases fl with
  |ret u=>
   obtain⟨v,H',h1,h2,un,hok,rv,G,g,q⟩:=h;exact⟨v,G,h1,h2,un.gc g,HOk.gc nT e0.hok hok g,rv,q⟩
  |next=>exact h
  |brk=>exact h
  |cont=>exact h
section
variable{K:W.Frag}{C D:Addr}{b:Bool}{cl:ClassData}
theorem rL(o:PySem.W.clsIn K D=some cl)(t:PySem.W.typeIn K (.ref D)=some (.type "type"))(m:Z1 K C (.ref D)=some b):PySem.W.kitCls K (.ref C) (.ref D)=some b:=by
 unfold PySem.W.kitCls;simp only[o,t,Option.isSome_some,beq_self_eq_true,Bool.and_self,if_true];exact m
theorem zD(o:PySem.W.clsIn K D=some cl)(t:PySem.W.typeIn K (.ref D)=some (.type "type"))(s:Z1 K D (.type "BaseException")=some true)(m:Z1 K C (.ref D)=some b):ZR K (.ref C) (.ref D)=some b:=by
 unfold ZR;have e:PySem.W.subIn K (.ref D) (.type "BaseException")=some true:=s;rw[e,if_pos (by rfl)];exact rL o t m
theorem zP(o:PySem.W.clsIn K D=some cl)(t:PySem.W.typeIn K (.ref D)=some (.type "type"))(s:Z1 K C (.ref C)=some true)(m:Z1 K C (.ref D)=some b):Zr K (.ref C) (.ref D)=some b:=by
 unfold Zr;by_cases e:((wU C==wU D)=true)
 ·rw[if_pos e]
  have e':C=D:=wU.inj (beq_iff_eq.mp e);subst e';rw[s]at m;exact m
 ·rw[if_neg e];exact rL o t m
theorem w8:PySem.W.kitMeta "ValueError" = true:=by kernel_rfl
theorem zt(m:Z1 K C (.type "ValueError")=some b):Zr K (.ref C) (.type "ValueError")=some b:=by
 unfold Zr;rw[if_neg (by intro z;cases (beq_iff_eq.mp z))];unfold PySem.W.kitCls;simp only[w8,if_true];exact m
end
theorem Bb{l:PySem.W.OpenLaw}{n k:Nat}{q:Program}{loose:List Str}{XP:(Str->Option Value)->Heap->Prop}{YP:World->Heap->Prop}{d:DefRec}{K:Params->W.Frag}{sp:W.Frag->Sp}{x:Str}
 (hn:l.most=some n) (hn2:n<=sizeLine) (hdf:d.params.defaults=[]) (hr:Room k callerA)
 (hY:∀(w:World) (h:Heap),YP w h->(K w.params).In h)
 (F:∀(w:World) (mg:Str->Option Value) (fa:Addr) (h:Heap),(K w.params).In h->h.Ns ZL mg->mg d.name=some (.ref fa) ->
  ∃fd:FuncData,(∀(s:Shared) (u:Value),BindsTo s fd ⟨[u],[]⟩ [(x,u)]) /\
   ∀base:Heap,(K w.params).In base->base.Ns ZL mg->ig l.prog w (K w.params) mg base (XE l.prog w) k fa fd [x] (sp (K w.params)))
 (hsp:∀(K:W.Frag) (H:Hp) (a:Addr) (ns:List Int),ns.length<=n->An H->SqL K H a (ns.map V.int)->sp K [.ref a] H (fun v _=>v = .bl true) fun _ _ _=>False) :
 PySem.W.WalkO q loose XP YP l.row.toRowW d [] (fun f vs=>PySem.call f vs):=
 Fd (K:=K) (CX:=fun w=>XE l.prog w) (sp:=fun w=>sp (K w.params)) hn hn2 hdf hr hY F (fun w H a ns h1 h2 h3=>hsp (K w.params) H a ns h1 h2 h3) fun w H s e s' hq_=>(by obtain⟨_,_,_,_,_,_,_,_,_,_,_,z⟩:=hq_;exact z)
section
variable{prog:Program}{w:World}{A:Around}{R:Result->Shared->Prop}{s:Shared}
theorem sJ(I:Nat->Shared->Prop)
 (turn:∀n s,I n s->wpAny (model prog w) A (pyNext it) (fun r s₁=>match r with
  |none=>R (.ok .next) s₁
  |some v=>wpAny (model prog w) A (Xi target it v) (fun _ s₁'=>wpAny (model prog w) A (assign target env v) (fun _ s₂=>
   wpAny (model prog w) A (forIn ifs true fun c r=>if r=true then do let ok <- isTrue c env (eval c env);pure (ForInStep.yield ok) else pure (ForInStep.yield r)) (fun ok s₃=>
    if ok=true then wpAny (model prog w) A (eval elt env) (fun x s₄=>
     wpAny (model prog w) A (call (.builtin "list.append") [acc,x]) (fun _ s₅=>∃m,m<n/\I m s₅) (notedBy (model prog w) A env fun e s'=>R (.error e) s') s₄) (notedBy (model prog w) A env fun e s'=>R (.error e) s') s₃
    else ∃m,m<n/\I m s₃) (notedBy (model prog w) A env fun e s'=>R (.error e) s') s₂) (notedBy (model prog w) A env fun e s'=>R (.error e) s') s₁') (notedBy (model prog w) A env fun e s'=>R (.error e) s') s₁) (notedBy (model prog w) A env fun e s'=>R (.error e) s') s)
 (n:Nat) (h:I n s) :
 codeAny (model prog w) A (.compLoop (.ListComp elt [⟨target,iter,ifs,0⟩] scope pos) 0 it acc env) R s:=by
 refine codeAny_loop rfl I (fun n s hI=>?_) n h;show wpAny _ A ((compTurn (.ListComp elt [⟨target,iter,ifs,0⟩] scope pos) 0 it acc env).onRaise (fun x=>do noteFrame x env;theTreesLotGoes x)) _ _ s;refine wpAny_noted ?_;rw[compTurn_list];refine zZ (YC (zZ (Zs (turn n s hI) (fun r s₁ h₁=>?_) fun _ _ h'=>h')));cases r with
 |none=>exact xc h₁
 |some v=>
  refine zZ (Zs h₁ (fun _ s₁' h₁'=>?_) fun _ _ h'=>h');refine zZ (Zs h₁' (fun _ s₂ h₂=>zZ (Zs h₂ (fun ok s₃ h₃=>?_) fun _ _ h'=>h')) fun _ _ h'=>h');cases ok with
  |false=>exact xc ⟨rfl,h₃⟩
  |true=>
   exact zZ (zZ (Zs h₃ (fun x s₄ h₄=>zZ (Zs h₄ (fun _ s₅ h₅=>xc (xc ⟨rfl,h₅⟩)) fun _ _ h'=>h')) fun _ _ h'=>h'))
end
noncomputable def ik(X:Cx)(N:List Str)(scope:Scope)(cl:List (Str × Addr))(C:Addr)(s₂:Shared)(H₂:Hp)(ex:List Addr)(pn:List (Addr × Obj)):Cx:=
 { X with N:=N,s₀:=s₂,H₀:=H₂,env:=compEnvC scope cl C X.env,outer:=X.stack,stack:=X.stack,ex:=ex,fn:=fun _=>false,pn:=pn,xe:=fun _ _=>False }
structure CompScope(X:Cx)(scope:Scope)(cl:List (Str × Addr))(x:Str)(fr:List Str):Prop where
 clos:closureFor scope X.env=pure cl
 nocell:∀y∈scope.names,y.2 ≠ .cell
 kind:scope.kind = .function
 names:∀y∈scope.names,y.2 = .local->scope.names.lookup y.1=some .local
 own:scope.names.lookup x=some .local
 keys:∀y∈cl,y.1∈fr
 cells:fr.map (fun y=>cl.lookup y)=fr.map (fun y=>X.env.cells.lookup y)
 kinds:∀y∈fr,X.env.kindOf y=some .cell\/X.env.kindOf y=some .free
 kin:∀y∈fr,(relabel scope X.env).names.lookup y=some .cell\/(relabel scope X.env).names.lookup y=some .free
 only:∀y,((relabel scope X.env).names.lookup y=some .cell\/(relabel scope X.env).names.lookup y=some .free)->y∈fr
theorem xz{α:Type}{l:List (Str × α)}{y:Str}{c:α}(h:l.lookup y=some c):(y,c)∈l:=Z7 h
theorem CompScope.cell(S:CompScope X scope cl x fr)(h:y∈fr):cl.lookup y=X.env.cells.lookup y:=by
 have e:=S.cells;obtain⟨i,hi,rfl⟩:=List.getElem_of_mem h;have:=congrArg (fun l=>l[i]?) e
 simpa [hi] using this
theorem CompScope.sub{X:Cx}{scope:Scope}{cl:List (Str × Addr)}{x:Str}{fr:List Str}(S:CompScope X scope cl x fr){y:Str}{c:Addr}(h:cl.lookup y=some c):X.env.cells.lookup y=some c:=by
 rw[<- S.cell (S.keys _ (xz h))];exact h
def PTs(X:Cx)(ifs:List Expr)(t:TT):Prop:=
 ∀(pins:List (Addr × Obj)) (s:Shared) (σ:St) (H:Hp) (Q:Bool->Hp->Prop),Inv X pins σ H s->t σ H Q ->
  wpAny (model X.prog X.w) X.A (forIn ifs true fun c r=>if r=true then do let ok <- isTrue c X.env (eval c X.env);pure (ForInStep.yield ok) else pure (ForInStep.yield r)) (TP X pins σ Q) X.xe s
theorem eO:PTs X [] (fun _ H Q=>Q true H):=fun pins s σ H Q I h=>wpAny_tests_nil ⟨H,I,h⟩
theorem iz(h:PT X c t):PTs X [c] t:=fun pins s σ H Q I hw=>wpAny_tests_one (h pins s σ H Q I hw)
end L2
namespace MT
noncomputable def dg(n:Nat):List Nat:=(Nat.toDigits 10 n).map Char.toNat
noncomputable def isD(c:Nat):Bool:=decide (48<=c)&&decide (c<=57)
noncomputable def vl(t:List Nat):Nat:=t.foldl (fun n c=>10*n+(c-48)) 0
noncomputable def nin(t:List Nat):Nat:=t.foldl (fun n c=>if isD c then 10*n+(c-48) else n) 0
end MT
namespace L2
open PySem PySem.Spec PyProof.Rows Builtin Builtin.Str
section
variable{X:Cx}{e a b c:Expr}{pos:Pos}
def gIn(neg:Bool):R2
 | .str i,.str j,H,Q=>(match cs i with
  | [c]=>Q (.bl (neg ^^ decide (c∈cs j))) H
  |_=>False)
 |_,_,_,_=>False
theorem xj{i:Str}{c:Nat}(h:cs i=[c]):i=⟨#[c]⟩:=by
 obtain⟨⟨l⟩⟩:=i;have h':l=[c]:=h;rw[h']
theorem Lc:OpR X (Zq .In) (gIn false):=AN.imp fun x y H Q h=>by
 cases x with
 |str v_1=>
  cases y with
  |str v_2=>
   delta gIn at h
   dsimp only at h;split at h
   ·rename_i c hc
    refine⟨_,_,rfl,rfl,?_⟩;rw[xj hc,PySem.StrLaws.found_one]
    simpa [cs] using h
   ·exact h.elim
  |_=>exact(id h:False).elim
 |_=>exact(id h:False).elim
def gSt:V->List V->Hp->VK->Prop
 | .str x,[.str y],H,Q=>(match cs y with
  | [c]=>Q (.bl (decide ((cs x).head? = some c))) H
  |_=>False)
 |_,_,_,_=>False
def gEn:V->List V->Hp->VK->Prop
 | .str x,[.str y],H,Q=>(match cs y with
  | [c]=>Q (.bl (decide ((cs x).getLast? = some c))) H
  |_=>False)
 |_,_,_,_=>False
theorem IX(x:Str)(c:Nat):(decide (0+(⟨#[c]⟩:Str).length<=x.length)&&YU x ⟨#[c]⟩ (x.length-(⟨#[c]⟩:Str).length))=decide ((cs x).getLast? = some c):=by
 obtain⟨⟨l⟩⟩:=x;by_cases hl:l=[]
 ·subst hl;simp[Yp,cs,YU]
 ·obtain⟨i,a,rfl⟩:∃i a,l=i++[a]:=⟨l.dropLast,l.getLast hl,(List.dropLast_concat_getLast hl).symm⟩
  have e:YU ⟨⟨i++[a]⟩⟩ ⟨#[c]⟩ i.length=decide (a=c):=by
   simp[YU,Yp];rw[YZ];simp
  have e2:(⟨⟨i++[a]⟩⟩:Str).length-(⟨#[c]⟩:Str).length=i.length:=by simp[Yp]
  rw[e2,e];simp[Yp,cs]
theorem uE:MtR X "str.endswith" gEn:=by
 intro pins s σ H x xs v us Q I rx rs h;cases x with
 |str v_1=>
  rcases xs with _|⟨e_2,r_2⟩
  ·exact(id h:False).elim
  cases e_2 with
  |str v_3=>
   cases r_2 with
   |nil=>
    delta gEn at h
    dsimp only at h;split at h
    ·rename_i c hc
     obtain⟨t,rfl⟩:=rx;obtain⟨u,rfl,t',rfl⟩:=d5 rs;rw[xj hc];refine Y7 F.slot_str_endswith (typeIs_str _ _ _) F.entry_str_endswith (F.args_str_endswith_2 _ _) (gives_str_endswith _ ⟨#[c]⟩ t t').meets ?_;exact⟨.bl _,H,I,rfl,by rw[IX];exact h⟩
    ·exact h.elim
   |cons=>exact(id h:False).elim
  |_=>exact(id h:False).elim
 |_=>exact(id h:False).elim
def L8:V->List V->Hp->VK->Prop
 | .str x,[.str y],H,Q=>(match cs y with
  | [c]=>c∈cs x/\∀i:Nat,(cs x)[i]? = some c->Q (.int i) H
  |_=>False)
 |_,_,_,_=>False
def Co:List V->Hp->VK->Prop
 | [.int i],H,Q=>Q (.int i) H
 | [.bl k],H,Q=>Q (.int (if k then 1 else 0)) H
 | [.str x],H,Q=>((cs x)≠[]/\(∀c∈cs x,MT.isD c=true)/\(cs x).length<=640)/\Q (.int (MT.vl (cs x))) H
 |_,_,_=>False
theorem qK:CallR X (.type "int") (fun xs H Q=>∃x,xs=[.str x]/\((cs x)≠[]/\(∀c∈cs x,MT.isD c=true)/\(cs x).length<=640)/\Q (.int (MT.vl (cs x))) H):=by
 intro pins s σ H xs us Q I r h;obtain⟨x,rfl,⟨h0,hd,hl⟩,q⟩:=h;obtain⟨u,rfl,t,rfl⟩:=d5 r;have hl':x.length<=640:=by simpa [cs,Yp] using hl
 have e:PySem.NumText.digitsVal x.cps.toList=MT.vl (cs x):=by
  unfold PySem.NumText.digitsVal MT.vl cs
  congr 1
  funext a c;lia
 have hn:intText? x=some ((MT.vl (cs x):Nat):Int):=by
  rw[PySem.intText_digits (fun c hc=>by have:=hd c hc;simpa [MT.isD] using this) h0 (by lia),e]
 exact PySem.W.KIN.call_text hn hl' ⟨.int _,H,I.tok _,⟨_,rfl⟩,q⟩
theorem yy:CallR X (.type "int") Co:=(AS.or qK).imp fun xs H Q h=>by
 unfold Co at h;split at h
 ·exact .inl (.inl ⟨_,rfl,h⟩)
 ·exact .inl (.inr ⟨_,rfl,h⟩)
 ·exact .inr ⟨_,rfl,h.1,h.2⟩
 ·exact h.elim
end
end L2
namespace L2
open PySem PySem.Spec PyProof.Rows
noncomputable def Its(x:Str):It:=⟨fun i _=>i<x.cps.size,fun i H v H'=>H'=H/\∃c,x.cps[i]? = some c/\v = .str ⟨#[c]⟩,fun i _=>x.cps.size<=i⟩
theorem Bg{P:Program}{w:World}{K:W.Frag}{tg:Expr}(x:Str)(t:Tok)(it:Addr):CD P w K tg (Its x) [it] it (fun i h=>h.IsStrIter it "str_ascii_iterator" x t i) where
 mem:=by simp
 obj:=fun i h st b hb=>by
  have e:b=it:=by simpa using hb
  subst e;obtain⟨o,e,c,d⟩:=st;exact⟨o,e,fun v z=>by rw[d]at z;cases z⟩
 keep:=fun i h h' st k=>by
  obtain⟨o,e,c,d⟩:=st;exact⟨o,k it (by simp) o e,c,d⟩
 item:=by
  intro X hP hw hK hc i pins s σ H E I hf st hg;subst hP hw hK;have hg':i<x.cps.size:=hg;obtain⟨f0,f1,f2,f3,f4,f5⟩:=hf it (by simp);have hx:x.cps[i]? = some x.cps[i]:=by simp[hg']
  refine wpAny_pyNext_ascii_item st hx fun h' st' sb=>?_;have I1:Inv X pins σ H { s with heap:=h',toks:=s.toks+1 }:=I.turned (fun b o hb e=>(sb.2 b hb).trans e) f0 f1 f3 f4 f5;obtain⟨o,e,c,d⟩:=id st';exact⟨_,rfl,rf (s:={ s with heap:=h',toks:=s.toks+1 }) e c d (by decide) ⟨.str ⟨#[x.cps[i]]⟩,H,I1,⟨_,rfl⟩,⟨rfl,_,hx,rfl⟩,st',fun b hb=>(hf b hb).1⟩⟩
 done:=by
  intro X hP hw hK hc i pins s σ H E I hf st hg;subst hP hw hK;have hg':x.cps.size<=i:=hg;obtain⟨f0,f1,f2,f3,f4,f5⟩:=hf it (by simp);have hx:x.cps[i]? = none:=by simp[hg']
  exact wpAny_pyNext_ascii_end (I.ok.hd hc) st hx fun h' eb=>⟨rfl,I.turned (fun b o hb e=>eb b o hb e) f0 f1 f3 f4 f5⟩
 self:=fun _ _ _ _ _ st h=>wpAny_pyIter_striter_ascii st h
def Lr(tl:TE):TI:=fun σ H R=>tl σ H fun v H1=>match v with
 | .str x=>(∀c∈cs x,c<128)/\R (Its x) H1
 |_=>False
theorem Ic{X:Cx}{tg l:Expr}{tl:TE}(hl:PE X l tl):PI X tg l (Lr tl):=by
 intro pins s σ H R I h;refine thn (hl pins s σ H _ I h) fun v s1 ⟨y,H1,I1,r1,q⟩=>?_;dsimp only at q;split at q
 ·rename_i x
  obtain⟨ha,q⟩:=q;obtain⟨t,rfl⟩:=r1;have ha':x.cps.all (· < 128)=true:=by
   rw[Array.all_eq_true];intro i hi;exact decide_eq_true (ha _ (by unfold cs;rw[Array.mem_toList_iff];exact Array.getElem_mem hi))
  refine wpAny_pyIter_ascii ha' ?_;refine⟨s1.heap.objs.size,[s1.heap.objs.size],_,_,H1,rfl,I1.kept (t':=s1.toks) fun b o e=>Heap.get?_push_of_some _ e,Bg x t _,⟨_,Heap.get?_push_size _ rfl,rfl,rfl⟩,fun b hb=>?_,q⟩;have e:b=s1.heap.objs.size:=by simpa using hb
  subst e;exact I1.fpOk (xU _) (I1.hok.fresh (xU _))
 ·exact q.elim
section
variable{X:Cx}
theorem pT:∀ {bs:List Bool} {us:List Value},Vals (bs.map V.bl) us->LSm.BoolsAre us bs
 | [],_,.nil=>.nil
 |b::r,_,.cons e t=>by
  cases (show _=Value.bool b from e);exact .cons b (pT t)
def Kt(K:W.Frag):List V->Hp->VK->Prop
 | [.ref p],H,Q=>∃bs:List Bool,SqL K H p (bs.map V.bl)/\Q (.bl (bs.all id)) H
 |_,_,_=>False
theorem yU(K:W.Frag)(hc:X.calm=true)(hK:X.K=K:=by rfl):CallR X (.builtin "all") (Kt K):=by
 subst hK;intro pins s σ H xs us Q I r h;rcases xs with _|⟨e_1,r_1⟩
 ·exact(id h:False).elim
 cases e_1 with
 |ref p=>
  cases r_1 with
  |nil=>
   obtain⟨bs,hq,q⟩:=h;obtain⟨u,rfl,rx⟩:=d5 r;cases (show u=wU p from rx);obtain⟨its,rv,pl,hz⟩:=I.list hq;have hne:p≠s.heap.objs.size:=tG (by obtain⟨_,e,_⟩:=pl.isList;exact wF e);have hb:LSm.BoolsAre its bs:=pT rv;refine call_all_walk (wpAny_pyIter_list pl.isList ?_);refine⟨s.heap.objs.size,[s.heap.objs.size,p],[s.heap.objs.size],its.toArray.size,_,_,fun i=>(bs[i]?).getD true,rfl,Walks.list (A:=X.A.in1) (I.ok.hd hc) _ p hne its.toArray,
    ⟨⟨_,Heap.get?_push_size _ rfl,rfl,rfl⟩,pl.isList.push _⟩,fun i v s' Q' E' hP hQ=>?_,fun h' tk hk=>?_⟩
   ·obtain⟨b,e,rfl⟩:=hb.get i v (by simpa using hP)
    simp only[e,Option.getD_some]at hQ;exact Zd hQ
   ·have e:((Zw its.toArray.size).all fun i=>(bs[i]?).getD true)=bs.all id:=by
     rw[z8,hb.length];exact LSm.range_all bs
    rw[e];exact⟨.bl (bs.all id),H,I.kept (LSm.kept_iter hk),rfl,q⟩
  |cons=>exact(id h:False).elim
 |_=>exact(id h:False).elim
end
end L2
namespace L2
open PySem PySem.Spec PyProof.Rows Builtin Builtin.Str
noncomputable def cI(sep:List Nat):List (List Nat)->List Nat
 | []=>[]
 | [x]=>x
 |x::y::r=>x++sep++cI sep (y::r)
theorem rO:∀ls:List (List Nat),cI [] ls=ls.flatten
 | []=>rfl
 | [x]=>by simp[cI]
 |x::y::r=>by rw[cI,rO (y::r)];simp
noncomputable def S(l:List Nat):Str:=⟨⟨l⟩⟩
theorem rP(sep:List Nat):∀(r:List (List Nat)) (x:List Nat),((r.map S).foldl (fun acc p=>acc++(S sep).cps++p.cps) (S x).cps)=(S (cI sep (x::r))).cps
 | [],x=>rfl
 |y::r,x=>by
  rw[wV,List.foldl_cons];have e:(S x).cps++(S sep).cps++(S y).cps=(S (x++sep++y)).cps:=by
   apply Array.ext';simp[S]
  rw[e,rP sep r]
  congr 1
  cases r with
  |nil=>rfl
  |cons z r'=>unfold cI;simp[cI,Yr]
theorem yq(sep:List Nat)(ls:List (List Nat)):Txt.join (S sep) (ls.map S)=S (cI sep ls):=by
 unfold Txt.join glued;cases ls with
 |nil=>rfl
 |cons x r=>
  show(⟨((x::r).map S).drop 1 |>.foldl _ _⟩:Str)=_;rw[wV,List.drop_one,List.tail_cons,List.headD_cons,rP]
theorem zm:∀ {ls:List (List Nat)} {us:List Value},Vals (ls.map T) us->StrsAre us (ls.map S)
 | [],_,.nil=>.nil
 |l::r,_,.cons e t=>by
  obtain⟨k,rfl⟩:=e;exact .cons _ k (zm t)
def BD(sep:List Nat)(ls:List (List Nat)):Prop:=(ls.map ZO).sum+ls.length*sep.length<=16777216
theorem FS(h:BD sep ls):(((ls.map S).map (·.length)).sum+(ls.map S).length*(S sep).length<=16777216):=by
 have e:(ls.map S).map (·.length)=ls.map ZO:=by rw[wM];apply uW;intro l _;rfl
 rw[e,zV];exact h
section
variable{X:Cx}
def GJ(K:W.Frag):V->List V->Hp->VK->Prop
 | .str x,[.ref p],H,Q=>∃ls:List (List Nat),SqL K H p (ls.map T)/\BD (cs x) ls/\Q (T (cI (cs x) ls)) H
 |_,_,_,_=>False
theorem qi(K:W.Frag)(hK:X.K=K:=by rfl):MtR X "str.join" (GJ K):=by
 subst hK;intro pins s σ H x xs v us Q I rx rs h;cases x with
 |str y=>
  rcases xs with _|⟨e_1,r_1⟩
  ·exact(id h:False).elim
  cases e_1 with
  |ref p=>
   cases r_1 with
   |nil=>
    obtain⟨ls,hq,hf,q⟩:=h;obtain⟨t,rfl⟩:=rx;obtain⟨u,rfl,ru⟩:=d5 rs;cases (show u=wU p from ru);obtain⟨its,rv,pl,hz⟩:=I.list hq;refine join_list pl.isList (zm rv) (FS hf) fun t' k=>?_;exact⟨.str (Txt.join y (ls.map S)),H,I.tok _,⟨_,rfl⟩,by rw[show y=S (cs y) from rfl,yq];exact q⟩
   |cons=>exact(id h:False).elim
  |_=>exact(id h:False).elim
 |_=>exact(id h:False).elim
end
end L2
namespace PySem
open Sem (wp)
open Builtin Builtin.Str Builtin.Int
namespace F
end F
end PySem
namespace L2
open PySem PySem.Spec PyProof.Rows Builtin Builtin.Str
section
variable{X:Cx}
structure Enum(J:It)(vs:List V):Prop where
 go:∀i H,i<vs.length->J.go i H
 yld:∀i H x H',i<vs.length->J.yld i H x H'->H'=H/\vs[i]? = some x
 stop:∀H,J.stop vs.length H
theorem Bu(l:List Nat):Enum (Its ⟨⟨l⟩⟩) (l.map fun c=>T [c]):=by
 refine⟨fun i H h=>by simpa [Its] using h,fun i H x H' _ y=>?_,fun H=>by simp[Its]⟩;obtain⟨e,c,hc,rfl⟩:=y;refine⟨e,?_⟩;have:l[i]? = some c:=by simpa using hc
 rw[List.getElem?_map,this];rfl
theorem Dl(n:Nat):Enum (Itr 0 n) ((Zw n).map fun k=>.int (k:Nat)):=by
 refine⟨fun i H h=>by simpa [Itr] using h,fun i H x H' hi y=>?_,fun H=>by simp[Itr]⟩;obtain⟨e,rfl⟩:=y;refine⟨e,?_⟩;have hi':i<n:=by simpa using hi
 simp[hi']
structure DK(C:Hp->Prop)(J:It)(vs:List V):Prop where
 go:∀i H,C H->i<vs.length->J.go i H
 yld:∀i H x H',C H->i<vs.length->J.yld i H x H'->H'=H/\vs[i]? = some x
 stop:∀H,C H->J.stop vs.length H
theorem iw{J:It}{vs:List V}{σ':St}{H1:Hp}{Q:VK}{tt:TT}{te:TE}(C:Hp->Prop)(E:DK C J vs)(p:V->Bool)(f:V->V)(hlen:vs.length<=sizeLine)
 (hp:∀x∈vs,∀H (R:Bool->Hp->Prop),C H->R (p x) H->tt (some x::σ') H R) (hf:∀x∈vs,p x=true->∀H (R:VK),C H->R (f x) H->te (some x::σ') H R)
 (D:Addr) (hD:H1 D=none) (hC:∀ys,C (upd H1 D (.lst ys))) (q:Q (.ref D) (upd H1 D (.lst ((vs.filter p).map f)))) :
 ∃W:Nat->Nat->List V->Hp->Prop,(∃m,W 0 m [] (upd H1 D (.lst []))) /\
  ∀i m ys H2,W i m ys H2->H2 D=some (.lst ys)/\((J.stop i H2/\Q (.ref D) H2)\/(J.go i H2/\∀x H3,J.yld i H2 x H3 ->
   tt (some x::σ') H3 fun b H4=>if b=true then te (some x::σ') H4 fun y H5=>H5 D=some (.lst ys)/\ys.length<sizeLine/\∃m',m'<m/\W (i+1) m' (ys++[y]) (upd H5 D (.lst (ys++[y])))
    else ∃m',m'<m/\W (i+1) m' ys H4)):=by
 refine⟨fun i m ys H2=>m=vs.length-i/\i<=vs.length/\ys=((vs.take i).filter p).map f/\H2=upd H1 D (.lst ys),⟨vs.length,by simp,Zv _,by simp,rfl⟩,?_⟩;rintro i m ys H2 ⟨rfl,hi,hys,rfl⟩;refine⟨af,?_⟩;by_cases hlt:i<vs.length
 ·refine .inr ⟨E.go i _ (hC _) hlt,fun x H3 y=>?_⟩
  obtain⟨e,hx⟩:=E.yld i _ x H3 (hC _) hlt y;subst e;have hm:x∈vs:=vW hx;have htk:vs.take (i+1)=vs.take i++[x]:=by
   rw[Xz,hx];rfl
  have hyl:ys.length<=i:=by
   rw[hys,zV];exact Zt (Zj _ _) (by simp[Zx];lia)
  refine hp x hm _ _ (hC _) ?_;cases hb:p x with
  |true=>
   rw[if_pos rfl];refine hf x hm hb _ _ (hC _) ⟨af,by lia,vs.length-(i+1),by lia,rfl,hlt,?_,?_⟩
   ·rw[htk,ZY,vH,<- hys]
    simp[hb]
   ·funext z
    by_cases hz:z=D
    ·subst hz;rw[af,af]
    ·rw[ai hz,ai hz,ai hz]
  |false=>
   rw[if_neg vX];refine⟨vs.length-(i+1),by lia,rfl,hlt,?_,rfl⟩;rw[htk,ZY,vH,<- hys];simp[hb]
 ·have e:i=vs.length:=by lia
  subst e;refine .inl ⟨E.stop _ (hC _),?_⟩;rw[Zl]at hys;rw[hys];exact q
theorem Enum.c{J:It}{vs:List V}(E:Enum J vs)(C:Hp->Prop):DK C J vs:=⟨fun i H _=>E.go i H,fun i H x H1 _=>E.yld i H x H1,fun H _=>E.stop H⟩
end
theorem SqL.same{K:W.Frag}{H H':Hp}{a:Addr}{xs:List V}(s:Same H H')(h:SqL K H a xs):SqL K H' a xs:=by
 rcases h with (h|⟨o,h⟩)|h
 ·exact .inl (.inl (s _ _ h))
 ·exact .inl (.inr ⟨o,s _ _ h⟩)
 ·exact .inr h
theorem uL(g:Nat->Nat):∀l:List Nat,(l.map fun k=>[g k]).flatten=l.map g
 | []=>rfl
 |a::r=>by rw[wV,List.flatten_cons,uL g r];rfl
theorem ym(g:Nat->Nat):∀l:List Nat,((l.map fun k=>[g k]).map ZO).sum=l.length
 | []=>rfl
 |a::r=>by have:=ym g r;simp only[wV,List.sum_cons,sq,Yz,this];lia
theorem vt{K:W.Frag}{H1:Hp}{D:Addr}{Q:VK}(l:List Nat)(g:Nat->Nat)(hs:H1 D=some (.lst (l.map fun k=>T [g k])))(hl:l.length<=1000)(q:Q (T (l.map g)) H1):GJ K (T []) [.ref D] H1 Q:=by
 refine⟨l.map fun k=>[g k],aA (by rw[hs,wM];rfl),?_,?_⟩
 ·unfold BD;rw[ym];simp[cs];lia
 ·show Q (T (cI [] _)) H1
  rw[rO,uL];exact q
theorem oS:bZ (XE P w) X (fun _ _ _ _=>False):=fun _ _ _ _ _ _ _ hq_=>(by obtain⟨_,_,_,_,_,_,_,_,_,_,_,q⟩:=hq_;exact q.elim)
noncomputable def Bz:Option NameKind->Bool
 |some .cell=>true
 |some .free=>true
 |_=>false
theorem uF:Bz k=true↔(k=some .cell\/k=some .free):=by
 cases k with
 |none=>simp[Bz]
 |some k=>cases k <;> simp[Bz]
theorem cF{cl:List (Str × Addr)}{fr:List Str}(h:(cl.map (·.1)).all (fun y=>fr.elem y)=true):∀y∈cl,y.1∈fr:=fun y hy=>by
 have:=Zo.mp h y.1 (xf hy)
 simpa using this
theorem aS{fr:List Str}{k:Str->Option NameKind}(h:fr.all (fun y=>Bz (k y))=true):∀y∈fr,k y=some .cell\/k y=some .free:=fun y hy=>uF.mp (Zo.mp h y hy)
theorem cD{names:List (Str × NameKind)}{fr:List Str}(h:names.all (fun p=>!Bz (some p.2) || fr.elem p.1)=true):∀y,(names.lookup y=some .cell\/names.lookup y=some .free)->y∈fr:=fun y hy=>by
 have hy':=uF.mpr hy;cases e:names.lookup y with
 |none=>rw[e]at hy';cases hy'
 |some k=>
  rw[e]at hy';have:=Zo.mp h (y,k) (Z7 e)
  simpa [hy'] using this
section
variable{X:Cx}{pos:Pos}
theorem IC(I:Inv X pins σ H s):ZE<s.heap.objs.size:=
 Nat.lt_trans (by decide) (show ZL<s.heap.objs.size from(I.mod.glob.keeps I.bk).lt)
def Gm:TE:=fun _ H Q=>∀p,H p=none->Q (.ref p) (upd H p (.dK []))
theorem kc:PE X (.Dict [] [] pos) Gm:=by
 intro pins s σ H Q I h;have new:ObjOk X.prog X.w (upd H s.heap.objs.size (.dK [])) (s.heap.push { cls:=.type "dict",data:=.dict #[] }) s.heap.objs.size (.dK []):=
  ⟨Zv _,beq_eq_false_iff_ne.mpr (Ne.symm (tG (IC I))),[],.nil,Heap.DictOf.new s.heap⟩
 exact wpAny_Dict_empty ⟨.ref s.heap.objs.size,_,I.laid (t':=s.toks) (fun _ _ q=>Heap.get?_push_of_some _ q) (xU _) new,rfl,h _ (I.hok.fresh (xU _))⟩
theorem vV:∀(l:List (Array Nat)) (acc:Array Nat),(l.foldl (· ++ ·) acc).toList=acc.toList++(l.map Array.toList).flatten
 | [],acc=>by simp
 |a::r,acc=>by rw[List.foldl_cons,vV r];simp
theorem Jp(x:Str)(n:Int):V.str (Txt.mul x n)=T ((Zm n.toNat (cs x)).flatten):=by
 unfold Txt.mul;split
 ·rename_i h
  have e:n.toNat=0:=by lia
  rw[e];rfl
 ·rename_i h
  split
  ·rename_i h2
   rcases Bool.or_eq_true_iff.mp h2 with h3|h3
   ·have e:n.toNat=1:=by have:=eq_of_beq h3;lia
    rw[e,Ie];simp
   ·have e:cs x=[]:=by
     have:=eq_of_beq h3
     simpa [cs,Yp] using this
    rw[Ie,e];simp
  ·rw[Ie]
   congr 1
   show((Zm n.toNat x.cps).foldl (· ++ ·) #[]).toList=_;rw[vV,List.map_replicate];rfl
end
section
variable{X:Cx}
theorem Db{K:W.Frag}{C:Hp->Prop}{a:Addr}{vs:List V}(h:∀H,C H->SqL K H a vs):DK C (Itl K a) vs:=
 ⟨fun i H c hi=>⟨vs,vs[i],h H c,List.getElem?_eq_getElem hi⟩,fun i H x H' c _ y=>⟨y.1,y.2 vs (h H c)⟩,fun H c=>⟨vs,h H c,xU _⟩⟩
end
end L2
namespace L2
open PySem PySem.Spec PyProof.Rows
section
variable{X:Cx}{K:W.Frag}{pos:Pos}
theorem gC(K:W.Frag)(hc:X.calm=true)(h:PGs X es t)(hK:X.K=K:=by rfl)
 (hn:(YS es X.env).length=n:=by rfl) (hst:(YS es X.env).findIdx? (·.1)=none:=by rfl):PG X (.Tuple es k pos) (Ji K n t):=by
 subst hK;exact II hc h hn hst
end
section
variable{X:Cx}{T name id:String}{r:V->List V->Hp->VK->Prop}{o e:Expr}{es:List Expr}{to:TE}{t:TA}{apos cpos:Pos}
theorem df(K:W.Frag)(pa:PlainAttrs T)(slot:Slot T name id)(hty:typeOf (.builtin id)=pure (.type "method_descriptor"))(hm:MtR X id r)(ho:PE X o to)(ha:PA X (e::es) t)(hK:X.K=K:=by rfl)
 (hbase:YR o name X.env (eval o X.env)=eval o X.env:=by rfl)
 (hfew:((backTo cpos (starEach (e::es) X.env)).all (fun x=>!x.1)&&(backToKw cpos (Y8 [] X.env)).all (fun x=>x.1.isSome)
  && decide ((e::es).length+([]:List Keyword).length+(if ([]:List Keyword).isEmpty then 0 else 1)<30))=true:=by rfl)
 (hline:(apos.endLine==cpos.line)=true:=by rfl) (hs:starEach (e::es) X.env=(false,eval e X.env)::starEach es X.env:=by rfl) (hplain:(backTo cpos (starEach es X.env)).any (·.1)=false:=by rfl) :
 PE X (.Call (.Attribute o name apos) (e::es) [] cpos) (tBM K T r to t):=by
 subst hK;exact K7 pa slot hty hm ho ha hbase hfew hline hs hplain
end
end L2
namespace L2
open PySem PySem.Spec PyProof.Rows Builtin Builtin.Str
noncomputable def spN(c:Nat):List Nat->List (List Nat)
 | []=>[[]]
 |a::r=>if a=c then []::spN c r else match spN c r with
  |h::t=>(a::h)::t
  | []=>[[a]]
theorem jQ(c:Nat):∀l,spN c l≠[]
 | []=>by simp[spN]
 |a::r=>by
  unfold spN;split
  ·simp
  ·split <;> simp
theorem fU(c:Nat):∀l:List Nat,c∉l->spN c l=[l]
 | [],_=>rfl
 |a::r,h=>by
  have h1:¬ a=c:=fun z=>h (by rw[z];simp);have h2:c∉r:=fun z=>h (sU _ z);unfold spN;rw[if_neg h1,fU c r h2]
theorem yt(c:Nat):∀(l r:List Nat),c∉l->spN c (l++c::r)=l::spN c r
 | [],r,_=>by simp[spN]
 |a::l,r,h=>by
  have h1:¬ a=c:=fun z=>h (by rw[z];simp);have h2:c∉l:=fun z=>h (sU _ z);rw[ZV];show(if a=c then _ else _)=_;rw[if_neg h1,yt c l r h2]
theorem oA(c:Nat):∀ps:List (List Nat),ps≠[]->(∀p∈ps,c∉p)->spN c (cI [c] ps)=ps
 | [],h,_=>absurd rfl h
 | [p],_,h=>fU c p (h p (by simp))
 |p::q::r,_,h=>by
  rw[cI,Yr,List.singleton_append,yt c p _ (h p (by simp)),oA c (q::r) (by simp) fun x hx=>h x (sU _ hx)]
theorem p7(c:Nat):∀l:List Nat,cI [c] (spN c l)=l
 | []=>rfl
 |a::r=>by
  have ih:=p7 c r;unfold spN;split
  ·rename_i e
   cases es:spN c r with
   |nil=>exact absurd es (jQ c r)
   |cons h t=>rw[es]at ih;rw[cI,ih,e];rfl
  ·cases es:spN c r with
   |nil=>exact absurd es (jQ c r)
   |cons h t=>
    rw[es]at ih;cases t with
    |nil=>simp[cI]at ih |-; exact ih
    |cons h2 t=>rw[cI]at ih |-; rw[<- ih];simp
theorem ju(c:Nat):∀(l:List Nat),∀p∈spN c l,c∉p
 | [],p,hp=>by simp[spN]at hp;rw[hp];simp
 |a::r,p,hp=>by
  unfold spN at hp;split at hp
  ·rcases zO.mp hp with h|h
   ·rw[h];simp
   ·exact ju c r p h
  ·rename_i hne
   split at hp
   ·rename_i h t es
    rcases zO.mp hp with e|e
    ·rw[e]
     have:=ju c r h (by rw[es];simp);simp only[zO,not_or];exact⟨fun z=>hne z.symm,this⟩
    ·exact ju c r p (by rw[es];exact sU _ e)
   ·rename_i es;exact absurd es (jQ c r)
theorem n8(c:Nat):∀l:List Nat,(spN c l).length<=l.length+1
 | []=>by simp[spN]
 |a::r=>by
  have ih:=n8 c r;unfold spN;split
  ·simp;lia
  ·split
   ·rename_i es;rw[es]at ih;simp at ih |-; lia
   ·simp
theorem lx(c:Nat):∀l:List Nat,∀p∈spN c l,p.length<=l.length/\∀d∈p,d∈l
 | [],p,hp=>by simp[spN]at hp;rw[hp];simp
 |a::r,p,hp=>by
  unfold spN at hp;split at hp
  ·rcases zO.mp hp with h|h
   ·rw[h];simp
   ·obtain⟨h1,h2⟩:=lx c r p h
    exact⟨by rw[sq];lia,fun d hd=>sU _ (h2 d hd)⟩
  ·split at hp
   ·rename_i h t es
    rcases zO.mp hp with e|e
    ·obtain⟨h1,h2⟩:=lx c r h (by rw[es];simp)
     rw[e];refine⟨by rw[sq,sq];lia,fun d hd=>?_⟩;rcases zO.mp hd with z|z
     ·rw[z];simp
     ·exact sU _ (h2 d z)
    ·obtain⟨h1,h2⟩:=lx c r p (by rw[es];exact sU _ e)
     exact⟨by rw[sq];lia,fun d hd=>sU _ (h2 d hd)⟩
   ·rename_i es;exact absurd es (jQ c r)
theorem DQ(x y:Str):Txt.split x y≠[]:=by
 unfold Txt.split;split
 ·simp
 ·split
  ·simp
  ·rw[StrLaws.partsBetween_eq]
   obtain⟨p,r,e⟩:=StrLaws.partsFrom_ne x y.length 0 (occurrences x y 0 x.length (x.length+1));rw[e];simp
theorem Dt(l:List Nat)(c:Nat):(Txt.split ⟨⟨l⟩⟩ ⟨#[c]⟩).map (fun x=>cs x)=spN c l:=by
 have h1:=StrLaws.join_split ⟨⟨l⟩⟩ ⟨#[c]⟩;have h2:=StrLaws.split_free ⟨⟨l⟩⟩ c;have h0:=DQ ⟨⟨l⟩⟩ ⟨#[c]⟩;generalize Txt.split ⟨⟨l⟩⟩ ⟨#[c]⟩=ps at h0 h1 h2;have hj:cI [c] (ps.map fun x=>cs x)=l:=by
  have e:ps=(ps.map fun x=>cs x).map S:=by
   rw[wM]
   conv=>lhs;rw[<- List.map_id ps]
   apply uW;intro x _;rfl
  rw[e]at h1;have h3:Str.join (S [c]) ((ps.map fun x=>cs x).map S)=S (cI [c] (ps.map fun x=>cs x)):=by
   have:=yq [c] (ps.map fun x=>cs x);exact(StrLaws.glued_eq_join _ _).symm.trans this
  have h4:S (cI [c] (ps.map fun x=>cs x))=⟨⟨l⟩⟩:=h3.symm.trans h1;have h5:=congrArg cs h4;exact h5
 have hne:(ps.map fun x=>cs x)≠[]:=by
  intro z;exact h0 (List.map_eq_nil_iff.mp z)
 rw[<- hj,oA c _ hne];intro p hp;obtain⟨x,hx,rfl⟩:=xS.mp hp;exact h2 x hx
section
variable{X:Cx}{e a b c:Expr}{pos:Pos}
def Lp:V->List V->Hp->VK->Prop
 | .str x,[.str y],H,Q=>(∃c,cs y=[c]/\(cs x).length+2<=sizeLine/\∀p,H p=none->Q (.ref p) (upd H p (.lst ((spN c (cs x)).map T))))
 |_,_,_,_=>False
theorem rh:∀(l:List (Str × Tok)),Vals (l.map fun p=>V.str p.1) (strValues l)
 | []=>.nil
 |p::r=>.cons ⟨p.2,rfl⟩ (rh r)
theorem pZ:MtR X "str.split" Lp:=by
 intro pins s σ H x xs v us Q I rx rs h;cases x with
 |str x=>
  rcases xs with _|⟨e_1,r_1⟩
  ·exact(id h:False).elim
  cases e_1 with
  |str y=>
   cases r_1 with
   |nil=>
    obtain⟨c,hc,hz,q⟩:=h;obtain⟨t,rfl⟩:=rx;obtain⟨u,rfl,t',rfl⟩:=d5 rs;have hy:=xj hc;subst hy;obtain⟨⟨l⟩⟩:=x;have hx:(⟨⟨l⟩⟩:Str).length+2<=sizeLine:=hz;have fin:∀(l':List (Str × Tok)) (k:Nat),l'.map (·.1)=Txt.split ⟨⟨l⟩⟩ ⟨#[c]⟩->EP X pins σ Q (.ref s.heap.objs.size) { s with toks:=k,heap:=s.heap.push { cls:=.type "list",data:=.seq (strValues l').toArray } }:=fun l' k hl=>by
     have e:(spN c l).map T=l'.map fun p=>V.str p.1:=by
      rw[<- Dt,<- hl,wM,wM];apply uW;intro p _;rfl
     have hlen:((spN c l).map T).length<=sizeLine:=by
      rw[zV];have:=n8 c l;have hz':l.length+2<=sizeLine:=hz;lia
     have hv:Vals ((spN c l).map T) (strValues l'):=by rw[e];exact rh l'
     exact⟨.ref s.heap.objs.size,_,I.lnew (t':=k) hv hlen,rfl,q _ I.fresh⟩
    have hn:(partsBetween ⟨⟨l⟩⟩ (occurrences ⟨⟨l⟩⟩ ⟨#[c]⟩ 0 (⟨⟨l⟩⟩:Str).length ((⟨⟨l⟩⟩:Str).length+1)) (⟨#[c]⟩:Str).length).length<=sizeLine:=by
     have e1:=StrLaws.occ_length_le ⟨⟨l⟩⟩ ⟨#[c]⟩ 0 (⟨⟨l⟩⟩:Str).length ((⟨⟨l⟩⟩:Str).length+1);rw[length_partsBetween];lia
    have hy:((⟨#[c]⟩:Str).length==0)=false:=rfl;cases h1:(decide ((⟨⟨l⟩⟩:Str).length<(⟨#[c]⟩:Str).length) || decide (strKind ⟨⟨l⟩⟩<strKind ⟨#[c]⟩))
    ·cases hf:(occurrences ⟨⟨l⟩⟩ ⟨#[c]⟩ 0 (⟨⟨l⟩⟩:Str).length ((⟨⟨l⟩⟩:Str).length+1)).isEmpty
     ·refine Y7 F.slot_str_split (typeIs_str _ _ _) F.entry_str_split (F.args_str_split_2 _ _) (meets_str_split_sep ⟨⟨l⟩⟩ ⟨#[c]⟩ t t' h1 hy hf (by lia) hn) ?_
      show wants _ _ _ { s with toks:=_,heap:=s.heap.push { cls:=.type "list",data:=.seq (strsFrom s.toks (partsBetween ⟨⟨l⟩⟩ (occurrences ⟨⟨l⟩⟩ ⟨#[c]⟩ 0 (⟨⟨l⟩⟩:Str).length ((⟨⟨l⟩⟩:Str).length+1)) (⟨#[c]⟩:Str).length)).toArray } };rw[strsFrom_eq];exact fin (numbered s.toks _) _ ((numbered_texts _ _).trans ((if_neg (ne_true_of_eq_false h1)).trans (if_neg (ne_true_of_eq_false hf))).symm)
     ·refine Y7 F.slot_str_split (typeIs_str _ _ _) F.entry_str_split (F.args_str_split_2 _ _) (meets_str_split_not_found ⟨⟨l⟩⟩ ⟨#[c]⟩ t t' h1 hy hf) ?_
      exact fin [(⟨⟨l⟩⟩,t)] s.toks ((if_neg (ne_true_of_eq_false h1)).trans (if_pos hf)).symm
    ·refine Y7 F.slot_str_split (typeIs_str _ _ _) F.entry_str_split (F.args_str_split_2 _ _) (meets_str_split_cannot_occur ⟨⟨l⟩⟩ ⟨#[c]⟩ t t' h1) ?_
     exact fin [(⟨⟨l⟩⟩,t)] s.toks (if_pos h1).symm
   |cons=>exact(id h:False).elim
  |_=>exact(id h:False).elim
 |_=>exact(id h:False).elim
noncomputable def sM:List Nat->List Nat->Bool
 |_,[]=>true
 | [],_::_=>false
 |a::l,b::r=>decide (a=b)&&sM l r
theorem uQ:∀(x y:List Nat),sM x y=true↔x.take y.length=y
 |x,[]=>by simp[sM]
 | [],b::r=>by simp[sM]
 |a::l,b::r=>by simp[sM,uQ l r]
def Kf:V->List V->Hp->VK->Prop
 | .str x,[.str y],H,Q=>Q (.bl (sM (cs x) (cs y))) H
 |_,_,_,_=>False
theorem Fi(x y:Str):(decide (0+y.length<=x.length)&&YU x y 0)=sM (cs x) (cs y):=by
 obtain⟨⟨l⟩⟩:=x;obtain⟨⟨r⟩⟩:=y;rw[YZ,uQ,ZH];unfold YU;simp only[Yp,cs,Nat.zero_add,decide_eq_true_eq,z8,beq_iff_eq];have e:(⟨l⟩:Array Nat).extract 0 r.length=⟨r⟩↔l.take r.length=r:=by
  constructor
  ·intro h
   have:=congrArg Array.toList h
   simpa using this
  ·intro h
   apply Array.toList_inj.mp
   simpa using h
 constructor
 ·rintro⟨_,h⟩;exact e.mp h
 ·intro h
  refine⟨?_,e.mpr h⟩;have:=congrArg ZO h;rw[Zx]at this;lia
theorem o7:MtR X "str.startswith" Kf:=by
 intro pins s σ H x xs v us Q I rx rs h;cases x with
 |str x=>
  rcases xs with _|⟨e_1,r_1⟩
  ·exact(id h:False).elim
  cases e_1 with
  |str y=>
   cases r_1 with
   |nil=>
    obtain⟨t,rfl⟩:=rx;obtain⟨u,rfl,t',rfl⟩:=d5 rs;refine Y7 F.slot_str_startswith (typeIs_str _ _ _) F.entry_str_startswith (F.args_str_startswith_2 _ _) (gives_str_startswith _ y t t').meets ?_;exact⟨.bl _,H,I,rfl,by rw[Fi];exact h⟩
   |cons=>exact(id h:False).elim
  |_=>exact(id h:False).elim
 |_=>exact(id h:False).elim
def JU:R2
 | .ref l,.ref b,H,Q=>∃xs zs,H l=some (.lst xs)/\H b=some (.lst zs)/\xs.length+zs.length<=sizeLine/\∀p,H p=none->Q (.ref p) (upd H p (.lst (xs++zs)))
 |_,_,_,_=>False
theorem A5:OpR X (binaryOp .Add) JU:=HN.imp fun x y H Q h=>by
 cases x with
 |ref v_1=>
  cases y with
  |ref v_2=>
   obtain⟨xs,zs,h1,h2,h3,q⟩:=h;exact⟨_,_,xs,zs,rfl,rfl,h1,h2,h3,q⟩
  |_=>exact(id h:False).elim
 |_=>exact(id h:False).elim
theorem oQ(K:W.Frag)(h:X.K=K:=by rfl):SlR X (Jz K):=h ▸ Fb
def F9(K:W.Frag):List V->Hp->VK->Prop
 | [.ref p],H,Q=>∃ys,(SqL K H p ys\/SqT K H p ys)/\∀l,H l=none->Q (.ref l) (upd H l (.lst ys))
 |_,_,_=>False
theorem sO(K:W.Frag)(hK:X.K=K:=by rfl):CallR X (.type "list") (F9 K):=by
 subst hK;refine tH.imp fun xs H Q h=>?_;rcases xs with _|⟨e_1,r_1⟩
 ·exact(id h:False).elim
 cases e_1 with
 |ref v_2=>
  cases r_1 with
  |nil=>
   obtain⟨ys,h1,q⟩:=h;exact⟨_,ys,rfl,h1,q⟩
  |cons=>exact(id h:False).elim
 |_=>exact(id h:False).elim
def DP(K:W.Frag):List V->Hp->VK->Prop
 | [.ref p],H,Q=>∃ys,(SqL K H p ys/\∀l,H l=none->Q (.ref l) (upd H l (.tup ys)))\/(SqT K H p ys/\Q (.ref p) H)
 |_,_,_=>False
theorem ja(K:W.Frag)(hK:X.K=K:=by rfl):CallR X (.type "tuple") (DP K):=by
 subst hK;refine qx.imp fun xs H Q h=>?_;rcases xs with _|⟨e_1,r_1⟩
 ·exact(id h:False).elim
 cases e_1 with
 |ref v_2=>
  cases r_1 with
  |nil=>
   obtain⟨ys,h1⟩:=h;exact⟨_,ys,rfl,h1⟩
  |cons=>exact(id h:False).elim
 |_=>exact(id h:False).elim
inductive EqH (K:W.Frag) (H:Hp):Nat->V->V->Bool->Prop
 |flat {n x y}:eh x=true->eh y=true->EqH K H n x y (eqV x y)
 |same {n p}:EqH K H n (.ref p) (.ref p) true
 |lst {n p q xs ys} {e:Nat->Bool}:p≠q->SqL K H p xs->SqL K H q ys->xs.length=ys.length->(∀j x y,xs[j]? = some x->ys[j]? = some y->EqH K H n x y (e j))->EqH K H (n+1) (.ref p) (.ref q) ((Zw xs.length).all e)
 |len {n p q xs ys}:p≠q->SqL K H p xs->SqL K H q ys->xs.length≠ys.length->EqH K H (n+1) (.ref p) (.ref q) false
 |tup {n p q xs ys} {e:Nat->Bool}:p≠q->SqT K H p xs->SqT K H q ys->(∀j x y,xs[j]? = some x->ys[j]? = some y->EqH K H n x y (e j))->EqH K H (n+1) (.ref p) (.ref q) ((Zw (min xs.length ys.length)).all e&&xs.length==ys.length)
 |lt {n p q xs ys}:SqL K H p xs->SqT K H q ys->EqH K H (n+1) (.ref p) (.ref q) false
 |tl {n p q xs ys}:SqT K H p xs->SqL K H q ys->EqH K H (n+1) (.ref p) (.ref q) false
theorem h9{P:Value->Value->Bool->Prop}{xs ys:List V}{its its':List Value}{e:Nat->Bool}(r:Vals xs its)(r':Vals ys its')(h:∀j x y u v,xs[j]? = some x->ys[j]? = some y->RelV x u->RelV y v->P u v (e j)) :
 ∀j (h1:j<its.toArray.size) (h2:j<its'.toArray.size),P its.toArray[j] its'.toArray[j] (e j):=fun j g1 g2=>by
 have h1:xs.length=its.length:=r.length;have h2:ys.length=its'.length:=r'.length;have g1':j<its.length:=by simpa using g1
 have g2':j<its'.length:=by simpa using g2
 have l1:j<xs.length:=by lia
 have l2:j<ys.length:=by lia
 obtain⟨w1,e1,r1⟩:=r.get (List.getElem?_eq_getElem l1);obtain⟨w2,e2,r2⟩:=r'.get (List.getElem?_eq_getElem l2);have z1:its.toArray[j]=w1:=by
  have:its[j]? = some its[j]:=List.getElem?_eq_getElem g1';rw[this]at e1;simpa using Zp e1
 have z2:its'.toArray[j]=w2:=by
  have:its'[j]? = some its'[j]:=List.getElem?_eq_getElem g2';rw[this]at e2;simpa using Zp e2
 rw[z1,z2];exact h j _ _ _ _ (List.getElem?_eq_getElem l1) (List.getElem?_eq_getElem l2) r1 r2
theorem EqH.at{K:W.Frag}{H:Hp}{n:Nat}{x y:V}{b:Bool}(h:EqH K H n x y b):∀ {X:Cx} {pins:List (Addr × Obj)} {σ:St} {s:Shared} {A:Around} {u v:Value},X.K=K->Inv X pins σ H s->A.units+n<cLine->RelV x u->RelV y v->SeqAt.EqAt A s u v b:=by
 induction h with
 |flat fx fy=>
  intro X pins σ s A u v hK I hu rx ry;exact wH rx ry fx fy
 |same=>
  intro X pins σ s A u v hK I hu rx ry;cases rx;cases ry;exact SeqAt.EqAt.same _
 | @lst n p q xs ys e hpq hx hy hl _ ih=>
  intro X pins σ s A u v hK I hu rx ry;cases rx;cases ry;subst hK;obtain⟨its,r,pl,hz⟩:=I.list hx;obtain⟨its',r',pl',hz'⟩:=I.list hy;have h1:xs.length=its.length:=r.length;have h2:ys.length=its'.length:=r'.length;have:=SeqAt.RcAt.lists (A:=A) (e:=e) pl.isList pl'.isList (by simp;lia) (by lia) (h9 r r' fun j x y u v g1 g2 r1 r2=>ih j x y g1 g2 rfl I (by show A.units+1+n<cLine;lia) r1 r2);rw[z8,<- h1]at this;exact .of_refs hpq this
 | @len n p q xs ys hpq hx hy hl=>
  intro X pins σ s A u v hK I hu rx ry;cases rx;cases ry;subst hK;obtain⟨its,r,pl,hz⟩:=I.list hx;obtain⟨its',r',pl',hz'⟩:=I.list hy;have h1:xs.length=its.length:=r.length;have h2:ys.length=its'.length:=r'.length;exact .of_refs hpq (SeqAt.RcAt.lists_lengths pl.isList pl'.isList (by simp;lia) (by lia))
 | @tup n p q xs ys e hpq hx hy _ ih=>
  intro X pins σ s A u v hK I hu rx ry;cases rx;cases ry;subst hK;obtain⟨its,r,pl,hz⟩:=I.tuple hx;obtain⟨its',r',pl',hz'⟩:=I.tuple hy;have h1:xs.length=its.length:=r.length;have h2:ys.length=its'.length:=r'.length;have:=SeqAt.RcAt.tuples (A:=A) (e:=e) pl pl' (by lia) (h9 r r' fun j x y u v g1 g2 r1 r2=>ih j x y g1 g2 rfl I (by show A.units+1+n<cLine;lia) r1 r2);rw[z8,z8,<- h1,<- h2]at this;exact .of_refs hpq this
 |lt hx hy=>
  intro X pins σ s A u v hK I hu rx ry;cases rx;cases ry;subst hK;obtain⟨its,r,pl,hz⟩:=I.list hx;obtain⟨its',r',pl',hz'⟩:=I.tuple hy;exact SeqAt.EqAt.list_tuple pl.isList pl' (by lia)
 |tl hx hy=>
  intro X pins σ s A u v hK I hu rx ry;cases rx;cases ry;subst hK;obtain⟨its,r,pl,hz⟩:=I.tuple hx;obtain⟨its',r',pl',hz'⟩:=I.list hy;exact SeqAt.EqAt.tuple_list pl pl'.isList (by lia)
inductive EqR (K:W.Frag) (H:Hp) (p q:Addr):Bool->Prop
 |lst {xs ys} {e:Nat->Bool}:SqL K H p xs->SqL K H q ys->xs.length=ys.length->(∀j x y,xs[j]? = some x->ys[j]? = some y->EqH K H 50 x y (e j))->EqR K H p q ((Zw xs.length).all e)
 |len {xs ys}:SqL K H p xs->SqL K H q ys->xs.length≠ys.length->EqR K H p q false
 |tup {xs ys} {e:Nat->Bool}:SqT K H p xs->SqT K H q ys->(∀j x y,xs[j]? = some x->ys[j]? = some y->EqH K H 50 x y (e j))->EqR K H p q ((Zw (min xs.length ys.length)).all e&&xs.length==ys.length)
def Iq(K:W.Frag)(neg:Bool):R2
 | .ref p,.ref q,H,Q=>∃b,EqR K H p q b/\Q (.bl (neg ^^ b)) H
 |_,_,_,_=>False
theorem HD(K:W.Frag)(hu:X.A.units+100<cLine)(hK:X.K=K:=by rfl):OpR X (Zq .Eq) (Iq K false):=by
 subst hK;intro pins s σ H x y v u Q I rx ry h;cases x with
 |ref p=>
  cases y with
  |ref q=>
   obtain⟨b,hb,q⟩:=h;cases rx;cases ry;cases hb with
   | @lst xs ys e hx hy hl he=>
    obtain⟨its,r,pl,hz⟩:=I.list hx;obtain⟨its',r',pl',hz'⟩:=I.list hy;have h1:xs.length=its.length:=r.length;have h2:ys.length=its'.length:=r'.length;refine SeqAt.eq_listAt (e:=e) pl.isList pl'.isList (by simp;lia) (by lia) (h9 r r' fun j x y u v g1 g2 r1 r2=>(he j x y g1 g2).at rfl I (by show X.A.units+1+50<cLine;lia) r1 r2) ⟨.bl _,H,I,rfl,?_⟩;rw[z8,<- h1];simpa using q
   | @len xs ys hx hy hl=>
    obtain⟨its,r,pl,hz⟩:=I.list hx;obtain⟨its',r',pl',hz'⟩:=I.list hy;have h1:xs.length=its.length:=r.length;have h2:ys.length=its'.length:=r'.length;exact SeqAt.eq_list_lengthsAt pl.isList pl'.isList (by simp;lia) (by lia) ⟨.bl false,H,I,rfl,by simpa using q⟩
   | @tup xs ys e hx hy he=>
    obtain⟨its,r,pl,hz⟩:=I.tuple hx;obtain⟨its',r',pl',hz'⟩:=I.tuple hy;have h1:xs.length=its.length:=r.length;have h2:ys.length=its'.length:=r'.length;refine SeqAt.eq_tupleAt (e:=e) pl pl' (by lia) (h9 r r' fun j x y u v g1 g2 r1 r2=>(he j x y g1 g2).at rfl I (by show X.A.units+1+50<cLine;lia) r1 r2) ⟨.bl _,H,I,rfl,?_⟩;rw[z8,z8,<- h1,<- h2];simpa using q
  |_=>exact(id h:False).elim
 |_=>exact(id h:False).elim
theorem HM(K:W.Frag)(hu:X.A.units+100<cLine)(hK:X.K=K:=by rfl):OpR X (Zq .NotEq) (Iq K true):=by
 subst hK;intro pins s σ H x y v u Q I rx ry h;cases x with
 |ref p=>
  cases y with
  |ref q=>
   obtain⟨b,hb,q⟩:=h;cases rx;cases ry;cases hb with
   | @lst xs ys e hx hy hl he=>
    obtain⟨its,r,pl,hz⟩:=I.list hx;obtain⟨its',r',pl',hz'⟩:=I.list hy;have h1:xs.length=its.length:=r.length;have h2:ys.length=its'.length:=r'.length;refine SeqAt.RcNeAt.lists (e:=e) pl.isList pl'.isList (by simp;lia) (by lia) (h9 r r' fun j x y u v g1 g2 r1 r2=>(he j x y g1 g2).at rfl I (by show X.A.units+1+50<cLine;lia) r1 r2) X.prog X.w X.xe _ ⟨.bl _,H,I,rfl,?_⟩;rw[z8,<- h1];simpa using q
   | @len xs ys hx hy hl=>
    obtain⟨its,r,pl,hz⟩:=I.list hx;obtain⟨its',r',pl',hz'⟩:=I.list hy;have h1:xs.length=its.length:=r.length;have h2:ys.length=its'.length:=r'.length;exact SeqAt.RcNeAt.lists_lengths pl.isList pl'.isList (by simp;lia) (by lia) X.prog X.w X.xe _ ⟨.bl true,H,I,rfl,by simpa using q⟩
   | @tup xs ys e hx hy he=>
    obtain⟨its,r,pl,hz⟩:=I.tuple hx;obtain⟨its',r',pl',hz'⟩:=I.tuple hy;have h1:xs.length=its.length:=r.length;have h2:ys.length=its'.length:=r'.length;refine SeqAt.RcNeAt.tuples (e:=e) pl pl' (by lia) (h9 r r' fun j x y u v g1 g2 r1 r2=>(he j x y g1 g2).at rfl I (by show X.A.units+1+50<cLine;lia) r1 r2) X.prog X.w X.xe _ ⟨.bl _,H,I,rfl,?_⟩;rw[z8,z8,<- h1,<- h2];simpa using q
  |_=>exact(id h:False).elim
 |_=>exact(id h:False).elim
theorem EqR.flatL{K:W.Frag}{H:Hp}{p q:Addr}{xs:List V}(hx:SqL K H p xs)(hy:SqL K H q xs)(f:xs.all eh=true):EqR K H p q true:=by
 have h:=EqR.lst (K:=K) (H:=H) (e:=fun j=>eqV (xs.getD j .non) (xs.getD j .non)) hx hy rfl fun j x y gx gy=>by
  have e1:xs.getD j .non=x:=by simp[List.getD,gx]
  rw[e1];rw[gx]at gy;cases gy;exact .flat (Zo.mp f _ (vW gx)) (Zo.mp f _ (vW gx))
 have e:(Zw xs.length).all (fun j=>eqV (xs.getD j .non) (xs.getD j .non))=true:=by
  rw[Zo];intro j hj;have hf:eh (xs.getD j .non)=true:=by
   have hj':j<xs.length:=by simpa using hj
   have:xs.getD j .non∈xs:=by
    have e1:xs.getD j .non=xs[j]:=by simp[List.getD,hj']
    rw[e1];exact List.getElem_mem hj'
   exact Zo.mp f _ this
  generalize xs.getD j .non=z at hf;cases z <;> simp[eqV]at hf |- <;> simp[eh]at hf
 rw[e]at h;exact h
end
end L2
namespace PySem
open Sem (wp)
open Builtin
end PySem
namespace L2
open PySem PySem.Spec PyProof.Rows Builtin Builtin.Str
section
variable{X:Cx}{e a b c:Expr}{pos:Pos}
def Ld(K:W.Frag):R2
 | .ref p,.int k,H,Q=>k=1/\(∃xs,SqT K H p xs)/\Q (.ref p) H
 |_,_,_,_=>False
def BY(K:W.Frag):List V->Hp->VK->Prop
 | [.ref e,.ref tp],H,Q=>∃C ds b,H e=some (iG (.ref C) e)/\dt K C/\H tp=some (.tup (List.map V.ref ds))/\PySem.W.kitAny K (.ref C) (List.map wU ds)=some b/\Q (.bl b) H
 |_,_,_=>False
theorem rC:∀ {ds:List Addr} {us:List Value},Vals (List.map V.ref ds) us->us=List.map wU ds
 | [],_,.nil=>rfl
 |c::r,_,.cons h t=>by
  cases h;rw[rC t];rfl
theorem EX(K:W.Frag)(hK:X.K=K:=by rfl):CallR X (.builtin "isinstance") (BY K):=by
 subst hK;intro pins s σ H xs us Q I r h;unfold BY at h;split at h
 ·rename_i e tp
  obtain⟨C,ds,b,he,Z,htp,k,q⟩:=h;obtain⟨ux,uc,rfl,rx,rc⟩:=vS r;cases (show ux=wU e from rx);cases (show uc=wU tp from rc);obtain⟨⟨o,vs,h1,h2,_⟩,_,_⟩:=(show ObjOk X.prog X.w H s.heap e (iG (.ref C) e) from I.hok e _ he);obtain⟨its,r',pl,hz⟩:=I.tuple (bR htp);obtain⟨⟨cls,dd,data,sl⟩,ho,hc,n,hd⟩:=id pl;simp only at hc hd;subst hc hd;have ei:=rC r';subst ei;exact PySem.W.kia_tup (u0 Z) I.kIn ⟨o,h1,h2⟩ ho k (fun z=>nomatch z) fun tk=>⟨.bl b,H,I.tok _,rfl,q⟩
 ·exact h.elim
theorem mM{K:W.Frag}{t c:Value}{r:List Value}{b:Bool}(h:Zr K t c=some false)(k:PySem.W.kitAny K t r=some b):PySem.W.kitAny K t (c::r)=some b:=by
 unfold PySem.W.kitAny;rw[h];exact k
def jk(K:W.Frag)(neg:Bool):R2:=fun x y H Q=>match eqS x y with
 |some k=>Q (.bl (neg ^^ k)) H
 |none=>Iq K neg x y H Q
theorem dF(K:W.Frag)(hu:X.A.units+100<cLine)(hK:X.K=K:=by rfl):OpR X (Zq .Eq) (jk K false):=((Jq (by lia)).or (HD K hu hK)).imp fun x y H Q h=>by
 unfold jk at h;split at h
 ·rename_i k hk
  obtain⟨h1,h2⟩:=uY hk;exact .inl (.inl ⟨h1,by rw[h2];simpa using h⟩)
 ·exact .inr h
theorem d9(K:W.Frag)(hu:X.A.units+100<cLine)(hK:X.K=K:=by rfl):OpR X (Zq .NotEq) (jk K true):=((Hk (by lia)).or (HM K hu hK)).imp fun x y H Q h=>by
 unfold jk at h;split at h
 ·rename_i k hk
  obtain⟨h1,h2⟩:=uY hk;exact .inl (.inl ⟨h1,by rw[h2];simpa using h⟩)
 ·exact .inr h
variable{K:W.Frag}{neg:Bool}{H:Hp}{Q:VK}
theorem yK:jk K neg (.int i) (.int j) H Q=Q (.bl (neg ^^ decide (i=j))) H:=rfl
theorem Do:jk K neg (.bl i) (.bl j) H Q=Q (.bl (neg ^^ decide (i=j))) H:=rfl
theorem yh:jk K neg (.str i) (.str j) H Q=Q (.bl (neg ^^ decide (i.cps.toList=j.cps.toList))) H:=rfl
theorem yO:jk K neg (.ref p) (.ref q) H Q = ∃b,EqR K H p q b/\Q (.bl (neg ^^ b)) H:=rfl
theorem BM:jk K neg .non .non H Q=Q (.bl (neg ^^ true)) H:=rfl
theorem C8:jk K neg .non (.int i) H Q=Q (.bl (neg ^^ false)) H:=rfl
theorem Da:jk K neg (.int i) .non H Q=Q (.bl (neg ^^ false)) H:=rfl
theorem CJ:jk K neg (.int i) (.str s) H Q=Q (.bl (neg ^^ false)) H:=rfl
theorem Dv:jk K neg (.str s) (.int i) H Q=Q (.bl (neg ^^ false)) H:=rfl
end
theorem dJ{K:W.Frag}{tl:TE}{g:TG}{tb:TS}{D:iu}{σ:St}{H:Hp}(h:tl σ H fun v H1=>xM (o6 K (tC v)) g tb D σ H1):xM (o6 K tl) g tb D σ H:=h
theorem dL{K:W.Frag}{a:Addr}{xs:List V}{g:TG}{tb:TS}{D:iu}{σ:St}{H:Hp}(hq:SqL K H a xs)(h:∃W:Nat->Nat->St->Hp->Prop,(∃m,W 0 m σ H)/\∀i m σ H,W i m σ H ->
 ((Itl K a).stop i H/\D.nx σ H)\/((Itl K a).go i H/\∃N:St->Hp->Prop,(∀σ' H',N σ' H'->∃m',m'<m/\W (i+1) m' σ' H')/\∀x H',(Itl K a).yld i H x H'->g x σ H' fun σ2 H2=>tb { D with nx:=N,ct:=N,bk:=D.nx } σ2 H2)):xM (o6 K (tC (.ref a))) g tb D σ H:=⟨a,rfl,⟨xs,hq⟩,h⟩
theorem DV(h:j<n):ixN n (j:Int)=some j:=by
 unfold ixN;rw[if_pos (by lia)];simp[h]
theorem AU(lo:Int)(n:Nat):Enum (Itr lo n) ((Zw n).map fun k=>V.int (lo+(k:Nat))):=by
 refine⟨fun i H h=>by simpa [Itr] using h,fun i H x H' hi y=>?_,fun H=>by simp[Itr]⟩;obtain⟨e,rfl⟩:=y;refine⟨e,?_⟩;have hi':i<n:=by simpa using hi
 simp[hi']
end L2
namespace L2
theorem bV(r:Room k A):A.units+100<PySem.cLine:=by have:=r.un;lia
end L2
namespace L2
open PySem PySem.Spec PyProof.Rows
section
variable{κ:Type}[DecidableEq κ]
noncomputable def cV(kvs:List (κ × V))(k:κ):Option V:=(kvs.find? fun kv=>decide (kv.1=k)).map (·.2)
noncomputable def dU(kvs:List (κ × V))(k:κ)(v:V):List (κ × V):=
 if (kvs.any fun kv=>decide (kv.1=k))=true then kvs.map (fun kv=>if kv.1=k then (kv.1,v) else kv) else kvs++[(k,v)]
noncomputable def jJ(kvs:List (κ × V))(k:κ):List (κ × V):=kvs.filter fun kv=>decide (kv.1≠k)
theorem bU{p:κ × V}{r:List (κ × V)}{k:κ}(e:p.1=k):cV (p::r) k=some p.2:=by simp[cV,List.find?_cons,e]
theorem bO{p:κ × V}{r:List (κ × V)}{k:κ}(e:¬ p.1=k):cV (p::r) k=cV r k:=by simp[cV,List.find?_cons,e]
theorem i_(k:κ):∀kvs:List (κ × V),(kvs.any fun kv=>decide (kv.1=k))=(cV kvs k).isSome
 | []=>rfl
 |p::r=>by
  rw[List.any_cons];by_cases e:p.1=k
  ·simp only[bU e,decide_eq_true e,Bool.true_or,Option.isSome_some]
  ·rw[bO e,decide_eq_false e,Bool.false_or];exact i_ k r
theorem vd(k j:κ)(y:V):∀kvs:List (κ × V),cV (kvs.map fun kv=>if kv.1=k then (kv.1,y) else kv) j=(cV kvs j).map fun x=>if j=k then y else x
 | []=>rfl
 |p::r=>by
  have ih:=vd k j y r;rw[wV];by_cases h:p.1=k
  ·rw[if_pos h]
   by_cases e:p.1=j
   ·rw[bU (p:=(p.1,y)) e,bU e,Option.map_some,if_pos (e.symm.trans h)]
   ·rw[bO (p:=(p.1,y)) e,bO e,ih]
  ·rw[if_neg h]
   by_cases e:p.1=j
   ·rw[bU (p:=p) e,bU e,Option.map_some,if_neg (fun z=>h (e.trans z))]
   ·rw[bO (p:=p) e,bO e,ih]
theorem rB(k j:κ)(y:V):∀kvs:List (κ × V),cV kvs k=none->cV (kvs++[(k,y)]) j=if j=k then some y else cV kvs j
 | [],_=>by
  by_cases e:k=j
  ·rw[if_pos e.symm];exact bU (p:=(k,y)) e
  ·rw[if_neg (fun z=>e z.symm)];exact bO (p:=(k,y)) e
 |p::r,hn=>by
  rw[ZV];have hk:¬ p.1=k:=fun z=>by rw[bU z]at hn;cases hn
  rw[bO hk]at hn;have ih:=rB k j y r hn;by_cases e:p.1=j
  ·rw[bU e,bU e,if_neg (fun z=>hk (e.trans z))]
  ·rw[bO e,bO e,ih]
theorem DN(kvs:List (κ × V))(k j:κ)(y:V):cV (dU kvs k y) j=if j=k then some y else cV kvs j:=by
 unfold dU;by_cases a:(kvs.any fun kv=>decide (kv.1=k))=true
 ·rw[if_pos a,vd]
  rw[i_]at a;by_cases e:j=k
  ·obtain⟨x,hx⟩:=Option.isSome_iff_exists.mp a
   rw[if_pos e,e,hx,Option.map_some,if_pos rfl]
  ·rw[if_neg e]
   cases cV kvs j with
   |none=>rfl
   |some x=>rw[Option.map_some,if_neg e]
 ·rw[if_neg a]
  refine rB k j y kvs ?_;rw[i_]at a;cases q:cV kvs k with
  |none=>rfl
  |some x=>rw[q]at a;exact(a rfl).elim
theorem jj(kvs:List (κ × V))(k:κ)(v:V):(dU kvs k v).length<=kvs.length+1:=by
 unfold dU;split
 ·rw[zV];lia
 ·rw[vx,sq,Yz];lia
theorem kl{kvs:List (κ × V)}{k:κ}(v:V)(h:cV kvs k=none):dU kvs k v=kvs++[(k,v)]:=by
 unfold dU;rw[i_,h];exact if_neg (by decide)
theorem RelO.isSome_eq{o:Option V}{u:Option Value}(r:RelO o u):o.isSome=u.isSome:=by
 cases o with
 |none=>cases u with
  |none=>rfl
  |some _=>exact(show False from r).elim
 |some _=>cases u with
  |none=>exact(show False from r).elim
  |some _=>rfl
theorem RelO.getD{o:Option V}{u:Option Value}{d:V}{d':Value}(r:RelO o u)(rd:RelV d d'):RelV (o.getD d) (u.getD d'):=by
 cases o with
 |none=>cases u with
  |none=>exact rd
  |some _=>exact(show False from r).elim
 |some _=>cases u with
  |none=>exact(show False from r).elim
  |some _=>exact r
theorem KV.val{kvs:List (κ × V)}{vs:List (κ × Value)}(r:KV kvs vs)(k:κ):RelO (cV kvs k) (valueAt vs k):=by
 unfold KV at r
 induction r with
 |nil=>exact ZD
 | @cons p q ps qs h t ih=>
  obtain⟨h1,h2⟩:=h;by_cases e:p.1=k
  ·have e':q.1=k:=h1.symm.trans e
   have b:valueAt (q::qs) k=some q.2:=by simp[valueAt,List.find?_cons,e']
   rw[bU e,b];exact h2
  ·have e':¬ q.1=k:=fun z=>e (h1.trans z)
   have b:valueAt (q::qs) k=valueAt qs k:=by simp[valueAt,List.find?_cons,e']
   rw[bO e,b];exact ih
theorem KV.any{kvs:List (κ × V)}{vs:List (κ × Value)}(r:KV kvs vs)(k:κ):(kvs.any fun kv=>decide (kv.1=k))=vs.any fun kv=>decide (kv.1=k):=by
 unfold KV at r
 induction r with
 |nil=>rfl
 |cons h t ih=>rw[List.any_cons,List.any_cons,ih,h.1]
theorem KV.repl{kvs:List (κ × V)}{vs:List (κ × Value)}(r:KV kvs vs)(k:κ){y:V}{u:Value}(ry:RelV y u) :
 KV (kvs.map fun kv=>if kv.1=k then (kv.1,y) else kv) (vs.map fun kv=>if kv.1=k then (kv.1,u) else kv):=by
 unfold KV at r |-
 induction r with
 |nil=>exact .nil
 | @cons p q ps qs h t ih=>
  rw[wV,wV];refine .cons ?_ ih;obtain⟨h1,h2⟩:=h;by_cases e:p.1=k
  ·rw[if_pos e,if_pos (h1.symm.trans e)];exact⟨h1,ry⟩
  ·rw[if_neg e,if_neg (fun z=>e (h1.trans z))];exact⟨h1,h2⟩
theorem KV.put{kvs:List (κ × V)}{vs:List (κ × Value)}(r:KV kvs vs)(k:κ){y:V}{u:Value}(ry:RelV y u):KV (dU kvs k y) (stored vs k u):=by
 unfold dU stored;rw[r.any k];by_cases e:(vs.any fun kv=>decide (kv.1=k))=true
 ·rw[if_pos e,if_pos e];exact r.repl k ry
 ·rw[if_neg e,if_neg e];exact Paired.snoc r ⟨rfl,ry⟩
theorem KV.drop{kvs:List (κ × V)}{vs:List (κ × Value)}(r:KV kvs vs)(k:κ):KV (jJ kvs k) (without vs k):=by
 unfold KV at r |-
 unfold jJ without
 induction r with
 |nil=>exact .nil
 | @cons p q ps qs h t ih=>
  obtain⟨h1,h2⟩:=h;rw[List.filter_cons,List.filter_cons];by_cases e:p.1=k
  ·have a:¬ decide (p.1≠k)=true:=by simp[e]
   have b:¬ decide (q.1≠k)=true:=by simp[h1.symm.trans e]
   rw[if_neg a,if_neg b];exact ih
  ·have e':¬ q.1=k:=fun z=>e (h1.trans z)
   have a:decide (p.1≠k)=true:=by simp[e]
   have b:decide (q.1≠k)=true:=by simp[e']
   rw[if_pos a,if_pos b];exact .cons ⟨h1,h2⟩ ih
theorem KV.keys{kvs:List (κ × V)}{vs:List (κ × Value)}(r:KV kvs vs):kvs.map (·.1)=vs.map (·.1):=by
 unfold KV at r
 induction r with
 |nil=>rfl
 |cons h t ih=>rw[wV,wV,ih,h.1]
theorem KV.length{kvs:List (κ × V)}{vs:List (κ × Value)}(r:KV kvs vs):kvs.length=vs.length:=Paired.length r
theorem vD(kvs:List (κ × V))(k:κ):(jJ kvs k).length<=kvs.length:=Zj _ _
end
theorem kQ{P:Program}{w:World}{k:Key}{u:Value}(r:RelV (kV k) u):(bM P w).is k u=true:=by
 cases k with
 |inl i=>obtain⟨t,e⟩:=(show ∃t,u=Xv i t from r);subst e;exact wt P w i t
 |inr x=>obtain⟨t,e⟩:=(show ∃t,u=Ys x t from r);subst e;exact ww P w x t
theorem IK{a b:Key}(e:kV a=kV b):a=b:=by
 cases a with
 |inl i=>cases b with
  |inl j=>have e':V.int i=V.int j:=e;injection e' with e';rw[e']
  |inr y=>exact nomatch (show V.int i=V.str y from e)
 |inr x=>cases b with
  |inl j=>exact nomatch (show V.str x=V.int j from e)
  |inr y=>have e':V.str x=V.str y:=e;injection e' with e';rw[e']
theorem r_:∀ {a b:List Key},a.map kV=b.map kV->a=b
 | [],[],_=>rfl
 | [],_::_,e=>by simp at e
 |_::_,[],e=>by simp at e
 |x::xs,y::ys,e=>by
  rw[wV,wV]at e;injection e with e1 e2
  rw[IK e1,r_ e2]
theorem qZ{P:Program}{w:World}:∀ {ks:List Key} {us:List Value},Vals (ks.map kV) us->ItemsAre (bM P w) ks us
 | [],_,r=>by rw[ZX]at r;cases r;exact .nil
 |k::ks,_,r=>by
  rw[wV]at r;cases r with
  |cons h t=>exact .cons (kQ h) (qZ t)
abbrev KT(H:Hp):List (List Key × V)->List (List Key × Addr × Value)->Prop:=Paired fun p q=>p.1=q.1/\H q.2.1=some (.tup (p.1.map kV))/\RelV p.2 q.2.2
theorem KT.val{H:Hp}{kvs:List (List Key × V)}{xs:List (List Key × Addr × Value)}(r:KT H kvs xs)(k:List Key):RelO (cV kvs k) ((atKey xs k).map (·.2)):=by
 induction r with
 |nil=>exact ZD
 | @cons p q ps qs h t ih=>
  obtain⟨h1,_,h2⟩:=h;by_cases e:p.1=k
  ·have e':q.1=k:=h1.symm.trans e
   have b:atKey (q::qs) k=some q.2:=by simp[atKey,List.find?_cons,e']
   rw[bU e,b];exact h2
  ·have e':¬ q.1=k:=fun z=>e (h1.trans z)
   have b:atKey (q::qs) k=atKey qs k:=by simp[atKey,List.find?_cons,e']
   rw[bO e,b];exact ih
theorem KT.repl{H:Hp}{kvs:List (List Key × V)}{xs:List (List Key × Addr × Value)}(r:KT H kvs xs)(k:List Key){y:V}{u:Value}(ry:RelV y u) :
 KT H (kvs.map fun kv=>if kv.1=k then (kv.1,y) else kv) (xs.map (putAt k u)):=by
 induction r with
 |nil=>exact .nil
 | @cons p q ps qs h t ih=>
  rw[wV,wV];refine .cons ?_ ih;obtain⟨h1,h2,h3⟩:=h;unfold putAt;by_cases e:p.1=k
  ·rw[if_pos e,if_pos (h1.symm.trans e)];exact⟨h1,h2,ry⟩
  ·rw[if_neg e,if_neg (fun z=>e (h1.trans z))];exact⟨h1,h2,h3⟩
theorem KT.put{H:Hp}{kvs:List (List Key × V)}{xs:List (List Key × Addr × Value)}(r:KT H kvs xs)(k:List Key){b:Addr}{y:V}{u:Value}(hb:H b=some (.tup (k.map kV)))(ry:RelV y u) :
 KT H (dU kvs k y) (storedH xs k b u):=by
 have e:(kvs.any fun kv=>decide (kv.1=k))=(atKey xs k).isSome:=by
  rw[i_,(r.val k).isSome_eq,YW]
 unfold dU storedH;rw[e];by_cases q:(atKey xs k).isSome=true
 ·rw[if_pos q,if_pos q];exact r.repl k ry
 ·rw[if_neg q,if_neg q];exact Paired.snoc r ⟨rfl,hb,ry⟩
theorem KT.keeps{H H':Hp}{kvs:List (List Key × V)}{xs:List (List Key × Addr × Value)}(r:KT H kvs xs)(ht:∀b ys,H b=some (.tup ys)->H' b=some (.tup ys)):KT H' kvs xs:=
 Paired.mapP r fun _ _ z=>⟨z.1,ht _ _ z.2.1,z.2.2⟩
section
variable{P:Program}{w:World}{H:Hp}{h:Heap}{a:Addr}
theorem B6{u:HO}(ok:HOk P w H h)(e:Rd H a u):ObjOk P w H h a u:=e.ok ok
theorem pK{kvs:List (Key × V)}(ok:HOk P w H h)(e:Rd H a (.dK kvs)):kvs.length<=sizeLine/\(a==ZE)=false/\∃vs,KV kvs vs/\h.DictOf (bM P w) a vs:=
 show ObjOk P w H h a (.dK kvs) from B6 ok e
theorem rQ{kvs:List (Key × V)}(ok:HOk P w H h)(e:H a=some (.dK kvs)):kvs.length<=sizeLine/\(a==ZE)=false/\∃vs,KV kvs vs/\h.DictOf (bM P w) a vs:=pK ok (.inl e)
theorem lQ{ks:List Key}(ok:HOk P w H h)(e:H a=some (.tup (ks.map kV))):(tupleKind (bM P w)).is h ks a:=by
 obtain⟨_,its,r,o,h1,h2,n,h3⟩:=(show ObjOk P w H h a (.tup (ks.map kV)) from ok a _ e);exact⟨o,its.toArray,n,h1,h2,h3,by simpa using qZ r⟩
theorem pW{kvs:List (List Key × V)}(ok:HOk P w H h)(e:Rd H a (.dT kvs)):kvs.length<=sizeLine/\(a==ZE)=false /\
 ∃xs,KT H kvs xs/\h.DictOfH (tupleKind (bM P w)) a xs:=by
 obtain⟨z,y,xs,r,o,es,ep,h1,h2,h3,h4,h5⟩:=(show ObjOk P w H h a (.dT kvs) from B6 ok e);refine⟨z,y,xs,r,o,es,ep,h1,h2,h3,h4,fun x hx=>?_,h5⟩;have all:∀ {l:List (List Key × V)} {m:List (List Key × Addr × Value)},KT H l m->∀x∈m,(tupleKind (bM P w)).is h x.1 x.2.1:=by
  intro l m q
  induction q with
  |nil=>intro x hx;exact nomatch hx
  | @cons p q ps qs hq t ih=>
   intro x hx;rcases zO.mp hx with e|hx
   ·subst e
    exact lQ ok (by rw[<- hq.1];exact hq.2.1)
   ·exact ih x hx
 exact all r x hx
theorem Gd{kvs:List (List Key × V)}(ok:HOk P w H h)(e:H a=some (.dT kvs)):kvs.length<=sizeLine/\(a==ZE)=false /\
 ∃xs,KT H kvs xs/\h.DictOfH (tupleKind (bM P w)) a xs:=pW ok (.inl e)
end
def DGet(H:Hp)(a:Addr)(y:V)(r:Option V):Prop:=
 (∃kvs k,Rd H a (.dK kvs)/\y=kV k/\r=cV kvs k)\/∃kvs k b,Rd H a (.dT kvs)/\y = .ref b/\H b=some (.tup (k.map kV))/\r=cV kvs k
def DPut(H:Hp)(a:Addr)(y v:V)(H':Hp):Prop:=
 (∃kvs k,H a=some (.dK kvs)/\y=kV k/\kvs.length<sizeLine/\H'=upd H a (.dK (dU kvs k v))) \/
 ∃kvs k b,H a=some (.dT kvs)/\y = .ref b/\H b=some (.tup (k.map kV))/\kvs.length<sizeLine/\H'=upd H a (.dT (dU kvs k v))
theorem DGet.k{H:Hp}{a:Addr}{kvs:List (Key × V)}{k:Key}(e:H a=some (.dK kvs)):DGet H a (kV k) (cV kvs k):=.inl ⟨kvs,k,.inl e,rfl,rfl⟩
theorem DGet.t{H:Hp}{a b:Addr}{kvs:List (List Key × V)}{k:List Key}(e:H a=some (.dT kvs))(eb:H b=some (.tup (k.map kV))):DGet H a (.ref b) (cV kvs k):=.inr ⟨kvs,k,b,.inl e,rfl,eb,rfl⟩
theorem DPut.k{H:Hp}{a:Addr}{kvs:List (Key × V)}{k:Key}{v:V}(e:H a=some (.dK kvs))(hl:kvs.length<sizeLine):DPut H a (kV k) v (upd H a (.dK (dU kvs k v))):=.inl ⟨kvs,k,e,rfl,hl,rfl⟩
theorem DPut.t{H:Hp}{a b:Addr}{kvs:List (List Key × V)}{k:List Key}{v:V}(e:H a=some (.dT kvs))(eb:H b=some (.tup (k.map kV)))(hl:kvs.length<sizeLine) :
 DPut H a (.ref b) v (upd H a (.dT (dU kvs k v))):=.inr ⟨kvs,k,b,e,rfl,eb,hl,rfl⟩
section
variable{X:Cx}{pins:List (Addr × Obj)}{σ:St}{H:Hp}{s:Shared}{a:Addr}{y v:V}{u r:Value}{o:Option V}{A:Around}{E:Value->Shared->Prop}
theorem Inv.big(I:Inv X pins σ H s):ZE<s.heap.objs.size:=by
 have h:ZL<s.heap.objs.size:=(I.mod.glob.keeps I.bk).lt;exact Nat.lt_trans (by decide) h
theorem Ac{Q:Value->Shared->Prop}(hu:A.units+1<cLine)(I:Inv X pins σ H s)(g:DGet H a y (some v))(ry:RelV y u)(h:∀w' s',Inv X pins σ H s'->RelV v w'->Q w' s') :
 wpAny (model X.prog X.w) A (getItem (.ref a) u) Q E s:=by
 rcases g with ⟨kvs,k,e,ey,l⟩|⟨kvs,k,b,e,ey,eb,l⟩
 ·subst ey
  obtain⟨z,hd,vs,rel,dd⟩:=pK I.hok e;obtain⟨w',hw,rw'⟩:=RelO.some_of (v:=v) (o:=valueAt vs k) (by rw[l];exact rel.val k);exact wpAny_getItem_of (kQ ry) dd.mapOf hw (h w' _ (I.tok _) rw')
 ·subst ey
  cases (show u=wU b from ry);obtain⟨z,hd,xs,rel,dd⟩:=pW I.hok e;obtain⟨w',hw,rw'⟩:=RelO.some_of (v:=v) (o:=(atKey xs k).map (·.2)) (by rw[l];exact rel.val k);obtain⟨p,hp,hp2⟩:=Zg.mp hw;refine wpAny_getItem_heap (YG hu) (lQ I.hok eb) dd hp ?_;rw[hp2];exact h w' _ (I.tok _) rw'
theorem LO{Q:Value->Shared->Prop}(hu:A.units+1<cLine)(I:Inv X pins σ H s)(g:DGet H a y o)(ry:RelV y u)(h:∀s',Inv X pins σ H s'->Q (.bool o.isSome) s') :
 wpAny (model X.prog X.w) A (Zq .In u (.ref a)) Q E s:=by
 rcases g with ⟨kvs,k,e,ey,l⟩|⟨kvs,k,b,e,ey,eb,l⟩
 ·subst ey
  obtain⟨z,hd,vs,rel,dd⟩:=pK I.hok e;refine wpAny_in_of (kQ ry) hd dd.mapOf ?_;rw[<- (rel.val k).isSome_eq,<- l];exact h _ (I.tok _)
 ·subst ey
  cases (show u=wU b from ry);obtain⟨z,hd,xs,rel,dd⟩:=pW I.hok e;refine wpAny_in_heap (YG hu) (lQ I.hok eb) hd dd ?_;have q:=(rel.val k).isSome_eq;rw[YW]at q;rw[<- q,<- l];exact h _ (I.tok _)
theorem Fq{Q:Value->Shared->Prop}(hu:A.units+1<cLine)(I:Inv X pins σ H s)(g:DGet H a y o)(ry:RelV y u)(h:∀s',Inv X pins σ H s'->Q (.bool (!o.isSome)) s') :
 wpAny (model X.prog X.w) A (Zq .NotIn u (.ref a)) Q E s:=by
 rcases g with ⟨kvs,k,e,ey,l⟩|⟨kvs,k,b,e,ey,eb,l⟩
 ·subst ey
  obtain⟨z,hd,vs,rel,dd⟩:=pK I.hok e;refine wpAny_notIn_of (kQ ry) hd dd.mapOf ?_;rw[<- (rel.val k).isSome_eq,<- l];exact h _ (I.tok _)
 ·subst ey
  cases (show u=wU b from ry);obtain⟨z,hd,xs,rel,dd⟩:=pW I.hok e;refine wpAny_notIn_heap (YG hu) (lQ I.hok eb) hd dd ?_;have q:=(rel.val k).isSome_eq;rw[YW]at q;rw[<- q,<- l];exact h _ (I.tok _)
theorem ko{h':Heap}{t':Nat}{ob:HO}(I:Inv X pins σ H s)(mu:Mut (H a))(hs:Heap.SameBut a s.heap h')(he:∃q,h'.get? a=some q)(new:ObjOk X.prog X.w (upd H a ob) h' a ob) :
 Inv X pins σ (upd H a ob) { s with heap:=h',toks:=t' }:=
 I.write (x:=a) (e:=a) mu (.inl rfl) (fun b q hb z=>(hs.2 b hb).trans z) he new
theorem sA{P:Program}{w:World}{H':Hp}{h':Heap}{kvs:List (Key × V)}{vs:List (Key × Value)}(z:kvs.length<=sizeLine)(hd:(a==ZE)=false)(rel:KV kvs vs)(dd:h'.DictOf (bM P w) a vs) :
 ObjOk P w H' h' a (.dK kvs):=⟨z,hd,vs,rel,dd⟩
theorem AV{H':Hp}{Q:Unit->Shared->Prop}(hu:A.units+1<cLine)(I:Inv X pins σ H s)(g:DPut H a y v H')(ry:RelV y u)(rv:RelV v r)(h:∀s',Inv X pins σ H' s'->Q () s') :
 wpAny (model X.prog X.w) A (setItem (.ref a) u r) Q E s:=by
 rcases g with ⟨kvs,k,e,ey,l,eH⟩|⟨kvs,k,b,e,ey,eb,l,eH⟩
 ·subst ey eH
  obtain⟨z,hd,vs,rel,dd⟩:=rQ I.hok e;have hz:vs.length<=sizeLine:=by rw[<- rel.length];exact z
  have hl:(dU kvs k v).length<=sizeLine:=by have:=jj kvs k v;lia
  refine wpAny_setItem_pairs (hsz:=hz) (kQ ry) dd fun h' dd' hs=>h _ ?_;have he:∃q,h'.get? a=some q:=let ⟨q,_,_,hq,_⟩:=dd';⟨q,hq⟩;exact ko I (by rw[e];exact ZD) hs he (sA hl hd (rel.put k rv) dd')
 ·subst ey eH
  cases (show u=wU b from ry);obtain⟨z,hd,xs,rel,dd⟩:=Gd I.hok e;have hz:xs.length<=sizeLine:=by rw[<- Paired.length rel];exact z
  have hl:(dU kvs k v).length<=sizeLine:=by have:=jj kvs k v;lia
  refine wpAny_setItem_heap (hsz:=hz) (YG hu) (lQ I.hok eb) dd fun h' dd' hs=>h _ ?_;obtain⟨q,es,ep,hq,h2,h3,h4,_,h5⟩:=dd';refine ko I (by rw[e];exact ZD) hs ⟨q,hq⟩ ⟨hl,hd,_,(rel.put k eb rv).keeps fun c ys ec=>?_,q,es,ep,hq,h2,h3,h4,h5⟩;rw[ai (Kh ec e (fun z=>nomatch z))];exact ec
end
section
variable{X:Cx}{pins:List (Addr × Obj)}{σ:St}{H:Hp}{s:Shared}{a:Addr}{kvs:List (Key × V)}{k:Key}{u:Value}{A:Around}{E:Value->Shared->Prop}
theorem Jt{Q:Unit->Shared->Prop}(I:Inv X pins σ H s)(e:H a=some (.dK kvs))(ry:RelV (kV k) u)(l:(cV kvs k).isSome=true)(h:∀s',Inv X pins σ (upd H a (.dK (jJ kvs k))) s'->Q () s') :
 wpAny (model X.prog X.w) A (delItem (.ref a) u) Q E s:=by
 obtain⟨z,hd,vs,rel,dd⟩:=rQ I.hok e;refine wpAny_delItem_slot dd.typeIs (by decide) PySem.F.slot_dict_delitem
  (call_meetsIn PySem.F.slot_dict_delitem dd.typeIs PySem.F.entry_dict_delitem (PySem.F.args_dict_delitem_2 _ _) (meets_dict_delitem_pairs (bM X.prog X.w) a (kQ ry)) ⟨vs,dd,by rw[<- rel.length];exact z,by rw[<- (rel.val k).isSome_eq];exact l,fun h' dd' hs=>h _ ?_⟩)
 have he:∃q,h'.get? a=some q:=let ⟨q,_,_,hq,_⟩:=dd';⟨q,hq⟩;exact ko I (by rw[e];exact ZD) hs he (sA (Zt (vD kvs k) z) hd (rel.drop k) dd')
theorem JE{v:V}{more:List Value}{Q:Value->Shared->Prop}(I:Inv X pins σ H s)(e:H a=some (.dK kvs))(ry:RelV (kV k) u)(l:cV kvs k=some v)(hm:more=[]\/∃x,more=[x])
 (h:∀w' s',Inv X pins σ (upd H a (.dK (jJ kvs k))) s'->RelV v w'->Q w' s'):wpAny (model X.prog X.w) A (call (.builtin "dict.pop") (.ref a::u::more)) Q E s:=by
 obtain⟨z,hd,vs,rel,dd⟩:=rQ I.hok e;obtain⟨w',hw,rw'⟩:=RelO.some_of (v:=v) (o:=valueAt vs k) (by rw[<- l];exact rel.val k);have hp:(keyPart u).isSome=true:=by
  cases k with
  |inl i=>obtain⟨t,q⟩:=(show ∃t,u=Xv i t from ry);subst q;rfl
  |inr x=>obtain⟨t,q⟩:=(show ∃t,u=Ys x t from ry);subst q;rfl
 have ha:argsOk "dict.pop" ⟨.ref a::u::more,[]⟩:=by
  rcases hm with q|⟨x,q⟩
  ·subst q;exact PySem.F.args_dict_pop_2 _ _
  ·subst q;exact PySem.F.args_dict_pop_3 _ _ _
 refine call_meetsIn PySem.F.slot_dict_pop dd.typeIs PySem.F.entry_dict_pop ha (meets_dict_pop_there (bM X.prog X.w) a (kQ ry) more hm hp)
  ⟨vs,w',dd,by rw[<- rel.length];exact z,hw,fun h' dd' hs=>h w' _ ?_ rw'⟩
 have he:∃q,h'.get? a=some q:=let ⟨q,_,_,hq,_⟩:=dd';⟨q,hq⟩;exact ko I (by rw[e];exact ZD) hs he (sA (Zt (vD kvs k) z) hd (rel.drop k) dd')
end
def KD(i:Expr):Prop:=∀ov iv,subscripted i false ov iv=operate [ov,iv] (getItem ov iv)
theorem ER{prog:Program}{w:World}{A:Around}{E:Value->Shared->Prop}{s:Shared}{env:Env}{value slice:Expr}{pos:Pos}{T id:String}{Q:Value->Shared->Prop}
 (hl:typeLookup (.type T) "__getitem__" = pure (some (.builtin id))) (hs:KD slice)
 (h:wpAny (model prog w) A (eval value env) (fun o s₁=>wpAny (model prog w) A (eval slice env) (fun i s₂=>s₂.TypeIs o T/\wpAny (model prog w) A (getItem o i) Q E s₂) E s₁) E s) :
 wpAny (model prog w) A (eval (.Subscript value slice pos) env) Q E s:=by
 refine Subscript_ (Zs h (fun o s₁ h₁=>Zs h₁ (fun i s₂ h₂=>?_) fun _ _ x=>x) fun _ _ x=>x);obtain⟨hT,h₂⟩:=h₂;unfold subscriptTail;refine zZ ?_;rw[getitemInPython_of_ne hT.not_modules];refine zZ (wpAny_specialOf hT hl ?_);have fin:wpAny (model prog w) A (subscripted slice false o i) (fun r s₃=>wpAny (model prog w) A (letTemporaryGo value o r >>= fun _=>pure r) Q E s₃) E s₂:=by
  rw[hs o i];exact wpAny_operating (Zs h₂ (fun r s₃ h₃=>zZ (wpAny_letTemporaryGo (xc h₃))) fun _ _ x=>x)
 first
  |exact xc (zZ fin)
  |exact zZ (xc (zZ fin))
  |exact zZ fin
theorem we{X:Cx}{pins:List (Addr × Obj)}{σ:St}{H:Hp}{s:Shared}{a:Addr}{y:V}{o:Option V}(I:Inv X pins σ H s)(g:DGet H a y o):s.TypeIs (.ref a) "dict":=by
 rcases g with ⟨kvs,k,e,_,_⟩|⟨kvs,k,b,e,_,_,_⟩
 ·obtain⟨_,_,vs,_,dd⟩:=pK I.hok e
  exact dd.typeIs
 ·obtain⟨_,_,xs,_,dd⟩:=pW I.hok e
  exact dd.typeIs
def GB(td ty:TE):TE:=fun σ H Q=>td σ H fun x H1=>ty σ H1 fun y H2=>∃a v,x = .ref a/\DGet H2 a y (some v)/\Q v H2
def JW(ty td:TE):TE:=fun σ H Q=>ty σ H fun y H1=>td σ H1 fun x H2=>∃a o,x = .ref a/\DGet H2 a y o/\Q (.bl o.isSome) H2
def yk(ty td:TE):TE:=fun σ H Q=>ty σ H fun y H1=>td σ H1 fun x H2=>∃a o,x = .ref a/\DGet H2 a y o/\Q (.bl (!o.isSome)) H2
def GF(td ty tv:TE):TS:=fun D σ H=>tv σ H fun v H1=>td σ H1 fun x H2=>ty σ H2 fun y H3=>∃a H4,x = .ref a/\DPut H3 a y v H4/\D.nx σ H4
section
variable{X:Cx}{o i e value:Expr}{pos pos' tpos:Pos}{td ty tv:TE}
theorem ck(hu:X.A.units+1<cLine)(ho:PE X o td)(hi:PE X i ty)(hs:KD i):PE X (.Subscript o i pos) (GB td ty):=by
 intro pins s σ H Q I h;refine ER PySem.F.slot_dict_getitem.lookup hs (thn (ho pins s σ H _ I h) fun u s1 ⟨x,H1,I1,rx,q1⟩=>thn (hi pins s1 σ H1 _ I1 q1) fun iv s2 hq_=>?_);obtain⟨y,H2,I2,ry,a,v,ex,g,q2⟩:=hq_;subst ex;obtain rfl:u=wU a:=rx;exact⟨we I2 g,Ac hu I2 g ry fun w' s3 I3 rw'=>⟨v,H2,I3,rw',q2⟩⟩
theorem qg(hu:X.A.units+1<cLine)(hi:PE X i ty)(ho:PE X o td):PC X .In i o (JW ty td):=by
 intro pins s σ H Q I h;refine thn (hi pins s σ H _ I h) fun iv s1 ⟨y,H1,I1,ry,q1⟩=>thn (ho pins s1 σ H1 _ I1 q1) fun u s2 hq_=>?_;obtain⟨x,H2,I2,rx,a,ov,ex,g,q2⟩:=hq_;subst ex;obtain rfl:u=wU a:=rx;exact LO hu I2 g ry fun s3 I3=>⟨.bl ov.isSome,H2,I3,rfl,q2⟩
theorem lM(hu:X.A.units+1<cLine)(hi:PE X i ty)(ho:PE X o td):PC X .NotIn i o (yk ty td):=by
 intro pins s σ H Q I h;refine thn (hi pins s σ H _ I h) fun iv s1 ⟨y,H1,I1,ry,q1⟩=>thn (ho pins s1 σ H1 _ I1 q1) fun u s2 hq_=>?_;obtain⟨x,H2,I2,rx,a,ov,ex,g,q2⟩:=hq_;subst ex;obtain rfl:u=wU a:=rx;exact Fq hu I2 g ry fun s3 I3=>⟨.bl (!ov.isSome),H2,I3,rfl,q2⟩
theorem fP(hu:X.A.units+1<cLine)(ho:PE X o td)(hi:PE X i ty)(hv:PE X value tv)(hs:swapsWith value (some (.Subscript o i pos')) pos.line X.env=pure false) :
 PS X (.Assign [.Subscript o i pos'] value pos) (GF td ty tv):=by
 intro pins s σ H D I h;refine wpAny_Assign_Subscript (thn (hv pins s σ H _ I h) fun r s1 ⟨v,H1,I1,rv,q1⟩=>thn (ho pins s1 σ H1 _ I1 q1) fun u s2 ⟨x,H2,I2,rx,q2⟩=>thn (hi pins s2 σ H2 _ I2 q2) fun iv s3 hq_=>?_) hs;obtain⟨y,H3,I3,ry,a,H4,ex,g,q3⟩:=hq_;subst ex;obtain rfl:u=wU a:=rx;exact AV hu I3 g ry rv fun s4 I4=>⟨σ,H4,I4,q3⟩
end
theorem Bh{P:Program}{w:World}{H:Hp}(h:Heap)(hb:ZE<h.objs.size):ObjOk P w H (h.push { cls:=.type "dict",data:=.dict #[] }) h.objs.size (.dK []):=
 ⟨Zv _,beq_eq_false_iff_ne.mpr (Ne.symm (tG hb)),[],.nil,Heap.DictOf.new h⟩
theorem BQ{P:Program}{w:World}{H:Hp}(h:Heap)(hb:ZE<h.objs.size):ObjOk P w H (h.push { cls:=.type "dict",data:=.dict #[] }) h.objs.size (.dT []):=
 ⟨Zv _,beq_eq_false_iff_ne.mpr (Ne.symm (tG hb)),[],.nil,_,#[],0,Heap.get?_push_size _ rfl,⟨rfl,rfl,rfl⟩,rfl,rfl,List.nodup_nil⟩
def CM:TE:=fun _ H Q=>∀p,H p=none->Q (.ref p) (upd H p (.dT []))
section
variable{X:Cx}{pos:Pos}
theorem Bf:PE X (.Dict [] [] pos) CM:=fun pins s σ H Q I h=>
 wpAny_Dict_empty ⟨.ref s.heap.objs.size,_,I.laid (a:=s.heap.objs.size) (o:=.dT []) (t':=s.toks) (fun _ _ q=>Heap.get?_push_of_some _ q) (xU _) (BQ s.heap I.big),rfl,h _ (I.hok.fresh (xU _))⟩
end
def tK:List (TE × TE)->St->Hp->(List (V × V)->Hp->Prop)->Prop
 | [],_,H,Q=>Q [] H
 |(tk,tv)::r,σ,H,Q=>tk σ H fun x H1=>tv σ H1 fun y H2=>tK r σ H2 fun ps H3=>Q ((x,y)::ps) H3
abbrev VV:List (V × V)->List (Value × Value)->Prop:=Paired fun p q=>RelV p.1 q.1/\RelV p.2 q.2
def PPs(X:Cx)(pos:Pos)(keys:List (Option Expr))(values:List Expr)(trs:List (TE × TE)):Prop:=
 ∀(pins:List (Addr × Obj)) (s:Shared) (σ:St) (H:Hp) (Q:List (V × V)->Hp->Prop),Inv X pins σ H s->tK trs σ H Q ->
  wpAny (model X.prog X.w) X.A (evalPairs (pairTrees keys values X.env pos)) (fun vs s'=>∃ps H',Inv X pins σ H' s'/\VV ps vs/\Q ps H') X.xe s
theorem Fy{X:Cx}{pos:Pos}:PPs X pos [] [] []:=fun pins s σ H Q I h=>pairTrees_nil_walk ⟨[],H,I,.nil,h⟩
theorem vR{X:Cx}{pos:Pos}{k v:Expr}{ks:List (Option Expr)}{vs:List Expr}{tk tv:TE}{trs:List (TE × TE)}(hk:PE X k tk)(hv:PE X v tv)(hr:PPs X pos ks vs trs) :
 PPs X pos (some k::ks) (v::vs) ((tk,tv)::trs):=fun pins s σ H Q I h=>
 pairTrees_cons_walk (thn (hk pins s σ H _ I h) fun u s1 ⟨x,H1,I1,rx,q1⟩=>thn (hv pins s1 σ H1 _ I1 q1) fun w2 s2 ⟨y,H2,I2,ry,q2⟩=>
  thn (hr pins s2 σ H2 _ I2 q2) fun ws s3 hq_=>(by obtain⟨ps,H3,I3,rel,q3⟩:=hq_;exact⟨(x,y)::ps,H3,I3,.cons ⟨rx,ry⟩ rel,q3⟩))
noncomputable def jZ(kvs more:List (Key × V)):List (Key × V):=more.foldl (fun acc kv=>dU acc kv.1 kv.2) kvs
theorem KV.merge:∀ {more:List (Key × V)} {rs:List (Key × Value)} {kvs:List (Key × V)} {vs:List (Key × Value)},KV more rs->KV kvs vs->KV (jZ kvs more) (merged vs rs):=by
 intro more rs kvs vs r;unfold KV at r
 induction r generalizing kvs vs with
 |nil=>intro q;exact q
 | @cons p q ps qs h t ih=>
  intro r0;have e:KV (dU kvs p.1 p.2) (stored vs q.1 q.2):=by
   have:=r0.put p.1 h.2;rw[<- h.1];exact this
  exact ih e
theorem jI:∀(more kvs:List (Key × V)),(jZ kvs more).length<=kvs.length+more.length
 | [],kvs=>by show kvs.length<=kvs.length+0;lia
 |p::r,kvs=>by
  have h1:=jI r (dU kvs p.1 p.2);have h2:=jj kvs p.1 p.2;show(jZ (dU kvs p.1 p.2) r).length<=_;rw[sq];lia
theorem qe{P:Program}{w:World}:∀ {kvs:List (Key × V)} {ws:List (Value × Value)},VV (kvs.map fun kv=>(kV kv.1,kv.2)) ws->∃rs,Carries (bM P w) ws rs/\KV kvs rs
 | [],_,r=>by rw[ZX]at r;cases r;exact⟨[],ZD,.nil⟩
 |p::kvs,_,r=>by
  rw[wV]at r;cases r with
  | @cons a b as bs h t=>
   obtain⟨rs,c,q⟩:=qe (P:=P) (w:=w) t;obtain⟨b1,b2⟩:=b;exact⟨(p.1,b2)::rs,⟨kQ h.1,rfl,c⟩,.cons ⟨rfl,h.2⟩ q⟩
def GM(trs:List (TE × TE)):TE:=fun σ H Q=>∀p,H p=none->tK trs σ (upd H p (.dK [])) fun ps H2=>H2 p=some (.dK [])/\∃kvs:List (Key × V),ps=kvs.map (fun kv=>(kV kv.1,kv.2))/\kvs.length<=15/\Q (.ref p) (upd H2 p (.dK (jZ [] kvs)))
theorem E7{X:Cx}{pos:Pos}{keys:List (Option Expr)}{values:List Expr}{trs:List (TE × TE)}(h:PPs X pos keys values trs)(hall:keys.all (·.isSome)=true)(hl:keys.length=values.length)(h0:keys≠[])
 (h15:keys.length<=15):PE X (.Dict keys values pos) (GM trs):=by
 intro pins s σ H Q I q;have hn:=I.hok.fresh (xU s.heap.objs.size);have I1:=I.laid (a:=s.heap.objs.size) (o:=.dK []) (h':=s.heap.push { cls:=.type "dict",data:=.dict #[] }) (t':=s.toks) (fun _ _ q=>Heap.get?_push_of_some _ q) (xU _) (Bh s.heap I.big);refine wpAny_Dict_walk (knd:=bM X.prog X.w) hall hl h0 h15 (thn (h pins _ σ _ _ I1 (q _ hn)) fun ws s2 hq_=>?_);obtain⟨ps,H2,I2,rel,e,kvs,ep,lk,q2⟩:=hq_;subst ep;obtain⟨rs,c,rk⟩:=qe (P:=X.prog) (w:=X.w) rel;obtain⟨z,hd,vs0,r0,dd⟩:=rQ I2.hok e;cases r0;refine⟨rs,c,dd,fun h' dd' hs=>⟨.ref s.heap.objs.size,_,?_,rfl,q2⟩⟩;have hz:(jZ [] kvs).length<=sizeLine:=by
  have h1:=jI kvs [];rw[Yz]at h1;rw[uz];lia
 have he:∃q,h'.get? s.heap.objs.size=some q:=let ⟨q,_,_,hq,_⟩:=dd';⟨q,hq⟩;exact ko I2 (by rw[e];exact ZD) hs he (sA hz hd (rk.merge .nil) dd')
structure M1(X:Cx)(o:Expr)(m:Str)(apos:Pos)(e:Expr)(cpos:Pos):Prop where
 base:YR o m X.env (eval o X.env)=eval o X.env
 few:((backTo cpos (starEach [e] X.env)).all (fun x=>!x.1)&&(backToKw cpos (Y8 [] X.env)).all (fun x=>x.1.isSome)
  && decide (([e]:List Expr).length+([]:List Keyword).length+(if ([]:List Keyword).isEmpty then 0 else 1)<30))=true
 line:(apos.endLine==cpos.line)=true
 trees:backTo cpos (starEach [e] X.env)=[(false,eval e X.env)]
structure M2(X:Cx)(o:Expr)(m:Str)(apos:Pos)(e f:Expr)(cpos:Pos):Prop where
 base:YR o m X.env (eval o X.env)=eval o X.env
 few:((backTo cpos (starEach [e,f] X.env)).all (fun x=>!x.1)&&(backToKw cpos (Y8 [] X.env)).all (fun x=>x.1.isSome)
  && decide (([e,f]:List Expr).length+([]:List Keyword).length+(if ([]:List Keyword).isEmpty then 0 else 1)<30))=true
 line:(apos.endLine==cpos.line)=true
 trees:backTo cpos (starEach [e,f] X.env)=[(false,eval e X.env),(false,eval f X.env)]
def IsD(H:Hp)(a:Addr):Prop:=(∃kvs,Rd H a (.dK kvs))\/∃kvs,Rd H a (.dT kvs)
theorem Dp{X:Cx}{pins:List (Addr × Obj)}{σ:St}{H:Hp}{s:Shared}{a:Addr}(I:Inv X pins σ H s)(d:IsD H a) :
 s.TypeIs (.ref a) "dict" /\ (∀b,wU a = .ref b->∃ob,s.heap.get? b=some ob/\ob.dict=none)/\(a==ZE)=false:=by
 rcases d with ⟨kvs,e⟩|⟨kvs,e⟩
 ·obtain⟨_,hd,vs,_,dd⟩:=pK I.hok e
  refine⟨dd.typeIs,fun b q=>?_,hd⟩;cases q;obtain⟨ob,_,_,h1,h2,_⟩:=dd;exact⟨ob,h1,h2.2.1⟩
 ·obtain⟨_,hd,xs,_,dd⟩:=pW I.hok e
  refine⟨dd.typeIs,fun b q=>?_,hd⟩;cases q;obtain⟨ob,_,_,h1,h2,_⟩:=dd;exact⟨ob,h1,h2.2.1⟩
section
variable{X:Cx}{pins:List (Addr × Obj)}{σ:St}{H:Hp}{s:Shared}{a:Addr}{y d:V}{u r:Value}{o:Option V}{A:Around}{E:Value->Shared->Prop}
theorem IO{Q:Value->Shared->Prop}(hu:A.units+1<cLine)(I:Inv X pins σ H s)(g:DGet H a y o)(ry:RelV y u)(rd:RelV d r)(h:∀w' s',Inv X pins σ H s'->RelV (o.getD d) w'->Q w' s') :
 wpAny (model X.prog X.w) A (call (.builtin "dict.get") [.ref a,u,r]) Q E s:=by
 rcases g with ⟨kvs,k,e,ey,l⟩|⟨kvs,k,b,e,ey,eb,l⟩
 ·subst ey
  obtain⟨z,hd,vs,rel,dd⟩:=pK I.hok e;refine call_meetsIn PySem.F.slot_dict_get dd.typeIs PySem.F.entry_dict_get (PySem.F.args_dict_get_3 _ _ _) (meets_dict_get_default (bM X.prog X.w) a (kQ ry) hd r) ⟨_,dd.mapOf,h _ _ (I.tok _) ?_⟩;rw[l];exact(rel.val k).getD rd
 ·subst ey
  cases (show u=wU b from ry);obtain⟨z,hd,xs,rel,dd⟩:=pW I.hok e;refine call_meetsIn PySem.F.slot_dict_get dd.typeIs PySem.F.entry_dict_get (PySem.F.args_dict_get_3 _ _ _) (meetsH_dict_get_default (tupleKind (bM X.prog X.w)) a b hd r) ⟨YG hu,k,xs,lQ I.hok eb,dd,h _ _ (I.tok _) ?_⟩;rw[l];exact(rel.val k).getD rd
end
def DU(td ty tx:TE):TE:=fun σ H Q=>td σ H fun x H1=>∃a,x = .ref a/\IsD H1 a/\ty σ H1 fun y H2=>tx σ H2 fun z H3=>∃o,DGet H3 a y o/\Q (o.getD z) H3
def wP(td ty:TE):TE:=fun σ H Q=>td σ H fun x H1=>∃a,x = .ref a/\IsD H1 a/\ty σ H1 fun y H2=>∃kvs k v,H2 a=some (.dK kvs)/\y=kV k/\cV kvs k=some v/\Q v (upd H2 a (.dK (jJ kvs k)))
section
variable{X:Cx}{o e f:Expr}{apos cpos:Pos}{td ty tx:TE}
theorem vK(hu:X.A.units+1<cLine)(ho:PE X o td)(he:PE X e ty)(hf:PE X f tx)(m:M2 X o "get" apos e f cpos):PE X (.Call (.Attribute o "get" apos) [e,f] [] cpos) (DU td ty tx):=by
 intro pins s σ H Q I h;refine wpAny_Call_method m.base m.few m.line PySem.F.plainAttrs_dict PySem.F.slot_dict_get PySem.F.type_dict_get (thn (ho pins s σ H _ I h) fun u s1 hq_=>?_);obtain⟨x,H1,I1,rx,a,ex,d,q1⟩:=hq_;subst ex;obtain rfl:u=wU a:=rx;obtain⟨t1,t2,_⟩:=Dp I1 d;refine⟨t1,t2,?_⟩;rw[m.trees];refine YF rfl (YT (Xg (thn (he pins s1 σ H1 _ I1 q1) fun iv s2 ⟨y,H2,I2,ry,q2⟩=>
  Xg (thn (hf pins s2 σ H2 _ I2 q2) fun fv s3 ⟨z,H3,I3,rz,ov,g,q3⟩=>Calls.spliced_nil ?_))))
 exact IO hu I3 g ry rz fun w' s4 I4 rw'=>⟨_,H3,I4,rw',q3⟩
theorem v6(ho:PE X o td)(he:PE X e ty)(m:M1 X o "pop" apos e cpos):PE X (.Call (.Attribute o "pop" apos) [e] [] cpos) (wP td ty):=by
 intro pins s σ H Q I h;refine wpAny_Call_method m.base m.few m.line PySem.F.plainAttrs_dict PySem.F.slot_dict_pop PySem.F.type_dict_pop (thn (ho pins s σ H _ I h) fun u s1 hq_=>?_);obtain⟨x,H1,I1,rx,a,ex,d,q1⟩:=hq_;subst ex;obtain rfl:u=wU a:=rx;obtain⟨t1,t2,_⟩:=Dp I1 d;refine⟨t1,t2,?_⟩;rw[m.trees];refine YF rfl (YT (Xg (thn (he pins s1 σ H1 _ I1 q1) fun iv s2 ⟨y,H2,I2,ry,kvs,k,v,ea,ey,l,q2⟩=>Calls.spliced_nil ?_)));subst ey;exact JE I2 ea ry l (.inl rfl) fun w' s3 I3 rw'=>⟨v,_,I3,rw',q2⟩
end
section
variable{X:Cx}{e o value:Expr}{f:Str}{ta tv:TE}{pos pos':Pos}
def HW(K:W.Frag)(f:Str):V->Hp->VK->Prop
 | .ref p,H,Q=>∃C dx fs v,H p=some (.ins C dx fs)/\Cls K C/\NoAttr K C f/\fs.lookup f=some v/\Q v H
 |_,_,_=>False
def GO(K:W.Frag)(ta:TE)(f:Str):TE:=fun σ H Q=>ta σ H fun x H1=>HW K f x H1 Q
theorem a8(K:W.Frag)(he:PE X e ta)(hK:X.K=K:=by rfl)(hb:YR e f X.env (eval e X.env)=eval e X.env:=by rfl):PE X (.Attribute e f pos) (GO K ta f):=by
 subst hK;intro pins s σ H Q I h;refine Ec hb (thn (he pins s σ H _ I h) fun u s1 ⟨x,H1,I1,rx,q⟩=>?_);dsimp only at q;unfold HW at q;split at q
 ·rename_i a
  obtain⟨C,dx,fs,v,ea,c,n,l,q⟩:=q;obtain rfl:u=wU a:=rx;exact wQ I1 ea c n l fun u' s2 I2 ru=>⟨v,H1,I2,ru,q⟩
 ·exact q.elim
def A9(K:W.Frag)(f:Str)(y:V):V->Hp->(Hp->Prop)->Prop
 | .ref p,H,Q=>∃C dx fs,H p=some (.ins C dx fs)/\Cls K C/\NoAttr K C f/\fs.length<1000/\Q (upd H p (.ins C dx (cZ f y fs)))
 |_,_,_=>False
def Gy(K:W.Frag)(ta tv:TE)(f:Str):TS:=fun D σ H=>tv σ H fun y H1=>ta σ H1 fun x H2=>A9 K f y x H2 fun H3=>D.nx σ H3
theorem cP(K:W.Frag)(ha:PE X o ta)(hv:PE X value tv)(hK:X.K=K:=by rfl)(hs:swapsWith value (some (.Attribute o f pos')) pos.line X.env=pure false:=by rfl):PS X (.Assign [.Attribute o f pos'] value pos) (Gy K ta tv f):=by
 subst hK;intro pins s σ H D I h;refine plainObj_wpAny_Assign_Attribute (thn (hv pins s σ H _ I h) fun u s1 ⟨y,H1,I1,ry,q⟩=>thn (ha pins s1 σ H1 _ I1 q) fun ov s2 ⟨x,H2,I2,rx,q2⟩=>?_) hs;dsimp only at q2;unfold A9 at q2;split at q2
 ·rename_i a
  obtain⟨C,dx,fs,ea,c,n,l,q2⟩:=q2;obtain rfl:ov=wU a:=rx;exact wG I2 ea c n l ry fun s3 I3=>⟨σ,_,I3,q2⟩
 ·exact q2.elim
end
section
variable{X:Cx}{CX:CXT}{k:Nat}{f C:Addr}{fd:FuncData}{ps:List Str}{sp:Sp}{dvs:List V}{ds:List Value}{E:XKs}{x m:Str}{p pos apos:Pos}{e o:Expr}{es:List Expr}{ta:TE}{t:TA}
def yJ(C:Addr)(m:Str):V->Hp->(V->Prop)->Prop
 | .ref p,H,Q=>∃dx fs,H p=some (.ins C dx fs)/\fs.lookup m=none/\Q (.ref p)
 |_,_,_=>False
def pP(C:Addr)(m:Str)(sp:Sp)(dvs:List V)(E:XKs)(ta:TE)(t:TA):TE:=fun σ H Q=>ta σ H fun x0 H1=>yJ C m x0 H1 (fun x=>t σ H1 fun vs H2=>sp (x::(vs++dvs)) H2 Q (E σ))
theorem C5(he:PE X o ta)(c:Cls X.K C)(hm:Au X.K C m f)(F:ig X.prog X.w X.K X.mg X.base CX k f fd ps sp)(hr:Room k X.A)(hb:Binds X.K fd ps ds)(hd:Vals dvs ds)(hx:bZ CX X E)(ha:PA X (e::es) t)
 (hst:starEach (e::es) X.env=(false,eval e X.env)::starEach es X.env:=by rfl) (hpl:(backTo pos (starEach es X.env)).any (·.1)=false:=by rfl)
 (ht:eval (.Call (.Attribute o m apos) (e::es) [] pos) X.env=(do
  let ov <- eval o X.env
  standAt apos.atName
  let (f,first) <- holding [ov] (getMethod ov m pl)
  callWith pos f first (backTo pos (starEach (e::es) X.env)) (backToKw pos (Y8 [] X.env))):=by rfl) :
 PE X (.Call (.Attribute o m apos) (e::es) [] pos) (pP C m sp dvs E ta t):=by
 intro pins s σ H Q I h;refine PySem.W.methodCall_KW (pl:=pl) (thn (he pins s σ H _ I h) fun u s1 ⟨xo,H1,I1,rx,q⟩=>?_) ht;dsimp only at q;unfold yJ at q;split at q
 ·rename_i a
  obtain⟨dx,fs,ea,l,q⟩:=q;obtain rfl:u=wU a:=rx;refine py I1 ea c hm l ?_;refine PySem.W.callWith_K (first:=[.ref a]) (h₀:=X.base) I.ok.mod.kin hm.kp (thn (ha pos pins s1 σ _ _ I1 q) fun us s2 ⟨vs,H2,I2,r,q2⟩=>⟨I2.kIn,?_⟩) hst hpl;exact si (us:=.ref a::us) (vs:=.ref a::vs) F hr hb hd hx I2 (.cons rfl r) q2
 ·exact q.elim
theorem z6(he:PE X o ta)(c:Cls X.K C)(hm:Au X.K C m f)(F:ig X.prog X.w X.K X.mg X.base CX k f fd ps sp)(hr:Room k X.A)(hb:Binds X.K fd ps ds)(hd:Vals dvs ds)(hx:bZ CX X E)
 (ht:eval (.Call (.Attribute o m apos) [] [] pos) X.env=(do
  let ov <- eval o X.env
  standAt apos.atName
  let (f,first) <- holding [ov] (getMethod ov m pl)
  callWith pos f first (backTo pos (starEach [] X.env)) (backToKw pos (Y8 [] X.env))):=by rfl) :
 PE X (.Call (.Attribute o m apos) [] [] pos) (pP C m sp dvs E ta ky):=by
 intro pins s σ H Q I h;refine PySem.W.methodCall_KW (pl:=pl) (thn (he pins s σ H _ I h) fun u s1 ⟨xo,H1,I1,rx,q⟩=>?_) ht;dsimp only at q;unfold yJ at q;split at q
 ·rename_i a
  obtain⟨dx,fs,ea,l,q⟩:=q;obtain rfl:u=wU a:=rx;refine py I1 ea c hm l ?_;exact PySem.W.callWith_K0 (first:=[.ref a]) I1.kIn hm.kp (si (us:=[.ref a]) (vs:=[.ref a]) F hr hb hd hx I1 (.cons rfl .nil) q)
 ·exact q.elim
def oE(C:Addr)(sp:Sp)(dvs:List V)(E:XKs)(t:TA):TE:=fun σ H Q=>t σ H fun vs H1=>∀x dx,H1 x=none->H1 dx=none->dx≠x ->
 sp (.ref x::(vs++dvs)) (upd (upd H1 dx (.own x)) x (.ins C dx [])) (fun v H2=>v = .non/\Q (.ref x) H2) (E σ)
theorem rn(M:Mk X.K C f)(F:ig X.prog X.w X.K X.mg X.base CX k f fd ps sp)(hr:Room (k+1) X.A)(hb:Binds X.K fd ps ds)(hd:Vals dvs ds)
 (hx:bZ CX X E) (I:Inv X pins σ H s) (r:Vals vs us)
 (h:∀x dx,H x=none->H dx=none->dx≠x->sp (.ref x::(vs++dvs)) (upd (upd H dx (.own x)) x (.ins C dx [])) (fun v H2=>v = .non/\Q (.ref x) H2) (E σ)) :
 wpAny (model X.prog X.w) X.A (call (.ref C) us) (EP X pins σ Q) X.xe s:=by
 have hq:=h (s.heap.objs.size+1) s.heap.objs.size (I.hok.fresh (ZC _)) (I.hok.fresh (xU _)) (tG (Nat.lt_succ_self _));have I2:=Inv.made (C:=C) I;have r2:Vals (V.ref (s.heap.objs.size+1)::(vs++dvs)) (wU (s.heap.objs.size+1)::(us++ds)):=.cons rfl (r.append hd);have hl:(wU (s.heap.objs.size+1)::us++ds).length=ps.length:=by
  have e:=r2.length;rw[F.len _ _ _ _ hq]at e;exact e.symm
 refine wpAny_call (BN (f:=f) I.kIn M.makes M.init (beq_iff_eq.mp M.fn) (codeAny_mono (F.run _ X.stack _ _ ⟨wU (s.heap.objs.size+1)::us,[]⟩ (wU (s.heap.objs.size+1)::(us++ds)) _ _ (E σ) (hr.make C us [])
  (I2.env0.make C us []) (hb _ (wU (s.heap.objs.size+1)::us) I2.kIn hl) r2 hq) fun r s' hq'=>?_))
 cases r with
 |error e=>exact hx pins σ _ _ e s' I2 hq'
 |ok fl=>
  cases fl with
  |ret u=>
   obtain⟨v,H',I3,rv,ev,q3⟩:=I2.after hq';subst ev;exact⟨rv,⟨V.ref (s.heap.objs.size+1),H',I3,rfl,q3⟩⟩
  |next=>exact Z3 hq'
  |brk=>exact Z3 hq'
  |cont=>exact Z3 hq'
theorem CN(M:Mk X.K C f)(F:ig X.prog X.w X.K X.mg X.base CX k f fd ps sp)(hr:Room (k+1) X.A)(hg:Gl X x)(hm:X.mg x=some (.ref C))(hb:Binds X.K fd ps ds)(hd:Vals dvs ds)(hx:bZ CX X E)
 (ha:PA X (e::es) t) (hdb:(x==("__debug__":Str))=false:=by decide) (he:starEach (e::es) X.env=(false,eval e X.env)::starEach es X.env:=by rfl) (hpl:(backTo pos (starEach es X.env)).any (·.1)=false:=by rfl) :
 PE X (.Call (.Name x p) (e::es) [] pos) (oE C sp dvs E t):=by
 intro pins s σ H Q I h;refine YH (gj I hg hm ?_ hdb);refine PySem.W.callWith_K (h₀:=X.base) I.ok.mod.kin M.kp (thn (ha pos pins s σ H _ I h) fun us s1 ⟨vs,H1,I1,r,q⟩=>⟨I1.kIn,?_⟩) he hpl;exact rn M F hr hb hd hx I1 r q
theorem AW(M:Mk X.K C f)(F:ig X.prog X.w X.K X.mg X.base CX k f fd ps sp)(hr:Room (k+1) X.A)(hg:Gl X x)(hm:X.mg x=some (.ref C))(hb:Binds X.K fd ps ds)(hd:Vals dvs ds)(hx:bZ CX X E)
 (hdb:(x==("__debug__":Str))=false:=by decide):PE X (.Call (.Name x p) [] [] pos) (oE C sp dvs E ky):=by
 intro pins s σ H Q I h;refine YH (gj I hg hm ?_ hdb);exact PySem.W.callWith_K0 I.kIn M.kp (rn (us:=[]) M F hr hb hd hx I .nil h)
end
def gG(wi:TI)(n:Nat)(g:TG)(ks:List Nat)(tt:TT)(te:TE):TE:=fun σ H Q=>wi σ H fun J H1=>∀D,H1 D=none->∃W:Nat->Nat->List V->Hp->Prop,(∃m,W 0 m [] (upd H1 D (.lst []))) /\
 ∀i m ys H2,W i m ys H2->H2 D=some (.lst ys)/\((J.stop i H2/\Q (.ref D) H2)\/(J.go i H2/\∀x H3,J.yld i H2 x H3->∀zs:St,zs.length=n ->
  g x (zs++ks.map fun k=>(σ[k]?).join) H3 fun σ4 H4=>(∃zs4:St,zs4.length=n/\σ4=zs4++ks.map fun k=>(σ[k]?).join) /\
   tt σ4 H4 fun b H5=>if b=true then te σ4 H5 fun y H6=>H6 D=some (.lst ys)/\ys.length<sizeLine/\∃m',m'<m/\W (i+1) m' (ys++[y]) (upd H6 D (.lst (ys++[y])))
    else ∃m',m'<m/\W (i+1) m' ys H5))
structure Jy(gd:Cx->Prop)(P:Program)(w:World)(K:W.Frag)(tg:Expr)(J:It)(fp:List Addr)(it:Addr)(tn:Nat->Heap->Prop):Prop where
 mem:it∈fp
 obj:∀i h,tn i h->∀b∈fp,∃o,h.get? b=some o/\∀v,o.data ≠ .cell v
 keep:∀i h h',tn i h->(∀b∈fp,∀o,h.get? b=some o->h'.get? b=some o)->tn i h'
 item:∀(X:Cx),X.prog=P->X.w=w->X.K=K->gd X->∀(i:Nat) (pins:List (Addr × Obj)) (s:Shared) (σ:St) (H:Hp) (E:Value->Shared->Prop),Inv X pins σ H s->(∀b∈fp,qc X pins H b)->tn i s.heap->J.go i H ->
  wpAny (model P w) X.A (pyNext (.ref it)) (fun r s1=>∃u,r=some u /\
   wpAny (model P w) X.A (Xi tg (.ref it) u) (fun _ s2=>∃x H',Inv X pins σ H' s2/\RelV x u/\J.yld i H x H'/\tn (i+1) s2.heap/\∀b∈fp,H' b=none) E s1) E s
 done:∀(X:Cx),X.prog=P->X.w=w->X.K=K->gd X->∀(i:Nat) (pins:List (Addr × Obj)) (s:Shared) (σ:St) (H:Hp) (E:Value->Shared->Prop),Inv X pins σ H s->(∀b∈fp,qc X pins H b)->tn i s.heap->J.stop i H ->
  wpAny (model P w) X.A (pyNext (.ref it)) (fun r s1=>r=none/\Inv X pins σ H s1) E s
 self:∀(A:Around) (i:Nat) (s:Shared) (Q:Value->Shared->Prop) (E:Value->Shared->Prop),tn i s.heap->Q (.ref it) s->wpAny (model P w) A (pyIter (.ref it)) Q E s
def PIG(gd:Cx->Prop)(X:Cx)(tg iter:Expr)(wi:TI):Prop:=
 ∀(pins:List (Addr × Obj)) (s:Shared) (σ:St) (H:Hp) (R:It->Hp->Prop),Inv X pins σ H s->wi σ H R ->
  wpAny (model X.prog X.w) X.A (eval iter X.env) (fun v s1=>wpAny (model X.prog X.w) X.A (pyIter v) (fun itv s2=>∃(it:Addr) (fp:List Addr) (tn:Nat->Heap->Prop) (J:It) (H':Hp),itv = .ref it/\Inv X pins σ H' s2/\Jy gd X.prog X.w X.K tg J fp it tn/\tn 0 s2.heap/\(∀b∈fp,qc X pins H' b)/\R J H') X.xe s1) X.xe s
theorem zb(h:PI X tg iter wi):PIG (fun X=>X.calm=true) X tg iter wi:=fun pins s σ H R I q=>
 Zs (h pins s σ H R I q) (fun v s1 h1=>Zs h1 (fun itv s2 hq_=>(by obtain⟨it,fp,tn,J,H',e,I2,T,r⟩:=hq_;exact⟨it,fp,tn,J,H',e,I2,⟨T.mem,T.obj,T.keep,T.item,T.done,T.self⟩,r⟩)) fun _ _ z=>z) fun _ _ z=>z
noncomputable def dh(X:Cx)(N:List Str)(scope:Scope)(cl:List (Str × Addr))(fnc:Str->Bool)(C:Addr)(s₂:Shared)(H₂:Hp)(ex:List Addr)(pn:List (Addr × Obj)):Cx:=
 { ik X N scope cl C s₂ H₂ ex pn with fn:=fnc }
structure lF(X:Cx)(scope:Scope)(cl:List (Str × Addr))(cl2:Addr->List (Str × Addr))(fnc:Str->Bool)(fr:List Str):Prop where
 clos:closureFor scope X.env=pure cl
 kind:scope.kind = .function
 names:∀y∈scope.names,y.2 = .local->scope.names.lookup y.1=some .local
 lay:∀(M:Model) (A:Around) (E:Value->Shared->Prop) (Q:Env->Shared->Prop) (s:Shared),(∀h₁ t₁ m,h₁.Ns s.heap.objs.size m->(∀b o,s.heap.get? b=some o->h₁.get? b=some o)->(∀y c,fnc y=true->(cl2 s.heap.objs.size).lookup y=some c->s.heap.objs.size<c/\h₁.IsCell c none) ->
  Q { scope:=scope,locals:=s.heap.objs.size,globals:=X.env.globals,cells:=cl2 s.heap.objs.size,qual:=X.env.qual,func:=none,code:=X.env.code,frame:=X.env.frame,builtins:=X.env.builtins } { s with heap:=h₁,toks:=t₁ })->wpAny M A (newFunctionEnv scope X.env.globals cl [] X.env.qual none .none (some X.env)) Q E s
 only:∀C y,((relabel scope X.env).names.lookup y=some .cell\/(relabel scope X.env).names.lookup y=some .free)->y∈fr\/∃c,(cl2 C).lookup y=some c
 sub:∀C y c,(cl2 C).lookup y=some c->fnc y=false->X.env.cells.lookup y=some c
 cell:∀C,∀y∈fr,(cl2 C).lookup y=X.env.cells.lookup y
 inj:∀C y z c,fnc y=true->fnc z=true->(cl2 C).lookup y=some c->(cl2 C).lookup z=some c->y=z
 kinds:∀y∈fr,X.env.kindOf y=some .cell\/X.env.kindOf y=some .free
 kin:∀y∈fr,(relabel scope X.env).names.lookup y=some .cell\/(relabel scope X.env).names.lookup y=some .free
theorem qV(hc:∀C s₂ H₂ ex pn,gd (dh X (xs++fr) scope (cl2 C) fnc C s₂ H₂ ex pn))(S:lF X scope cl cl2 fnc fr)
 (hks:ks.map (fun k=>X.N[k]?)=fr.map some) (hi:PIG gd X tg iter wi) (hg:∀C s₂ H₂ ex pn,PG (dh X (xs++fr) scope (cl2 C) fnc C s₂ H₂ ex pn) tg g)
 (ht:∀C s₂ H₂ ex pn,PTs (dh X (xs++fr) scope (cl2 C) fnc C s₂ H₂ ex pn) ifs tt) (he:∀C s₂ H₂ ex pn,PE (dh X (xs++fr) scope (cl2 C) fnc C s₂ H₂ ex pn) elt te)
 (hs:∀x,Y0 iter X.env x=pure x:=by intro _;rfl)
 (I:Inv X pins σ H s) (h:gG wi xs.length g ks tt te σ H Q) (use:Option (Value->Sem Unit)) (Qp:Value->Shared->Prop)
 (hend:∀(D C:Addr) (H':Hp) (s':Shared) (mC:Str->Option Value) (f:Flow),Inv X pins σ H' s'->qc X pins H' C->s'.heap.Ns C mC->Q (.ref D) H'->compPost (model X.prog X.w) X.A X.xe use Qp (.ref D) C (.ok f) s') :
 wpAny (model X.prog X.w) X.A (comprehension (.ListComp elt [⟨tg,iter,ifs,0⟩] scope pos) scope X.env (firstIterPos [⟨tg,iter,ifs,0⟩] pos) (newList []) false (firstIter [⟨tg,iter,ifs,0⟩] X.env) use) Qp X.xe s:=by
 refine wpAny_comprehension_free (use:=use) rfl hs S.clos S.kind S.names (thn (hi pins s σ H _ I h) fun v s1 h1=>thn h1 fun itv s2 h2=>?_);obtain⟨it,fp,tn,J,H2,e,I2,T,st2,f2,hW⟩:=h2;subst e;refine Z5 ?_;have hD0:H2 s2.heap.objs.size=none:=I2.hok.fresh (xU _);obtain⟨W,⟨m0,w0⟩,turn⟩:=hW s2.heap.objs.size hD0;generalize hs3:s2.heap.push { cls:=.type "list",dict:=none,data:=.seq ([]:List Value).toArray }=g3;have hsz3:g3.objs.size=s2.heap.objs.size+1:=by rw[<- hs3,Heap.size_push]
 have up3:∀b o,s2.heap.get? b=some o->g3.get? b=some o:=fun b o e=>by rw[<- hs3];exact Heap.get?_push_of_some _ e
 have gD:g3.get? s2.heap.objs.size=some { cls:=.type "list",dict:=none,data:=.seq ([]:List Value).toArray }:=by rw[<- hs3];exact Heap.get?_push_size _ rfl
 have I3:Inv X pins σ (upd H2 s2.heap.objs.size (.lst [])) { s2 with heap:=g3 }:=I2.laid (t':=s2.toks) up3 (xU _) ⟨by simp,[],0,.nil,gD⟩;refine S.lay _ _ _ _ _ fun h₁ t₁ m₁ hns₁ keep4 hnew=>?_;dsimp only at hns₁ keep4 hnew |-
 have hsub:∀y c,(cl2 g3.objs.size).lookup y=some c->X.env.cells.lookup y=some c\/(fnc y=true/\g3.objs.size<c/\h₁.IsCell c none):=fun y c e=>by
  cases hf:fnc y with
  |false=>exact .inl (S.sub _ y c e hf)
  |true=>exact .inr ⟨rfl,hnew y c hf e⟩
 have hCn:(upd H2 s2.heap.objs.size (.lst [])) g3.objs.size=none:=I3.hok.fresh (xU _);have fpD:∀b∈fp,b≠s2.heap.objs.size:=fun b hb z=>by
  obtain⟨o,e,_⟩:=T.obj 0 _ st2 b hb;exact absurd (wF e) (by rw[z];exact ZJ _)
 have fpC:∀b∈fp,b≠g3.objs.size:=fun b hb z=>by
  obtain⟨o,e,_⟩:=T.obj 0 _ st2 b hb;exact absurd (wF (up3 b o e)) (by rw[z];exact ZJ _)
 have fpN:∀b∈fp,(upd H2 s2.heap.objs.size (.lst [])) b=none:=fun b hb=>by rw[ai (fpD b hb)];exact(f2 b hb).1
 have old:∀y c,X.env.cells.lookup y=some c->c<g3.objs.size:=fun y c e=>by
  obtain⟨v,q⟩:=I3.cell y c e;exact q.lt
 have cfp:∀b∈fp,∀y c,(cl2 g3.objs.size).lookup y=some c->c≠b:=fun b hb y c e=>by
  rcases hsub y c e with q|⟨_,l,_⟩
  ·exact(f2 b hb).2.2.2.2.1 y c q
  ·obtain⟨o,e,_⟩:=T.obj 0 _ st2 b hb
   exact fun z=>absurd (wF (up3 b o e)) (by rw[<- z];exact Nat.not_lt.mpr (Yu l))
 have Ok:(dh X (xs++fr) scope (cl2 g3.objs.size) fnc g3.objs.size { s2 with heap:=g3 } (upd H2 s2.heap.objs.size (.lst [])) fp (X.pn++pins)).Ok:=by
  refine⟨I.ok.mod,S.kind,I.ok.glob,I.ok.blt,xU _,fun y z c e1 e2=>?_,fun y hy=>?_,fun y c z e=>Yu (hnew y c z e).1,I.ok.hd,I.ok.frames,.inl rfl,fun b hb=>⟨fpC b hb,cfp b hb⟩,I3.bs,Zt I.ok.bsz I3.sz,fun b o e hb=>?_,fun b hb z=>?_,I3.stack,I3.stkFree⟩
  ·rcases hsub y c e1 with q|⟨q,l,_⟩ <;> rcases hsub z c e2 with q'|⟨q',l',_⟩
   ·exact I.ok.inj y z c q q'
   ·exact absurd (old y c q) (Nat.not_lt.mpr (Yu l'))
   ·exact absurd (old z c q') (Nat.not_lt.mpr (Yu l))
   ·exact S.inj _ y z c q q' e1 e2
  ·rcases S.only _ y hy with hy|hy
   ·obtain⟨c,e⟩:=I.ok.has y (S.kinds y hy)
    exact⟨c,(S.cell _ y hy).trans e⟩
   ·exact hy
  ·rcases(f2 b hb).2.2.2.1 with q|q
   ·exact I.ok.noex b o e q
   ·exact absurd (wF e) (Nat.not_lt.mpr (Zt I.ok.bsz q))
  ·rcases zO.mp (I3.stkSub b z) with q|q
   ·exact(f2 b hb).2.1 q
   ·exact(f2 b hb).2.2.1 q
 have I4:Inv (dh X (xs++fr) scope (cl2 g3.objs.size) fnc g3.objs.size { s2 with heap:=g3 } (upd H2 s2.heap.objs.size (.lst [])) fp (X.pn++pins)) [] ((xs.map fun _=>none)++ks.map fun k=>(σ[k]?).join) (upd H2 s2.heap.objs.size (.lst [])) { s2 with heap:=h₁,toks:=t₁ }:=by
  refine⟨Ok,rfl,I3.bare,Un.kept keep4,⟨_,hns₁,fun i y v e1 e2 e3=>?_⟩,fun y c e=>?_,hCn,fun y c e=>?_,fun p hp=>?_,I3.hok.kept keep4,?_⟩
  ·have e1':(xs++fr)[i]? = some y:=e1
   by_cases hix:i<xs.length
   ·rw[List.getElem?_append_left (by simpa using hix)]at e2
    simp[hix]at e2
   ·obtain⟨i,rfl⟩:∃i',i=xs.length+i':=⟨i-xs.length,by lia⟩
    rw[List.getElem?_append_right (by lia)]at e1';rw[List.getElem?_append_right (by simp)]at e2;have e1':fr[i]? = some y:=by simpa using e1'
    have e2:(ks.map fun k=>(σ[k]?).join)[i]? = some (some v):=by simpa using e2
    have hy:y∈fr:=vW e1';have ek:(ks.map (fun k=>X.N[k]?))[i]? = (fr.map some)[i]?:=by rw[hks]
    rw[List.getElem?_map,List.getElem?_map,e1']at ek;have e2':=e2;rw[List.getElem?_map]at e2';cases hk:ks[i]? with
    |none=>rw[hk]at ek;cases ek
    |some k=>
     rw[hk]at ek e2';have ek':X.N[k]? = some y:=by simpa using ek
     have e2'':(σ[k]?).join=some v:=by simpa using e2'
     have es:σ[k]? = some (some v):=by
      cases q:σ[k]? with
      |none=>rw[q]at e2'';cases e2''
      |some z=>rw[q]at e2'';rw[show z=some v from e2'']
     obtain⟨m,hn,hl⟩:=I3.loc;have hkd:=S.kinds y hy;obtain⟨u,r,lk⟩:=hl k y v ek' es (by rcases hkd with q|q;exact .inr (.inl q);exact .inr (.inr q));refine⟨u,r,.inr ⟨S.kin y hy,?_⟩⟩;rcases lk with ⟨q,_⟩|⟨_,c,ec,hcell⟩
     ·rcases hkd with z|z <;> (rw[q]at z;cases z)
     ·obtain⟨o,ho,hd⟩:=hcell
      exact⟨c,(S.cell _ y hy).trans ec,o,keep4 _ _ ho,hd⟩
  ·rcases hsub y c e with q|⟨_,_,q⟩
   ·obtain⟨v,o,ho,hd⟩:=I3.cell y c q
    exact⟨v,o,keep4 _ _ ho,hd⟩
   ·exact⟨_,q⟩
  ·rcases hsub y c e with q|⟨_,l,_⟩
   ·exact I3.freeC y c q
   ·exact I3.hok.fresh (Yu l)
  ·have hp':p∈X.pn++pins:=by simpa [dh,ik] using hp
   obtain⟨a1,a2,a3,a4,a5⟩:=I3.pin p hp';refine⟨keep4 _ _ a1,a2,tG (wF a1),fun z=>?_,a5⟩;rcases zO.mp (I3.stkSub p.1 z) with q|q
   ·exact a3 q
   ·exact a4 q
  ·show((xs.map fun _=>none)++ks.map _).length=(xs++fr).length
   have:=congrArg ZO hks;simp at this;simp[this]
 have st4:tn 0 h₁:=T.keep 0 _ _ st2 fun b hb o e=>keep4 _ _ (up3 _ _ e);have stat:∀ {H':Hp},(∀b∈fp,H' b=none)->∀b∈fp,qc (dh X (xs++fr) scope (cl2 g3.objs.size) fnc g3.objs.size { s2 with heap:=g3 } (upd H2 s2.heap.objs.size (.lst [])) fp (X.pn++pins)) [] H' b:=fun hn b hb=>
  ⟨hn b hb,fpC b hb,Ok.exfs b hb,.inl hb,cfp b hb,fun p hp=>(f2 b hb).2.2.2.2.2 p (by simpa [dh,ik] using hp)⟩
 have loop:codeAny (model X.prog X.w) X.A (.compLoop (.ListComp elt [⟨tg,iter,ifs,0⟩] scope pos) 0 (.ref it) (.ref s2.heap.objs.size) (compEnvC scope (cl2 g3.objs.size) g3.objs.size X.env))
  (compPost (model X.prog X.w) X.A X.xe use Qp (.ref s2.heap.objs.size) g3.objs.size) { s2 with heap:=h₁,toks:=t₁ }:=by
  refine sJ (fun n s'=>∃i ys σ' H',Inv (dh X (xs++fr) scope (cl2 g3.objs.size) fnc g3.objs.size { s2 with heap:=g3 } (upd H2 s2.heap.objs.size (.lst [])) fp (X.pn++pins)) [] σ' H' s'/\(∃zs,zs.length=xs.length/\σ'=zs++ks.map fun k=>(σ[k]?).join)/\tn i s'.heap/\(∀b∈fp,H' b=none)/\W i n ys H') ?_ m0
   ⟨0,[],_,_,I4,⟨xs.map fun _=>none,by simp,rfl⟩,st4,fpN,w0⟩
  rintro n s' ⟨i,ys,σ',H',I5,⟨zs,hzs,rfl⟩,st5,fr5,w5⟩;obtain⟨hD,hor⟩:=turn i n ys H' w5;rcases hor with ⟨stop,qn⟩|⟨go,step⟩
  ·refine Zs (T.done (dh X (xs++fr) scope (cl2 g3.objs.size) fnc g3.objs.size { s2 with heap:=g3 } (upd H2 s2.heap.objs.size (.lst [])) fp (X.pn++pins)) rfl rfl rfl (hc _ _ _ _ _) i [] s' _ H' (fun _ _=>False) I5 (stat fr5) st5 stop) (fun r s6 hq_=>?_) (fun _ _ f=>f.elim)
   obtain⟨hr,I6⟩:=hq_;subst hr;obtain⟨mC,hnC,_⟩:=I6.loc;have tr:∀b o,b≠g3.objs.size->s6.heap.get? b=some o->s6.heap.get? b=some o:=fun b o hb e=>e;have U:=I6.base;have neC:∀b o,g3.get? b=some o->b≠g3.objs.size:=fun b o e=>tG (wF e);have U':Un (frs X.stack) fp (upd H2 s2.heap.objs.size (.lst [])) H' g3 s6.heap:=⟨fun b o q n hb hx=>tr b o (neC b o q) (U.keep b o q n hb hx),fun b o q n hb hx=>let ⟨sl,e⟩:=U.slot b o q n hb hx;⟨sl,tr _ _ (neC b o q) e⟩,U.free,fun b o q hx=>let ⟨o',e⟩:=U.there b o q hx;⟨o',tr _ _ (neC b o q) e⟩,U.tups,U.frzs,U.tbls⟩;have ok':HOk X.prog X.w H' s6.heap:=fun a o e=>(I6.hok a o e).stay (fun b u hb q=>tr b u (fun z=>by
    have fC:H' g3.objs.size=none:=I6.free;rcases hb with r|r
    ·rw[<- z,r,e]at fC;cases fC
    ·rw[<- z,r]at fC;cases fC) q) (fun _ q=>q) fun _ _ q=>q
   have J6:Inv X pins σ H' s6:=I3.call' (s':=s6) (ch:=fp) I6.os U' ok' I6.bare fun b hb=>⟨(f2 b hb).2.2.2.1,(f2 b hb).2.1,(f2 b hb).2.2.2.2.1,(f2 b hb).2.2.2.2.2⟩;exact hend s2.heap.objs.size g3.objs.size H' s6 mC _ J6 (I3.fpOk (xU _) I6.free) hnC qn
  ·refine Zs (T.item (dh X (xs++fr) scope (cl2 g3.objs.size) fnc g3.objs.size { s2 with heap:=g3 } (upd H2 s2.heap.objs.size (.lst [])) fp (X.pn++pins)) rfl rfl rfl (hc _ _ _ _ _) i [] s' _ H' (fun _ _=>False) I5 (stat fr5) st5 go) (fun r s6 hq_=>?_) (fun _ _ f=>f.elim)
   obtain⟨u,hr,h6⟩:=hq_;subst hr;refine Zs h6 (fun _ s7 hq_=>?_) (fun _ _ f=>f.elim);obtain⟨xv,H7,I7,r7,y7,st7,fr7⟩:=hq_;have I7':=I7.pinned (stat fr7) (T.obj _ _ st7);have pinsTo:∀ {σ9:St} {H9:Hp} {s9:Shared},Inv (dh X (xs++fr) scope (cl2 g3.objs.size) fnc g3.objs.size { s2 with heap:=g3 } (upd H2 s2.heap.objs.size (.lst [])) fp (X.pn++pins)) ([]++p9 fp s7.heap) σ9 H9 s9->tn (i+1) s9.heap/\∀b∈fp,H9 b=none:=fun {σ9 H9 s9} I9=>
    ⟨T.keep _ _ _ st7 fun b hb o e=>(I9.pin (b,o) (wC _ (wC _ (ix hb e)))).1,fun b hb=>by
     obtain⟨o,e,d⟩:=T.obj _ _ st7 b hb;exact(I9.pin (b,o) (wC _ (wC _ (ix hb e)))).2.1⟩
   refine Zs (hg _ _ _ _ _ _ s7 _ H7 xv u _ I7' r7 (step xv H7 y7 zs hzs)) (fun _ s8 hq_=>?_) (fun _ _ f=>f.elim);obtain⟨σ8,H8,I8,⟨zs4,hz4,e8⟩,q8⟩:=hq_;subst e8;refine Zs (ht _ _ _ _ _ _ s8 _ H8 _ I8 q8) (fun ok s9 hq_=>?_) (fun _ _ f=>f.elim);obtain⟨H9,I9,q9⟩:=hq_;cases ok with
   |false=>
    rw[if_neg vX]at q9 |-
    obtain⟨m',hm,w9⟩:=q9;obtain⟨t9,f9⟩:=pinsTo I9;exact⟨m',hm,i+1,ys,_,H9,I9.unpinned,⟨zs4,hz4,rfl⟩,t9,f9,w9⟩
   |true=>
    rw[if_pos rfl]at q9 |-
    refine Zs (he _ _ _ _ _ _ s9 _ H9 _ I9 q9) (fun yv s10 hq_=>?_) (fun _ _ f=>f.elim);obtain⟨y,H10,I10,r10,hD10,hlen,m',hm,w10⟩:=hq_;refine Zs (dX (X:=dh X (xs++fr) scope (cl2 g3.objs.size) fnc g3.objs.size { s2 with heap:=g3 } (upd H2 s2.heap.objs.size (.lst [])) fp (X.pn++pins)) _ s10 _ H10 (.ref s2.heap.objs.size) [y] (.ref s2.heap.objs.size) [yv]
     (fun _ H'=>H'=upd H10 s2.heap.objs.size (.lst (ys++[y]))) I10 rfl (.cons r10 .nil) ⟨_,ys,y,rfl,rfl,hD10,hlen,rfl⟩) (fun _ s11 ⟨_,H11,I11,_,e11⟩=>?_) (fun _ _ f=>f.elim)
    subst e11;obtain⟨t11,f11⟩:=pinsTo I11;exact⟨m',hm,i+1,ys++[y],_,_,I11.unpinned,⟨zs4,hz4,rfl⟩,t11,f11,w10⟩
 exact codeAny_compStart_list loop (T.self X.A 0 _ _ _ st4 loop)
theorem CompScope.cs(S:CompScope X scope cl x fr):lF X scope cl (fun _=>cl) (fun _=>false) fr:=
 ⟨S.clos,S.kind,S.names,fun M A E Q s k=>wpAny_newFunctionEnv S.nocell (by intro y hy;simp at hy) (fun h₁ hn hs=>k h₁ _ _ hn (fun b o e=>(hs.2 b (tG (wF e))).trans (Heap.get?_push_of_some _ e)) fun _ _ z=>nomatch z) S.kind,
  fun _ y hy=>.inl (S.only y hy),fun _ _ _ e _=>S.sub e,fun _ _ h=>S.cell h,(fun _ _ _ _ z=>nomatch z),S.kinds,S.kin⟩
theorem b_(hc:X.calm=true)(S:CompScope X scope cl x fr)
 (hks:ks.map (fun k=>X.N[k]?)=fr.map some) (hi:PI X tg iter wi) (hg:∀C s₂ H₂ ex pn,PG (ik X (xs++fr) scope cl C s₂ H₂ ex pn) tg g)
 (ht:∀C s₂ H₂ ex pn,PTs (ik X (xs++fr) scope cl C s₂ H₂ ex pn) ifs tt) (he:∀C s₂ H₂ ex pn,PE (ik X (xs++fr) scope cl C s₂ H₂ ex pn) elt te)
 (hs:∀x,Y0 iter X.env x=pure x:=by intro _;rfl):PE X (.ListComp elt [⟨tg,iter,ifs,0⟩] scope pos) (gG wi xs.length g ks tt te):=by
 intro pins s σ H Q I h;rw[eval_ListComp];refine qV (gd:=fun X=>X.calm=true) (cl2:=fun _=>cl) (fnc:=fun _=>false) (fun _ _ _ _ _=>hc) S.cs hks (zb hi) hg ht he hs I h none _ fun D C H' s' mC f J fp hn q=>⟨mC,hn,fun h' sb=>?_⟩;obtain⟨f0,f1,f2,f3,f4,f5⟩:=fp;exact⟨.ref D,H',J.turned (t':=s'.toks) (fun b o hb e=>(sb.2 b hb).trans e) f0 f1 f3 f4 f5,rfl,q⟩
theorem DL(hN:X.N.Nodup)(hi0:X.N[i0]? = some x0)(hx0:Loc X.env.scope x0)(hc:X.calm=true)(S:lF X scope cl cl2 fnc fr)
 (hks:ks.map (fun k=>X.N[k]?)=fr.map some) (hi:PI X tg iter wi) (hg:∀C s₂ H₂ ex pn,PG (dh X (xs++fr) scope (cl2 C) fnc C s₂ H₂ ex pn) tg g)
 (ht:∀C s₂ H₂ ex pn,PTs (dh X (xs++fr) scope (cl2 C) fnc C s₂ H₂ ex pn) ifs tt) (he:∀C s₂ H₂ ex pn,PE (dh X (xs++fr) scope (cl2 C) fnc C s₂ H₂ ex pn) elt te)
 (hs:∀x,Y0 iter X.env x=pure x:=by intro _;rfl)
 (hsw:swapsWith (.ListComp elt [⟨tg,iter,ifs,0⟩] scope pos) (some (.Name x0 px0)) pos0.line X.env=pure true:=by rfl) (hf:X.fn x0=true\/X.env.scope.names.lookup x0=some .local:=by first|exact .inl rfl|exact .inr rfl|assumption) :
 PS X (.Assign [.Name x0 px0] (.ListComp elt [⟨tg,iter,ifs,0⟩] scope pos) pos0) (z5 (gG wi xs.length g ks tt te) (gZ i0)):=by
 intro pins s σ H D I h;rw[exec_Assign_Name_used _ _ _ _ hsw];refine zZ (YC (zZ (zZ ?_)));refine qV (gd:=fun X=>X.calm=true) (fun _ _ _ _ _=>hc) S hks (zb hi) hg ht he hs I h (some (assign (.Name x0 px0) X.env)) _ fun D' C H' s' mC f J fp hn q=>?_;obtain⟨f0,f1,f2,f3,f4,f5⟩:=fp;refine wpAny_assign_Name (q_ J hN hi0 hx0 (v:=.ref D') rfl (fun s7 I7 hq_=>?_) hf);obtain⟨a,sb,ha⟩:=hq_;have hCa:C≠a:=by
  rcases ha with e|e
  ·rw[e];exact f1
  ·exact fun z=>f4 _ _ e z.symm
 refine⟨mC,hn.sameBut sb hCa,fun h' sb2=>?_⟩;have J2:=I7.turned (t':=s7.toks) (fun b o hb e=>(sb2.2 b hb).trans e) f0 f1 f3 f4 f5;exact xc (xc ⟨_,H',J2,q⟩)
theorem v8(hN:X.N.Nodup)(hi0:X.N[i0]? = some x0)(hx0:Loc X.env.scope x0)(hc:X.calm=true)(S:CompScope X scope cl x fr)
 (hks:ks.map (fun k=>X.N[k]?)=fr.map some) (hi:PI X tg iter wi) (hg:∀C s₂ H₂ ex pn,PG (ik X (xs++fr) scope cl C s₂ H₂ ex pn) tg g)
 (ht:∀C s₂ H₂ ex pn,PTs (ik X (xs++fr) scope cl C s₂ H₂ ex pn) ifs tt) (he:∀C s₂ H₂ ex pn,PE (ik X (xs++fr) scope cl C s₂ H₂ ex pn) elt te)
 (hs:∀x,Y0 iter X.env x=pure x:=by intro _;rfl)
 (hsw:swapsWith (.ListComp elt [⟨tg,iter,ifs,0⟩] scope pos) (some (.Name x0 px0)) pos0.line X.env=pure true:=by rfl) (hf:X.fn x0=true\/X.env.scope.names.lookup x0=some .local:=by first|exact .inl rfl|exact .inr rfl|assumption) :
 PS X (.Assign [.Name x0 px0] (.ListComp elt [⟨tg,iter,ifs,0⟩] scope pos) pos0) (z5 (gG wi xs.length g ks tt te) (gZ i0)):=DL (cl2:=fun _=>cl) (fnc:=fun _=>false) hN hi0 hx0 hc S.cs hks hi hg ht he hs hsw hf
end L2
namespace L2
open PySem PySem.Spec PyProof.Rows Builtin Builtin.Str
section
variable{prog:Program}{w:World}{A:Around}{E:Value->Shared->Prop}{s:Shared}{t:Addr}
theorem AH(hh:A.handled=none)(ht:s.heap.IsList t (intItems xs))
 (h:∀h' tk t',(∀b o,s.heap.get? b=some o->h'.get? b=some o)->Q (.int (preSum (numAt xs) xs.size) t') { s with heap:=h',toks:=tk }) :
 wpAny (model prog w) A (call (.builtin "sum") [.ref t]) Q E s:=by
 obtain⟨o,ho,hc,n,hd⟩:=id ht;have hne:t≠s.heap.objs.size:=tG (wF ho);have hsz:(intItems xs).size=xs.size:=by simp[intItems]
 have W:=(Walks.list (prog:=prog) (w:=w) (A:=A.in1) hh s.heap.objs.size t hne (intItems xs)).toS;rw[hsz]at W;refine call_sum_walkAnyS (wpAny_pyIter_list ht ?_);refine⟨s.heap.objs.size,_,_,_,_,_,_,numAt xs,rfl,W,⟨⟨_,Heap.get?_push_size _ rfl,rfl,rfl⟩,ht.at fun o e=>Heap.get?_push_of_some _ e⟩,fun b hb=>?_,fun i v hP=>intItems_at hP,fun s' t' hm=>?_⟩
 ·rcases zO.mp hb with rfl|hb
  ·exact wF (Heap.get?_push_size _ rfl)
  ·obtain rfl:=zz.mp hb
   exact wF (Heap.get?_push_of_some _ ho)
 ·obtain⟨h',g',d',tk',os'⟩:=s'
  have e1:g'=s.gens:=hm.gens;have e2:d'=s.drawn:=hm.drawn;have e3:os'=s.os:=hm.os;subst e1 e2 e3;exact h h' tk' t' fun b o e=>hm.heap b o (fun hb=>absurd (wF e) ((zz.mp hb) ▸ ZJ _)) (Heap.get?_push_of_some _ e)
end
section
variable{X:Cx}{e a b c:Expr}{pos:Pos}
def JG(K:W.Frag):List V->Hp->VK->Prop
 | [.ref p],H,Q=>∃ns:List Int,(SqL K H p (ns.map V.int)\/SqT K H p (ns.map V.int))/\Q (.int ns.sum) H
 |_,_,_=>False
theorem En(K:W.Frag)(hc:X.calm=true)(hK:X.K=K:=by rfl):CallR X (.builtin "sum") (JG K):=by
 subst hK;intro pins s σ H xs us Q I r h;rcases xs with _|⟨e_1,r_1⟩
 ·exact(id h:False).elim
 cases e_1 with
 |ref p=>
  cases r_1 with
  |nil=>
   obtain⟨ns,hq,q⟩:=h;rcases hq with hq|hq
   ·obtain⟨u,rfl,rx⟩:=d5 r
    cases (show u=wU p from rx);obtain⟨its,r',pl,hz⟩:=I.list hq;have hi:=pD r';obtain⟨ys,hy⟩:=hi.allInts.items;have hn:numsOf its.toArray.toList=ns:=by rw[show its.toArray.toList=its from rfl,hi.numsOf]
    have pl':=pl.isList;rw[hy]at pl' hn;rw[nums_intItems]at hn;refine AH (I.ok.hd hc) pl' fun h' tk t' hk=>?_;rw[preSum_eq,ZG (by simp),hn];exact⟨.int ns.sum,H,I.kept hk,⟨_,rfl⟩,q⟩
   ·exact sy hc pins s σ H _ us Q I r ⟨p,ns,rfl,hq,q⟩
  |cons=>exact(id h:False).elim
 |_=>exact(id h:False).elim
def Ke(K:W.Frag)(neg:Bool):R2
 |x,.ref p,H,Q=>∃xs,(SqL K H p xs\/SqT K H p xs)/\eh x=true/\xs.all eh=true/\Q (.bl (neg ^^ inV x xs)) H
 |_,_,_,_=>False
theorem zC(K:W.Frag)(hK:X.K=K:=by rfl):OpR X (Zq .NotIn) (Ke K true):=by
 subst hK;refine sI.imp fun x y H Q h=>?_;cases y with
 |ref v_1=>
  obtain⟨xs,h1,h2,h3,q⟩:=h;exact⟨_,xs,rfl,h1,h2,h3,by simpa using q⟩
 |_=>exact(id h:False).elim
def GI:R2
 | .str x,.int n,H,Q=>((cs x).length<=1000/\0<=n/\n<=100)/\Q (T ((Zm n.toNat (cs x)).flatten)) H
 |_,_,_,_=>False
theorem Er:OpR X (binaryOp .Mult) GI:=by
 intro pins s σ H x y v u Q I rx ry h;cases x with
 |str x=>
  cases y with
  |int n=>
   obtain⟨⟨h1,h2,h3⟩,q⟩:=h;obtain⟨t,rfl⟩:=rx;obtain⟨t',rfl⟩:=ry;have hl:x.length<=1000:=by simpa [cs,Yp] using h1
   refine PySem.SB.mul ⟨?_,fun hn _=>?_,fun hn _=>?_⟩ fun t2 k=>⟨.str (Txt.mul x n),H,I.tok _,⟨_,rfl⟩,by rw[Jp];exact q⟩
   ·rw[decide_eq_false (by lia),decide_eq_false (by lia)];rfl
   ·have h5:(1000:Int)<=(2 ^ 63-1) / n:=by
     rw[Yl (by lia)];lia
    lia
   ·have h4:x.length*n.toNat<=1000*100:=Nat.mul_le_mul hl (show n.toNat<=100 by lia)
    unfold tooLong;exact decide_eq_false (by rw[uz];lia)
  |_=>exact(id h:False).elim
 |_=>exact(id h:False).elim
section
variable{T name id:String}{r:V->List V->Hp->VK->Prop}{o:Expr}{to:TE}{apos cpos:Pos}
theorem Ev(K:W.Frag)(pa:PlainAttrs T)(slot:Slot T name id)(hty:typeOf (.builtin id)=pure (.type "method_descriptor"))(hm:MtR X id r)(ho:PE X o to)(hK:X.K=K:=by rfl)
 (hbase:YR o name X.env (eval o X.env)=eval o X.env:=by rfl) (hline:(apos.endLine==cpos.line)=true:=by rfl):PE X (.Call (.Attribute o name apos) [] [] cpos) (Jo K T r to):=by
 subst hK;exact Ja pa slot hty hm ho hbase hline
end
end
end L2
namespace L2
theorem eC{l:List PySem.Str}(h:l.Nodup):l.Nodup:=h
def sp5(f:V->V->V->V->V->Hp->VK->XK->Prop):Sp:=fun vs H Q E=>match vs with
 | [x,y,z,u,v]=>f x y z u v H Q E
 |_=>False
theorem sp5.inv{f}(h:sp5 f vs H Q E):∃x y z u v,vs=[x,y,z,u,v]/\f x y z u v H Q E:=by
 rcases vs with _|⟨x,_|⟨y,_|⟨z,_|⟨u,_|⟨v,_|⟨w,r⟩⟩⟩⟩⟩⟩
 rotate_left 5
 ·exact⟨_,_,_,_,_,rfl,h⟩
 all_goals exact(id h:False).elim
theorem sp5.len{f}(h:sp5 f vs H Q E):vs.length=5:=by obtain⟨_,_,_,_,_,rfl,_⟩:=sp5.inv h;rfl
theorem fY{n:PySem.Str}{v:V}{l:List (PySem.Str × V)}:vL n ((n,v)::l)=some v:=by simp[vL]
theorem aQ{n m:PySem.Str}{v:V}{l:List (PySem.Str × V)}(h:(n==m)=false:=by decide +kernel):vL n ((m,v)::l)=vL n l:=by simp[vL,h]
end L2
namespace L2
open PySem PySem.Spec PyProof.Rows
structure GP(k:Nat)(A:Around):Prop where
 dp:A.depth+3*k+5<recursionLimit
 un:A.units+16*k+200<cLine
structure GU(P:Program)(w:World)(K:W.Frag)(mg:Str->Option Value)(base:Heap)(CX:CXT)(k:Nat)(f:Addr)(fd:FuncData)(ps:List Str)(sp:Sp):Prop where
 len:∀vs H Q E,sp vs H Q E->vs.length=ps.length
 run:∀(A:Around) (outer:List Env) (s:Shared) (H:Hp) (args:Args) (us:List Value) (vs:List V) (Q:VK) (E:XK),GP k A->Env0 P w K mg base A outer s H->BindsTo s fd args (ps.zip us)->Vals vs us->sp vs H Q E ->
  codeAny (model P w) A (.call (.ref f) args) (CR CX outer P w H s Q E) s
noncomputable abbrev JT(CX:CXT)(P:Program)(w:World)(K:W.Frag)(mg:Str->Option Value)(base:Heap)(N:List Str)(qual:Str)(scope:Scope)(f:Addr)(cd:Value)(A:Around)(outer:List Env)(s:Shared)(H:Hp)(E:XK):Cx:=
 { cp CX P w K mg base N qual scope f cd A outer s H E with calm:=false }
end L2
namespace L2
theorem ex1(hl:us.length=1):∃a0,us=[a0]:=by
 cases us with
 |nil=>cases hl
 |cons a r=>exact⟨a,by rw[List.eq_nil_of_length_eq_zero (YI hl)]⟩
theorem ex2(hl:us.length=2):∃a0 a1,us=[a0,a1]:=by
 cases us with
 |nil=>cases hl
 |cons a r=>
  obtain⟨a1,e⟩:=ex1 (YI hl);exact⟨a,a1,by rw[e]⟩
theorem ex3(hl:us.length=3):∃a0 a1 a2,us=[a0,a1,a2]:=by
 cases us with
 |nil=>cases hl
 |cons a r=>
  obtain⟨a1,a2,e⟩:=ex2 (YI hl);exact⟨a,a1,a2,by rw[e]⟩
theorem ex4(hl:us.length=4):∃a0 a1 a2 a3,us=[a0,a1,a2,a3]:=by
 cases us with
 |nil=>cases hl
 |cons a r=>
  obtain⟨a1,a2,a3,e⟩:=ex3 (YI hl);exact⟨a,a1,a2,a3,by rw[e]⟩
theorem ex5(hl:us.length=5):∃a0 a1 a2 a3 a4,us=[a0,a1,a2,a3,a4]:=by
 cases us with
 |nil=>cases hl
 |cons a r=>
  obtain⟨a1,a2,a3,a4,e⟩:=ex4 (YI hl);exact⟨a,a1,a2,a3,a4,by rw[e]⟩
theorem ex6(hl:us.length=6):∃a0 a1 a2 a3 a4 a5,us=[a0,a1,a2,a3,a4,a5]:=by
 cases us with
 |nil=>cases hl
 |cons a r=>
  obtain⟨a1,a2,a3,a4,a5,e⟩:=ex5 (YI hl);exact⟨a,a1,a2,a3,a4,a5,by rw[e]⟩
end L2
namespace L2
open Lean Meta Simp
def Hx:List Name:=[`L2.Aj,`L2.tC,`L2.tOp,`L2.tUn,`L2.gEqN,`L2.qP,`L2.xu,`L2.Kd,`L2.fOr,`L2.J5,`L2.Dq,`L2.fPickT,`L2.Ju,`L2.K9,`L2.KL,`L2.tRetN,`L2.Gg,`L2.GT,`L2.z5,`L2.gZ,`L2.tIf,`L2.K4,`L2.tOr,`L2.KO,`L2.c_,`L2.ky,`L2.tCB,`L2.sw,`L2.Lu,`L2.JZ,`L2.Li,`L2.GN,`L2.tIsB,`L2.GA,`L2.zo,`L2.tSl,`L2.cs,`L2.Jl,`L2.CMul,`L2.HX,`L2.xN,`L2.Kj,`L2.gcE,`L2.Ky,`L2.tGc,`L2.tBM,`L2.Gm,`L2.fJoinRev,`L2.CDivB,`L2.yX,`L2.Ji,`L2.GH,`L2.Kv,`L2.Kb,`L2.Gn,`L2.GO,`L2.Gy,`L2.pP,`L2.oE,`L2.tDGet1,`L2.DU,`L2.GF,`L2.Jo,`L2.CF]
def Ir:List Name:=[`L2.Ai,`L2.gI,`L2.gIC,`L2.K8,`L2.gLe,`L2.gLt,`L2.eqS,`L2.kB,`L2.LX,`L2.KC,`L2.KZ,`L2.Hu,`L2.Es,`L2.gInt,`L2.gIx,`L2.sp0,`L2.sp1,`L2.sp2,`L2.sp3,`L2.sp4,`L2.asI,`L2.asT,`L2.asB,`L2.asR,`L2.tyV,`L2.gSt,`L2.gEn,`L2.gZf,`L2.gStr,`L2.Co,`L2.gIn,`L2.gSl,`L2.L8,`L2.gMulS,`L2.JU,`L2.gRep,`L2.Ld,`L2.BY,`L2.F9,`L2.DP,`L2.Lp,`L2.Kf,`L2.HW,`L2.A9,`L2.yJ,`L2.JG,`L2.GI]
def rdI:=wJ @L2.Fu (wJ @L2.Mf (wJ @L2.V.bl.injEq (wJ @L2.V.str.injEq (wJ @L2.AR (wJ @L2.JP (wJ @L2.Ho (wJ @L2.HJ (wJ @L2.Ht (wJ @L2.GZ (wJ @L2.nC (wJ @L2.vg (wJ @L2.wY (wJ @L2.yd (wJ @L2.wx (wJ @L2.tm (wJ @L2.u_ (wJ @L2.EJ (wJ @L2.lH (wJ @L2.ut (wJ @L2.wd (wJ @L2.u7 (wJ @L2.tV (wJ @L2.qD (wJ @L2.sk (wJ @L2.HF (wJ @L2.nH (wJ @L2.vk (wJ @L2.wZ (wJ @L2.yg (wJ @L2.wc (wJ @L2.uv (wJ @L2.vp (wJ @L2.FP (wJ @L2.mB (wJ @L2.tQ (wJ @L2.vF (wJ @L2.vE (wJ @L2.ua (wJ @L2.qo (wJ @L2.tO (wJ @L2.DX (wJ @L2.j9 (wJ @L2.qG (wJ @L2.tY (wJ @L2.sL (wJ @L2.qH (wJ @L2.oR (wJ @L2.qy (wJ @L2.Ep (wJ @L2.lK (wJ @L2.tL (wJ @L2.vn (wJ @L2.uR (wJ @L2.t7 (wJ @L2.qL (wJ @L2.sQ (wJ @L2.KW (wJ @L2.Jh (wJ @L2.Jj (wJ @L2.GW (wJ @L2.Fk (wJ @L2.IB (wJ @L2.E5 (wJ @L2.EN (wJ @L2.EF (wJ @L2.D9 (wJ @L2.G8 (wJ @L2.Em (wJ @L2.FQ (wJ @L2.E6 (wJ @true_and (wJ @and_true (wJ @and_self (wJ @true_or (wJ @or_true (wJ @decide_eq_true_eq (wJ @Bool.true_eq_false (wJ @Bool.false_xor (wJ @Bool.true_xor (wJ @Bool.not_true (wJ @Bool.not_false (wJ @Zb (wJ @Bool.not_eq_true' (wJ @decide_eq_false_iff_not @Classical.not_not))))))))))))))))))))))))))))))))))))))))))))))))))))))))))))))))))))))))))))))))))))
end L2
namespace L2
namespace Srt
open PySem PyProof.Rows
noncomputable def kv(κ:Keyed->Int)(xs:Array Keyed)(i:Nat):Int:=(xs[i]?.map κ).getD 0
def Up(κ:Keyed->Int)(xs:Array Keyed)(k:Nat):Prop:=∀i j,i<=j->j<k->kv κ xs i<=kv κ xs j
def Dn(κ:Keyed->Int)(xs:Array Keyed)(k:Nat):Prop:=∀i j,i<=j->j<k->kv κ xs j<=kv κ xs i
structure SB(kd:SortKind)(z:Array Keyed)(t:SortSt):Prop where
 pm:(arrOf t).Perm z
 kn:kindOf t=kd
 fl:failedOf t=none
 pn:pendingOf t = #[]
theorem SB.sz(b:SB kd z t):(arrOf t).size=z.size:=b.pm.size_eq
theorem SB.put(b:SB kd z t)(p:xs.Perm (arrOf t)):SB kd z (setArr t xs):=
 ⟨p.trans b.pm,b.kn,b.fl,b.pn⟩
theorem rg(h:i<xs.size):kv κ xs i=κ xs[i]:=by
 unfold kv;rw[Array.getElem?_eq_getElem h];rfl
theorem yZ(h:xs[i]? = ys[j]?):kv κ xs i=kv κ ys j:=by unfold kv;rw[h]
theorem DD(hs:u<xs.size)(hd:d<=u)(k:Nat) :
 kv κ (bubble xs u d) k=if k=u-d then kv κ xs u else if u-d<k/\k<=u then kv κ xs (k-1) else kv κ xs k:=by
 have e:=getElem?_bubble hs d hd k;by_cases h1:k=u-d
 ·rw[if_pos h1]at e |-
  exact yZ e
 ·rw[if_neg h1]at e |-
  by_cases h2:u-d<k/\k<=u
  ·rw[if_pos h2]at e |-
   exact yZ e
  ·rw[if_neg h2]at e |-
   exact yZ e
theorem Dk(hj:n<=xs.size)(hk:k<n) :
 kv κ (mirror xs 0 n ((n-0) / 2)) k=kv κ xs (n-1-k):=by
 have e:=getElem?_mirror_all (i:=0) hj k;rw[if_pos ⟨Zv _,hk⟩,Nat.zero_add]at e;exact yZ e
section
variable{prog:Program}{w:World}{A:Around}{E:Value->Shared->Prop}{s:Shared}{z:Array Keyed}{κ:Keyed->Int}{kd:SortKind}{t:SortSt}
def Lts(prog:Program)(w:World)(A:Around)(s:Shared)(kd:SortKind)(κ:Keyed->Int)(z:Array Keyed):Prop:=
 ∀(E:Value->Shared->Prop) (p q:Keyed) (Q:Bool->Shared->Prop),p∈z.toList->q∈z.toList->Q (decide (κ p<κ q)) s->wpAny (model prog w) A (keyLt' kd p.1 q.1) Q E s
theorem SB.mem(b:SB kd z t)(h:i<(arrOf t).size):(arrOf t)[i]∈z.toList:=
 (Yg.mp b.pm).mem_iff.mp (by simp)
theorem wj(L:Lts prog w A s kd κ z)(b:SB kd z t)(hi:i<z.size)(hj:j<z.size)
 (h:Q (some (decide (kv κ (arrOf t) i<kv κ (arrOf t) j))) t):wpS (model prog w) A E s (ltAt' i j) Q t:=by
 have i':i<(arrOf t).size:=b.sz ▸ hi;have j':j<(arrOf t).size:=b.sz ▸ hj;rw[rg i',rg j']at h;rw[ltAt'_eq];refine wpS_bind (wpS_get ?_);show wpS (model prog w) A E s (elem' (arrOf t) i >>= fun p=>elem' (arrOf t) j >>= fun q=>lt' p q) Q t;rw[elem'_eq,elem'_eq,Array.getElem?_eq_getElem i',Array.getElem?_eq_getElem j'];refine wpS_bind (wpS_pure (wpS_bind (wpS_pure ?_)));rw[lt'_eq];refine wpS_bind (wpS_get ?_);rw[b.kn];exact wpS_bind (wpS_lift (wpAny_attempt (L _ _ _ _ (b.mem i') (b.mem j') ⟨rfl,wpS_pure h⟩)))
def oB(κ:Keyed->Int)(z:Array Keyed):Prop:=(z.toList.map κ).Nodup
theorem apart(b:SB kd z t)(D:oB κ z)(hj:j<z.size)(h:i<j):kv κ (arrOf t) i≠kv κ (arrOf t) j:=by
 have j':j<(arrOf t).size:=b.sz ▸ hj;have i':i<(arrOf t).size:=Nat.lt_trans h j';have d:((arrOf t).toList.map κ).Nodup:=((Yg.mp b.pm).map κ).nodup_iff.mpr D;rw[rg i',rg j'];intro e;have:=ZF.mp d i j (by simpa using i') (by simpa using j') h;simp at this;exact this e
theorem Ed(u:Up κ xs n)(h:n=0\/kv κ xs (n-1)<=kv κ xs n):Up κ xs (n+1):=by
 intro i j a c;by_cases e:j<n
 ·exact u i j a e
 ·have:j=n:=by lia
  subst this;by_cases e2:i=j
  ·subst e2;exact ZA _
  ·exact Int.le_trans (u i (j-1) (by lia) (by lia)) (h.resolve_left (by lia))
theorem y1(u:Dn κ xs n)(h:n=0\/kv κ xs n<=kv κ xs (n-1)):Dn κ xs (n+1):=by
 intro i j a c;by_cases e:j<n
 ·exact u i j a e
 ·have:j=n:=by lia
  subst this;by_cases e2:i=j
  ·subst e2;exact ZA _
  ·exact Int.le_trans (h.resolve_left (by lia)) (u i (j-1) (by lia) (by lia))
theorem asc(L:Lts prog w A s kd κ z)(hr:r<=z.size)(ha:1<=a)(har:a<=r)(b:SB kd z t)(u:Up κ (arrOf t) a)
 (h:∀n,a<=n->n<=r->Up κ (arrOf t) n->(n=r\/kv κ (arrOf t) n<kv κ (arrOf t) (n-1))->Q (none,n) t):wpS (model prog w) A E s (ascLoop a r) Q t:=by
 unfold ascLoop;refine wpS_forRange (fun x c t'=>t'=t/\c=(none,x)/\Up κ (arrOf t) x) ?_ ?_ ⟨rfl,rfl,u⟩
 ·rintro x c t' x1 x2 ⟨rfl,rfl,u'⟩
  refine wpS_bind (wj L b (by lia) (by lia) ?_);by_cases l:kv κ (arrOf t') x<kv κ (arrOf t') (x-1)
  ·simp only[decide_eq_true l,if_true]
   exact wpS_pure (h x x1 (by lia) u' (.inr l))
  ·simp only[decide_eq_false l,Zb,if_false]
   exact wpS_pure ⟨rfl,rfl,Ed u' (.inr (by lia))⟩
 ·rintro c t' ⟨rfl,rfl,u'⟩
  rw[Nat.max_eq_right har]at u' |-
  exact h r har (xU _) u' (.inl rfl)
theorem t3(L:Lts prog w A s kd κ z)(hr:r<=z.size)(h1:1<=n)(hn:n<=r)(b:SB kd z t)(u:Dn κ (arrOf t) n)
 (h:∀m t',SB kd z t'->1<=m->m<=r->Up κ (arrOf t') m->Q (some m) t'):wpS (model prog w) A E s (tail3 n r) Q t:=by
 unfold tail3;refine wpS_bind (wpS_reverse ?_);have b':=b.put (mirror_perm (arrOf t) 0 n ((n-0) / 2));refine wpS_bind (asc L hr h1 hn b' ?_ fun m m1 m2 u' _=>wpS_pure (h m _ b' (by lia) m2 u'));intro i j a c;have g:n<=(arrOf t).size:=by rw[b.sz];lia
 show kv κ (mirror (arrOf t) 0 n ((n-0) / 2)) i<=kv κ (mirror (arrOf t) 0 n ((n-0) / 2)) j;rw[Dk g (by lia),Dk g c];exact u _ _ (by lia) (by lia)
theorem LZ(L:Lts prog w A s kd κ z)(D:oB κ z)(hr:r<=z.size)(h1:1<=n)(hn:n<=r)(b:SB kd z t)(u:Dn κ (arrOf t) n)
 (h:∀m,n<=m->m<=r->Dn κ (arrOf t) m->Q (none,m,0) t):wpS (model prog w) A E s (descLoop n r) Q t:=by
 unfold descLoop;refine wpS_forRange (fun x c t'=>t'=t/\c=(none,x,0)/\Dn κ (arrOf t) x) ?_ ?_ ⟨rfl,rfl,u⟩
 ·rintro x c t' x1 x2 ⟨rfl,rfl,u'⟩
  dsimp only;refine wpS_bind (wj L b (by lia) (by lia) ?_);by_cases l:kv κ (arrOf t') x<kv κ (arrOf t') (x-1)
  ·simp only[decide_eq_true l,if_true]
   rw[if_neg (ZJ 0)];exact wpS_pure ⟨rfl,rfl,y1 u' (.inr (Int.le_of_lt l))⟩
  ·simp only[decide_eq_false l,Zb,if_false]
   refine wpS_bind (wj L b (by lia) (by lia) ?_);have d:=apart b D (i:=x-1) (j:=x) (by lia) (by lia);simp only[decide_eq_true (show kv κ (arrOf t') (x-1)<kv κ (arrOf t') x by lia),if_true];exact wpS_pure (h x x1 (by lia) u')
 ·rintro c t' ⟨rfl,rfl,u'⟩
  rw[Nat.max_eq_right hn]at u' |-
  exact h r hn (xU _) u'
theorem count(L:Lts prog w A s kd κ z)(D:oB κ z)(hr:r<=z.size)(h1:1<=r)(b:SB kd z t)
 (h:∀m t',SB kd z t'->1<=m->m<=r->Up κ (arrOf t') m->Q (some m) t'):wpS (model prog w) A E s (countRun' 0 r) Q t:=by
 rw[countRun0_eq];refine wpS_bind (asc L hr (xU 1) h1 b (fun i j a c=>by have:i=j:=(by lia);subst this;exact ZA _) fun n n1 n2 u o=>?_);dsimp only;by_cases e:n=r
 ·rw[if_pos (by simpa using e)]
  exact wpS_pure (h n t b n1 n2 u)
 rw[if_neg (by simpa using e)];by_cases g:n > 1
 ·rw[if_pos g]
  refine wpS_bind (wj L b (by lia) (by lia) ?_);have d:=apart b D (i:=0) (j:=n-1) (by lia) (by lia);have l:=u 0 (n-1) (by lia) (by lia);simp only[decide_eq_true (show kv κ (arrOf t) 0<kv κ (arrOf t) (n-1) by lia),if_true];exact wpS_pure (h n t b n1 n2 u)
 ·rw[if_neg g]
  have:n=1:=by lia
  subst this;unfold descPart;refine wpS_bind (wpS_lift (wpAny_rule ⟨rfl,?_⟩));refine wpS_bind (LZ L D hr (by lia) (by lia) b ?_ fun m m1 m2 u'=>?_)
  ·refine y1 (fun i j a c=>by have:i=j:=(by lia);subst this;exact ZA _) (.inr ?_)
   have:=o.resolve_left e;lia
  ·dsimp only
   rw[if_neg (ZJ 0)];exact t3 L hr (by lia) m2 b u' h
theorem LE{l r:Nat}(g:¬ l ≥ r):l<=(l+r) / 2/\(l+r) / 2<r:=⟨by lia,by lia⟩
theorem IY(L:Lts prog w A s kd κ z)(hn:n<=z.size)(hk:k₀<=n)(h0:1<=k₀)(b:SB kd z t)(u:Up κ (arrOf t) k₀)
 (h:∀t',SB kd z t'->Up κ (arrOf t') n->Q true t'):wpS (model prog w) A E s (binarySort' 0 n k₀) Q t:=by
 rw[binarySort'_eq];simp only[Nat.zero_add];rw[Nat.max_eq_left h0];refine wpS_bind (wpS_mono (wpS_forRange (fun k c t'=>c=(none,())/\SB kd z t'/\Up κ (arrOf t') k) (Q:=fun c t'=>c=(none,())/\SB kd z t'/\Up κ (arrOf t') n) ?_ ?_ ⟨rfl,b,u⟩) ?_)
 ·rintro k c t' k1 k2 ⟨rfl,b',u'⟩
  refine wpS_bind (wpS_mono (wpS_forRange (fun x c t2=>t2=t'/\∃l r,c=(none,l,r)/\l<=r/\r<=k/\r-l<=k-x /\
   (∀i,i<l->kv κ (arrOf t') i<=kv κ (arrOf t') k)/\∀i,r<=i->i<k->kv κ (arrOf t') k<=kv κ (arrOf t') i)
   (Q:=fun c t2=>t2=t'/\∃l r,c=(none,l,r)/\l<=k/\(∀i,i<l->kv κ (arrOf t') i<=kv κ (arrOf t') k)/\∀i,l<=i->i<k->kv κ (arrOf t') k<=kv κ (arrOf t') i) ?_ ?_
    ⟨rfl,0,k,rfl,Zv _,xU _,xU _,fun i q=>absurd q (Nat.not_lt_zero _),fun i q q'=>absurd q' (Nat.not_lt.mpr q)⟩) ?_)
  ·rintro x c t2 _ x2 ⟨rfl,l,r,rfl,lr,rk,m,lo,hi⟩
   dsimp only;by_cases g:l ≥ r
   ·rw[if_pos g]
    have:l=r:=by lia
    subst this;exact wpS_pure ⟨rfl,l,l,rfl,rk,lo,hi⟩
   rw[if_neg g];obtain⟨a1,a2⟩:=LE g;generalize (l+r) / 2=d at a1 a2;have a3:=Zy a2 rk;refine wpS_bind (wj L b' (by lia) (by lia) ?_);by_cases q:kv κ (arrOf t2) k<kv κ (arrOf t2) d
   ·simp only[decide_eq_true q,if_true]
    exact wpS_pure ⟨rfl,l,d,rfl,a1,Yu a3,by lia,lo,fun i a c=>Int.le_trans (Int.le_of_lt q) (u' _ _ a c)⟩
   ·simp only[decide_eq_false q,Zb,if_false]
    exact wpS_pure ⟨rfl,d+1,r,rfl,a2,rk,by lia,fun i a=>Int.le_trans (u' i d (Nat.le_of_lt_succ a) a3) (Int.not_lt.mp q),hi⟩
  ·rintro c t2 ⟨rfl,l,r,rfl,lr,rk,m,lo,hi⟩
   have:l=r:=by lia
   subst this;exact⟨rfl,l,l,rfl,rk,lo,hi⟩
  ·rintro c t2 ⟨rfl,l,r,rfl,lk,lo,hi⟩
   show wpS (model prog w) A E s (moveDown' k l >>= fun _=>pure (ForInStep.yield (none,()))) _ t2;rw[moveDown'_eq];refine wpS_bind (wpS_modify (wpS_pure ⟨rfl,b'.put (bubble_perm _ _ _),?_⟩));have g:k<(arrOf t2).size:=by rw[b'.sz];lia
   intro i j a c;show kv κ (bubble (arrOf t2) k (k-l)) i<=kv κ (bubble (arrOf t2) k (k-l)) j;rw[DD g (by lia),DD g (by lia),Nat.sub_sub_self lk];by_cases e1:i=l
   ·rw[if_pos e1]
    by_cases e2:j=l
    ·rw[if_pos e2];exact ZA _
    ·rw[if_neg e2,if_pos (by lia)];exact hi _ (by lia) (by lia)
   ·rw[if_neg e1]
    by_cases e3:l<i/\i<=k
    ·rw[if_pos e3,if_neg (by lia),if_pos (by lia)];exact u' _ _ (by lia) (by lia)
    ·rw[if_neg e3]
     by_cases e2:j=l
     ·rw[if_pos e2];exact lo _ (by lia)
     ·rw[if_neg e2]
      by_cases e4:l<j/\j<=k
      ·rw[if_pos e4];exact u' _ _ (by lia) (by lia)
      ·rw[if_neg e4];exact u' _ _ a (by lia)
 ·rintro c t' ⟨e,b',u'⟩
  rw[Nat.max_eq_right hk]at u';exact⟨e,b',u'⟩
 ·rintro c t' ⟨rfl,b',u'⟩
  exact wpS_pure (h t' b' u')
theorem LM(L:Lts prog w A s kd κ z)(D:oB κ z)(b:SB kd z t)(h2:2<=z.size)(h64:z.size<64)
 (h:∀t',(arrOf t').Perm z->failedOf t'=none->Up κ (arrOf t') z.size->Q () t'):wpS (model prog w) A E s sortRuns' Q t:=by
 rw[sortRuns'_eq];refine wpS_bind (wpS_get ?_);dsimp only;have mr:minRun' z.size z.size 0=z.size:=by
  obtain⟨f,e⟩:∃f,z.size=f+1:=⟨z.size-1,by lia⟩;rw[e,minRun'_succ,if_pos (by lia),Nat.add_zero]
 simp only[b.sz,mr];refine wpS_bind (wpS_mono (wpS_forRange
  (fun x c t'=>(x=0/\c=(none,0)/\SB kd z t')\/(1<=x/\c=(none,z.size)/\(arrOf t').Perm z/\failedOf t'=none/\pendingOf t' = #[(0,z.size,0)]/\Up κ (arrOf t') z.size))
  (Q:=fun c t'=>c=(none,z.size)/\(arrOf t').Perm z/\failedOf t'=none/\pendingOf t' = #[(0,z.size,0)]/\Up κ (arrOf t') z.size) ?_ ?_ (.inl ⟨rfl,rfl,b⟩)) ?_)
 ·rintro x c t' _ x2 (⟨rfl,rfl,b'⟩|⟨x1,rfl,d⟩)
  ·dsimp only
   rw[if_neg (by lia)];simp only[Nat.sub_zero,Nat.min_self,Nat.zero_add];refine wpS_bind (count L D (xU _) (by lia) b' fun m t2 b2 m1 m2 u2=>?_);dsimp only;by_cases g:m<z.size
   ·rw[if_pos g]
    refine wpS_bind (wpS_lift (wpAny_rule ⟨rfl,?_⟩));refine wpS_bind (IY L (xU _) m2 m1 b2 u2 fun t3 b3 u3=>?_);simp only[Bool.not_true,Zb,if_false];refine wpS_bind (wpS_get ?_);rw[show(pendingOf t3).back? = none by rw[b3.pn];rfl];exact wpS_bind (wpS_modify (wpS_pure (.inr ⟨by lia,rfl,b3.pm,b3.fl,by show(pendingOf t3).push _=_;rw[b3.pn];rfl,u3⟩)))
   ·rw[if_neg g]
    have:m=z.size:=by lia
    subst this;refine wpS_bind (wpS_get ?_);rw[show(pendingOf t2).back? = none by rw[b2.pn];rfl];exact wpS_bind (wpS_modify (wpS_pure (.inr ⟨by lia,rfl,b2.pm,b2.fl,by show(pendingOf t2).push _=_;rw[b2.pn];rfl,u2⟩)))
  ·dsimp only
   rw[if_pos (xU _)];exact wpS_pure ⟨rfl,d⟩
 ·rintro c t' (⟨x,_,_⟩|⟨_,e,d⟩)
  ·lia
  ·exact⟨e,d⟩
 ·rintro c t' ⟨rfl,p1,p2,p3,p4⟩
  dsimp only;refine wpS_bind (wpS_mono (wpS_forRange (fun _ c t2=>t2=t'/\c=(none,())) (Q:=fun c t2=>t2=t'/\c=(none,())) ?_ (fun _ _ q=>q) ⟨rfl,rfl⟩) ?_)
  ·rintro x c t2 _ _ ⟨rfl,rfl⟩
   refine wpS_bind (wpS_get ?_);rw[if_pos (by rw[p3];exact xU 1)];exact wpS_pure ⟨rfl,rfl⟩
  ·rintro c t2 ⟨rfl,rfl⟩
   exact wpS_pure (h _ p1 p2 p4)
end
section
variable{prog:Program}{w:World}{A:Around}{E:Value->Shared->Prop}{s:Shared}
structure Cmp(prog:Program)(w:World)(A:Around)(h:Heap)(os:OsState)(kd:SortKind)(κ:Value->Int)(vs:List Value):Prop where
 kind:∀(E:Value->Shared->Prop) (s:Shared) (Q:SortKind->Shared->Prop),s.heap=h->Q kd s->wpAny (model prog w) A (keyKind' vs.toArray) Q E s
 lt:∀(E:Value->Shared->Prop) (s:Shared) (p q:Value) (Q:Bool->Shared->Prop),s.heap=h->p∈vs->q∈vs->Q (decide (κ p<κ q)) s->wpAny (model prog w) A (keyLt' kd p q) Q E s
theorem pairs_mem{vs:List Value}(h:p∈(vs.toArray.zip vs.toArray).toList):p.1∈vs/\p.2=p.1:=by
 rw[Array.toList_zip]at h;simp at h;rw[List.zip_eq_zipWith,List.zipWith_self]at h;obtain⟨a,ha,e⟩:=xS.mp h;subst e;exact⟨ha,rfl⟩
theorem pairs_fst(vs:List Value):(vs.toArray.zip vs.toArray).toList.map (·.1)=vs:=by
 rw[Array.toList_zip];exact List.map_fst_zip (xU _)
theorem sort_by{vs:List Value}(ho:s.heap.get? a=some (seqObj "list" vs.toArray n))(h64:vs.length<64)(hd:(vs.map κ).Nodup)
 (hC:2<=vs.length->Cmp prog w A (((s.heap.update a (ZT fun _=>#[])).push (seqObj "tuple" vs.toArray 0)).push (seqObj "list" #[] 0)) s.os kd κ vs)
 (h:∀out:List Value,out.Perm vs->out.Pairwise (fun x y=>κ x<κ y)->P (.done (.ret .none)) { s with heap:=sortedHeap s.heap a vs out.toArray }) :
 wpAny (model prog w) A (Builtin.«list.sort» ⟨[.ref a],[]⟩) P E s:=by
 rw[list_sort_plain];have la:a<s.heap.objs.size:=wF ho;refine zZ (YJ ho rfl (zZ (listUpdate_at ho rfl ?_ (hsz:=by rw[z8,uz];lia))));obtain⟨e1,ho1⟩:∃e,(s.heap.update a (ZT fun _=>#[])).get? a=some (seqObj "list" #[] e):=⟨_,get?_update_seq ho fun _=>#[]⟩;refine zZ (seqEpoch_at ho1 rfl (zZ (wpAny_newTuple (zZ (wpAny_newList (ZK ?_))) (by show vs.length<=_;rw[uz];lia))));have ho3:(((s.heap.update a (ZT fun _=>#[])).push (seqObj "tuple" vs.toArray 0)).push (seqObj "list" #[] 0)).get? a=some (seqObj "list" #[] e1):=
  Heap.get?_push_of_some _ (Heap.get?_push_of_some _ ho1)
 show wpAny (model prog w) A _ P E { s with heap:=((s.heap.update a (ZT fun _=>#[])).push (seqObj "tuple" vs.toArray 0)).push (seqObj "list" #[] 0) };dsimp only;have fin:∀t:SortSt,(arrOf t).Perm (vs.toArray.zip vs.toArray)->failedOf t=none->Up (fun p=>κ p.1) (arrOf t) (vs.toArray.zip vs.toArray).size ->
  (((arrOf t).map (·.2)).toList.Perm vs/\((arrOf t).map (·.2)).toList.Pairwise fun x y=>κ x<κ y):=fun t pm _ u=>by
  have pl:=Yg.mp pm;have e2:((arrOf t).map (·.2)).toList=(arrOf t).toList.map (·.1):=by
   rw[Array.toList_map];exact uW fun p hp=>(pairs_mem (pl.mem_iff.mp hp)).2
  have p1:((arrOf t).map (·.2)).toList.Perm vs:=by
   rw[e2];have:=pl.map (·.1)
   rwa [pairs_fst]at this
  refine⟨p1,?_⟩;have nd:(((arrOf t).map (·.2)).toList.map κ).Nodup:=(p1.map κ).nodup_iff.mpr hd;rw[e2]at nd |-
  have sz:(arrOf t).size=(vs.toArray.zip vs.toArray).size:=pm.size_eq;refine ZF.mpr fun i j hi hj hij=>?_;have hi':i<(arrOf t).size:=by simpa using hi
  have hj':j<(arrOf t).size:=by simpa using hj
  have l:=u i j (Yu hij) (by lia);rw[rg hi',rg hj']at l;have d:=ZF.mp nd i j (by simpa using hi) (by simpa using hj) hij;simp at d l |-
  lia
 by_cases c2:vs.toArray.size<2
 ·rw[if_pos c2,if_pos c2]
  refine zZ (xc ?_);rw[StateT.run_pure];refine zZ (xc ?_);dsimp only;refine zZ (seqEpoch_at ho3 rfl ?_);obtain⟨f1,f2⟩:=fin (SortSt.mk' general' (vs.toArray.zip vs.toArray) #[] 7 none) (Array.Perm.refl _) rfl fun i j hij hj=>by
   have:i=j:=by simp at hj c2;lia
   subst this;exact ZA _
  have sz2:((vs.toArray.zip vs.toArray).map (·.2)).size<=sizeLine+1:=by simp;rw[uz];lia
  refine zZ (listUpdate_at ho3 rfl ?_ (hsz:=by rw[uz];decide) (hsz2:=sz2));simp only[bne_self_eq_false,Zb,if_false];exact xc (h _ f1 f2)
 ·rw[if_neg c2,if_neg c2]
  have C:=hC (by simp at c2;lia);refine zZ (C.kind _ _ _ rfl ?_);have zs:(vs.toArray.zip vs.toArray).size=vs.length:=by simp
  have L:Lts prog w A { s with heap:=((s.heap.update a (ZT fun _=>#[])).push (seqObj "tuple" vs.toArray 0)).push (seqObj "list" #[] 0) } kd (fun p=>κ p.1) (vs.toArray.zip vs.toArray):=
   fun E p q Q hp hq k=>C.lt _ _ _ _ _ rfl (pairs_mem hp).1 (pairs_mem hq).1 k
  have D:oB (fun p=>κ p.1) (vs.toArray.zip vs.toArray):=by
   unfold oB;rw[show(vs.toArray.zip vs.toArray).toList.map (fun p=>κ p.1)=((vs.toArray.zip vs.toArray).toList.map (·.1)).map κ by rw[wM];rfl,pairs_fst];exact hd
  refine zZ (Zs (LM (z:=vs.toArray.zip vs.toArray) (t:=SortSt.mk' kd (vs.toArray.zip vs.toArray) #[] 7 none) (Q:=fun _ t'=>(arrOf t').Perm (vs.toArray.zip vs.toArray)/\failedOf t'=none/\Up (fun p=>κ p.1) (arrOf t') (vs.toArray.zip vs.toArray).size)
   L D ⟨Array.Perm.refl _,rfl,rfl,rfl⟩ (by rw[zs];simp at c2;lia) (by lia) fun t' a1 a2 a3=>⟨a1,a2,a3⟩) ?_ fun _ _ e=>e)
  rintro⟨⟨⟩,t'⟩ s' ⟨rfl,a1,a2,a3⟩;dsimp only;refine zZ (seqEpoch_at ho3 rfl ?_);obtain⟨f1,f2⟩:=fin t' a1 a2 a3;have sz2:((arrOf t').map (·.2)).size<=sizeLine+1:=by
   have:=f1.length_eq;rw[Z8]at this;rw[this,uz];lia
  refine zZ (listUpdate_at ho3 rfl ?_ (hsz:=by rw[uz];decide) (hsz2:=sz2));rw[a2];simp only[bne_self_eq_false,Zb,if_false];exact xc (h _ f1 f2)
theorem sorted_by(hl:s.heap.IsList l vs.toArray)(h64:vs.length<64)(hd:(vs.map κ).Nodup)
 (hC:2<=vs.length->∀h',(∀b o,s.heap.get? b=some o->h'.get? b=some o)->Cmp prog w A.in1.in1 h' s.os kd κ vs)
 (h:∀(out:List Value) (h':Heap) (c:Nat),out.Perm vs->out.Pairwise (fun x y=>κ x<κ y)->(∀b o,s.heap.get? b=some o->h'.get? b=some o) ->
  h'.get? (s.heap.objs.size+1)=some (seqObj "list" out.toArray c)->Q (.ref (s.heap.objs.size+1)) { s with heap:=h' }) :
 wpAny (model prog w) A (call (.builtin "sorted") [.ref l]) Q E s:=by
 refine Xq kind_sorted plain_sorted entry_sorted (args_sorted1 _) ?_;unfold Builtin.«sorted»;refine zZ (m:=checkCount "sorted" 1 1 _) (xc (zZ (collect_list hl (zZ (wpAny_newList ?_ (by rw[uz];lia))) (by rw[uz];lia))));have z:((s.heap.push (seqObj "list" #[] 0)).update s.heap.objs.size (ZT (· ++ vs.toArray))).objs.size=s.heap.objs.size+1:=(Heap.size_update ..).trans (size_push' _ _);have kp:∀b o,s.heap.get? b=some o->(((s.heap.push (seqObj "list" #[] 0)).update s.heap.objs.size (ZT (· ++ vs.toArray))).push (seqObj "list" vs.toArray 0)).get? b=some o:=fun b o e=>by
  have lt:b<s.heap.objs.size:=wF e;refine Heap.get?_push_of_some _ ?_;rw[Heap.get?_update_ne _ _ _ _ (tG lt)];exact Heap.get?_push_of_some _ e
 have at1:(((s.heap.push (seqObj "list" #[] 0)).update s.heap.objs.size (ZT (· ++ vs.toArray))).push (seqObj "list" vs.toArray 0)).get? (s.heap.objs.size+1)=some (seqObj "list" vs.toArray 0):=by
  rw[<- z];exact Heap.get?_push_size _ rfl
 show wpAny (model prog w) _ _ _ _ { s with heap:=((s.heap.push (seqObj "list" #[] 0)).update s.heap.objs.size (ZT (· ++ vs.toArray))).push (seqObj "list" vs.toArray 0) };rw[z];generalize hh:((s.heap.push (seqObj "list" #[] 0)).update s.heap.objs.size (ZT (· ++ vs.toArray))).push (seqObj "list" vs.toArray 0)=h1 at at1 kp |-
 have kp2:∀b o,s.heap.get? b=some o->(((h1.update (s.heap.objs.size+1) (ZT fun _=>#[])).push (seqObj "tuple" vs.toArray 0)).push (seqObj "list" #[] 0)).get? b=some o:=fun b o e=>by
  have lt:b<s.heap.objs.size:=wF e;refine Heap.get?_push_of_some _ (Heap.get?_push_of_some _ ?_);rw[Heap.get?_update_ne _ _ _ _ (tG (Nat.lt_succ_of_lt lt))];exact kp b o e
 refine zZ (ZK (Z0 slot_list_sort ⟨_,at1,rfl⟩ entry_list_sort (sort_by (s:={ s with heap:=h1 }) at1 h64 hd (fun c=>hC c _ kp2) fun out p1 p2=>⟨_,rfl,?_⟩) (args_list_sort _)));have at2:(((h1.update (s.heap.objs.size+1) (ZT fun _=>#[])).push (seqObj "tuple" vs.toArray 0)).push (seqObj "list" #[] 0)).get? (s.heap.objs.size+1)=some (seqObj "list" #[] _):=
  Heap.get?_push_of_some _ (Heap.get?_push_of_some _ (get?_update_seq at1 fun _=>#[]))
 refine xc ⟨_,rfl,h out _ _ p1 p2 (fun b o e=>?_) (get?_update_seq at2 fun _=>out.toArray)⟩;have lt:b<s.heap.objs.size:=wF e;show(Heap.update _ _ _).get? b=_;rw[Heap.get?_update_ne _ _ _ _ (tG (Nat.lt_succ_of_lt lt))];exact kp2 b o e
end
end Srt
namespace Srt
open PySem PyProof.Rows
def Two(h:Heap)(p:Addr)(x y:Int):Prop:=∃(o:Obj) (t u:Tok) (n:Nat),h.get? p=some o/\o.cls = .type "tuple" /\ o.data = .seq #[.int x t,.int y u] n
end Srt
namespace Srt
open PySem PyProof.Rows
section
variable{prog:Program}{w:World}{A:Around}{E:Value->Shared->Prop}{R:Result->Shared->Prop}{s:Shared}{I S ax:Addr}{items:Array Value}{h₀:Heap}{κ:Value->Int}
def Prs(h:Heap)(κ:Value->Int)(lo:Int)(v:Value):Prop:=∃p x y,v = .ref p/\Two h p x y/\κ v=x*64+y/\lo<=y/\y<lo+64
end
end Srt
end L2
namespace L2
open PySem PyProof.Rows
section
variable{X:Cx}{pins:List (Addr × Obj)}{σ:St}{H:Hp}{s:Shared}
noncomputable def jD:Value->List Nat
 | .str x _=>x.cps.toList
 |_=>[]
def IsS(v:Value):Prop:=∃x t,v = .str x t
abbrev InO(ls:List (List Nat)):Prop:=ls.Pairwise fun a b=>¬ b<a
theorem vP:∀ {a b:List (List Nat)},a.Perm b->InO a->InO b->a=b
 | [],_,p,_,_=>p.nil_eq
 |x::r,b,p,ha,hb=>by
  cases b with
  |nil=>exact absurd p.length_eq (by simp)
  |cons y t=>
   have hx:x∈y::t:=p.mem_iff.mp (.head _);have hy:y∈x::r:=p.mem_iff.mpr (.head _);have e:x=y:=by
    rcases zO.mp hx with h|h
    ·exact h
    ·rcases zO.mp hy with h'|h'
     ·exact h'.symm
     ·exact List.le_antisymm (List.not_lt.mp ((ZZ.mp ha).1 y h')) (List.not_lt.mp ((ZZ.mp hb).1 x h))
   subst e;rw[vP (List.Perm.cons_inv p) (ZZ.mp ha).2 (ZZ.mp hb).2]
theorem oJ:∀ {vs:List Value},(∀v∈vs,IsS v)->Vals ((vs.map jD).map T) vs
 | [],_=>.nil
 |v::vs,h=>by
  obtain⟨x,t,rfl⟩:=h v (Yw ..);exact .cons ⟨t,rfl⟩ (oJ fun u m=>h u (sU _ m))
theorem oF:∀ {ls:List (List Nat)} {vs:List Value},Vals (ls.map T) vs->(∀v∈vs,IsS v)/\vs.map jD=ls
 | [],_,.nil=>⟨(fun _ m=>nomatch m),rfl⟩
 |l::ls,_,.cons e t=>by
  obtain⟨k,rfl⟩:=e;obtain⟨a,b⟩:=oF t;refine⟨fun v m=>?_,by rw[wV,b];rfl⟩;rcases zO.mp m with rfl|m
  ·exact⟨_,_,rfl⟩
  ·exact a v m
theorem p_:∀ {vs:List Value},(∀v∈vs,IsS v)->∃ss,StrsAre vs ss
 | [],_=>⟨[],.nil⟩
 |v::vs,h=>by
  obtain⟨x,t,rfl⟩:=h v (Yw ..);obtain⟨ss,r⟩:=p_ fun u m=>h u (sU _ m);exact⟨x::ss,.cons x t r⟩
theorem yM(hv:∀v∈vs,IsS v)(hp:xs.Perm (pairsOf vs))(hs:SortedToK strKind xs (pairsOf vs).size) :
 (xs.map (·.2)).toList.Perm vs/\InO ((xs.map (·.2)).toList.map jD):=by
 have pl:xs.toList.Perm (vs.toArray.zip vs.toArray).toList:=Yg.mp hp;have e2:(xs.map (·.2)).toList=xs.toList.map (·.1):=by
  rw[Array.toList_map];exact uW fun p m=>(Srt.pairs_mem (pl.mem_iff.mp m)).2
 have p1:(xs.map (·.2)).toList.Perm vs:=by
  rw[e2];have:=pl.map (·.1)
  rwa [Srt.pairs_fst]at this
 refine⟨p1,?_⟩;rw[e2,wM];have sz:xs.size=(pairsOf vs).size:=hp.size_eq;refine ZF.mpr fun i j hi hj hij=>?_;have hi':i<xs.size:=by simpa using hi
 have hj':j<xs.size:=by simpa using hj
 have l:=hs i j (Yu hij) (by lia);have kk:∀k (h:k<xs.size),KK strKind xs k=jD xs[k].1:=fun k h=>by
  have m:xs[k]∈xs.toList:=by simp
  obtain⟨x,t,e⟩:=hv _ (Srt.pairs_mem (pl.mem_iff.mp m)).1;unfold KK;rw[Array.getElem?_eq_getElem h];show(strKind.keyOf xs[k].1).getD strKind.dflt=_;rw[e];rfl
 rw[kk i hi',kk j hj']at l;have l':decide (jD xs[j].1<jD xs[i].1)=false:=l;simp only[Xr,Array.getElem_toList,Function.comp_apply];exact of_decide_eq_false l'
def A6(K:W.Frag):List V->Hp->VK->Prop
 | [.ref p],H,Q=>∃ls:List (List Nat),SqL K H p (ls.map T)/\ls.length<64/\∀out:List (List Nat),out.Perm ls->InO out->∀l,H l=none->Q (.ref l) (upd H l (.lst (out.map T)))
 |_,_,_=>False
theorem Lo(K:W.Frag)(hK:X.K=K:=by rfl):CallR X (.builtin "sorted") (A6 K):=by
 subst hK;intro pins s σ H xs us Q I r h;rcases xs with _|⟨e_1,r_1⟩
 ·exact(id h:False).elim
 cases e_1 with
 |ref p=>
  cases r_1 with
  |nil=>
   obtain⟨ls,hq,h64,q⟩:=h;obtain⟨u,rfl,rx⟩:=d5 r;cases (show u=wU p from rx);obtain⟨its,r',pl,hz⟩:=I.list hq;obtain⟨hv,em⟩:=oF r';obtain⟨ss,hS⟩:=p_ hv;have len:its.length<64:=by have:=r'.length;rw[zV]at this;lia
   refine sortedK strKind_oneLt pl.isList hS.keysOf (fun v₁ v₂ rest e=>keyKind_strs (by rw[<- e];exact hS)) len fun st' hp hs=>?_;obtain⟨p1,o1⟩:=yM hv hp hs;generalize hout:(arrOf st').map (·.2)=out at p1 o1;obtain⟨c,ea⟩:=sortedAll_at s.heap its out;have kp:∀b o,s.heap.get? b=some o->(sortedAll s.heap its out).get? b=some o:=fun _ _ e=>sortedAll_old e;have hv2:∀v∈out.toList,IsS v:=fun v m=>hv v (p1.mem_iff.mp m);have pm:(out.toList.map jD).Perm ls:=by have:=p1.map jD;rwa [em]at this
   refine⟨.ref (s.heap.objs.size+1),_,I.laid (t':=s.toks) (a:=s.heap.objs.size+1) kp (ZC _) (show ObjOk X.prog X.w _ (sortedAll s.heap its out) _ (.lst ((out.toList.map jD).map T)) from⟨?_,out.toList,c,oJ hv2,by rw[Array.toArray_toList];exact ea⟩),rfl,q _ pm o1 _ (I.hok.fresh (ZC _))⟩;rw[zV,pm.length_eq,uz];lia
  |cons=>exact(id h:False).elim
 |_=>exact(id h:False).elim
def Cj:List V->Hp->VK->Prop
 | [.ref d],H,Q=>∃kvs:List (Key × V),H d=some (.dK kvs)/\∀l,H l=none->Q (.ref l) (upd H l (.lst (kvs.map fun e=>kV e.1)))
 |_,_,_=>False
theorem l5:∀ {vs:List (Key × Value)} {us:List Value},us.length=vs.length->(∀(j:Nat) (v:Value),us[j]? = some v->∃k x,vs[j]? = some (k,x)/\(bM P w).is k v=true)->Vals (vs.map fun e=>kV e.1) us
 | [],[],_,_=>.nil
 |e::vs,u::us,hl,h=>by
  obtain⟨k,x,e1,r⟩:=h 0 u rfl;simp at e1;subst e1;refine .cons ?_ (l5 (by simpa using hl) fun j v q=>by simpa using h (j+1) v (by simpa using q));cases k with
  |inl i=>obtain⟨t,z⟩:=Value.isInt_shape r;exact⟨t,z⟩
  |inr x=>obtain⟨t,z⟩:=Value.isStrOf_shape r;exact⟨t,z⟩
 | [],_::_,hl,_=>by simp at hl
 |_::_,[],hl,_=>by simp at hl
theorem KS(hc:X.calm=true):CallR X (.type "list") Cj:=by
 intro pins s σ H xs us Q I r h;rcases xs with _|⟨e_1,r_1⟩
 ·exact(id h:False).elim
 cases e_1 with
 |ref d=>
  cases r_1 with
  |nil=>
   obtain⟨kvs,hd,q⟩:=h;obtain⟨u,rfl,rx⟩:=d5 r;cases (show u=wU d from rx);obtain⟨z,lo,vs,kv,D⟩:=rQ I.hok hd;obtain⟨ep,hat⟩:=D.dictAt;have len:vs.length=kvs.length:=(KV.length kv).symm;refine PySem.W.kdl_call (PySem.W.kdl_dict (knd:=bM X.prog X.w) (kvs:=vs) (ep:=ep) lo) (I.ok.hd hc) hat (by lia) fun h' tk acc c kp ea it=>?_;have ek:kvs.map (fun e=>kV e.1)=vs.map fun e=>kV e.1:=by
    have:=congrArg (List.map kV) (KV.keys kv)
    simpa [wM,Function.comp_def] using this
   refine⟨.ref s.heap.objs.size,_,I.laid (t':=tk) kp (xU _) (show ObjOk X.prog X.w _ h' _ (.lst (kvs.map fun e=>kV e.1)) from⟨by rw[zV];exact z,acc.toList,c,?_,by rw[Array.toArray_toList];exact ea⟩),rfl,q _ (I.hok.fresh (xU _))⟩;rw[ek];exact l5 (P:=X.prog) (w:=X.w) (by rw[Z8];exact it.1) fun j v e=>it.2 j v (by rw[<- Array.getElem?_toList];exact e)
  |cons=>exact(id h:False).elim
 |_=>exact(id h:False).elim
def C9:List V->Hp->VK->Prop
 | [.ref d],H,Q=>∃(kvs:List (Key × V)) (ls:List (List Nat)),H d=some (.dK kvs)/\kvs.map (fun e=>kV e.1)=ls.map T/\ls.length<64/\∀out:List (List Nat),out.Perm ls->InO out->∀l,H l=none->Q (.ref l) (upd H l (.lst (out.map T)))
 |_,_,_=>False
theorem k6(hc:X.calm=true):CallR X (.builtin "sorted") C9:=by
 intro pins s σ H xs us Q I r h;rcases xs with _|⟨e_1,r_1⟩
 ·exact(id h:False).elim
 cases e_1 with
 |ref d=>
  cases r_1 with
  |nil=>
   obtain⟨kvs,ls,hd,hks,h64,q⟩:=h;obtain⟨u,rfl,rx⟩:=d5 r;cases (show u=wU d from rx);obtain⟨z,lo,vs,kv,D⟩:=rQ I.hok hd;obtain⟨ep,hat⟩:=D.dictAt;have len:vs.length=kvs.length:=(KV.length kv).symm;have ek:kvs.map (fun e=>kV e.1)=vs.map fun e=>kV e.1:=by
    have:=congrArg (List.map kV) (KV.keys kv)
    simpa [wM,Function.comp_def] using this
   refine Xq kind_sorted plain_sorted entry_sorted (args_sorted1 _) ?_;unfold Builtin.«sorted»;refine zZ (m:=checkCount "sorted" 1 1 _) (xc ?_);refine zZ (PySem.W.kdu_collect (PySem.W.kdl_dict (knd:=bM X.prog X.w) (kvs:=vs) (ep:=ep) lo) (I.ok.hd hc) hat (by lia) fun h' tk acc kp it=>?_);have rv:Vals (ls.map T) acc.toList:=by
    rw[<- hks,ek];exact l5 (P:=X.prog) (w:=X.w) (by rw[Z8];exact it.1) fun j v e=>it.2 j v (by rw[<- Array.getElem?_toList];exact e)
   obtain⟨hv,em⟩:=oF rv;obtain⟨ss,hS⟩:=p_ hv;have len2:acc.toList.length<64:=by have:=rv.length;rw[zV]at this;lia
   refine zZ (wpAny_newList ?_);have hoL:(h'.push (seqObj "list" acc.toList.toArray 0)).get? h'.objs.size=some (seqObj "list" acc.toList.toArray 0):=Heap.get?_push_size _ rfl;refine zZ (ZK (Z0 slot_list_sort ⟨_,hoL,rfl⟩ entry_list_sort (list_sort_treeK strKind_oneLt hoL hS.keysOf (fun v₁ v₂ rest e=>keyKind_strs (by rw[<- e];exact hS)) len2 fun st' hp hs=>⟨_,rfl,?_⟩) (args_list_sort _)));refine xc ⟨_,rfl,?_⟩;obtain⟨p1,o1⟩:=yM hv hp hs;generalize hout:(arrOf st').map (·.2)=out at p1 o1;obtain⟨c,ea⟩:=sortedHeap_at (out:=out) hoL;have I1:Inv X pins σ H { s with heap:=h',toks:=tk }:=I.kept kp;have kp2:∀b o,h'.get? b=some o->(sortedHeap (h'.push (seqObj "list" acc.toList.toArray 0)) h'.objs.size acc.toList out).get? b=some o:=fun b o e=>by
    have l1:=wF e;rw[sortedHeap_old (tG l1) (by rw[size_push'];exact Nat.lt_succ_of_lt l1),Heap.get?_push_ne _ _ _ (tG l1)];exact e
   have hv2:∀v∈out.toList,IsS v:=fun v m=>hv v (p1.mem_iff.mp m);have pm:(out.toList.map jD).Perm ls:=by have:=p1.map jD;rwa [em]at this
   refine⟨.ref h'.objs.size,_,I1.laid (t':=tk) (a:=h'.objs.size) kp2 (xU _) (show ObjOk X.prog X.w _ _ _ (.lst ((out.toList.map jD).map T)) from⟨?_,out.toList,c,oJ hv2,by rw[Array.toArray_toList];exact ea⟩),rfl,q _ pm o1 _ (I1.hok.fresh (xU _))⟩;rw[zV,pm.length_eq,uz];lia
  |cons=>exact(id h:False).elim
 |_=>exact(id h:False).elim
def JR(K:W.Frag):List V->Hp->VK->Prop
 | [.ref p],H,Q=>∃bs:List Bool,SqL K H p (bs.map V.bl)/\Q (.bl (bs.any id)) H
 |_,_,_=>False
theorem EA(K:W.Frag)(hc:X.calm=true)(hK:X.K=K:=by rfl):CallR X (.builtin "any") (JR K):=by
 subst hK;intro pins s σ H xs us Q I r h;rcases xs with _|⟨e_1,r_1⟩
 ·exact(id h:False).elim
 cases e_1 with
 |ref p=>
  cases r_1 with
  |nil=>
   obtain⟨bs,hq,q⟩:=h;obtain⟨u,rfl,rx⟩:=d5 r;cases (show u=wU p from rx);obtain⟨its,rv,pl,hz⟩:=I.list hq;have hne:p≠s.heap.objs.size:=tG (by obtain⟨_,e,_⟩:=pl.isList;exact wF e);have hb:LSm.BoolsAre its bs:=pT rv;refine call_any_walk (wpAny_pyIter_list pl.isList ?_);refine⟨s.heap.objs.size,[s.heap.objs.size,p],[s.heap.objs.size],its.toArray.size,_,_,fun i=>(bs[i]?).getD false,rfl,Walks.list (A:=X.A.in1) (I.ok.hd hc) _ p hne its.toArray,
    ⟨⟨_,Heap.get?_push_size _ rfl,rfl,rfl⟩,pl.isList.push _⟩,fun i v s' Q' E' hP hQ=>?_,fun h' tk hk=>?_⟩
   ·obtain⟨b,e,rfl⟩:=hb.get i v (by simpa using hP)
    simp only[e,Option.getD_some]at hQ;exact Zd hQ
   ·have e:((Zw its.toArray.size).any fun i=>(bs[i]?).getD false)=bs.any id:=by
     rw[z8,hb.length];exact LSm.range_any bs
    rw[e];exact⟨.bl (bs.any id),H,I.kept (LSm.kept_iter hk),rfl,q⟩
  |cons=>exact(id h:False).elim
 |_=>exact(id h:False).elim
end
def Ga(K:W.Frag)(CH:Addr)(tb:XKs->TS)(th:TS):TS:=fun D σ H=>
 tb (fun σ' C _ H'=>∃Ce,C = .ref Ce/\ZR K (.ref Ce) (.ref CH)=some true/\th D σ' H') D σ H
theorem Fa
 (hg:Gl X x) (hm:X.mg x=some (.ref CH))
 (hex:X.ex=[]) (hst:X.stack=X.env::X.outer) (hfr:X.env.frame=some X.env.locals)
 (hb:∀(pn:List (Addr × Obj)) (Ee:Value->Shared->Prop) (Ex:XKs),bZ (XE X.prog X.w) { X with pn:=pn,xe:=Ee } Ex->PSs { X with pn:=pn,xe:=Ee } body (tb Ex))
 (hh:∀e:Addr,PSs (X.caught e) (b₀::suite) th) (hdb:(x==("__debug__":Str))=false:=by decide) :
 PS X (.Try body [.ExceptHandler (some (.Name x np)) none (b₀::suite) hpos] [] [] pos) (Ga X.K CH tb th):=by
 intro pins s σ H D I h;refine wpAny_Try_except ?_;have ok:=I.ok;refine Zs (hb (X.pn++pins) _ _ ?hP [] s σ H D (I.toPn _) h) (fun f s1 hf=>?_) (fun _ _ z=>z)
 case hP=>
  intro pins' σ' H1 s1 ev s1' I1 hq;obtain⟨e,C,rs,H',rfl,os,bare,un,hok,hrs,⟨her,a0,fl,g0⟩,⟨Ce,rfl,hmro,hth⟩⟩:=hq;have J1:=I1.call' os un hok bare (fun b z=>nomatch z);have J:Inv X pins σ' H' s1':=J1.ofPn ok;have I0:Inv X pins σ' H1 s1:=I1.ofPn ok;have hn0:∀b∈rs,X.s₀.heap.get? b=none/\H' b=none:=fun b hb=>by
   refine⟨?_,(hrs b hb).2⟩;cases q:X.s₀.heap.get? b with
   |none=>rfl
   |some o=>
    obtain⟨o',z⟩:=I0.base.there b o q (by rw[hex];simp);rw[(hrs b hb).1]at z;cases z
  have hpin:∀p∈X.pn++pins,p.1∉rs:=fun p hp z=>by
   have:=(I0.pin p hp).1;rw[(hrs _ z).1]at this;cases this
  have hstk:s1'.heap.FunFrames X.base (X.env::X.outer):=by rw[<- hst];exact J.stack
  rw[show X.stack=X.env::X.outer from hst]at fl;have hfrm:X.A.frames=some (X.env::X.outer):=by rw[<- hst];exact ok.frames
  show wpAny (model X.prog X.w) X.A (noteFrame (.ref e) X.env) _ _ s1';refine cA (e:=e) (sf _ _) g0 (wpAny_looks_onW (base:=hid s1'.heap (X.env::X.outer) rs) hfrm hfr fl fun h₄ held up4 g4=>?_);refine cA (e:=e) (g9 _ _) g4 (wpAny_landsW held fun h₅ fl5 up5 g5=>?_);have nin:∀b,b∉frs X.stack->b∉frs (X.env::X.outer):=fun b hb=>by rw[<- hst];exact hb
  have stay5:∀b o,s1'.heap.get? b=some o->b∉frs X.stack->b∉rs->h₅.get? b=some o:=fun b o z hb hr=>fl5.1 b o (gv z (nin b hb) hr);have I5:Inv X pins σ' H' { s1' with heap:=h₅,toks:=s1'.toks }:=J.noted hn0 hpin stay5 (up4.trans up5);obtain⟨ob,hob,hobc⟩:=fl5.there;refine wpAny_handleBy_cons (codeAny_handlers_test (gj (X:=X.caught e) (I5.toCaught e) hg hm (kx I5.kIn hob hobc hmro ?_) hdb)) (by intro q;cases q);refine codeAny_handlers_suite (cA (e:=e) (g9 _ _) g5 (lands_againW fl5 fun h₆ fl6 up6 g6=>?_));have stay6:∀b o,s1'.heap.get? b=some o->b∉frs X.stack->b∉rs->h₆.get? b=some o:=fun b o z hb hr=>fl6.1 b o (gv z (nin b hb) hr);have I6:Inv X pins σ' H' { s1' with heap:=h₆,toks:=s1'.toks }:=J.noted hn0 hpin stay6 ((up4.trans up5).trans up6);refine Zs (hh e pins _ _ _ _ (I6.toCaught e) hth) (fun f s8 hf=>?_) (fun _ _ z=>z.elim);cases f with
  |next=>
   obtain⟨σ2,H2,J2,q⟩:=hf;exact⟨_,_,J2.ofCaught ok,q⟩
  |brk=>
   obtain⟨σ2,H2,J2,q⟩:=hf;exact⟨_,_,J2.ofCaught ok,q⟩
  |cont=>
   obtain⟨σ2,H2,J2,q⟩:=hf;exact⟨_,_,J2.ofCaught ok,q⟩
  |ret u=>
   obtain⟨v,σ2,H2,J2,r,q⟩:=hf;exact⟨v,_,_,J2.ofCaught ok,r,q⟩
 cases f with
 |next=>
  obtain⟨σ',H',J,q⟩:=hf;exact YE ⟨σ',H',J.ofPn ok,q⟩
 |brk=>
  obtain⟨σ',H',J,q⟩:=hf;exact⟨σ',H',J.ofPn ok,q⟩
 |cont=>
  obtain⟨σ',H',J,q⟩:=hf;exact⟨σ',H',J.ofPn ok,q⟩
 |ret u=>
  obtain⟨v,σ',H',J,r,q⟩:=hf;exact⟨v,σ',H',J.ofPn ok,r,q⟩
open Lean Meta Simp
def FJ:List Name:=Hx++[`L2.JW,`L2.yk,`L2.GB,`L2.Ga]
def Fm:List Name:=Ir++[`L2.A6,`L2.C9,`L2.Cj,`L2.JR,`L2.Ke,`L2.Kt]
end L2
namespace L2
open PySem PyProof.Rows
namespace Srt
def Mi(h:Heap)(p:Addr)(x y z:Int):Prop:=∃(o:Obj) (t u r:Tok) (n:Nat),h.get? p=some o/\o.cls = .type "tuple" /\ o.data = .seq #[.int x t,.int y u,.int z r] n
end Srt
end L2
namespace L2
namespace Rv
open PySem PyProof.Rows
end Rv
open PySem PyProof.Rows
def FE(J:It)(g:TG)(tb:TS)(D:iu)(σ:St)(H:Hp):Prop:=∃W:Nat->Nat->St->Hp->Prop,(∃m,W 0 m σ H)/\∀i m σ H,W i m σ H ->
 (J.stop i H/\D.nx σ H)\/(J.go i H/\∃N:St->Hp->Prop,(∀σ' H',N σ' H'->∃m',m'<m/\W (i+1) m' σ' H')/\∀x H',J.yld i H x H'->g x σ H' fun σ2 H2=>tb { D with nx:=N,ct:=N,bk:=D.nx } σ2 H2)
theorem jv{J:It}{H1:Hp}{D:Addr}{Q:VK}{σr:St}{tt:TT}{te:TE}(h:∃W:Nat->Nat->List V->Hp->Prop,(∃m,W 0 m [] (upd H1 D (.lst []))) /\
 ∀i m ys H2,W i m ys H2->H2 D=some (.lst ys)/\((J.stop i H2/\Q (.ref D) H2)\/(J.go i H2/\∀x H3,J.yld i H2 x H3 ->
  tt (some x::σr) H3 fun b H4=>if b=true then te (some x::σr) H4 fun y H5=>H5 D=some (.lst ys)/\ys.length<sizeLine/\∃m',m'<m/\W (i+1) m' (ys++[y]) (upd H5 D (.lst (ys++[y])))
   else ∃m',m'<m/\W (i+1) m' ys H4))) :
 ∃W:Nat->Nat->List V->Hp->Prop,(∃m,W 0 m [] (upd H1 D (.lst []))) /\
  ∀i m ys H2,W i m ys H2->H2 D=some (.lst ys)/\((J.stop i H2/\Q (.ref D) H2)\/(J.go i H2/\∀x H3,J.yld i H2 x H3->∀zs:St,zs.length=1 ->
   gZ 0 x (zs++σr) H3 fun σ4 H4=>(∃zs4:St,zs4.length=1/\σ4=zs4++σr) /\
    tt σ4 H4 fun b H5=>if b=true then te σ4 H5 fun y H6=>H6 D=some (.lst ys)/\ys.length<sizeLine/\∃m',m'<m/\W (i+1) m' (ys++[y]) (upd H6 D (.lst (ys++[y])))
     else ∃m',m'<m/\W (i+1) m' ys H5)):=by
 obtain⟨W,h0,h⟩:=h;refine⟨W,h0,fun i m ys H2 w=>?_⟩;obtain⟨h1,h2⟩:=h i m ys H2 w;refine⟨h1,h2.imp id fun⟨g1,g2⟩=>⟨g1,fun x H3 y zs hz=>?_⟩⟩;obtain⟨z,rfl⟩:=ex1 hz;exact⟨⟨[some x],rfl,rfl⟩,g2 x H3 y⟩
theorem cmS{ks:List Nat}(C:Hp->Prop)(hC:∀D ys,H D=none->C (upd H D (.lst ys)))(l:List Nat)(p:Nat->Bool)(f:Nat->V)(hl:∀R:VK,R (T l) H->tl σ H R)(ha:∀c∈l,c<128)(hz:l.length<=sizeLine)
 (hp:∀c∈l,∀H (R:Bool->Hp->Prop),C H->R (p c) H->tt (some (T [c])::ks.map fun k=>(σ[k]?).join) H R) (hf:∀c∈l,p c=true->∀H (R:VK),C H->R (f c) H->te (some (T [c])::ks.map fun k=>(σ[k]?).join) H R)
 (q:∀D,H D=none->Q (.ref D) (upd H D (.lst ((l.filter p).map f)))):gG (Lr tl) 1 (gZ 0) ks tt te σ H Q:=by
 refine hl _ ⟨by simpa [cs] using ha,fun D hD=>?_⟩;have P:∀x∈l.map fun c=>T [c],∃c∈l,x=T [c]:=fun x hx=>by
  obtain⟨c,hc,rfl⟩:=xS.mp hx;exact⟨c,hc,rfl⟩
 let hd:V->Nat:=fun v=>match v with | .str y=>(cs y).headD 0|_=>0
 have hhd:∀c,hd (T [c])=c:=fun c=>rfl;refine jv (iw C ((Bu l).c C) (fun v=>p (hd v)) (fun v=>f (hd v)) (by simpa using hz) (fun x hx H R c r=>?_) (fun x hx hb H R c r=>?_) D hD (fun ys=>hC D ys hD) ?_)
 ·obtain⟨y,hy,rfl⟩:=P x hx
  exact hp y hy H R c r
 ·obtain⟨y,hy,rfl⟩:=P x hx
  exact hf y hy hb H R c r
 ·have e:((l.map fun c=>T [c]).filter fun v=>p (hd v)).map (fun v=>f (hd v))=(l.filter p).map f:=by
   rw[YD,wM]
   rfl
  rw[e];exact q D hD
theorem cmR{ks:List Nat}(C:Hp->Prop)(hC:∀D ys,H D=none->C (upd H D (.lst ys)))(n:Nat)(p:Nat->Bool)(f:Nat->V)(hl:∀R:List V->Hp->Prop,R [.int n] H->ta σ H R)(hz:n<=sizeLine)
 (hp:∀k,k<n->∀H (R:Bool->Hp->Prop),C H->R (p k) H->tt (some (.int k)::ks.map fun k=>(σ[k]?).join) H R) (hf:∀k,k<n->p k=true->∀H (R:VK),C H->R (f k) H->te (some (.int k)::ks.map fun k=>(σ[k]?).join) H R)
 (q:∀D,H D=none->Q (.ref D) (upd H D (.lst (((Zw n).filter p).map f)))):gG (Bv ta) 1 (gZ 0) ks tt te σ H Q:=by
 have hz':(n:Int)<2 ^ 62:=by
  have:sizeLine<2 ^ 62:=by rw[uz];decide
  have h2:n<2 ^ 62:=by lia
  have e:((2 ^ 62:Nat):Int)=(2:Int) ^ 62:=by decide
  lia
 refine hl _ ⟨n,rfl,by lia,hz',?_⟩;rw[Y5];intro D hD;have P:∀x∈(Zw n).map fun k=>V.int (k:Nat),∃k,k<n/\x = .int (k:Nat):=fun x hx=>by
  obtain⟨c,hc,rfl⟩:=xS.mp hx;exact⟨c,by simpa using hc,rfl⟩
 let hd:V->Nat:=fun v=>match v with | .int i=>i.toNat|_=>0
 have hhd:∀c:Nat,hd (.int c)=c:=fun c=>Y5 c;refine jv (iw C ((Dl n).c C) (fun v=>p (hd v)) (fun v=>f (hd v)) (by simpa using hz) (fun x hx H R c' r=>?_) (fun x hx hb H R c' r=>?_) D hD (fun ys=>hC D ys hD) ?_)
 ·obtain⟨c,hc,rfl⟩:=P x hx
  rw[hhd]at r;exact hp c hc H R c' r
 ·obtain⟨c,hc,rfl⟩:=P x hx
  rw[hhd]at r hb;exact hf c hc hb H R c' r
 ·have e:(((Zw n).map fun k=>V.int (k:Nat)).filter fun v=>p (hd v)).map (fun v=>f (hd v))=((Zw n).filter p).map f:=by
   rw[YD,wM];have e1:((fun v=>p (hd v)) ∘ fun k:Nat=>V.int (k:Nat))=p:=by funext k;simp only[Function.comp,hhd]
   have e2:((fun v=>f (hd v)) ∘ fun k:Nat=>V.int (k:Nat))=f:=by funext k;simp only[Function.comp,hhd]
   rw[e1,e2]
  rw[e];exact q D hD
theorem cmL{K:W.Frag}{tl:TE}{ks:List Nat}{σ:St}{H H1:Hp}{Q:VK}{tt:TT}{te:TE}(a:Addr)(vs:List V)(C:Hp->Prop)(hC:∀D ys,H1 D=none->C (upd H1 D (.lst ys)))(hT:∀H,C H->SqL K H a vs)(p:V->Bool)(f:V->V)
 (hl:∀R:VK,R (.ref a) H1->tl σ H R) (h1:SqL K H1 a vs) (hz:vs.length<=sizeLine)
 (hp:∀x∈vs,∀H (R:Bool->Hp->Prop),C H->R (p x) H->tt (some x::ks.map fun k=>(σ[k]?).join) H R) (hf:∀x∈vs,p x=true->∀H (R:VK),C H->R (f x) H->te (some x::ks.map fun k=>(σ[k]?).join) H R)
 (q:∀D,H1 D=none->Q (.ref D) (upd H1 D (.lst ((vs.filter p).map f)))):gG (o6 K tl) 1 (gZ 0) ks tt te σ H Q:=
 hl _ ⟨a,rfl,⟨vs,h1⟩,fun D hD=>jv (iw C (Db hT) p f hz hp hf D hD (fun ys=>hC D ys hD) (q D hD))⟩
theorem LV{ks:List Nat}(C:Hp->Prop)(hC:∀D ys,H D=none->C (upd H D (.lst ys)))(lo hi:Int)(n:Nat)(hn:(hi-lo).toNat=n)(p:V->Bool)(f:V->V)(hl:∀R:List V->Hp->Prop,R [.int lo,.int hi] H->ta σ H R)(hb:-(2 ^ 62)<=lo/\lo<2 ^ 62 /\ -(2 ^ 62)<=hi/\hi<2 ^ 62)(hz:n<=sizeLine)
 (hp:∀k:Nat,k<n->∀H (R:Bool->Hp->Prop),C H->R (p (.int (lo+k))) H->tt (some (.int (lo+k))::ks.map fun k=>(σ[k]?).join) H R) (hf:∀k:Nat,k<n->p (.int (lo+k))=true->∀H (R:VK),C H->R (f (.int (lo+k))) H->te (some (.int (lo+k))::ks.map fun k=>(σ[k]?).join) H R)
 (q:∀D,H D=none->Q (.ref D) (upd H D (.lst ((((Zw n).map fun k:Nat=>V.int (lo+k)).filter p).map f)))):gG (Di ta) 1 (gZ 0) ks tt te σ H Q:=by
 refine hl _ ⟨lo,hi,rfl,hb,?_⟩;rw[hn];intro D hD;have P:∀x∈(Zw n).map fun k:Nat=>V.int (lo+k),∃k:Nat,k<n/\x = .int (lo+k):=fun x hx=>by
  obtain⟨c,hc,rfl⟩:=xS.mp hx;exact⟨c,by simpa using hc,rfl⟩
 refine jv (iw C ((AU lo n).c C) p f (by simpa using hz) (fun x hx H R c' r=>?_) (fun x hx hb H R c' r=>?_) D hD (fun ys=>hC D ys hD) (q D hD))
 ·obtain⟨c,hc,rfl⟩:=P x hx
  exact hp c hc H R c' r
 ·obtain⟨c,hc,rfl⟩:=P x hx
  exact hf c hc hb H R c' r
inductive A2 {α β:Type} (R:α->β->Prop):List α->List β->Prop
 |nil:A2 R [] []
 |cons {a:α} {b:β} {as:List α} {bs:List β}:R a b->A2 R as bs->A2 R (a::as) (b::bs)
namespace A2
variable{α β:Type}{R S:α->β->Prop}
theorem len(h:A2 R as bs):as.length=bs.length:=by
 induction h with
 |nil=>rfl
 |cons _ _ ih=>simp[ih]
theorem imp(h:A2 R as bs)(f:∀a b,a∈as->b∈bs->R a b->S a b):A2 S as bs:=by
 induction h with
 |nil=>exact .nil
 |cons r _ ih=>exact .cons (f _ _ (.head _) (.head _) r) (ih fun a b ha hb=>f a b (.tail _ ha) (.tail _ hb))
theorem at_(h:A2 R as bs):∀ {i:Nat} {a:α},as[i]? = some a->∃b,bs[i]? = some b/\R a b:=by
 induction h with
 |nil=>intro i a e;simp at e
 |cons r _ ih=>
  intro i a e;cases i with
  |zero=>cases e;exact⟨_,rfl,r⟩
  |succ i=>exact ih (i:=i) (by simpa using e)
theorem app{as:List α}{bs:List β}(h:A2 R as bs){cs:List α}{ds:List β}(g:A2 R cs ds):A2 R (as++cs) (bs++ds):=by
 induction h with
 |nil=>exact g
 |cons r _ ih=>exact .cons r ih
theorem snoc(h:A2 R as bs)(r:R a b):A2 R (as++[a]) (bs++[b]):=h.app (.cons r .nil)
end A2
def sp6(f:V->V->V->V->V->V->Hp->VK->XK->Prop):Sp:=fun vs H Q E=>match vs with
 | [x,y,z,u,v,a]=>f x y z u v a H Q E
 |_=>False
theorem sp6.inv{f}(h:sp6 f vs H Q E):∃x y z u v a,vs=[x,y,z,u,v,a]/\f x y z u v a H Q E:=by
 rcases vs with _|⟨x,_|⟨y,_|⟨z,_|⟨u,_|⟨v,_|⟨a,_|⟨w,r⟩⟩⟩⟩⟩⟩⟩
 rotate_left 6
 ·exact⟨_,_,_,_,_,_,rfl,h⟩
 all_goals exact(id h:False).elim
theorem sp6.len{f}(h:sp6 f vs H Q E):vs.length=6:=by obtain⟨_,_,_,_,_,_,rfl,_⟩:=sp6.inv h;rfl
def sp7(f:V->V->V->V->V->V->V->Hp->VK->XK->Prop):Sp:=fun vs H Q E=>match vs with
 | [x,y,z,u,v,a,b]=>f x y z u v a b H Q E
 |_=>False
theorem sp7.inv{f}(h:sp7 f vs H Q E):∃x y z u v a b,vs=[x,y,z,u,v,a,b]/\f x y z u v a b H Q E:=by
 rcases vs with _|⟨x,_|⟨y,_|⟨z,_|⟨u,_|⟨v,_|⟨a,_|⟨b,_|⟨w,r⟩⟩⟩⟩⟩⟩⟩⟩
 rotate_left 7
 ·exact⟨_,_,_,_,_,_,_,rfl,h⟩
 all_goals exact(id h:False).elim
theorem sp7.len{f}(h:sp7 f vs H Q E):vs.length=7:=by obtain⟨_,_,_,_,_,_,_,rfl,_⟩:=sp7.inv h;rfl
theorem ex7(hl:us.length=7):∃a0 a1 a2 a3 a4 a5 a6,us=[a0,a1,a2,a3,a4,a5,a6]:=by
 cases us with
 |nil=>cases hl
 |cons a r=>
  obtain⟨a1,a2,a3,a4,a5,a6,e⟩:=ex6 (YI hl);exact⟨a,a1,a2,a3,a4,a5,a6,by rw[e]⟩
open Lean Meta Simp
def Fj:List Name:=FJ++[`L2.eD,`Option.join]
def D0:List Name:=Fm++[`L2.gCnt,`L2.gSortT,`L2.sp5,`L2.sp6,`L2.sp7]
def Il:Name->Bool
 | .str _ s=>s.startsWith "sp_"
 |_=>false
end L2
namespace L2
open PySem PyProof.Rows
section
variable{prog:Program}{w:World}{A:Around}{E:Value->Shared->Prop}{s:Shared}{it d:Addr}{i ep:Nat}{od:Obj}{es:Array YM}
theorem yu(lo:(d==ZE)=false)(ho:s.heap.get? d=some od)(ex:od.ExactDict)(hd:od.data = .dict es ep)
 (q:Q (.ref s.heap.objs.size) { s with heap:=s.heap.push { cls:=.type "dict_keyiterator",data:=.fields #[.ref d,.int 0 0,.int es.size 0,.int ep 0] } }):wpAny (model prog w) A (pyIter (.ref d)) Q E s:=by
 have ty:s.TypeIs (.ref d) "dict":=⟨od,ho,ex.1⟩;refine wpAny_pyIter_slot ty F.slot_dict_iter (Z0 F.slot_dict_iter ty F.entry_dict_iter ?_ (F.args_dict_iter_1 _));unfold Builtin.«dict.__iter__» Builtin.Dict.dictSlotNone;refine zZ (zZ (wpAny_notOrdered_dict ty ?_));show wpAny _ _ (pure (wU d)) _ _ s;refine xc ?_;show wpAny _ _ (Builtin.Dict.showsAll d >>= _) _ _ s;unfold Builtin.Dict.showsAll;rw[if_neg (by rw[lo];exact vX)];refine zZ (xc (zZ (wpAny_dictEntries ho hd (zZ (wpAny_dictEpoch ho hd ?_)))));refine zZ (Z5 (xc ⟨_,rfl,"dict_keyiterator",_,⟨_,Heap.get?_push_size _ rfl,rfl⟩,Ym.lookup,by simpa [rawInt] using q⟩))
theorem zg(hi:s.heap.IsKeyIter it d i es.size ep)(hod:s.heap.get? d=some od)(hdd:od.data = .dict es ep)(hx:es[i]? = some e)
 (q:∀h',h'.IsKeyIter it d (i+1) es.size ep->Heap.SameBut it s.heap h'->Q (some e.key) { s with heap:=h' }):wpAny (model prog w) A (pyNext (.ref it)) Q E s:=by
 obtain⟨o,ho,hc,hd⟩:=id hi;have ty:=hi.typeIs;unfold pyNext;refine zZ (wpAny_attempt (wpAny_callSpecial?_slot (name:=zS "__next__") ty Ym (Z0 Ym ty F.entry_dict_keyiterator_next ?_ (F.args_dict_keyiterator_next_1 _))));refine zZ (xc (zZ (zZ ?_)))
 first|refine zZ (Yt ty (xc (zZ (wpAny_fieldsOf ho hd ?_))))|refine zZ (YQ ty (xc (zZ (wpAny_fieldsOf ho hd ?_))))
 simp only[show Builtin.Dict_items.ownsTuple "dict_keyiterator" = false by decide,Zb,if_false];show wpAny _ _ (if (wU d==Z2)=true then _ else _) _ _ s;rw[if_neg (show ¬ ((wU d==Z2)=true) from vX)];refine zZ (xc (zZ (wpAny_dictEntries hod hdd ?_)));rw[if_neg (by simp)];refine zZ (xc (zZ (wpAny_dictEpoch hod hdd ?_)));rw[if_neg (by simp)];refine xc ?_;have lt:i<es.size:=(Array.getElem?_eq_some_iff.mp hx).1;have ee:es[i]=e:=(Array.getElem?_eq_some_iff.mp hx).2;simp only[show ¬ ((i:Int)<0) from by lia,if_false,Y5,Array.getElem?_eq_getElem lt];refine zZ ?_
 first|refine zZ (Yt ty (xc (zZ (wpAny_isOneOf_keyiter ty ?_))))|refine zZ (YQ ty (xc (zZ (wpAny_isOneOf_keyiter ty ?_))))
 show wpAny _ _ (setField (.ref it) 1 (rawInt ((i:Int)+1)) >>= _) _ _ s;refine zZ (wpAny_setField ho hd (by simp) ?_);have hi':(s.heap.update it (Obj.mapFields (·.setIfInBounds 1 (rawInt ((i:Int)+1))))).IsKeyIter it d (i+1) es.size ep:=⟨_,Heap.get?_update_self _ ho (Obj.isFreed_of_fields (Obj.data_mapFields hd _)),(Obj.cls_mapFields ..).trans hc,by rw[Obj.data_mapFields hd];simp[rawInt]⟩;refine zZ (ZK (zZ (wpAny_isOneOf_keyiter (s:={ s with heap:=s.heap.update it (Obj.mapFields (·.setIfInBounds 1 (rawInt ((i:Int)+1)))) }) hi'.typeIs ?_)));show wpAny _ _ (pure es[i].key) _ _ _;rw[ee];exact xc (xc ⟨_,rfl,xc (q _ hi' (Heap.SameBut.update ..))⟩)
theorem Cb(hh:A.handled=none)(hi:s.heap.IsKeyIter it d i es.size ep)(hod:s.heap.get? d=some od)(hdd:od.data = .dict es ep)(hx:es.size<=i)
 (q:∀h',Heap.ExtBut it s.heap h'->Q none { s with heap:=h' }):wpAny (model prog w) A (pyNext (.ref it)) Q E s:=by
 obtain⟨o,ho,hc,hd⟩:=id hi;have ty:=hi.typeIs;unfold pyNext;refine zZ (wpAny_attempt (wpAny_callSpecial?_slot (name:=zS "__next__") ty Ym (Z0 Ym ty F.entry_dict_keyiterator_next ?_ (F.args_dict_keyiterator_next_1 _))));refine zZ (xc (zZ (zZ ?_)))
 first|refine zZ (Yt ty (xc (zZ (wpAny_fieldsOf ho hd ?_))))|refine zZ (YQ ty (xc (zZ (wpAny_fieldsOf ho hd ?_))))
 simp only[show Builtin.Dict_items.ownsTuple "dict_keyiterator" = false by decide,Zb,if_false];show wpAny _ _ (if (wU d==Z2)=true then _ else _) _ _ s;rw[if_neg (show ¬ ((wU d==Z2)=true) from vX)];refine zZ (xc (zZ (wpAny_dictEntries hod hdd ?_)));rw[if_neg (by simp)];refine zZ (xc (zZ (wpAny_dictEpoch hod hdd ?_)));rw[if_neg (by simp)];refine xc ?_;simp only[show ¬ ((i:Int)<0) from by lia,if_false,Y5,Array.getElem?_eq_none hx];refine zZ ?_
 first|refine zZ (Yt ty (xc ?_))|refine zZ (YQ ty (xc ?_))
 show wpAny _ _ (setField (.ref it) 0 .none >>= _) _ _ s;refine zZ (wpAny_setField ho hd (by simp) ?_);show wpAny _ _ (newExc (.type "StopIteration") [] >>= _) _ _ _;refine zZ ?_;simp only[newExc,newTuple];refine zZ (Z5 ?_ (by size_fits));refine zZ (m:=firstArgMember _ _) (wpAny_of_eq (a:=Z2) (by first|rfl|(simp only[firstArgMember];rfl)) (Z5 ?_ (by size_fits)));simp only[raiseNew];refine zZ (wpAny_handled ?_);rw[show A.in1.handled=none from hh];refine zZ (xc (wpAny_throw ?_));refine zZ (wpAny_isInstance (T:="StopIteration") (b:=true) ⟨_,Heap.get?_push_size _ rfl,rfl⟩ isSubtype_stop (xc (q _ (((Heap.SameBut.update ..).extBut.push _).push _))))
theorem BF(hh:A.handled=none)(I d:Addr)(ne:d≠I)(od:Obj)(es:Array YM)(ep:Nat)(hdd:od.data = .dict es ep) :
 Walks prog w A I [I,d] [I] es.size (fun i v=>∃e,es[i]? = some e/\v=e.key) (fun i h=>h.IsKeyIter I d i es.size ep/\h.get? d=some od) where
 sub:=fun b hb=>by rw[zz.mp hb];exact .head _
 frame:=fun _ _ _ st hk=>⟨st.1.at fun o e=>hk I (.head _) o e,hk d (.tail _ (.head _)) _ st.2⟩
 item:=fun i s Q E hi st q=>by
  have hx:es[i]? = some es[i]:=by simp[hi]
  exact zg st.1 st.2 hdd hx fun h' a b=>q _ h' s.toks ⟨_,hx,rfl⟩ ⟨a,(b.2 d ne).trans st.2⟩ fun c o hc z=>(b.2 c fun y=>hc (by rw[y];exact .head _)).trans z
 done:=fun s Q E st q=>Cb hh st.1 st.2 hdd (xU _) fun h' b=>q h' s.toks fun c o hc z=>b c o (fun y=>hc (by rw[y];exact .head _)) z
 self:=fun _ _ _ _ st q=>wpAny_pyIter_keyiter st.1 q
theorem Jm(lo:(d==ZE)=false)(ex:od.ExactDict)(hd:od.data = .dict es ep):PySem.W.KdlSrc prog w "dict" d d es.size (fun i v=>∃e,es[i]? = some e/\v=e.key) (fun h=>h.get? d=some od) where
 type:=fun _ h=>⟨od,h,ex.1⟩
 there:=fun _ h=>⟨wF h,wF h⟩
 keep:=fun _ _ h k=>k d (.inl rfl) _ h
 notList:=by decide
 notTuple:=by decide
 hint:=fun _ _ _ _ h q=>PySem.W.kdl_hint_dict ⟨od,h,ex.1⟩ q
 iter:=fun _ _ hh h=>⟨_,_,(fun _ _ q=>yu lo h ex hd q),BF hh _ d (tG (wF h)) od es ep hd,⟨⟨_,Heap.get?_push_size _ rfl,rfl,rfl⟩,Heap.get?_push_of_some _ h⟩⟩
end
theorem xg{α:Type}{p q:α->Bool}(h:∀e,p e=true->q e=true):∀ {l:List α} {u:α},u∈l->q u=true->p u=false->l.countP p<l.countP q
 |x::r,u,m,hq,hp=>by
  rw[List.countP_cons,List.countP_cons];have le:r.countP p<=r.countP q:=List.countP_mono_left fun e _=>h e;rcases zO.mp m with rfl|m
  ·rw[if_pos hq,if_neg (by rw[hp];decide)];lia
  ·have:=xg h m hq hp
   by_cases c:p x=true
   ·rw[if_pos c,if_pos (h x c)];lia
   ·rw[if_neg c];split <;> lia
abbrev Pt:=List Nat × List Nat
def ltP(a b:Pt):Prop:=a.1<b.1\/(a.1=b.1/\a.2<b.2)
instance (a b:Pt):Decidable (ltP a b):=by unfold ltP;infer_instance
theorem wW(a:Pt):¬ ltP a a:=fun h=>h.elim (List.lt_irrefl _) fun h=>List.lt_irrefl _ h.2
theorem CB(h:ltP a b)(g:ltP b c):ltP a c:=by
 unfold ltP at *;rcases h with h|⟨h1,h2⟩
 ·rcases g with g|⟨g1,g2⟩
  ·exact .inl (List.lt_trans h g)
  ·exact .inl (g1 ▸ h)
 ·rcases g with g|⟨g1,g2⟩
  ·exact .inl (h1 ▸ g)
  ·exact .inr ⟨h1.trans g1,List.lt_trans h2 g2⟩
theorem tB(a b:List Nat):a<b\/a=b\/b<a:=by
 by_cases h:a<b
 ·exact .inl h
 ·by_cases g:b<a
  ·exact .inr (.inr g)
  ·exact .inr (.inl (List.le_antisymm (List.not_lt.mp g) (List.not_lt.mp h)))
theorem yY(a b:Pt):ltP a b\/a=b\/ltP b a:=by
 obtain⟨a1,a2⟩:=a;obtain⟨b1,b2⟩:=b;rcases tB a1 b1 with h|rfl|h
 ·exact .inl (.inl h)
 ·rcases tB a2 b2 with h|rfl|h
  ·exact .inl (.inr ⟨rfl,h⟩)
  ·exact .inr (.inl rfl)
  ·exact .inr (.inr (.inr ⟨rfl,h⟩))
 ·exact .inr (.inr (.inl h))
noncomputable def rnk(l:List Pt)(u:Pt):Nat:=l.countP fun e=>decide (ltP e u)
theorem CK{l:List Pt}{u v:Pt}(mu:u∈l)(h:ltP u v):rnk l u<rnk l v:=
 xg (fun e he=>decide_eq_true (CB (of_decide_eq_true he) h)) mu (decide_eq_true h) (decide_eq_false (wW u))
theorem oy(mu:u∈l)(mv:v∈l):ltP u v↔(rnk l u:Int)<rnk l v:=by
 refine⟨fun h=>by have:=CK mu h;lia,fun h=>?_⟩;rcases yY u v with g|rfl|g
 ·exact g
 ·exact absurd h (Int.lt_irrefl _)
 ·have:=CK mv g;lia
abbrev vh(l:List Pt):Prop:=l.Pairwise ltP
theorem qR:∀ {a b:List Pt},a.Perm b->vh a->vh b->a=b
 | [],_,p,_,_=>p.nil_eq
 |x::r,b,p,ha,hb=>by
  cases b with
  |nil=>exact absurd p.length_eq (by simp)
  |cons y t=>
   have e:x=y:=by
    rcases zO.mp (p.mem_iff.mp (.head _)) with h|h
    ·exact h
    ·rcases zO.mp (p.mem_iff.mpr (.head _)) with h'|h'
     ·exact h'.symm
     ·exact absurd (CB ((ZZ.mp ha).1 y h') ((ZZ.mp hb).1 x h)) (wW x)
   subst e;rw[qR (List.Perm.cons_inv p) (ZZ.mp ha).2 (ZZ.mp hb).2]
namespace Srt
def TwoS(h:Heap)(p:Addr)(e:Pt):Prop:=∃(o:Obj) (t u:Tok) (n:Nat),h.get? p=some o/\o.cls = .type "tuple" /\ o.data = .seq #[.str ⟨⟨e.1⟩⟩ t,.str ⟨⟨e.2⟩⟩ u] n
section
variable{prog:Program}{w:World}{A:Around}{E:Value->Shared->Prop}{s:Shared}
theorem uJ:∀(vs:List Value),(∀v∈vs,∃p e,v = .ref p/\TwoS s.heap p e)->∀ {Q:List (Option Value)->Shared->Prop},(∀fs ns,StrsAre fs ns->fs.length=vs.length->Q (fs.map some) s) ->
 wpAny (model prog w) A (vs.mapM firstOfTuple') Q E s
 | [],_,Q,h=>by rw[List.mapM_nil];exact xc (h [] [] .nil rfl)
 |v::vs,hv,Q,h=>by
  obtain⟨p,e,rfl,o,t,u,n,ho,hc,hd⟩:=hv v (Yw ..);rw[List.mapM_cons];refine zZ ?_;show wpAny _ _ (typeOf (.ref p) >>= _) _ _ s;refine zZ (wpAny_typeOf (⟨o,ho,hc⟩:s.TypeIs (.ref p) "tuple") ?_);rw[if_neg (by decide)];refine zZ (YJ ho hd (xc ?_));show wpAny _ _ (vs.mapM firstOfTuple' >>= fun bs=>pure (some (Ys ⟨⟨e.1⟩⟩ t)::bs)) Q E s;exact zZ (uJ vs (fun v hv'=>hv v (sU _ hv')) fun fs ns hI hl=>xc (h (.str ⟨⟨e.1⟩⟩ t::fs) (⟨⟨e.1⟩⟩::ns) (.cons _ t hI) (by simp[hl])))
theorem Ig{vs:List Value}(hv:∀v∈vs,∃p e,v = .ref p/\TwoS s.heap p e)(h2:2<=vs.length)(h:Q (tuples' true) s):wpAny (model prog w) A (keyKind' vs.toArray) Q E s:=by
 rw[keyKind'_eq,List.mapM_toArray,map_eq_pure_bind];refine zZ (zZ (uJ vs hv fun fs ns hI hl=>xc ?_));rw[if_pos (by simp)];refine zZ (wpAny_rule ?_);have e:(fs.map some).toArray.filterMap id=fs.toArray:=by simp
 rw[e,oneTypeOnly'_eq,List.mapM_toArray,mapM_typeOf_strs hI];simp only[map_pure,pure_bind];have all:((fs.map fun _=>Yi "str").toArray.all fun x=>x==Yi "str")=true:=by
  simp only[List.all_toArray,List.all_map,Zo];exact fun _ _=>rfl
 have at0:(fs.map fun _=>Yi "str").toArray[0]? = some (Yi "str"):=by
  have:0<fs.length:=by lia
  simp[this]
 rw[at0];simp only[all,if_true,pure_bind];exact xc h
theorem Bq(h:x≠y):decide ((⟨⟨x⟩⟩:Str)=⟨⟨y⟩⟩)=false:=decide_eq_false fun z=>h (by injection z with z;injection z)
theorem LH(hp:TwoS s.heap p a)(hq:TwoS s.heap q b)(h:Q (decide (ltP a b)) s) :
 wpAny (model prog w) A (keyLt' (tuples' true) (.ref p) (.ref q)) Q E s:=by
 obtain⟨x,y⟩:=a;obtain⟨x',y'⟩:=b;obtain⟨o,t,u,n,ho,hc,hd⟩:=hp;obtain⟨o',t',u',n',ho',hc',hd'⟩:=hq;show wpAny _ _ (Builtin.List.listItems (.ref p) >>= fun xs=>Builtin.List.listItems (.ref q) >>= fun ys=>_) _ _ s;refine zZ (YJ ho hd (zZ (YJ ho' hd' ?_)));show wpAny _ _ (forIn [((Ys ⟨⟨x⟩⟩ t,Ys ⟨⟨x'⟩⟩ t'),0),((Ys ⟨⟨y⟩⟩ u,Ys ⟨⟨y'⟩⟩ u'),1)] (none,()) _ >>= _) _ _ s;rw[List.forIn_cons];refine zZ (zZ (zZ (wpAny_eqBool_str ?_)));by_cases e:x=x'
 ·subst e
  simp only[decide_true,Bool.not_true,Zb,if_false];refine xc ?_;simp only[List.forIn_cons];refine zZ (zZ (wpAny_eqBool_str ?_));by_cases e2:y=y'
  ·subst e2
   simp only[decide_true,Bool.not_true,Zb,if_false];refine xc ?_;simp only[List.forIn_nil];refine xc (xc ?_);rw[decide_eq_false (wW _)]at h;exact h
  ·simp only[Bq e2,Bool.not_false,if_true]
   refine zZ ?_;show wpAny _ _ (oneLt' false (.str ⟨⟨y⟩⟩ u) (.str ⟨⟨y'⟩⟩ u')) _ _ s;rw[oneLt'_eq];simp only[Zb,if_false];refine zZ (PySem.P.lt_str (Zd (xc (xc (xc ?_)))));rw[show decide (ltP (x,y) (x,y'))=decide (y<y') from decide_eq_decide.mpr ⟨fun z=>z.elim (fun z=>absurd z (List.lt_irrefl _)) (·.2),fun z=>.inr ⟨rfl,z⟩⟩]at h;exact h
 ·simp only[Bq e,Bool.not_false,if_true]
  refine zZ ?_;show wpAny _ _ (oneLt' true (.str ⟨⟨x⟩⟩ t) (.str ⟨⟨x'⟩⟩ t')) _ _ s;refine oneLt_str (xc (xc (xc ?_)));rw[show decide (ltP (x,y) (x',y'))=decide (x<x') from decide_eq_decide.mpr ⟨fun z=>z.elim id fun z=>absurd z.1 e,.inl⟩]at h;exact h
theorem cmp_S{h:Heap}{os:OsState}{vs:List Value}{κ:Value->Int}{f:Value->Pt}(h2:2<=vs.length)(hv:∀v∈vs,∃p,v = .ref p/\TwoS h p (f v))(hk:∀u∈vs,∀v∈vs,(ltP (f u) (f v)↔κ u<κ v)):Cmp prog w A h os (tuples' true) κ vs where
 kind E s Q e q:=by
  subst e;exact Ig (fun v m=>let ⟨p,a,b⟩:=hv v m;⟨p,_,a,b⟩) h2 q
 lt E s u v Q e mu mv q:=by
  subst e;obtain⟨p,rfl,b⟩:=hv u mu;obtain⟨p',rfl,b'⟩:=hv v mv;refine LH b b' ?_
  rwa [decide_eq_decide.mpr (hk _ mu _ mv)]
end
end Srt
section
variable{X:Cx}{pins:List (Addr × Obj)}{σ:St}{H:Hp}{s:Shared}
noncomputable abbrev tP(e:Pt):List V:=[T e.1,T e.2]
noncomputable abbrev kP(e:Pt):List Key:=[.inr ⟨⟨e.1⟩⟩,.inr ⟨⟨e.2⟩⟩]
theorem Ls(e:Pt):(kP e).map kV=tP e:=rfl
theorem pv(h:kP a=kP b):a=b:=by
 obtain⟨a1,a2⟩:=a;obtain⟨b1,b2⟩:=b;simp only[kP,Yx,and_true]at h;obtain⟨h1,h2⟩:=h;injection h1 with h1;injection h1 with h1;injection h1 with h1
 injection h2 with h2;injection h2 with h2;injection h2 with h2
 rw[h1,h2]
theorem Je(h:tP a=tP b):a=b:=pv (r_ (by rw[Ls,Ls,h]))
abbrev KAt(H:Hp)(a:Addr)(e:Pt):Prop:=H a=some (.tup (tP e))
theorem Lq(r:KT H kvs xs):∀ {ks:List Pt},kvs.map (·.1)=ks.map kP ->
 ∃ps:List (Addr × Pt),ps.map (·.2)=ks/\xs.map (fun x=>wU x.2.1)=ps.map (fun e=>wU e.1)/\(xs.map (·.1)=ks.map kP)/\∀e∈ps,KAt H e.1 e.2:=by
 induction r with
 |nil=>
  intro ks h;cases ks with
  |nil=>exact⟨[],rfl,rfl,rfl,fun _ m=>nomatch m⟩
  |cons=>simp at h
 | @cons p q ps qs h t ih=>
  intro ks e;cases ks with
  |nil=>simp at e
  |cons k ks=>
   rw[wV,wV]at e;injection e with e1 e2
   obtain⟨l,a1,a2,a3,a4⟩:=ih e2;obtain⟨h1,h2,_⟩:=h;rw[e1]at h1 h2;refine⟨(q.2.1,k)::l,by rw[wV,a1],by rw[wV,wV,a2],by rw[wV,wV,a3,h1],fun z m=>?_⟩;rcases zO.mp m with rfl|m
   ·exact h2
   ·exact a4 z m
noncomputable def fOf(ps:List (Addr × Pt)):Value->Pt
 | .ref a=>((ps.find? fun e=>e.1==a).map (·.2)).getD ([],[])
 |_=>([],[])
theorem BO(hp:∀e∈ps,KAt H e.1 e.2)(m:e∈ps):fOf ps (.ref e.1)=e.2:=by
 show((ps.find? fun z=>z.1==e.1).map (·.2)).getD ([],[])=e.2;cases f:ps.find? fun z=>z.1==e.1 with
 |none=>exact absurd (List.find?_eq_none.mp f e m) (by simp)
 |some z=>
  have e1:z.1=e.1:=by simpa using List.find?_some f
  have t1:=hp z (List.mem_of_find?_eq_some f);have t2:=hp e m;rw[e1]at t1;have t3:=t1.symm.trans t2;injection t3 with t3;injection t3 with t3
  exact Je t3
theorem Gb(hp:∀e∈ps,KAt H e.1 e.2):∀ {out:List Value},(∀v∈out,v∈ps.map fun e=>wU e.1)->∃as:List Addr,Vals (as.map V.ref) out/\A2 (KAt H) as (out.map (fOf ps))
 | [],_=>⟨[],.nil,.nil⟩
 |v::out,h=>by
  obtain⟨as,a1,a2⟩:=Gb hp fun u m=>h u (sU _ m);obtain⟨e,m,rfl⟩:=xS.mp (h v (Yw ..));refine⟨e.1::as,.cons rfl a1,?_⟩;rw[wV,BO hp m];exact .cons (hp e m) a2
theorem Inv.twoS(I:Inv X pins σ H s)(h:KAt H p e):Srt.TwoS s.heap p e:=by
 obtain⟨_,its,r0,o,ho,hc,n,hd⟩:=(show ObjOk X.prog X.w H s.heap p (.tup (tP e)) from I.hok p _ h);have r:Vals [T e.1,T e.2] its:=r0;clear r0;cases r with
 |cons r1 r=>
  cases r with
  |cons r2 r=>
   cases r;obtain⟨t,rfl⟩:=r1;obtain⟨u,rfl⟩:=r2;exact⟨o,t,u,n,ho,hc,hd⟩
theorem Srt.TwoS.keep(x:Srt.TwoS h p e)(k:∀b o,h.get? b=some o->h'.get? b=some o):Srt.TwoS h' p e:=by
 obtain⟨o,t,u,n,ho,r⟩:=x;exact⟨o,t,u,n,k _ _ ho,r⟩
def yR:List V->Hp->VK->Prop
 | [.ref d],H,Q=>∃(kvs:List (List Key × V)) (ks:List Pt),H d=some (.dT kvs)/\kvs.map (·.1)=ks.map kP/\ks.length<64 /\
  ∀(out:List Pt) (as:List Addr),out.Perm ks->vh out->A2 (KAt H) as out->∀l,H l=none->Q (.ref l) (upd H l (.lst (as.map V.ref)))
 |_,_,_=>False
theorem zU(hc:X.calm=true):CallR X (.builtin "sorted") yR:=by
 intro pins s σ H xs us Q I r h;rcases xs with _|⟨e_1,r_1⟩
 ·exact(id h:False).elim
 cases e_1 with
 |ref d=>
  cases r_1 with
  |nil=>
   obtain⟨kvs,ks,hd,hks,h64,q⟩:=h;obtain⟨u,rfl,rx⟩:=d5 r;cases (show u=wU d from rx);obtain⟨z,lo,xs,rel,o,es,ep,ho,ex,hdat,he,_,hn⟩:=Gd I.hok hd;obtain⟨ps,p1,p2,p3,p4⟩:=Lq rel hks;have ndk:ks.Nodup:=by
    rw[p3]at hn;exact(Zc.mp hn).imp fun h e=>h (by rw[e])
   have len:es.size=ks.length:=by
    rw[<- Z8,he,zV,<- zV (f:=fun x=>wU x.2.1),p2,zV,<- zV (f:=(·.2)),p1]
   refine Xq kind_sorted plain_sorted entry_sorted (args_sorted1 _) ?_;unfold Builtin.«sorted»;refine zZ (m:=checkCount "sorted" 1 1 _) (xc ?_);refine zZ (PySem.W.kdu_collect (Jm lo ex hdat) (I.ok.hd hc) ho (by rw[len,uz];lia) fun h' tk acc kp it=>?_);have ea:acc.toList=ps.map fun e=>wU e.1:=by
    rw[<- p2];have ek:xs.map (fun x=>wU x.2.1)=es.toList.map (·.key):=by rw[he,wM];rfl
    rw[ek];refine List.ext_getElem? fun j=>?_;rw[List.getElem?_map,Array.getElem?_toList,Array.getElem?_toList];cases ej:acc[j]? with
    |none=>
     have:acc.size<=j:=Array.getElem?_eq_none_iff.mp ej;rw[it.1]at this;rw[Array.getElem?_eq_none this];rfl
    |some v=>
     obtain⟨e,g1,g2⟩:=it.2 j v ej;rw[g1,g2];rfl
   have inv:∀e∈ps,fOf ps (.ref e.1)=e.2:=fun e m=>BO p4 m;have em:(ps.map fun e=>wU e.1).map (fOf ps)=ks:=by
    rw[wM,<- p1];exact uW fun e m=>inv e m
   have mk:∀v∈ps.map (fun e=>wU e.1),fOf ps v∈ks:=fun v m=>by rw[<- em];exact xf m
   have nd:((ps.map fun e=>wU e.1).map fun v=>(rnk ks (fOf ps v):Int)).Nodup:=by
    rw[show(ps.map fun e=>wU e.1).map (fun v=>(rnk ks (fOf ps v):Int))=((ps.map fun e=>wU e.1).map (fOf ps)).map (fun e=>(rnk ks e:Int)) by simp only[wM];rfl,em];refine Zc.mpr (YO (fun {a b} ma mb ne e=>?_) ndk);rcases yY a b with g|g|g
    ·have:=(oy ma mb).mp g;lia
    ·exact ne g
    ·have:=(oy mb ma).mp g;lia
   have lv:(ps.map fun e=>wU e.1).length<64:=by rw[zV,<- zV (f:=(·.2)),p1];exact h64
   rw[ea];refine zZ (wpAny_newList ?_ (by rw[uz];lia));have hoL:(h'.push (seqObj "list" (ps.map fun e=>wU e.1).toArray 0)).get? h'.objs.size=some (seqObj "list" (ps.map fun e=>wU e.1).toArray 0):=Heap.get?_push_size _ rfl;have kL:∀b ob,s.heap.get? b=some ob->(((h'.push (seqObj "list" (ps.map fun e=>wU e.1).toArray 0)).update h'.objs.size (ZT fun _=>#[])).push (seqObj "tuple" (ps.map fun e=>wU e.1).toArray 0) |>.push (seqObj "list" #[] 0)).get? b=some ob:=fun b ob e=>by
    have l1:=wF (kp _ _ e);refine Heap.get?_push_of_some _ (Heap.get?_push_of_some _ ?_);rw[Heap.get?_update_ne _ _ _ _ (tG l1)];exact Heap.get?_push_of_some _ (kp _ _ e)
   refine zZ (ZK (Z0 slot_list_sort ⟨_,hoL,rfl⟩ entry_list_sort (Srt.sort_by (kd:=tuples' true) (κ:=fun v=>(rnk ks (fOf ps v):Int)) hoL lv nd (fun h2=>Srt.cmp_S (f:=fOf ps) h2 (fun v m=>?_) fun u mu v mv=>oy (mk u mu) (mk v mv)) fun out pm sr=>⟨_,rfl,?_⟩) (args_list_sort _)))
   ·obtain⟨e,me,rfl⟩:=xS.mp m
    refine⟨e.1,rfl,?_⟩;rw[inv e me];exact(I.twoS (p4 e me)).keep kL
   ·refine xc ⟨_,rfl,?_⟩
    obtain⟨c,el⟩:=sortedHeap_at (out:=out.toArray) hoL;have I1:Inv X pins σ H { s with heap:=h',toks:=tk }:=I.kept kp;have kp2:∀b o,h'.get? b=some o->(sortedHeap (h'.push (seqObj "list" (ps.map fun e=>wU e.1).toArray 0)) h'.objs.size (ps.map fun e=>wU e.1) out.toArray).get? b=some o:=fun b o e=>by
     have l1:=wF e;rw[sortedHeap_old (tG l1) (by rw[size_push'];exact Nat.lt_succ_of_lt l1),Heap.get?_push_ne _ _ _ (tG l1)];exact e
    obtain⟨as,a1,a2⟩:=Gb p4 (out:=out) fun v m=>pm.mem_iff.mp m;have po:(out.map (fOf ps)).Perm ks:=by have:=pm.map (fOf ps);rwa [em]at this
    have so:vh (out.map (fOf ps)):=Zc.mpr (YO (fun {a b} ma mb l=>(oy (mk a (pm.mem_iff.mp ma)) (mk b (pm.mem_iff.mp mb))).mpr l) sr);refine⟨.ref h'.objs.size,_,I1.laid (t':=tk) (a:=h'.objs.size) kp2 (xU _) (show ObjOk X.prog X.w _ _ _ (.lst (as.map V.ref)) from⟨?_,out,c,a1,el⟩),rfl,q _ as po so a2 _ (I1.hok.fresh (xU _))⟩;have:=a1.length;have:=pm.length_eq;rw[uz];lia
  |cons=>exact(id h:False).elim
 |_=>exact(id h:False).elim
def F5:V->List V->Hp->VK->Prop:=fun x vs H Q=>∃l b xs zs,x = .ref l/\vs=[.ref b]/\H l=some (.lst xs)/\H b=some (.tup zs)/\xs.length+zs.length<=sizeLine/\Q .non (upd H l (.lst (xs++zs)))
theorem Fw:MtM X "list.extend" F5:=by
 intro pins s σ H x vs v us Q I rx rv h;obtain⟨l,b,xs,zs,rfl,rfl,hH,hB,hz,q⟩:=h;cases rx;obtain⟨u,rfl,ru⟩:=rv.one;cases ru;obtain⟨z,its,n,r,hl,e⟩:=I.lstM hH;obtain⟨z2,its2,r2,⟨ob,eb,cb,n2,db⟩⟩:=(show ObjOk X.prog X.w H s.heap b (.tup zs) from I.hok b _ hB);have hl2:=r2.length;have fin:Inv X pins σ (upd H l (.lst (xs++zs))) { s with heap:=s.heap.update l (ZT (· ++ its2.toArray)) }:=I.lset (its':=its++its2) hH e (by simp) (r.append r2) (by rw[vx];lia);refine Z0 F.slot_list_extend ⟨_,e,rfl⟩ F.entry_list_extend ?_ (F.args_list_extend_2 _ _);show wpAny _ _ (Yk (.ref l) (.ref b) .none) _ _ s;unfold Yk;refine zZ (wpAny_typeOf ⟨ob,eb,cb⟩ ?_);rw[if_pos (by rw[show(Yi "tuple" == Yi "tuple")=true by decide,Bool.or_true])];refine zZ (YJ eb db (zZ (YJ e rfl ?_)));have hsz:its.toArray.size+its2.toArray.size<=sizeLine:=by rw[z8,z8];lia
 rw[if_neg (by rw[o9 hsz,Bool.and_false];exact vX)];refine zZ (listUpdate_at e rfl ?_ (hsz:=by rw[z8];lia) (hsz2:=by rw[Array.size_append];lia));exact xc ⟨_,rfl,.non,_,fin,rfl,q⟩
end
def CEl(J:It)(n:Nat)(g:TG)(ks:List Nat)(tt:TT)(te:TE)(σ:St)(H1:Hp)(Q:VK):Prop:=∀D,H1 D=none->∃W:Nat->Nat->List V->Hp->Prop,(∃m,W 0 m [] (upd H1 D (.lst []))) /\
 ∀i m ys H2,W i m ys H2->H2 D=some (.lst ys)/\((J.stop i H2/\Q (.ref D) H2)\/(J.go i H2/\∀x H3,J.yld i H2 x H3->∀zs:St,zs.length=n ->
  g x (zs++ks.map fun k=>(σ[k]?).join) H3 fun σ4 H4=>(∃zs4:St,zs4.length=n/\σ4=zs4++ks.map fun k=>(σ[k]?).join) /\
   tt σ4 H4 fun b H5=>if b=true then te σ4 H5 fun y H6=>H6 D=some (.lst ys)/\ys.length<sizeLine/\∃m',m'<m/\W (i+1) m' (ys++[y]) (upd H6 D (.lst (ys++[y])))
    else ∃m',m'<m/\W (i+1) m' ys H5))
theorem ql{K:W.Frag}{tl:TE}{n:Nat}{g:TG}{ks:List Nat}{tt:TT}{te:TE}{σ:St}{H:Hp}{Q:VK}(h:tl σ H fun x H1=>∃a,x = .ref a/\(∃xs,SqL K H1 a xs)/\CEl (Itl K a) n g ks tt te σ H1 Q):gG (o6 K tl) n g ks tt te σ H Q:=h
theorem yi{K:W.Frag}{n:Nat}{g:TG}{ks:List Nat}{tt:TT}{te:TE}{σ:St}{H1:Hp}{Q:VK}(a:Addr)(xs:List V)(P:Addr->Nat->List V->Hp->Prop)(hz:xs.length<sizeLine)
 (h0:∀D,H1 D=none->P D 0 [] (upd H1 D (.lst []))) (hD:∀D i ys H',P D i ys H'->H' D=some (.lst ys)/\SqL K H' a xs/\ys.length<=i)
 (hs:∀D i y ys H' (zs:St) (N1:VK) (N0:Hp->Prop),xs[i]? = some y->P D i ys H'->zs.length=n->(∀v H6,H6 D=some (.lst ys)->P D (i+1) (ys++[v]) (upd H6 D (.lst (ys++[v])))->N1 v H6)->(∀H6,P D (i+1) ys H6->N0 H6) ->
  g y (zs++ks.map fun k=>(σ[k]?).join) H' fun σ4 H4=>(∃zs4:St,zs4.length=n/\σ4=zs4++ks.map fun k=>(σ[k]?).join)/\tt σ4 H4 fun b H5=>if b=true then te σ4 H5 N1 else N0 H5)
 (hd:∀D ys H',P D xs.length ys H'->Q (.ref D) H'):CEl (Itl K a) n g ks tt te σ H1 Q:=by
 intro D hDn;refine⟨fun i m ys H'=>m=xs.length-i/\i<=xs.length/\P D i ys H',⟨_,rfl,Zv _,h0 D hDn⟩,?_⟩;rintro i m ys H' ⟨rfl,hi,p⟩;obtain⟨d1,d2,d3⟩:=hD D i ys H' p;refine⟨d1,?_⟩;rcases Nat.lt_or_ge i xs.length with lt|ge
 ·refine .inr ⟨⟨xs,xs[i],d2,by simp[lt]⟩,?_⟩
  rintro x H3 ⟨rfl,hx⟩ zs hzs;exact hs D i x ys _ zs _ _ (hx xs d2) p hzs (fun v H6 h6 p6=>⟨h6,by lia,_,by lia,rfl,lt,p6⟩) fun H6 p6=>⟨_,by lia,rfl,lt,p6⟩
 ·obtain rfl:i=xs.length:=Nat.le_antisymm hi ge
  exact .inl ⟨⟨xs,d2,xU _⟩,hd D ys H' p⟩
open Lean Meta Simp
def Fs:List Name:=Fj++[`L2.CM,`L2.F5,`L2.tPar3]
def Ez:List Name:=D0++[`L2.yR,`L2.gRp]
def FC(e:Lean.Expr):MetaM (Option Lean.Expr):=do
 let .const n us:=e.getAppFn|return none
 let fr:=Il n || Fs.contains n
 unless fr || Ez.contains n do return none
 let some (.defnInfo d):=(<- getEnv).find? n|return none
 let v:=d.value.instantiateLevelParams d.levelParams us
 if e.getAppNumArgs<v.getNumHeadLambdas then return none
 let b:=v.beta e.getAppArgs
 if fr then return some b
 match <- reduceMatcher? b with
 | .reduced r=>return some r
 | .notMatcher=>return some b
 |_=>return none
dsimproc_decl iq (_):=fun e=>do
 match <- FC e with
 |some r=>return .visit r
 |none=>return .continue
end L2
namespace K19
open PySem L2
structure Row where
 pa:List Nat
 cu:List Nat
 am:Int
structure Bk where
 k:Int
 d:Int
 rs:List Row
noncomputable def sg(a s:Int)(k:Nat):Nat:=97+((a+s*k) % 26).toNat
noncomputable def AD(d:List (Pt × Int))(k:Pt)(v:Int):List (Pt × Int):=if (d.any fun e=>decide (e.1=k))=true then d.map (fun e=>if e.1=k then (e.1,v) else e) else d++[(k,v)]
noncomputable def qM(d:List (Pt × Int))(k:Pt):Option Int:=(d.find? fun e=>decide (e.1=k)).map (·.2)
noncomputable def mP(e:Pt × Int):List Key × V:=(kP e.1,.int e.2)
theorem EV(e:Pt × Int)(k:Pt):decide ((mP e).1=kP k)=decide (e.1=k):=decide_eq_decide.mpr ⟨fun h=>pv h,fun h=>by show kP e.1=kP k;rw[h]⟩
theorem v4(d:List (Pt × Int))(k:Pt)(v:Int):dU (d.map mP) (kP k) (.int v)=(AD d k v).map mP:=by
 unfold dU AD;have e1:((d.map mP).any fun kv=>decide (kv.1=kP k))=d.any fun e=>decide (e.1=k):=by
  rw[List.any_map];exact congrArg (d.any ·) (funext fun e=>EV e k)
 rw[e1];split
 ·rw[wM,wM]
  apply uW;intro e _;show(if (mP e).1=kP k then ((mP e).1,V.int v) else mP e)=mP (if e.1=k then (e.1,v) else e);by_cases h:e.1=k
  ·rw[if_pos h,if_pos (by show kP e.1=kP k;rw[h])];rfl
  ·rw[if_neg h];exact if_neg fun z=>h (pv z)
 ·rw[vH];rfl
theorem jq(k:Pt):∀d:List (Pt × Int),cV (d.map mP) (kP k)=(qM d k).map V.int
 | []=>rfl
 |e::r=>by
  have ih:=jq k r;by_cases h:e.1=k
  ·rw[wV,bU (by show kP e.1=kP k;rw[h])]
   simp[qM,h,mP]
  ·rw[wV,bO (fun z=>h (pv z)),ih]
   simp[qM,h]
noncomputable def stp(d:List (Pt × Int))(r:Row):List (Pt × Int):=AD d (r.pa,r.cu) ((qM d (r.pa,r.cu)).getD 0+r.am)
noncomputable def dk(rs:List Row):List (Pt × Int):=rs.foldl stp []
theorem uh(rs:List Row)(r:Row):dk (rs++[r])=stp (dk rs) r:=by unfold dk;rw[List.foldl_append];rfl
theorem zH(d:List (Pt × Int))(k:Pt)(v:Int):(AD d k v).map (·.1)=if k∈d.map (·.1) then d.map (·.1) else d.map (·.1)++[k]:=by
 unfold AD;have e:((d.any fun e=>decide (e.1=k))=true)↔k∈d.map (·.1):=by
  rw[List.any_eq_true];constructor
  ·rintro⟨x,hx,h⟩;exact xS.mpr ⟨x,hx,of_decide_eq_true h⟩
  ·intro h
   obtain⟨x,hx,h⟩:=xS.mp h;exact⟨x,hx,decide_eq_true h⟩
 by_cases h:k∈d.map (·.1)
 ·rw[if_pos (e.mpr h),if_pos h,wM]
  apply uW;intro x _;show(if x.1=k then (x.1,v) else x).1=x.1;split <;> rfl
 ·rw[if_neg fun z=>h (e.mp z),if_neg h,vH];rfl
theorem yj:(dk (rs++[r])).map (·.1)=if (r.pa,r.cu)∈(dk rs).map (·.1) then (dk rs).map (·.1) else (dk rs).map (·.1)++[(r.pa,r.cu)]:=by
 rw[uh];exact zH _ _ _
theorem pR{α:Type}{P:List α->Prop}(h0:P [])(h1:∀l x,P l->P (l++[x]))(l:List α):P l:=by
 have:∀r:List α,P r.reverse:=by
  intro r
  induction r with
  |nil=>exact h0
  |cons x r ih=>rw[List.reverse_cons];exact h1 _ _ ih
 have h:=this l.reverse
 rwa [List.reverse_reverse]at h
theorem zc(rs:List Row):((dk rs).map (·.1)).Nodup/\(∀e∈(dk rs).map (·.1),∃r∈rs,e=(r.pa,r.cu))/\(dk rs).length<=rs.length:=by
 induction rs using pR with
 |h0=>exact⟨.nil,(fun _ m=>nomatch m),xU _⟩
 |h1 l x ih=>
  obtain⟨i1,i2,i3⟩:=ih;rw[<- zV (f:=(·.1)) (as:=dk (l++[x])),yj];rw[<- zV (f:=(·.1))]at i3;by_cases h:(x.pa,x.cu)∈(dk l).map (·.1)
  ·rw[if_pos h]
   refine⟨i1,fun e m=>?_,by rw[vx];lia⟩;obtain⟨r,hr,g⟩:=i2 e m;exact⟨r,tW _ hr,g⟩
  ·rw[if_neg h]
   refine⟨Y4.mpr ⟨i1,Zi.mpr ⟨zJ,List.nodup_nil⟩,fun a ha b hb=>by rw[zz.mp hb];rintro rfl;exact h ha⟩,fun e m=>?_,by rw[vx,vx,Ye,Ye];lia⟩;rcases tT.mp m with m|m
   ·obtain⟨r,hr,g⟩:=i2 e m
    exact⟨r,tW _ hr,g⟩
   ·exact⟨x,by simp,zz.mp m⟩
theorem BC(h:k∈d.map (·.1)):∃n,qM d k=some n:=by
 obtain⟨e,he,rfl⟩:=xS.mp h;unfold qM;cases f:d.find? fun x=>decide (x.1=e.1) with
 |none=>exact absurd (List.find?_eq_none.mp f e he) (by simp)
 |some z=>exact⟨z.2,rfl⟩
noncomputable def val(rs:List Row)(k:Pt):Int:=(qM (dk rs) k).getD 0
noncomputable def res(rs:List Row)(out:List Pt):List Row:=(out.filter fun k=>decide (val rs k≠0)).map fun k=>⟨k.1,k.2,val rs k⟩
theorem Fe(rs:List Row)(out:List Pt):(res rs out).length<=out.length:=by unfold res;rw[zV];exact Zj _ _
theorem IE(h:k∈(dk rs).map (·.1)):qM (dk rs) k=some (val rs k):=by
 obtain⟨n,e⟩:=BC h;unfold val;rw[e];rfl
theorem C7(rs:List Row)(out:List Pt)(k:Pt):res rs (out++[k])=res rs out++if val rs k≠0 then [⟨k.1,k.2,val rs k⟩] else []:=by
 unfold res;rw[ZY,vH]
 congr 1
 by_cases h:val rs k≠0
 ·rw[if_pos h];simp[h]
 ·rw[if_neg h];simp at h;simp[h]
noncomputable def rsd(t:Int)(bs:List Bk):List Row:=bs.flatMap fun b=>if b.d<=t then b.rs else []
theorem p5(t:Int):∀bs:List Bk,(bs.filter fun b=>decide (b.d<=t)).flatMap (·.rs)=rsd t bs
 | []=>rfl
 |b::r=>by
  have ih:=p5 t r;unfold rsd at ih |-
  rw[YV];by_cases h:b.d<=t
  ·rw[if_pos h,ZN (by simpa using h),YV,ih]
  ·rw[if_neg h,ZM (by simpa using h),ih];rfl
end K19
namespace K3
noncomputable def S(a:Int):Int:=
 if a<=0 then 0 else if a=1 then 31 else if a=2 then 59 else if a=3 then 90 else if a=4 then 120
 else if a=5 then 151 else if a=6 then 181 else if a=7 then 212 else if a=8 then 243 else if a=9 then 273
 else if a=10 then 304 else 334
noncomputable def LD(y:Int):Int:=(y+3) / 4-(y+99) / 100+(y+399) / 400
noncomputable def FD(m:Int):Int:=365*(m / 12)+(if m % 12 > 1 then LD (m / 12+1) else LD (m / 12))+S (m % 12)
noncomputable def LG(y m:Int):Int:=
 if m=2 then (if (y % 4=0/\y % 100≠0)\/y % 400=0 then 29 else 28)
 else if m=4\/m=6\/m=9\/m=11 then 30 else 31
theorem yV(h:m=12*y+a)(h0:0<=a)(h1:a<12) :
 FD m=365*y+(if a > 1 then LD (y+1) else LD y)+S a:=by
 have e1:m / 12=y:=by lia
 have e2:m % 12=a:=by lia
 unfold FD;rw[e1,e2]
theorem q4(y:Int):(y+4) / 4=(y+3) / 4+if y % 4=0 then 1 else 0:=by split <;> lia
theorem L9(y:Int):(y+100) / 100=(y+99) / 100+if y % 100=0 then 1 else 0:=by split <;> lia
theorem LQ(y:Int):(y+400) / 400=(y+399) / 400+if y % 400=0 then 1 else 0:=by split <;> lia
theorem Ef(y:Int):LD (y+1)=LD y+(if (y % 4=0/\y % 100≠0)\/y % 400=0 then 1 else 0):=by
 unfold LD;rw[Xl,Xl,Xl];show(y+4) / 4-(y+100) / 100+(y+400) / 400=_;rw[q4,L9,LQ];generalize (y+3) / 4=A;generalize (y+99) / 100=B;generalize (y+399) / 400=C;by_cases a:y % 400=0
 ·have b:y % 100=0:=by lia
  have c:y % 4=0:=by clear b;lia
  rw[if_pos a,if_pos b,if_pos c,if_pos (.inr a)];clear a b c;lia
 ·by_cases b:y % 100=0
  ·have c:y % 4=0:=by clear a;lia
   rw[if_neg a,if_pos b,if_pos c,if_neg (fun z=>z.elim (fun w=>w.2 b) a)];clear a b c;lia
  ·by_cases c:y % 4=0
   ·rw[if_neg a,if_neg b,if_pos c,if_pos (.inl ⟨c,b⟩)]
    clear a b c;lia
   ·rw[if_neg a,if_neg b,if_neg c,if_neg (fun z=>z.elim (fun w=>c w.1) a)]
    clear a b c;lia
theorem IL:∀a:Nat,a<11->a≠1->S (a+1)=S a+LG 1 (1+a):=by decide
theorem Iv(y z m:Int)(h:m≠2):LG y m=LG z m:=by unfold LG;rw[if_neg h,if_neg h]
theorem HL(y:Int):LG (2000+y) 2=28+(LD (y+1)-LD y):=by
 have h:(((2000+y) % 4=0/\(2000+y) % 100≠0)\/(2000+y) % 400=0)↔((y % 4=0/\y % 100≠0)\/y % 400=0):=by
  have e (k:Int) (d:2000=k*(2000 / k)):(2000+y) % k=y % k:=by rw[Int.add_comm,d,Int.add_mul_emod_self_left]
  rw[e 4 rfl,e 100 rfl,e 400 rfl]
 rw[Ef,LG,if_pos rfl];by_cases c:(y % 4=0/\y % 100≠0)\/y % 400=0
 ·rw[if_pos c,if_pos (h.mpr c)];lia
 ·rw[if_neg c,if_neg (fun q=>c (h.mp q))];lia
theorem ui(m:Int):FD (m+1)=FD m+LG (2000+m / 12) (1+m % 12):=by
 have b0:0<=m % 12:=Yn _ (by decide);have b1:m % 12<12:=Yv _ (by decide);have e:m=12*(m / 12)+m % 12:=(Int.mul_ediv_add_emod m 12).symm;have a1:=yV e b0 b1;generalize m / 12=y at *;generalize m % 12=z at *;obtain⟨a,rfl⟩:=Int.eq_ofNat_of_zero_le b0;by_cases c:a=11
 ·subst c
  rw[a1,yV (m:=m+1) (y:=y+1) (a:=0) (by lia) (by decide) (by decide)];show _+LD (y+1)+0=_+LD (y+1)+334+31;lia
 ·have a2:=yV (m:=m+1) (y:=y) (a:=a+1) (by lia) (by lia) (by lia)
  by_cases c1:a=1
  ·subst c1
   rw[a1,a2];show _+LD (y+1)+59=_+LD y+31+LG (2000+y) 2;rw[HL];lia
  ·have s:=IL a (by lia) c1
   rw[a1,a2,Iv _ 1 _ (by lia),s];by_cases c2:a=0
   ·subst c2;exact(Xl _ _ _).symm
   ·rw[if_pos (by lia),if_pos (by lia)];lia
theorem C4(y m:Int):28<=LG y m/\LG y m<=31:=by
 unfold LG;repeat' split
 all_goals lia
theorem JY(m:Int):FD m+28<=FD (m+1)/\FD (m+1)<=FD m+31:=by
 have h:=ui m;have g:=C4 (2000+m / 12) (1+m % 12);lia
theorem uP(m:Int)(k:Nat):FD m+28*k<=FD (m+k):=by
 induction k with
 |zero=>simp
 |succ k ih=>
  have h:=JY (m+k);have e:m+((k+1:Nat):Int)=m+k+1:=by lia
  rw[e];lia
theorem de(h:m<=n):FD m+28*(n-m)<=FD n:=by
 have g:=uP m (n-m).toNat;have e:m+((n-m).toNat:Int)=n:=by lia
 rw[e]at g;lia
theorem xw:FD 0=0:=by decide
theorem jW:FD 4800=146097:=by decide
open Classical in
noncomputable def MO(d:Int):Int:=if h:∃m,FD m<=d/\d<FD (m+1) then Classical.choose h else 0
theorem KU(h1:FD m<=d)(h2:d<FD (m+1)):m=MO d:=by
 have h:∃m,FD m<=d/\d<FD (m+1):=⟨m,h1,h2⟩;have g:=Classical.choose_spec h;unfold MO;rw[dif_pos h];generalize Classical.choose h=n at g;obtain⟨g1,g2⟩:=g;by_cases c:m+1<=n
 ·have:=de c;lia
 ·by_cases c2:n+1<=m
  ·have:=de c2;lia
  ·lia
theorem rE(h1:FD m<=d)(h2:d<FD (m+1)):MO d=m:=(KU h1 h2).symm
theorem Ln(h0:0<=m):0<=FD m:=by
 have:=de h0;rw[xw]at this;lia
theorem Kz(h1:m<=4799):FD (m+1)<=146097:=by
 have:=de (show m+1<=4800 by lia);rw[jW]at this;lia
theorem Gx(h0:0<=d)(h1:d<=146096):0<=MO d/\MO d<=4799/\FD (MO d)<=d/\d<FD (MO d+1):=by
 have ex:∀(n:Nat),FD n<=d\/∃k:Nat,k<n/\FD k<=d/\d<FD (k+1):=by
  intro n
  induction n with
  |zero=>left;show FD 0<=d;rw[xw];exact h0
  |succ n ih=>
   rcases ih with h|⟨k,hk,h⟩
   ·by_cases c:FD ((n:Int)+1)<=d
    ·left;exact c
    ·right;exact⟨n,by lia,h,by lia⟩
   ·right;exact⟨k,by lia,h⟩
 rcases ex 4800 with h|⟨k,hk,h2,h3⟩
 ·have e:FD ((4800:Nat):Int)=146097:=jW
  rw[e]at h;lia
 ·have e:=rE h2 h3
  rw[e];exact⟨by lia,by lia,h2,h3⟩
noncomputable def lV(d n:Int):Int:=if FD (MO d+n+1)-1<FD (MO d+n)+(d-FD (MO d)) then FD (MO d+n+1)-1 else FD (MO d+n)+(d-FD (MO d))
theorem D5(hm:MO d=m)(h1:FD m<=d)(h2:0<=m+n)(h3:m+n<=4799) :
 0<=lV d n/\lV d n<=146096/\MO (lV d n)=m+n/\lV d n-FD (m+n)+1=(if LG (2000+(m+n) / 12) (1+(m+n) % 12)<d-FD m+1 then LG (2000+(m+n) / 12) (1+(m+n) % 12) else d-FD m+1):=by
 have hs:=ui (m+n);have hl:=C4 (2000+(m+n) / 12) (1+(m+n) % 12);have a0:=Ln h2;have a1:=Kz h3;unfold lV;rw[hm];have hM:MO (if FD (m+n+1)-1<FD (m+n)+(d-FD m) then FD (m+n+1)-1 else FD (m+n)+(d-FD m))=m+n:=by
  apply rE <;> (split <;> lia)
 refine⟨?_,?_,hM,?_⟩
 ·split <;> lia
 ·split <;> lia
 ·split <;> split <;> lia
end K3
namespace K22
open PySem L2 K19
theorem oV:∀ {bs:List Bk},(∀b∈bs,b.rs.length<=N)->(rsd t bs).length<=N*bs.length
 | [],_=>xU _
 |b::r,h=>by
  have ih:=oV (t:=t) (bs:=r) fun x m=>h x (.tail _ m);have hb:=h b (.head _);unfold rsd at ih |-
  rw[YV,vx,sq,Nat.mul_add,Nat.mul_one];split
  ·lia
  ·rw[Yz];lia
noncomputable def sm(rs:List Row)(k:Pt):Int:=match rs with
 | []=>0
 |r::q=>(if (r.pa,r.cu)=k then r.am else 0)+sm q k
theorem A4(k:Pt)(y:List Row):∀x:List Row,sm (x++y) k=sm x k+sm y k
 | []=>by rw[List.nil_append];simp[sm]
 |r::q=>by rw[ZV,sm,sm,A4 k y q];lia
theorem BA(k:Pt)(v:Int)(k':Pt)(d:List (Pt × Int)):qM (AD d k v) k'=if k'=k then some v else qM d k':=by
 have inj:∀ {x y:Option Int},x.map V.int=y.map V.int->x=y:=fun {x y} h=>by
  cases x <;> cases y <;> first|rfl|cases h
  rfl
 refine inj ?_;rw[<- jq,<- v4,DN];by_cases c:k'=k
 ·rw[if_pos c,if_pos (by rw[c])];rfl
 ·rw[if_neg c,if_neg (fun z=>c (pv z)),jq]
theorem C0(rs:List Row)(k:Pt):val rs k=sm rs k:=by
 unfold val
 induction rs using pR with
 |h0=>rfl
 |h1 l x ih=>
  rw[uh,A4];unfold stp;rw[BA];by_cases c:k=(x.pa,x.cu)
  ·rw[if_pos c,<- c,<- ih];simp[sm,c]
  ·rw[if_neg c,ih,show sm [x] k=0 by simp only[sm];rw[if_neg fun z=>c z.symm];rfl];lia
theorem FN(h:∀r∈rs,(r.pa,r.cu)≠k):sm rs k=0:=by
 induction rs with
 |nil=>rfl
 |cons r q ih=>rw[sm,if_neg (h r (.head _)),ih fun x m=>h x (.tail _ m)];rfl
theorem G_:∀r∈rs,(r.pa,r.cu)∈(dk rs).map (·.1):=by
 induction rs using pR with
 |h0=>exact fun _ m=>nomatch m
 |h1 l x ih=>
  intro r m;rw[yj];rcases tT.mp m with m|m
  ·split
   ·exact ih r m
   ·exact tW _ (ih r m)
  ·rw[zz.mp m]
   split
   ·assumption
   ·exact wC _ (zz.mpr rfl)
noncomputable def trn(rs:List Row):List Row:=rs.map fun r=>⟨r.pa,r.cu,-r.am⟩
theorem ceA{K:W.Frag}{β γ:Type}{n:Nat}{g:TG}{ks:List Nat}{tt:TT}{te:TE}{σ:St}{H:Hp}{Q:VK}{S:Hp->V->γ->Prop}(hS:∀(G G':Hp) (v:V) (c:γ),(∀t l,G t=some (.tup l)->G' t=some (.tup l))->S G v c->S G' v c)
 (a:Addr) (vs:List V) (R:List β) (Rel:V->β->Prop) (p:β->Bool) (f:β->γ) (ha:H a=some (.lst vs)) (hN:NoT H) (hR:A2 Rel vs R) (hz:vs.length<sizeLine)
 (hs:∀v b,b∈R->Rel v b->∀G (zs:St) (N1:VK) (N0:Hp->Prop),Same H G->NoT G->zs.length=n->(p b=true->∀u G',Same G G'->NoT G'->S G' u (f b)->N1 u G')->(p b=false->∀G',Same G G'->NoT G'->N0 G') ->
  g v (zs++ks.map fun k=>(σ[k]?).join) G fun σ4 H4=>(∃zs4:St,zs4.length=n/\σ4=zs4++ks.map fun k=>(σ[k]?).join)/\tt σ4 H4 fun b H5=>if b=true then te σ4 H5 N1 else N0 H5)
 (q:∀D ws G,H D=none->Same H G->NoT G->G D=some (.lst ws)->A2 (S G) ws ((R.filter p).map f)->Q (.ref D) G):CEl (Itl K a) n g ks tt te σ H Q:=by
 refine yi a vs (fun D i ys G=>H D=none/\Same H G/\NoT G/\G D=some (.lst ys)/\ys.length<=i/\A2 (S G) ys (((R.take i).filter p).map f)) hz ?_ ?_ ?_ ?_
 ·exact fun D hD=>⟨hD,aj _ hD,aq hN rfl,af,xU _,.nil⟩
 ·rintro D i ys G ⟨hD,sm,_,gd,ly,_⟩
  exact⟨gd,aA (sm _ _ ha),ly⟩
 ·rintro D i y ys G zs N1 N0 hy ⟨hD,sm,nG,gd,ly,A⟩ hzs n1 n0
  obtain⟨b,hb,rb⟩:=hR.at_ hy;have mb:=vW hb;have et:R.take (i+1)=R.take i++[b]:=by rw[Xz,hb];rfl
  rw[et,ZY,vH]at n1 n0;refine hs y b mb rb G zs N1 N0 sm nG hzs (fun pb u G' s' nG' hu=>?_) fun pb G' s' nG'=>n0 G' ⟨hD,sm.trans s',nG',s' _ _ gd,Nat.le_succ_of_le ly,?_⟩
  ·have gd':=s' _ _ gd
   have kt:∀t l,G' t=some (.tup l)->upd G' D (.lst (ys++[u])) t=some (.tup l):=fun t l e=>by
    rw[ai fun z=>by rw[z,gd']at e;cases e];exact e
   refine n1 _ _ gd' ⟨hD,fun c o e=>?_,aq nG' rfl,af,by rw[vx];exact Nat.succ_le_succ ly,?_⟩
   ·rw[ai (aL e hD)];exact s' _ _ (sm _ _ e)
   ·rw[ZN pb,Yy]
    exact(A.imp fun _ _ _ _ h=>hS _ _ _ _ kt (hS _ _ _ _ (fun t l e=>s' _ _ e) h)).snoc (hS _ _ _ _ kt hu)
  ·rw[ZM (by rw[pb];decide),Yy,ZX,Ze]
   exact A.imp fun _ _ _ _ h=>hS _ _ _ _ (fun t l e=>s' _ _ e) h
 ·rintro D ys G ⟨hD,sm,nG,gd,_,A⟩
  rw[hR.len,Zl]at A;exact q D ys G hD sm nG gd A
end K22
namespace L2
open PySem PyProof.Rows
theorem Bw(h:H a=some o):upd H a o=H:=by
 funext b;by_cases e:b=a
 ·subst e;rw[af,h]
 ·rw[ai e]
noncomputable def isD:HO->Bool
 | .dK _=>true
 | .dT _=>true
 |_=>false
noncomputable def g_:HO->Nat
 | .dK kvs=>kvs.length
 | .dT kvs=>kvs.length
 |_=>0
def wb(H:Hp)(u:HO)(i:Nat)(x v:V):Prop:=match u with
 | .dK kvs=>∃k,kvs[i]? = some (k,v)/\x=kV k
 | .dT kvs=>∃k q,kvs[i]? = some (k,v)/\x = .ref q/\H q=some (.tup (k.map kV))
 |_=>False
theorem FR(h:(bM P w).is k u=true):RelV (kV k) u:=by
 cases k with
 |inl i=>obtain⟨t,z⟩:=Value.isInt_shape h;exact⟨t,z⟩
 |inr x=>obtain⟨t,z⟩:=Value.isStrOf_shape h;exact⟨t,z⟩
theorem Gs{α β:Type}{R:α->β->Prop}{xs:List α}{ys:List β}(h:Paired R xs ys):∀ {i:Nat} {y:β},ys[i]? = some y->∃x,xs[i]? = some x/\R x y:=by
 induction h with
 |nil=>intro i y e;simp at e
 |cons r _ ih=>
  intro i y e;cases i with
  |zero=>cases e;exact⟨_,rfl,r⟩
  |succ i=>exact ih (i:=i) (by simpa using e)
section
variable{X:Cx}{pins:List (Addr × Obj)}{σ:St}{H:Hp}{s:Shared}{a:Addr}
theorem za(I:Inv X pins σ H s){u:HO}(hu:isD u=true)(x:ObjOk X.prog X.w H s.heap a u):∃(o:Obj) (es:Array YM) (ep:Nat),s.heap.get? a=some o/\o.ExactDict/\o.data = .dict es ep/\(a==ZE)=false/\es.size=g_ u /\
 ∀i e,es[i]? = some e->∃x v,wb H u i x v/\RelV x e.key/\RelV v e.val:=by
 cases u with
 |dK kvs=>
  obtain⟨z,lo,vs,rel,o,es,ep,ho,ex,hd,hk,hp,hn⟩:=x;have hl:es.size=vs.length:=by rw[<- hp.length];simp
  refine⟨o,es,ep,ho,ex,hd,lo,by rw[hl];exact rel.length.symm,fun i e he=>?_⟩;have hi:i<vs.length:=by rw[<- hl];exact(Array.getElem?_eq_some_iff.mp he).1
  obtain⟨p1,p2⟩:=hp.get? (e:=e) (k:=vs[i].1) (v:=vs[i].2) (by rw[Array.getElem?_toList];exact he) (by simp[hi]);obtain⟨⟨k,v⟩,hx,e1,e2⟩:=Gs rel (y:=vs[i]) (List.getElem?_eq_getElem hi);have e1':k=vs[i].1:=e1;refine⟨kV k,v,⟨k,hx,rfl⟩,by rw[e1'];exact FR p1,by rw[p2];exact e2⟩
 |dT kvs=>
  obtain⟨z,lo,xs,rel,o,es,ep,ho,ex,hd,he,hn⟩:=x;have hl:es.size=xs.length:=size_of_entries he;refine⟨o,es,ep,ho,ex,hd,lo,by rw[hl];exact(Paired.length rel).symm,fun i e h=>?_⟩;rw[entry_at he i]at h;obtain⟨q,hq,rfl⟩:=Zg.mp h;obtain⟨⟨k,v⟩,hx,e1,e2,e3⟩:=Gs rel hq;exact⟨.ref q.2.1,v,⟨k,q.2.1,hx,rfl,e2⟩,rfl,e3⟩
 |_=>cases hu
theorem Inv.freeze(I:Inv X pins σ H s)(hu:isD u=true)(e:Rd H a u):∃(o:Obj) (es:Array YM) (ep:Nat),s.heap.get? a=some o/\o.ExactDict/\o.data = .dict es ep/\(a==ZE)=false/\es.size=g_ u/\(H a=some u\/H a=some (.frz o u))/\Inv X pins σ (upd H a (.frz o u)) s:=by
 have x:=B6 I.hok e;obtain⟨o,es,ep,ho,ex,hd,lo,hz,_⟩:=za I hu x;rcases e with e|⟨o',e⟩
 ·refine⟨o,es,ep,ho,ex,hd,lo,hz,.inl e,?_⟩
  have no:∀b w,H b=some w->isD w=false->b≠a:=fun b w q n z=>by rw[z,e]at q;cases q;rw[hu]at n;cases n
  exact I.write (x:=a) (e:=a) (t':=s.toks) (h':=s.heap) (by rw[e];cases u <;> first|exact ZD|cases hu) (.inl rfl) (fun _ _ _ q=>q) ⟨o,ho⟩ ⟨ho,x.stay (fun _ _ _ q=>q) (fun c z=>by rw[ai (no c _ z rfl)];exact z) fun c xs z=>by rw[ai (no c _ z rfl)];exact z⟩
 ·have h1:=(show ObjOk X.prog X.w H s.heap a (.frz o' u) from I.hok a _ e).1
  rw[ho]at h1;cases h1;refine⟨o,es,ep,ho,ex,hd,lo,hz,.inr e,?_⟩;rw[Bw e];exact I
theorem Inv.thaw(I:Inv X pins σ H s)(e:H a=some (.frz o u))(nf:∀o' u',X.H₀ a≠some (.frz o' u')):Inv X pins σ (upd H a u) s:=by
 have na:∀b,H b=none->b≠a:=fun b n z=>by rw[z,e]at n;cases n
 have no:∀b w,H b=some w->(∀o x,w ≠ .frz o x)->b≠a:=fun b w q n z=>by rw[z,e]at q;cases q;exact n _ _ rfl
 have own:∀ {d:Addr} c,H c=some (.own d)->upd H a u c=some (.own d):=fun c z=>by rw[ai (no c _ z (by intro _ _ y;cases y))];exact z
 have tup:∀c xs,H c=some (.tup xs)->upd H a u c=some (.tup xs):=fun c xs z=>by rw[ai (no c _ z (by intro _ _ y;cases y))];exact z
 refine⟨I.ok,I.os,I.bare,⟨I.base.keep,I.base.slot,fun b ob q n hx=>?_,I.base.there,fun b xs q=>tup b xs (I.base.tups b xs q),fun b ob x q=>?_,fun b ps q=>?_⟩,I.loc,I.cell,?_,fun x c ec=>?_,fun p hp=>?_,fun b ob q=>?_,I.len⟩
 ·have h:=I.base.free b ob q n hx
  rw[ai (na b h)];exact h
 ·have h:=I.base.frzs b ob x q
  by_cases eb:b=a
  ·subst eb;exact absurd q (nf _ _)
  ·rw[ai eb];exact h
 ·obtain⟨m,h⟩:=I.base.tbls b ps q
  exact⟨m,by rw[ai (no b _ h (by intro _ _ z;cases z))];exact h⟩
 ·rw[ai (na _ I.free)];exact I.free
 ·have h:=I.freeC x c ec
  rw[ai (na _ h)];exact h
 ·obtain⟨p1,p2,p3⟩:=I.pin p hp
  exact⟨p1,by rw[ai (na _ p2)];exact p2,p3⟩
 ·by_cases eb:b=a
  ·subst eb
   rw[af]at q;cases q;exact(show ObjOk X.prog X.w H s.heap b (.frz o u) from I.hok _ _ e).2.stay (fun _ _ _ z=>z) own tup
  ·rw[ai eb]at q
   exact(I.hok b ob q).stay (fun _ _ _ z=>z) own tup
def Th(H H1:Hp)(P:Hp->Prop):Prop:=∃a o u,H1 a=some (.frz o u)/\((H a=some u/\isD u=true/\P (upd H1 a u))\/(H a=some (.frz o u)/\P H1))
theorem Inv.th(I:Inv X pins σ H s)(I1:Inv X pins σ1 H1 s1)(h:Th H H1 P):∃H2,Inv X pins σ1 H2 s1/\P H2:=by
 obtain⟨a,o,u,e1,⟨e2,hu,q⟩|⟨e2,q⟩⟩:=h
 ·exact⟨_,I1.thaw e1 (fun o' u' z=>by rw[I.base.frzs _ _ _ z]at e2;cases e2;cases hu),q⟩
 ·exact⟨_,I1,q⟩
def F4(te:TE):TE:=fun σ H Q=>te σ H fun v H1=>Th H H1 (Q v)
theorem yN(he:PE X e te):PE X e (F4 te):=by
 intro pins s σ H Q I h;refine thn (he pins s σ H _ I h) fun u s1 hq_=>?_;obtain⟨v,H1,I1,r,q⟩:=hq_;obtain⟨H2,I2,q2⟩:=I.th I1 q;exact⟨v,H2,I2,r,q2⟩
def Gk(ts:TS):TS:=fun D σ H=>ts { nx:=fun σ' H1=>Th H H1 (D.nx σ'),rt:=fun v H1=>Th H H1 (D.rt v),bk:=fun σ' H1=>Th H H1 (D.bk σ'),ct:=fun σ' H1=>Th H H1 (D.ct σ') } σ H
theorem FY{st:Stmt}{ts:TS}(h:PS X st ts):PS X st (Gk ts):=by
 intro pins s σ H D I q;refine thn (h pins s σ H _ I q) fun f s1 hf=>?_;cases f with
 |next=>
  obtain⟨σ',H',I',z⟩:=hf;obtain⟨H2,I2,q2⟩:=I.th I' z;exact⟨σ',H2,I2,q2⟩
 |brk=>
  obtain⟨σ',H',I',z⟩:=hf;obtain⟨H2,I2,q2⟩:=I.th I' z;exact⟨σ',H2,I2,q2⟩
 |cont=>
  obtain⟨σ',H',I',z⟩:=hf;obtain⟨H2,I2,q2⟩:=I.th I' z;exact⟨σ',H2,I2,q2⟩
 |ret u=>
  obtain⟨v,σ',H',I',r,z⟩:=hf;obtain⟨H2,I2,q2⟩:=I.th I' z;exact⟨v,σ',H2,I2,r,q2⟩
noncomputable def Itk(a:Addr)(o:Obj)(u:HO):It:=
 ⟨fun i H=>i<g_ u/\H a=some (.frz o u),fun i H x H'=>H'=H/\∃v,wb H u i x v,fun i H=>g_ u<=i/\H a=some (.frz o u)⟩
theorem DO(I:Inv X pins σ H s)(hu:isD u=true)(hd:o.data = .dict es ep)(e:H a=some (.frz o u)):s.heap.get? a=some o/\es.size=g_ u/\∀i e,es[i]? = some e->∃x v,wb H u i x v/\RelV x e.key/\RelV v e.val:=by
 obtain⟨ho,x⟩:=(show ObjOk X.prog X.w H s.heap a (.frz o u) from I.hok a _ e);obtain⟨o',es',ep',ho',ex,hd',lo,hz,h⟩:=za I hu x;rw[ho]at ho';cases ho';rw[hd]at hd';injection hd' with h2 h3
 subst h2;exact⟨ho,hz,h⟩
theorem AB{P:Program}{w:World}{K:W.Frag}{tg:Expr}(a it:Addr)(o:Obj)(es:Array YM)(ep:Nat)(u:HO)(hu:isD u=true)(hd:o.data = .dict es ep):CD P w K tg (Itk a o u) [it] it (fun i h=>h.IsKeyIter it a i es.size ep) where
 mem:=by simp
 obj:=fun i h st b hb=>by
  have e:b=it:=by simpa using hb
  subst e;obtain⟨o,e,c,d⟩:=st;exact⟨o,e,fun v z=>by rw[d]at z;cases z⟩
 keep:=fun i h h' st k=>st.at fun o e=>k it (by simp) o e
 item:=by
  intro X hP hw hK hc i pins s σ H E I hf st hg;subst hP hw hK;obtain⟨hi,hq⟩:=hg;obtain⟨ho,hz,hen⟩:=DO I hu hd hq;obtain⟨f0,f1,f2,f3,f4,f5⟩:=hf it (by simp);have hx:es[i]? = some es[i]:=by simp[show i<es.size by lia]
  obtain⟨x,v,en,rx,rv⟩:=hen i _ hx;refine zg st ho hd hx fun h' st' sb=>?_;have I1:Inv X pins σ H { s with heap:=h' }:=I.turned (t':=s.toks) (fun b o hb e=>(sb.2 b hb).trans e) f0 f1 f3 f4 f5;obtain⟨oi,e,c,d⟩:=id st';exact⟨_,rfl,rf (s:={ s with heap:=h' }) e c d (by decide) ⟨x,H,I1,rx,⟨rfl,v,en⟩,st',fun b hb=>(hf b hb).1⟩⟩
 done:=by
  intro X hP hw hK hc i pins s σ H E I hf st hg;subst hP hw hK;obtain⟨hi,hq⟩:=hg;obtain⟨ho,hz,hen⟩:=DO I hu hd hq;obtain⟨f0,f1,f2,f3,f4,f5⟩:=hf it (by simp);exact Cb (I.ok.hd hc) st ho hd (by lia) fun h' eb=>⟨rfl,I.turned (t':=s.toks) (fun b o hb e=>eb b o hb e) f0 f1 f3 f4 f5⟩
 self:=fun _ _ _ _ _ st h=>wpAny_pyIter_keyiter st h
def Cg(td:TE):TI:=fun σ H R=>td σ H fun x H1=>∃b u,x = .ref b/\isD u=true/\Rd H1 b u/\∀o,(H1 b=some u\/H1 b=some (.frz o u))->R (Itk b o u) (upd H1 b (.frz o u))
theorem tJ{tg l:Expr}{td:TE}(hl:PE X l td):PI X tg l (Cg td):=by
 intro pins s σ H R I h;refine thn (hl pins s σ H _ I h) fun v s1 hq_=>?_;obtain⟨x,H1,I1,rx,b,u,ex,hu,hr,q⟩:=hq_;subst ex;cases (show v=wU b from rx);obtain⟨o,es,ep,ho,ex,hd,lo,hz,hor,I2⟩:=I1.freeze hu hr;refine yu lo ho ex hd ?_;refine⟨s1.heap.objs.size,[s1.heap.objs.size],_,Itk b o u,_,rfl,I2.kept (t':=s1.toks) (fun c ob e=>Heap.get?_push_of_some _ e),AB b _ o es ep u hu hd,⟨_,Heap.get?_push_size _ rfl,rfl,rfl⟩,fun c hc=>?_,q o hor⟩;rw[zz.mp hc];exact I2.fpOk (xU _) (I2.hok.fresh (xU _))
end
theorem Gf(h:td σ H fun x H1=>∃b u,x = .ref b/\isD u=true/\Rd H1 b u/\∀o,(H1 b=some u\/H1 b=some (.frz o u))->CEl (Itk b o u) n g ks tt te σ (upd H1 b (.frz o u)) fun v H2=>Th H H2 (Q v)):F4 (gG (Cg td) n g ks tt te) σ H Q:=h
theorem Le(b:Addr)(o:Obj)(u:HO)(P:Addr->Nat->List V->Hp->Prop)(hz:g_ u<sizeLine)
 (h0:∀D,H1 D=none->P D 0 [] (upd H1 D (.lst []))) (hD:∀D i ys H',P D i ys H'->H' D=some (.lst ys)/\H' b=some (.frz o u)/\ys.length<=i)
 (hs:∀D i y v ys H' (zs:St) (N1:VK) (N0:Hp->Prop),i<g_ u->wb H' u i y v->P D i ys H'->zs.length=n->(∀v H6,H6 D=some (.lst ys)->P D (i+1) (ys++[v]) (upd H6 D (.lst (ys++[v])))->N1 v H6)->(∀H6,P D (i+1) ys H6->N0 H6) ->
  g y (zs++ks.map fun k=>(σ[k]?).join) H' fun σ4 H4=>(∃zs4:St,zs4.length=n/\σ4=zs4++ks.map fun k=>(σ[k]?).join)/\tt σ4 H4 fun b H5=>if b=true then te σ4 H5 N1 else N0 H5)
 (hd:∀D ys H',P D (g_ u) ys H'->Q (.ref D) H'):CEl (Itk b o u) n g ks tt te σ H1 Q:=by
 intro D hDn;refine⟨fun i m ys H'=>m=g_ u-i/\i<=g_ u/\P D i ys H',⟨_,rfl,Zv _,h0 D hDn⟩,?_⟩;rintro i m ys H' ⟨rfl,hi,p⟩;obtain⟨d1,d2,d3⟩:=hD D i ys H' p;refine⟨d1,?_⟩;rcases Nat.lt_or_ge i (g_ u) with lt|ge
 ·refine .inr ⟨⟨lt,d2⟩,?_⟩
  rintro x H3 ⟨rfl,v,hx⟩ zs hzs;exact hs D i x v ys _ zs _ _ lt hx p hzs (fun v H6 h6 p6=>⟨h6,by lia,_,by lia,rfl,lt,p6⟩) fun H6 p6=>⟨_,by lia,rfl,lt,p6⟩
 ·obtain rfl:i=g_ u:=Nat.le_antisymm hi ge
  exact .inl ⟨⟨xU _,d2⟩,hd D ys H' p⟩
section
variable{X:Cx}{pos:Pos}
def De(K:W.Frag)(n:Nat)(t:TGs):TG:=fun v σ H Q=>∃a xs,v = .ref a/\SqL K H a xs/\xs.length=n/\t xs σ H Q
theorem yE(K:W.Frag)(hc:X.calm=true)(h:PGs X es t)(hK:X.K=K:=by rfl)
 (hn:(YS es X.env).length=n:=by rfl) (hst:(YS es X.env).findIdx? (·.1)=none:=by rfl):PG X (.Tuple es k pos) (De K n t):=by
 subst hK;intro pins s σ H v u Q I r hw;obtain⟨a,xs,e1,hq,hl,hw⟩:=hw;subst e1;cases r;obtain⟨its,rv,pl,hz⟩:=I.list hq;have hl2:=rv.length;rw[PyProof.Rows.assign_Tuple];refine zZ (YC ?_);have hs:(YS es X.env).length=its.toArray.size:=by rw[hn,z8];lia
 unfold unpack;rw[hs,hst];refine zZ (ZK (PySem.W.kun_itemsOf (I.ok.hd hc) pl.isList fun h' hx=>?_));exact h pins _ σ H xs _ Q (I.kept (t':=s.toks) fun b o e=>hx b o (tG (wF e)) e) (by simpa using rv) hw
end
end L2
namespace L2
open PySem
theorem HG(h:td σ H fun x H1=>∃b u,x = .ref b/\isD u=true/\Rd H1 b u/\∀o,(H1 b=some u\/H1 b=some (.frz o u))->FE (Itk b o u) g tb { nx:=fun σ' H2=>Th H H2 (D.nx σ'),rt:=fun v H2=>Th H H2 (D.rt v),bk:=fun σ' H2=>Th H H2 (D.bk σ'),ct:=fun σ' H2=>Th H H2 (D.ct σ') } σ (upd H1 b (.frz o u))):Gk (xM (Cg td) g tb) D σ H:=h
theorem Hj(Pv:Nat->St->Hp->Prop)(h0:Pv 0 σ H)(hl:∀i σ H,Pv i σ H->H b=some (.frz o u))
 (hs:∀i x v σ H,i<g_ u->wb H u i x v->Pv i σ H->g x σ H fun σ2 H2=>tb { D with nx:=Pv (i+1),ct:=Pv (i+1),bk:=D.nx } σ2 H2) (hd:∀σ H,Pv (g_ u) σ H->D.nx σ H):FE (Itk b o u) g tb D σ H:=by
 refine⟨fun i m σ H=>m=g_ u-i/\i<=g_ u/\Pv i σ H,⟨_,rfl,Zv _,h0⟩,?_⟩;rintro i m σ H ⟨rfl,hi,p⟩;have q:=hl i σ H p;rcases Nat.lt_or_ge i (g_ u) with lt|ge
 ·refine .inr ⟨⟨lt,q⟩,Pv (i+1),fun σ' H' p'=>⟨_,by lia,rfl,lt,p'⟩,?_⟩
  rintro y H' ⟨rfl,v,en⟩;exact hs i y v σ _ lt en p
 ·obtain rfl:i=g_ u:=Nat.le_antisymm hi ge
  exact .inl ⟨⟨xU _,q⟩,hd σ H p⟩
end L2
namespace L2
open PySem PySem.Spec PyProof.Rows
noncomputable abbrev qE:List Value:=[.type "ValueError",.type "Exception",.type "BaseException",.type "object"]
noncomputable def okTail:List Value->Bool
 | .ref _::r=>okTail r
 |l=>l==qE
theorem okTail.has:∀ {l:List Value},okTail l=true->l.contains (.type "object")=true/\l.isEmpty=false/\∀self:Value,refuseLoop self "__setattr__" l=pure ()
 | [],e=>by cases e
 | .ref c::r,e=>by
  obtain⟨h1,_,h3⟩:=okTail.has (l:=r) e;exact⟨by rw[List.contains_cons,h1,Bool.or_true],rfl,fun self=>(refuseLoop_ref self _ c r).trans (h3 self)⟩
 | .type n::r,e=>by
  have e2:Yi n::r=qE:=beq_iff_eq.mp e;rw[e2];exact⟨by decide,rfl,fun self=>PySem.F.store_ValueError.passes self⟩
 | .none::r,e=>absurd (beq_iff_eq.mp (show(Z2::r==qE)=true from e)) (by simp)
 | .bool b::r,e=>absurd (beq_iff_eq.mp (show(Value.bool b::r==qE)=true from e)) (by simp)
 | .int i t::r,e=>absurd (beq_iff_eq.mp (show(Xv i t::r==qE)=true from e)) (by simp)
 | .str i t::r,e=>absurd (beq_iff_eq.mp (show(Ys i t::r==qE)=true from e)) (by simp)
 | .builtin i::r,e=>absurd (beq_iff_eq.mp (show(Xm i::r==qE)=true from e)) (by simp)
section
variable{prog:Program}{w:World}{A:Around}{E:Value->Shared->Prop}{s:Shared}{K:W.Frag}{x C:Addr}{name:Str}{v:Value}
noncomputable def sZ(K:W.Frag)(C:Addr):Bool:=(PySem.W.clsIn K C).any fun cd=>okTail cd.mro
open Builtin Builtin.ObjectAttr
theorem Ew(X:K.In s.heap)(J:PySem.W.InstAt s.heap x ox C none)(hp:sZ K C=true)(ht:Zu K (.ref C) name=some none)
 (h:wpAny (model prog w) A.in1 (storeInOwnDict (.ref x) (.ref C) (.str name tk) name v false)
  (fun fin s'=>match fin with | .done f=>R (.ok f) s' | .again c'=>c'.quiet=true/\codeAny (model prog w) A c' R s') (fun e s'=>R (.error e) s') s) :
 codeAny (model prog w) A (.call (.builtin "object.__setattr__") ⟨[.ref x,.str name tk,v],[]⟩) R s:=by
 obtain⟨cd,hc,ok⟩:=PySem.W.any_some hp;obtain⟨o1,o2,o3⟩:=okTail.has ok;have e1:Z1 K C (.type "object")=some true:=by unfold Z1;rw[hc];show(if _ then _ else _)=_;rw[o2,o1];rfl
 have mro:PySem.W.Looks (model prog w) s.heap (mroOf (.ref C)) cd.mro:=(PySem.W.looks_clsIn X hc).andThen .now;have L3:PySem.W.Looks (model prog w) s.heap (storeTaker? none) none:=.now;have F:=PySem.F.store_object;refine codeAny_call_builtin F.slot.plain F.entry (@PySem.W.check_slot (model prog w) _ _ s _ _ _ (.ref x) [.str name tk,v] [] _ F.kind F.split (J.type.andThen (PySem.W.looks_mroIn X e1)) (F.args (.ref x) (.str name tk) v) ?_);rw[PySem.W.osa_eq,refuse_eq];refine zZ (zZ (J.type.here (zZ (mro.here ?_))));rw[o3];exact xc (zZ (J.type.here (zZ ((PySem.W.looks_findIn X ht).here (zZ (L3.here h))))))
theorem El(X:K.In s.heap)(hx:s.heap.get? x=some ⟨.ref C,none,.fields vs,sl⟩)
 (hs:Zu K (.ref C) "__setattr__" = some (some (.builtin "object.__setattr__"))) (hp:sZ K C=true) (ht:Zu K (.ref C) name=some none) (hh:Y3 K C=true)
 (h:∀h' d t',s.heap.get? d=none->h'.get? x=some ⟨.ref C,some d,.fields vs,sl⟩->(∀b o,b≠x->s.heap.get? b=some o->h'.get? b=some o)->Q () { s with heap:=h',toks:=t' }) :
 wpAny (model prog w) A (setAttr (.ref x) name v) Q E s:=by
 have J:PySem.W.InstAt s.heap x ⟨.ref C,none,.fields vs,sl⟩ C none:=⟨hx,rfl,rfl,trivial⟩;refine PySem.W.set_plain X J hs (Ew (s:={ s with toks:=s.toks+1 }) X J hp ht ?_);obtain⟨cd,hc,hd⟩:=PySem.W.any_some hh;refine zZ (xc (zZ (zZ (wpAny_loadPart hx (zZ (PySem.W.Looks.here (s:={ s with toks:=s.toks+1 }) (PySem.W.looks_clsIn X hc) ?_))))));rw[hd];have hx1:(s.heap.push { cls:=.type "dict",data:=.dict #[] }).get? x=some ⟨.ref C,none,.fields vs,sl⟩:=Heap.get?_push_of_some _ hx;have ne:x≠s.heap.objs.size:=tG (wF hx);refine zZ (wpAny_alloc' (zZ (wpAny_update' hx1 (xc ?_))));obtain⟨G,eG⟩:∃G:Heap,G=(s.heap.push { cls:=.type "dict",data:=.dict #[] }).update x fun o=>{ cls:=o.cls,dict:=some s.heap.objs.size,data:=o.data,slots:=o.slots }:=⟨_,rfl⟩;have g1:G.get? s.heap.objs.size=some { cls:=.type "dict",data:=.dict #[] }:=by rw[eG];exact(Heap.get?_update_ne _ _ _ _ (Ne.symm ne)).trans (Heap.get?_push_at rfl rfl)
 have g2:G.get? x=some ⟨.ref C,some s.heap.objs.size,.fields vs,sl⟩:=by rw[eG];exact Heap.get?_update_self _ hx1 rfl
 have g3:∀b o,b≠x->s.heap.get? b=some o->G.get? b=some o:=fun b o hb e=>by rw[eG];exact(Heap.get?_update_ne _ _ _ _ hb).trans (Heap.get?_push_of_some _ e)
 have hn:G.Ns s.heap.objs.size fun _=>none:=⟨_,#[],_,g1,rfl,(fun e he=>absurd he (by simp)),fun _=>rfl⟩;rw[<- eG];clear eG;show wpAny _ _ (storeInDict s.heap.objs.size (.str name s.toks) name v) _ _ _;refine zZ (xc (zZ (wpAny_nsSet1 (Heap.Ns1.of_empty hn) fun h' n1 sb=>?_)));obtain⟨od,es,ep,e1,e2,e3⟩:=n1.count (Within.cons name v Within.nil);refine zZ (wpAny_lookBehind e1 (by rw[e2];exact pastItsLine_dict (Zt e3 (by rw[sq,Yz,uz];decide))) (xc ?_));exact h h' s.heap.objs.size _ (Heap.get?_none_of_le (xU _)) ((sb.2 x ne).trans g2) fun b o hb e=>(sb.2 b (tG (wF e))).trans (g3 b o hb e)
end
section
variable{K:W.Frag}{h:Heap}{C f:Addr}
theorem wI(X:K.In h)(G:h.Ns N mg)(e:PySem.W.nsIn K N n=some (some v)):mg n=some v:=by
 obtain⟨o,es,ep,ho,hd,_,hf⟩:=G;unfold PySem.W.nsIn at e;split at e
 ·rename_i q
  have z:=X _ _ q;rw[ho]at z;cases z;cases hd;rw[<- hf];unfold nsFind findBy;rw[<- Array.find?_toList];split at e
  ·rename_i he
   rw[he];cases e;rfl
  ·split at e <;> cases e
 ·cases e
noncomputable def jU(K:W.Frag)(C f:Addr):Bool:=match K.lookup C with
 |some ⟨.type "type",_,.cls cd,sl⟩=>(match cd.mro,sl.toList with
  | .ref C'::bm,[_,_,_,_,some (.builtin n),_]=>(C'==C&&n == "ValueError.__new__" && !cd.hasDel)&&(PySem.W.tailIn K qE bm&&PySem.W.nsOkIn K cd.ns&&PySem.W.nsIn K cd.ns "__init__" == some (some (.ref f)))
  |_,_=>false)
 |_=>false
theorem C3(X:K.In h)(q:jU K C f=true) :
 ∃bm N nm qn bs hdct sn sub ab col dd k0 k1 k2 k3 k5 mN,h.get? C=some (Y9 nm qn C N bs bm hdct sn sub ab col dd k0 k1 k2 k3 k5 "ValueError.__new__")/\h.Ns N mN/\mN "__init__" = some (.ref f)/\OwnTail h qE bm:=by
 unfold jU at q;split at q
 ·rename_i dd cd sl ho
  split at q
  ·rename_i C' bm k0 k1 k2 k3 n k5 hm hs
   simp only[ZH,beq_iff_eq,Bool.not_eq_true']at q;obtain⟨⟨⟨rfl,rfl⟩,hdel⟩,⟨ht,hok⟩,hni⟩:=q;obtain⟨nm,bs,mro,ns,qn,hd,sn,sub,ab,col,del⟩:=cd;dsimp only at hm hdel hok hni;subst hm hdel;obtain⟨l⟩:=sl;cases hs;have G:h.Ns ns _:=.of_isNs (PySem.W.isNs_of_in X hok);exact⟨bm,ns,nm,qn,bs,hd,sn,sub,ab,col,dd,k0,k1,k2,k3,k5,_,X _ _ ho,G,wI X G hni,PySem.W.tail_of_in X ht⟩
  ·cases q
 ·cases q
end
section
variable{prog:Program}{w:World}{A:Around}{E:Value->Shared->Prop}{h:Heap}{g:Array GenState}{d:Drawn}{t:Nat}{os:OsState}
variable{nm q:Str}{C N:Addr}{bs bm bmB:List Value}{hdct:Bool}{sn:List Str}{sub:List Value}{ab:Bool}{col:Option Bool}{dd:Option Addr}{k0 k1 k2 k3 k5:Option Value}{B newId initId:String}
noncomputable def nwEx(h:Heap)(C:Addr)(rest:List Value):Heap:=(h.push { cls:=.type "tuple",data:=.seq rest.toArray }).push { cls:=.ref C,data:=.fields #[.ref h.objs.size,.none,.none,.none,.bool false,.none] }
theorem nwEx.at_{rest:List Value}:(nwEx h C rest).get? (h.objs.size+1)=some { cls:=.ref C,data:=.fields #[.ref h.objs.size,.none,.none,.none,.bool false,.none] }:=by unfold nwEx;heap_get
theorem nwEx.keep{rest:List Value}{b:Addr}{o:Obj}(e:h.get? b=some o):(nwEx h C rest).get? b=some o:=Heap.get?_push_of_some _ (Heap.get?_push_of_some _ e)
theorem qk(F:ExcBaseFacts B newId initId bmB)(T:OwnTail h bmB bm){rest:List Value}{o:Obj}
 (hC:h.get? C=some (Y9 nm q C N bs bm hdct sn sub ab col dd k0 k1 k2 k3 k5 newId)) (hn:h.Ns N mN) (hi:mN "__init__" = some (.ref f)) (hf:h.get? f=some o) (ho:o.cls = .type "function")
 (hq:wpAny (model prog w) A (call (.ref f) (.ref (h.objs.size+1)::rest)) (fun r s'=>r = .none/\Q (.done (.ret (.ref (h.objs.size+1)))) s') E ⟨nwEx h C rest,g,d,t,os⟩) (hz:rest.length<=sizeLine) :
 wpAny (model prog w) A (Builtin.«type.__call__» ⟨.ref C::rest,[]⟩) Q E ⟨h,g,d,t,os⟩:=by
 have cC:(wU C::bm).contains (.ref C)=true:=by simp
 have cN:(nwEx h C rest).get? C=_:=nwEx.keep hC;have eN:=nwEx.at_ (h:=h) (C:=C) (rest:=rest);have nN:(nwEx h C rest).Ns N mN:=hn.keeps fun b o e=>nwEx.keep e;have tN:OwnTail (nwEx h C rest) bmB bm:=T.keeps fun b o e=>nwEx.keep e
 repeat (first|with_reducible refine YA hC ?_|with_reducible refine wpAny_madeBy_exc hC ?_|wp_step)
 refine codeAny_call_builtin_code (Code.quiet_builtin _ F.quiet) (wpAny_check_new_subT F T hC (codeAny_exc_new_subT F T hC ?_ hz));show wpAny _ _ _ _ _ ⟨nwEx h C rest,g,d,t,os⟩;unfold isInstance
 repeat (first|with_reducible refine YA eN ?_|(with_reducible refine wpAny_isSubtype_exc cN ?_;rw[cC])|wp_step)
 show wpAny _ _ (typeLookup (.ref C) _) _ _ _;refine wpAny_typeLookup_tail cN nN tN F.mroIs F.init.lookup ?_;rw[hi];refine ZK (zZ ?_);unfold bindSpecial;refine zZ (wpAny_typeOf (T:="function") ⟨_,nwEx.keep hf,ho⟩ ?_);rw[if_pos (by decide)];refine xc (zZ (Zs hq (fun r s' hr=>?_) fun _ _ x=>x));obtain⟨rfl,z⟩:=hr
 wp_walk
 exact z
theorem AE(F:ExcBaseFacts B newId initId bmB)(T:OwnTail h bmB bm){rest:List Value}{o:Obj}
 (hC:h.get? C=some (Y9 nm q C N bs bm hdct sn sub ab col dd k0 k1 k2 k3 k5 newId)) (hn:h.Ns N mN) (hi:mN "__init__" = some (.ref f)) (hf:h.get? f=some o) (ho:o.cls = .type "function")
 (hq:wpAny (model prog w) (A.under (.builtin "type.__call__" ⟨.ref C::rest,[]⟩)) (call (.ref f) (.ref (h.objs.size+1)::rest)) (fun r s'=>r = .none/\Q (.ref (h.objs.size+1)) s') E ⟨nwEx h C rest,g,d,t,os⟩) (hz:rest.length<=sizeLine) :
 wpAny (model prog w) A (call (.ref C) rest) Q E ⟨h,g,d,t,os⟩:=by
 have a1:=tc_lookup;have a2:=tc_bind (.ref C);have hT:(⟨h,g,d,t,os⟩:Shared).TypeIs (.ref C) "type":=⟨_,hC,rfl⟩;refine wpAny_call (codeAny_of_tree ?_);show wpAny _ _ (callAny (.ref C) _) _ _ _
 repeat (any_goals (first|assumption|with_reducible refine YA hC ?_|wp_step))
 exact⟨rfl,codeAny_call_builtin_at (Code.quiet_builtin _ (by decide +kernel)) entry_typeCall (wpAny_check_type_call_sub hC (qk F T hC hn hi hf ho hq hz))⟩
theorem xq(hb:bm.contains (.type "BaseException")=true)(hh:A.handled=none)
 (hx:wpAny M A x (fun v s1=>∃e od a0 sl,v = .ref e/\s1.heap.get? C=some (Y9 nm q C N bs bm hdct sn sub ab col dd k0 k1 k2 k3 k5 newId)/\s1.heap.get? e=some ⟨.ref C,od,.fields #[a0,.none,.none,.none,.bool false,.none],sl⟩/\E (.ref e) s1) E s) :
 wpAny M A (raiseStmt env (some x) none) Q E s:=by
 have cB:(wU C::bm).contains (.type "BaseException")=true:=by rw[List.contains_cons,hb,Bool.or_true]
 unfold raiseStmt;refine zZ (Zs hx (fun v s1 z=>?_) fun _ _ z=>z);obtain⟨e,od,a0,sl,rfl,hC,he,hE⟩:=z;obtain⟨hp,g,d,tk,os⟩:=s1
 repeat (first|with_reducible refine YA he ?_|with_reducible refine YA hC ?_|(with_reducible refine wpAny_isSubtype_exc hC ?_;rw[cB])|wp_step)
 exact wpAny_raiseNew_none hh hE
theorem wN(F:ExcBaseFacts B newId initId bmB)
 (hb:bm.contains (.type "BaseException")=true) (hh:A.handled=none) (hpl:(backTo cpos (starEach args env)).any (·.1)=false) (hi:mN "__init__" = some (.ref f)) (ho:o.cls = .type "function")
 (h:wpAny (model prog w) A (eval (.Name x np) env) (fun v s1=>v = .ref C/\wpAny (model prog w) A (evalArgs (.ref C) true (backTo cpos (starEach args env)) [])
  (fun a s2=>a.kw=[]/\a.pos.length<=sizeLine/\s2.heap.get? C=some (Y9 nm q C N bs bm hdct sn sub ab col dd k0 k1 k2 k3 k5 newId)/\s2.heap.Ns N mN/\OwnTail s2.heap bmB bm/\s2.heap.get? f=some o /\
   wpAny (model prog w) (A.under (.builtin "type.__call__" ⟨.ref C::a.pos,[]⟩)) (call (.ref f) (.ref (s2.heap.objs.size+1)::a.pos)) (fun r s'=>r = .none/\∃od a0 sl,s'.heap.get? C=some (Y9 nm q C N bs bm hdct sn sub ab col dd k0 k1 k2 k3 k5 newId)/\s'.heap.get? (s2.heap.objs.size+1)=some ⟨.ref C,od,.fields #[a0,.none,.none,.none,.bool false,.none],sl⟩/\E (.ref (s2.heap.objs.size+1)) s') E { s2 with heap:=nwEx s2.heap C a.pos }) E s1) E s) :
 wpAny (model prog w) A (exec (.Raise (some (.Call (.Name x np) args [] cpos)) none pos) env) Q E s:=by
 rw[arm_exec_Raise];have hR:wpAny (model prog w) A (do let v <- eval (.Call (.Name x np) args [] cpos) env;standAt pos;pure v) (fun v s1=>∃e od a0 sl,v = .ref e/\s1.heap.get? C=some (Y9 nm q C N bs bm hdct sn sub ab col dd k0 k1 k2 k3 k5 newId)/\s1.heap.get? e=some ⟨.ref C,od,.fields #[a0,.none,.none,.none,.bool false,.none],sl⟩/\E (.ref e) s1) E s:=by
  refine zZ (Zs (wpAny_Call_ofName (Zs h (fun v s1 z=>?_) fun _ _ z=>z)) (fun v s3 z=>zZ (YC (xc z))) fun _ _ z=>z);obtain⟨rfl,z⟩:=z;unfold callWith;refine zZ (ZK (Zs z (fun a s2 z2=>zZ (YC ?_)) fun _ _ z=>z));obtain⟨ap,ak⟩:=a;obtain⟨hk,hl,hC,hn,T,hf,z2⟩:=z2;obtain rfl:ak=[]:=hk;obtain⟨hp,g,d,tk,os⟩:=s2;simp only[hpl];refine zZ (wpAny_keeperOf_exc hC (zZ (AE F T hC hn hi hf ho (Zs z2 (fun r s' z3=>?_) fun _ _ z=>z) hl)));obtain⟨rfl,od,a0,sl,b1,b2,b4⟩:=z3;exact⟨rfl,zZ (ZK (wpAny_point (xc ⟨_,od,a0,sl,rfl,b1,b2,b4⟩)))⟩
 exact zZ (YC (xq (C:=C) (nm:=nm) (q:=q) (N:=N) (bs:=bs) (bm:=bm) (hdct:=hdct) (sn:=sn) (sub:=sub) (ab:=ab) (col:=col) (dd:=dd) (k0:=k0) (k1:=k1) (k2:=k2) (k3:=k3) (k5:=k5) (newId:=newId) hb hh hR))
end
section
variable{P:Program}{w:World}{K:W.Frag}{mg:Str->Option Value}{base:Heap}{N:List Str}{qual:Str}{scope:Scope}{f:Addr}{cd:Value}{A:Around}{outer:List Env}{s₀:Shared}{H₀:Hp}{E:XK}
noncomputable abbrev FU(a0:Value):Array Value:=#[a0,.none,.none,.none,.bool false,.none]
theorem vT
 (I:Inv (cp (XE P w) P w K mg base N qual scope f cd A outer s₀ H₀ E) pins σ H s) (he:s.heap.get? e=some ⟨.ref C,od,.fields (FU a0),sl⟩) (ne:H e=none) (n0:s₀.heap.get? e=none) (q:E (.ref C) none H) :
 (cp (XE P w) P w K mg base N qual scope f cd A outer s₀ H₀ E).xe (.ref e) s:=by
 show wpAny (model P w) (A.deeper (envOfC qual scope s₀.heap.objs.size f cd)) (leaving (envOfC qual scope s₀.heap.objs.size f cd) (.ref e)) (fun _ s''=>XE P w outer H₀ s₀ E (.ref e) s'') (fun e' s''=>XE P w outer H₀ s₀ E e' s'') s;have hst:s.heap.FunFrames base (envOfC qual scope s₀.heap.objs.size f cd::outer):=I.stack;have e0:(hid s.heap (envOfC qual scope s₀.heap.objs.size f cd::outer) [e]).get? e=none:=j0 (.head _);refine cA (e:=e) (j2 _ _) ⟨_,_,he,rfl,rfl⟩ (wpAny_leaving_firstW (base:=hid s.heap (envOfC qual scope s₀.heap.objs.size f cd::outer) [e]) (a0:=a0) I.ok.frames (gg hst) rfl he (fun b o z=>oM z) e0 rfl rfl rfl fun h' hL g2=>?_);obtain⟨k1,⟨_,_,f3⟩,⟨oe,vs,T,oT,ts,he',hc,hd,h1,hnT,hTe,hT,hdT,h3⟩,up⟩:=hL;have nT:s.heap.get? T=none:=(tD hst up hnT hT hdT).elim id fun z=>absurd (zz.mp z) hTe;have stay:∀b o,s.heap.get? b=some o->b∉frs (envOfC qual scope s₀.heap.objs.size f cd::outer)->b∉[e,T]->h'.get? b=some o:=fun b o z hb n=>k1 b o (gv z hb fun y=>n (by rw[zz.mp y];exact .head _));have n1:∀b∈[e,T],s₀.heap.get? b=none:=fun b hb=>by
  rcases zO.mp hb with r|r
  ·rw[r];exact n0
  ·rw[zz.mp r];exact I.s0_none rfl nT
 have n2:∀b∈[e,T],H b=none:=fun b hb=>by
  rcases zO.mp hb with r|r
  ·rw[r];exact ne
  ·rw[zz.mp r];exact I.hok.none_of nT
 refine⟨e,.ref C,[e,T],H,rfl,I.os,I.bare,I.noteUn rfl n1 stay up,I.noteOk n2 stay,fun b hb=>⟨n1 b hb,n2 b hb⟩,⟨.head _,a0,?_,g2⟩,q⟩;exact⟨fun b o z=>oM z,j0 (.head _),gg f3,oe,vs,T,oT,ts,he',hc,hd,h1,j0 (.tail _ (.head _)),hTe,hT,hdT,h3⟩
def uq(X:Cx)(E:XKs):Prop:=∀(pins:List (Addr × Obj)) (σ:St) (H:Hp) (s:Shared) (e C:Addr) (od:Option Addr) (a0:Value) (sl:Array (Option Value)),Inv X pins σ H s->s.heap.get? e=some ⟨.ref C,od,.fields (FU a0),sl⟩->H e=none->X.s₀.heap.get? e=none->E σ (.ref C) none H->X.xe (.ref e) s
theorem D8:uq (cp (XE P w) P w K mg base N qual scope f cd A outer s₀ H₀ E) (fun _=>E):=fun _ _ _ _ _ _ _ _ _ I he ne n0 q=>vT I he ne n0 q
end
noncomputable def ExN(C e:Addr):HO:=.ext fun h=>∃a0,h.get? e=some ⟨.ref C,none,.fields (FU a0),#[]⟩
noncomputable def ExD(C e:Addr):HO:=.ext fun h=>∃od a0,h.get? e=some ⟨.ref C,od,.fields (FU a0),#[]⟩
section
variable{X:Cx}{e o value:Expr}{f:Str}{ta tv:TE}{pos pos':Pos}
structure JS(K:W.Frag)(C:Addr)(f:Str):Prop where
 sa:Zu K (.ref C) "__setattr__" = some (some (.builtin "object.__setattr__"))
 ov:sZ K C=true
 no:Zu K (.ref C) f=some none
 hd:Y3 K C=true
def yl(C:Addr):V->Hp->(Hp->Prop)->Prop
 | .ref p,H,Q=>H p=some (ExN C p)/\Q (upd H p (ExD C p))
 |_,_,_=>False
def B9(C:Addr)(ta tv:TE):TS:=fun D σ H=>tv σ H fun _ H1=>ta σ H1 fun x H2=>yl C x H2 fun H3=>D.nx σ H3
theorem E9(W:JS X.K C f)(ha:PE X o ta)(hv:PE X value tv)(hs:swapsWith value (some (.Attribute o f pos')) pos.line X.env=pure false:=by rfl):PS X (.Assign [.Attribute o f pos'] value pos) (B9 C ta tv):=by
 intro pins s σ H D I h;refine plainObj_wpAny_Assign_Attribute (thn (hv pins s σ H _ I h) fun u s1 ⟨y,H1,I1,ry,q⟩=>thn (ha pins s1 σ H1 _ I1 q) fun ov s2 ⟨x,H2,I2,rx,q2⟩=>?_) hs;dsimp only at q2;unfold yl at q2;split at q2
 ·rename_i a
  obtain⟨ea,q2⟩:=q2;obtain rfl:ov=wU a:=rx;obtain⟨⟨a0,hx⟩,_,_⟩:=I2.hok a _ ea;refine El I2.kIn hx W.sa W.ov W.no W.hd fun h' d t' _ e1 e2=>⟨σ,_,I2.write (x:=a) (e:=a) (o:=ExD C a) (by rw[ea];exact ZD) (.inl rfl) e2 ⟨_,e1⟩ ⟨⟨_,_,e1⟩,⟨_,e1⟩,fun h1 h2 ⟨od,a1,z⟩ k=>⟨od,a1,k _ z⟩⟩,q2⟩
 ·exact q2.elim
end
theorem Jf{K:W.Frag}(h:PySem.W.isFn K (.ref f)=true):∃o,K.lookup f=some o/\o.cls = .type "function":=by
 obtain⟨o,e,c⟩:=Zg.mp (beq_iff_eq.mp h);exact⟨o,e,c⟩
section
variable{X:Cx}{CX:CXT}{k:Nat}{f C:Addr}{fd:FuncData}{ps:List Str}{sp:Sp}{dvs:List V}{ds:List Value}{E:XKs}{x:Str}{np cpos pos:Pos}{e:Expr}{es:List Expr}{t:TA}
def oz(C:Addr)(sp:Sp)(dvs:List V)(E:XKs)(t:TA):TS:=fun _ σ H=>t σ H fun vs H1=>vs.length<=sizeLine/\NoT H1/\∀p,H1 p=none->sp (.ref p::(vs++dvs)) (upd H1 p (ExN C p)) (fun v H2=>v = .non/\H2 p=some (ExD C p)/\Same H1 H2/\E σ (.ref C) none H1) (E σ)
theorem Aw(O:jU X.K C f=true)(fn:PySem.W.isFn X.K (.ref f)=true)(F:ig X.prog X.w X.K X.mg X.base CX k f fd ps sp)(hr:Room (k+1) X.A)(hb:Binds X.K fd ps ds)(hd:Vals dvs ds)(hp:bZ CX X E)(hx:uq X E)
 (hc:X.calm=true) (hg:Gl X x) (hm:X.mg x=some (.ref C)) (ha:PA X (e::es) t) (hex:X.ex=[]:=by rfl) (hdb:(x==("__debug__":Str))=false:=by decide)
 (he:starEach (e::es) X.env=(false,eval e X.env)::starEach es X.env:=by rfl) (hpl:(backTo cpos (starEach es X.env)).any (·.1)=false:=by rfl) :
 PS X (.Raise (some (.Call (.Name x np) (e::es) [] cpos)) none pos) (oz C sp dvs E t):=by
 intro pins s σ H D I h;obtain⟨tl,N,nm,q,bs,hdct,sn,sub,ab,col,dd,k0,k1,k2,k3,k5,mN,hC,hN,hi,T⟩:=C3 I.mod.kin O;obtain⟨fo,fl,fc⟩:=Jf fn;refine wN (C:=C) (nm:=nm) (q:=q) (N:=N) (bs:=bs) (bm:=tl) (hdct:=hdct) (sn:=sn) (sub:=sub) (ab:=ab) (col:=col) (dd:=dd) (k0:=k0) (k1:=k1) (k2:=k2) (k3:=k3) (k5:=k5)
  PySem.F.excBase_ValueError (mN:=mN) (T.hasType PySem.F.excBase_ValueError.hasBase) (I.ok.hd hc) (by rw[he];show(false || (backTo cpos (starEach es X.env)).any (·.1))=false;rw[hpl];rfl) hi fc (gj I hg hm ⟨rfl,?_⟩ hdb)
 have hA:=ha cpos pins s σ H _ I h;rw[he]at hA |-
 refine YT (thn hA fun us s1 ⟨vs,H1,I1,r,hz,hT,q1⟩=>⟨rfl,by rw[<- r.length];exact hz,I1.bk _ _ hC,hN.keeps I1.bk,T.keeps I1.bk,I1.kIn _ _ fl,?_⟩);have nf:s1.heap.get? (s1.heap.objs.size+1)=none:=Heap.get?_none_of_le (ZC _);have hq:=q1 (s1.heap.objs.size+1) (I1.hok.fresh (ZC _));have I2:Inv X pins σ (upd H1 (s1.heap.objs.size+1) (ExN C (s1.heap.objs.size+1))) { s1 with heap:=nwEx s1.heap C us }:=I1.laid (t':=s1.toks) (fun b o z=>nwEx.keep z) (ZC _) ⟨⟨_,nwEx.at_⟩,⟨_,nwEx.at_⟩,fun h1 h2 hq_ kk=>(by obtain⟨a1,z⟩:=hq_;exact⟨a1,kk _ z⟩)⟩;have r2:Vals (V.ref (s1.heap.objs.size+1)::(vs++dvs)) (wU (s1.heap.objs.size+1)::(us++ds)):=.cons rfl (r.append hd);have hl:(wU (s1.heap.objs.size+1)::us++ds).length=ps.length:=by
  have z:=r2.length;rw[F.len _ _ _ _ hq]at z;exact z.symm
 refine wpAny_call (codeAny_mono (F.run _ X.stack _ _ ⟨wU (s1.heap.objs.size+1)::us,[]⟩ (wU (s1.heap.objs.size+1)::(us++ds)) _ _ (E σ) (hr.make C us []) (I2.env0.make C us []) (hb _ (wU (s1.heap.objs.size+1)::us) I2.kIn hl) r2 hq) fun r' s' hq'=>?_);cases r' with
 |error e'=>exact hp pins σ _ _ e' s' I2 hq'
 |ok fw=>
  cases fw with
  |ret u=>
   obtain⟨v,H',I3,rv,ev,g1,g2,g3⟩:=I2.after hq';subst ev;obtain⟨⟨od,a0,z⟩,_,_⟩:=I3.hok _ _ g1;exact⟨rv,od,a0,#[],I3.bk _ _ hC,z,hx pins σ H1 s' _ C od a0 #[] (I1.gc hT I3 (Gc.none g2)) z (I1.hok.fresh (ZC _)) (I1.s0_none hex nf) g3⟩
  |next=>exact Z3 hq'
  |brk=>exact Z3 hq'
  |cont=>exact Z3 hq'
end
def Tp(H:Hp)(xs:List V)(Q:VK):Prop:=∀p H',H' p=some (.tup xs)->Same H H'->(NoT H->NoT H')->Q (.ref p) H'
def GQ:R2
 | .ref x,.ref y,H,Q=>∃xs ys,H x=some (.tup xs)/\H y=some (.tup ys)/\xs.length+ys.length<=sizeLine/\Tp H (xs++ys) Q
 |_,_,_,_=>False
def K5:V->Option Int->Option Int->Hp->VK->Prop
 | .ref x,lo,hi,H,Q=>∃xs,H x=some (.tup xs)/\Tp H (lm xs lo hi) Q
 |_,_,_,_,_=>False
end L2
namespace L2
open PySem PyProof.Rows
noncomputable def jP:Key->Key->Bool
 | .inl i,.inl j=>decide (i<j)
 | .inr x,.inr y=>decide (x.cps.toList<y.cps.toList)
 |_,_=>false
noncomputable def ltK:List Key->List Key->Bool
 |x::xs,y::ys=>if x=y then ltK xs ys else jP x y
 |_,_=>false
noncomputable def shK:List Key->List Bool:=List.map fun k=>match k with
 | .inl _=>true
 | .inr _=>false
theorem ED{x y:Str}(h:x.cps.toList=y.cps.toList):x=y:=by
 obtain⟨⟨x⟩⟩:=x;obtain⟨⟨y⟩⟩:=y;simp at h;rw[h]
theorem Hd:∀ {x y:Key},shK [x]=shK [y]->jP x y=true\/x=y\/jP y x=true
 | .inl i,.inl j,_=>by
  rcases Int.lt_trichotomy i j with h|h|h
  ·exact .inl (decide_eq_true h)
  ·exact .inr (.inl (by rw[h]))
  ·exact .inr (.inr (decide_eq_true h))
 | .inr x,.inr y,_=>by
  rcases tB x.cps.toList y.cps.toList with h|h|h
  ·exact .inl (decide_eq_true h)
  ·exact .inr (.inl (by rw[ED h]))
  ·exact .inr (.inr (decide_eq_true h))
 | .inl _,.inr _,h=>by cases h
 | .inr _,.inl _,h=>by cases h
theorem K0:∀x:Key,jP x x=false
 | .inl i=>decide_eq_false (Int.lt_irrefl i)
 | .inr x=>decide_eq_false (List.lt_irrefl _)
theorem Lg:∀ {x y z:Key},jP x y=true->jP y z=true->jP x z=true
 | .inl i,.inl j,.inl k,h,g=>decide_eq_true (Int.lt_trans (of_decide_eq_true h) (of_decide_eq_true g))
 | .inr x,.inr y,.inr z,h,g=>decide_eq_true (List.lt_trans (of_decide_eq_true h) (of_decide_eq_true g))
 | .inl _,.inr _,_,h,_=>by cases h
 | .inr _,.inl _,_,h,_=>by cases h
 | .inl _,.inl _,.inr _,_,g=>by cases g
 | .inr _,.inr _,.inl _,_,g=>by cases g
theorem qO:∀a:List Key,ltK a a=false
 | []=>rfl
 |x::r=>by rw[ltK,if_pos rfl];exact qO r
theorem DE:∀ {a b c:List Key},ltK a b=true->ltK b c=true->ltK a c=true
 |x::a,y::b,z::c,h,g=>by
  rw[ltK]at h g |-
  by_cases e:x=y
  ·subst e
   rw[if_pos rfl]at h;by_cases e2:x=z
   ·subst e2
    rw[if_pos rfl]at g |-; exact DE h g
   ·rw[if_neg e2]at g |-; exact g
  ·rw[if_neg e]at h
   by_cases e2:y=z
   ·subst e2
    rw[if_neg e];exact h
   ·rw[if_neg e2]at g
    have k:=Lg h g;rw[if_neg]
    ·exact k
    ·rintro rfl;rw[K0]at k;cases k
 | [],_,_,h,_=>by cases h
 |_::_,[],_,h,_=>by cases h
 |_::_,_::_,[],_,g=>by cases g
theorem xb:∀ {a b:List Key},shK a=shK b->ltK a b=true\/a=b\/ltK b a=true
 | [],[],_=>.inr (.inl rfl)
 | [],_::_,h=>by simp[shK]at h
 |_::_,[],h=>by simp[shK]at h
 |x::a,y::b,h=>by
  simp only[shK,wV,Yx]at h;rw[ltK,ltK];by_cases e:x=y
  ·subst e
   rw[if_pos rfl,if_pos rfl];rcases xb (a:=a) (b:=b) h.2 with g|g|g
   ·exact .inl g
   ·exact .inr (.inl (by rw[g]))
   ·exact .inr (.inr g)
  ·rw[if_neg e,if_neg (Ne.symm e)]
   rcases Hd (x:=x) (y:=y) (by simp[shK,h.1]) with g|g|g
   ·exact .inl g
   ·exact absurd g e
   ·exact .inr (.inr g)
noncomputable def rkK(l:List (List Key))(u:List Key):Nat:=l.countP fun e=>ltK e u
theorem BL(mu:u∈l)(h:ltK u v=true):rkK l u<rkK l v:=xg (fun e he=>DE he h) mu h (qO u)
theorem n9(hs:∀e∈l,shK e=sh)(mu:u∈l)(mv:v∈l):ltK u v=true↔(rkK l u:Int)<rkK l v:=by
 refine⟨fun h=>by have:=BL mu h;lia,fun h=>?_⟩;rcases xb (a:=u) (b:=v) ((hs u mu).trans (hs v mv).symm) with g|rfl|g
 ·exact g
 ·exact absurd h (Int.lt_irrefl _)
 ·have:=BL mv g;lia
abbrev zK(l:List (List Key)):Prop:=l.Pairwise fun a b=>ltK a b=true
theorem v7:∀ {a b:List (List Key)},zK a->zK b->(∀x,x∈a↔x∈b)->a=b
 | [],[],_,_,_=>rfl
 | [],y::t,_,_,h=>by have:=(h y).mpr (.head _);cases this
 |x::r,[],_,_,h=>by have:=(h x).mp (.head _);cases this
 |x::r,y::t,ha,hb,h=>by
  have ha':=ZZ.mp ha;have hb':=ZZ.mp hb;have no:∀ {u v:List Key},ltK u v=true->ltK v u=true->False:=fun p q=>by have:=DE p q;rw[qO]at this;cases this
  have e:x=y:=by
   rcases zO.mp ((h x).mp (.head _)) with g|g
   ·exact g
   ·rcases zO.mp ((h y).mpr (.head _)) with g'|g'
    ·exact g'.symm
    ·exact(no (ha'.1 y g') (hb'.1 x g)).elim
  subst e;rw[v7 ha'.2 hb'.2 fun z=>?_];constructor
  ·intro m
   rcases zO.mp ((h z).mp (.tail _ m)) with g|g
   ·subst g;have:=ha'.1 z m;rw[qO]at this;cases this
   ·exact g
  ·intro m
   rcases zO.mp ((h z).mpr (.tail _ m)) with g|g
   ·subst g;have:=hb'.1 z m;rw[qO]at this;cases this
   ·exact g
namespace Srt
section
variable{prog:Program}{w:World}{A:Around}{E:Value->Shared->Prop}{s:Shared}
theorem w6:∀(a b:List Key) (us vs:List Value) (i:Nat),Vals (a.map kV) us->Vals (b.map kV) vs->shK a=shK b->Q (ltK a b) s->PySem.W.KatLex prog w A true false Q (us.zip vs) i s
 | [],[],_,_,i,.nil,.nil,_,h=>PySem.W.kat_nil h
 | [],_::_,_,_,_,_,_,e,_=>by simp[shK]at e
 |_::_,[],_,_,_,_,_,e,_=>by simp[shK]at e
 |x::a,y::b,_,_,i,.cons rx ra,.cons ry rb,e,h=>by
  simp only[shK,wV,Yx]at e;rw[List.zip_cons_cons];refine PySem.W.kat_cons ?_;rw[ltK]at h;cases x with
  |inl n=>
   cases y with
   |inl m=>
    obtain⟨t,rfl⟩:=(show ∃t,_=Xv n t from rx);obtain⟨t',rfl⟩:=(show ∃t,_=Xv m t from ry);refine wpAny_eqBool_int ?_;by_cases g:n=m
    ·subst g
     rw[if_pos rfl]at h;rw[beq_self_eq_true];exact PySem.W.kat_yes (w6 a b _ _ (i+1) ra rb e.2 h)
    ·rw[if_neg (fun z=>g (by injection z))]at h
     rw[beq_eq_false_iff_ne.mpr g];refine PySem.W.kat_no ?_;by_cases i0:i=0
     ·subst i0;exact oneLt_int h
     ·rw[show(true&&i==0)=false by simp[i0]]
      exact PySem.W.kat_one _ _ (PySem.P.lt_int h)
   |inr m=>cases e.1
  |inr n=>
   cases y with
   |inl m=>cases e.1
   |inr m=>
    obtain⟨t,rfl⟩:=(show ∃t,_=Ys n t from rx);obtain⟨t',rfl⟩:=(show ∃t,_=Ys m t from ry);refine wpAny_eqBool_str ?_;by_cases g:n=m
    ·subst g
     rw[if_pos rfl]at h;rw[decide_eq_true rfl];exact PySem.W.kat_yes (w6 a b _ _ (i+1) ra rb e.2 h)
    ·rw[if_neg (fun z=>g (by injection z))]at h
     rw[decide_eq_false g];refine PySem.W.kat_no ?_;by_cases i0:i=0
     ·subst i0;exact oneLt_str h
     ·rw[show(true&&i==0)=false by simp[i0]]
      exact PySem.W.kat_one _ _ (PySem.P.lt_str h)
def TupK(h:Heap)(p:Addr)(k:List Key):Prop:=∃(o:Obj) (its:List Value) (n:Nat),h.get? p=some o/\o.cls = .type "tuple" /\ o.data = .seq its.toArray n/\Vals (k.map kV) its
theorem cmp_K{h:Heap}{os:OsState}{vs:List Value}{κ:Value->Int}{f:Value->List Key}{c:Bool}{sh:List Bool}(h2:2<=vs.length)(hv:∀v∈vs,∃p,v = .ref p/\TupK h p (f v))(hs:∀v∈vs,shK (f v)=c::sh)(hk:∀u∈vs,∀v∈vs,(ltK (f u) (f v)=true↔κ u<κ v)):Cmp prog w A h os (tuples' true) κ vs where
 kind E s Q e q:=by
  subst e;have go:∀(l:List Value),(∀v∈l,v∈vs)->∃fs,PySem.W.KatTups s.heap l fs/\fs.length=l.length/\∀v∈fs,∃k:Key,shK [k]=[c]/\RelV (kV k) v:=by
   intro l
   induction l with
   |nil=>intro _;exact⟨[],PySem.W.KatTups.nil,rfl,fun _ m=>nomatch m⟩
   |cons v r ih=>
    intro hm;obtain⟨fs,t,hl,hf⟩:=ih fun u m=>hm u (.tail _ m);obtain⟨p,rfl,o,its,n,ho,hc,hd,rv⟩:=hv v (hm v (.head _));have hsv:=hs _ (hm _ (.head _));generalize f (.ref p)=k at rv hsv;cases k with
    |nil=>simp[shK]at hsv
    |cons k0 kr=>
     rw[wV]at rv;cases rv with
     |cons r0 rr=>
      rename_i b0 l0;refine⟨b0::fs,PySem.W.KatTups.cons (f:=b0) ho hc hd (by simp) t,by simp[hl],fun u m=>?_⟩;rcases zO.mp m with rfl|m
      ·simp only[shK,wV,Yx]at hsv
       exact⟨k0,by simp[shK,hsv.1],r0⟩
      ·exact hf u m
  obtain⟨fs,t,hl,hf⟩:=go vs fun _ m=>m;have hT:∀v∈fs,PySem.W.Looks (model prog w) s.heap (typeOf v) (.type (if c then "int" else "str")):=fun v m=>by
   obtain⟨k,e,r⟩:=hf v m;cases k with
   |inl n=>
    obtain⟨t,rfl⟩:=(show ∃t,_=Xv n t from r);simp[shK]at e;subst e;exact .now
   |inr n=>
    obtain⟨t,rfl⟩:=(show ∃t,_=Ys n t from r);simp[shK]at e;subst e;exact .now
  refine PySem.W.kat_kind t (by lia) hT (by cases c <;> decide) ?_;cases c <;> exact q
 lt E s u v Q e mu mv q:=by
  subst e;have su:=hs u mu;have sv:=hs v mv;have hk':=hk u mu v mv;obtain⟨p,rfl,o,its,n,ho,hc,hd,rv⟩:=hv u mu;obtain⟨p',rfl,o',its',n',ho',hc',hd',rv'⟩:=hv v mv;have l1:=rv.length;have l2:=rv'.length;have l3:=congrArg ZO (su.trans sv.symm);simp only[shK,zV]at l1 l2 l3;refine PySem.W.kat_lt ho hd ho' hd' ?_;rw[show decide (its.toArray.size<its'.toArray.size)=false by rw[z8,z8];exact decide_eq_false (by lia)];refine w6 _ _ _ _ 0 rv rv' (su.trans sv.symm) ?_;have e:ltK (f (.ref p)) (f (.ref p'))=decide (κ (.ref p)<κ (.ref p')):=by
   cases g:ltK (f (.ref p)) (f (.ref p')) with
   |true=>rw[decide_eq_true (hk'.mp g)]
   |false=>rw[decide_eq_false fun z=>by rw[hk'.mpr z]at g;cases g]
  rw[e];exact q
end
end Srt
section
variable{X:Cx}{pins:List (Addr × Obj)}{σ:St}{H:Hp}{s:Shared}
abbrev AK:=Addr × List Key
noncomputable def kOf(ps:List AK):Value->List Key
 | .ref a=>((ps.find? fun e=>e.1==a).map (·.2)).getD []
 |_=>[]
theorem GX(hp:∀e∈ps,H e.1=some (.tup (e.2.map kV)))(m:e∈ps):kOf ps (.ref e.1)=e.2:=by
 show((ps.find? fun z=>z.1==e.1).map (·.2)).getD []=e.2;cases f:ps.find? fun z=>z.1==e.1 with
 |none=>exact absurd (List.find?_eq_none.mp f e m) (by simp)
 |some z=>
  have e1:z.1=e.1:=by simpa using List.find?_some f
  have t1:=hp z (List.mem_of_find?_eq_some f);rw[e1]at t1;have t3:=t1.symm.trans (hp e m);injection t3 with t3;injection t3 with t3
  exact r_ t3
theorem Inv.tupK(I:Inv X pins σ H s)(h:H p=some (.tup (k.map kV))):Srt.TupK s.heap p k:=by
 obtain⟨_,its,r,o,ho,hc,n,hd⟩:=(show ObjOk X.prog X.w H s.heap p (.tup (k.map kV)) from I.hok p _ h);exact⟨o,its,n,ho,hc,hd,r⟩
theorem FF{ps:List AK}(r:Vals (ps.map fun e=>V.ref e.1) its):its=ps.map fun e=>wU e.1:=by
 induction ps generalizing its with
 |nil=>cases r;rfl
 |cons e ps ih=>
  cases r with
  |cons r1 r2=>rw[ih r2];cases (show _=wU e.1 from r1);rfl
theorem zi:∀ps:List AK,Vals (ps.map fun e=>V.ref e.1) (ps.map fun e=>wU e.1)
 | []=>.nil
 |e::ps=>.cons rfl (zi ps)
def IQ(K:W.Frag):List V->Hp->VK->Prop
 | [.ref p],H,Q=>∃(ps:List AK) (c:Bool) (sh:List Bool),SqL K H p (ps.map fun e=>.ref e.1)/\(∀e∈ps,H e.1=some (.tup (e.2.map kV)))/\ps.length<64/\(∀e∈ps,shK e.2=c::sh)/\(ps.map (·.2)).Nodup /\
  ∀out:List AK,out.Perm ps->zK (out.map (·.2))->∀l,H l=none->Q (.ref l) (upd H l (.lst (out.map fun e=>.ref e.1)))
 |_,_,_=>False
theorem vc(K:W.Frag)(hK:X.K=K:=by rfl):CallR X (.builtin "sorted") (IQ K):=by
 subst hK;intro pins s σ H xs us Q I r h;rcases xs with _|⟨e_1,r_1⟩
 ·exact(id h:False).elim
 cases e_1 with
 |ref p=>
  cases r_1 with
  |nil=>
   obtain⟨ps,c,sh,hq,hp,h64,hs,nd,q⟩:=h;obtain⟨u,rfl,rx⟩:=d5 r;cases (show u=wU p from rx);obtain⟨its,r',pl,hz⟩:=I.list hq;have ei:=FF r';subst ei;have inv:∀e∈ps,kOf ps (.ref e.1)=e.2:=fun e m=>GX hp m;have em:(ps.map fun e=>wU e.1).map (kOf ps)=ps.map (·.2):=by
    rw[wM];exact uW fun e m=>inv e m
   have hs2:∀e∈ps.map (·.2),shK e=c::sh:=fun e m=>by
    obtain⟨z,mz,rfl⟩:=xS.mp m;exact hs z mz
   have mk:∀v∈ps.map (fun e=>wU e.1),kOf ps v∈ps.map (·.2):=fun v m=>by rw[<- em];exact xf m
   have nd2:((ps.map fun e=>wU e.1).map fun v=>(rkK (ps.map (·.2)) (kOf ps v):Int)).Nodup:=by
    rw[show(ps.map fun e=>wU e.1).map (fun v=>(rkK (ps.map (·.2)) (kOf ps v):Int))=((ps.map fun e=>wU e.1).map (kOf ps)).map (fun e=>(rkK (ps.map (·.2)) e:Int)) by simp only[wM];rfl,em];refine Zc.mpr (YO (fun {a b} ma mb ne e=>?_) nd);rcases xb (a:=a) (b:=b) ((hs2 a ma).trans (hs2 b mb).symm) with g|g|g
    ·have:=(n9 hs2 ma mb).mp g;lia
    ·exact ne g
    ·have:=(n9 hs2 mb ma).mp g;lia
   refine Srt.sorted_by (kd:=tuples' true) (κ:=fun v=>(rkK (ps.map (·.2)) (kOf ps v):Int)) pl.isList (by simpa using h64) nd2 (fun h2 h' kp=>Srt.cmp_K (f:=kOf ps) (c:=c) (sh:=sh) (by simpa using h2) (fun v m=>?_) (fun v m=>hs2 _ (mk v m)) fun u mu v mv=>n9 hs2 (mk u mu) (mk v mv)) fun out h' cc pm sr kp e=>?_
   ·obtain⟨e,me,rfl⟩:=xS.mp m
    refine⟨e.1,rfl,?_⟩;rw[inv e me];obtain⟨o,its,n,ho,h1⟩:=I.tupK (hp e me);exact⟨o,its,n,kp _ _ ho,h1⟩
   ·have fs:∀v∈out,∃e∈ps,v=wU e.1:=fun v m=>by
     obtain⟨e,me,rfl⟩:=xS.mp (pm.mem_iff.mp m);exact⟨e,me,rfl⟩
    let back:Value->AK:=fun v=>match v with | .ref a=>(a,kOf ps v)|_=>(0,[])
    have bk:∀e∈ps,back (.ref e.1)=e:=fun e m=>by show(e.1,kOf ps (.ref e.1))=e;rw[inv e m]
    have pm':(out.map back).Perm ps:=by
     have:=pm.map back
     rwa [wM,(uW fun e m=>bk e m:ps.map (back ∘ fun e=>wU e.1)=ps.map id),List.map_id]at this
    have eo:out=(out.map back).map fun e=>wU e.1:=by
     rw[wM];refine((uW fun v m=>?_).trans (List.map_id _)).symm;obtain⟨e,_,rfl⟩:=fs v m
     rfl
    have so:zK ((out.map back).map (·.2)):=by
     rw[wM];refine Zc.mpr (YO (fun {a b} ma mb l=>?_) sr);obtain⟨ea,_,rfl⟩:=fs a ma;obtain⟨eb,_,rfl⟩:=fs b mb;exact(n9 hs2 (mk _ (pm.mem_iff.mp ma)) (mk _ (pm.mem_iff.mp mb))).mpr l
    refine⟨.ref (s.heap.objs.size+1),_,I.laid (t':=s.toks) (a:=s.heap.objs.size+1) kp (ZC _) (show ObjOk X.prog X.w _ h' _ (.lst ((out.map back).map fun e=>.ref e.1)) from⟨?_,out,cc,?_,e⟩),rfl,q _ pm' so _ (I.hok.fresh (ZC _))⟩
    ·rw[zV,pm'.length_eq,uz];lia
    ·have:=zi (out.map back)
     rwa [<- eo]at this
  |cons=>exact(id h:False).elim
 |_=>exact(id h:False).elim
end
open Lean Meta Simp
end L2
namespace L2
structure Qr where
 d:Int
 a:List Nat
 p:Int
 b:List Nat
 q:Int
abbrev Wt:=Int × Int
noncomputable def hit(r:Qr)(x y:List Nat):Option Wt:=if r.a=x/\r.b=y then some (r.p,r.q) else if r.a=y/\r.b=x then some (r.q,r.p) else none
noncomputable def LA(r:Qr)(x y:List Nat)(D:Int)(o:Option Wt):Option Wt:=if r.d=D then (hit r x y).or o else o
noncomputable def val(R:List Qr)(x y:List Nat)(D:Int):Option Wt:=R.foldl (fun o r=>LA r x y D o) none
def oB(R:List Qr):Prop:=∀r∈R,r.a≠r.b
section
variable{N:Type}{A:N->N->Prop}{g:N}
def Wk(A:N->N->Prop)(g:N):Nat->N->Prop
 |0,x=>x=g
 |k+1,x=>∃y,Wk A g k y/\A y x
def Far(A:N->N->Prop)(g:N)(k:Nat)(x:N):Prop:=Wk A g k x/\∀j,j<k -> ¬ Wk A g j x
end
section
variable{A:List Nat->List Nat->Prop}{g:List Nat}
def Nx(A:List Nat->List Nat->Prop)(g x y:List Nat):Prop:=∃k,Far A g (k+1) x/\Far A g k y/\A x y/\∀z,Far A g k z->A x z -> ¬ z<y
def Chn(A:List Nat->List Nat->Prop)(g:List Nat):List (List Nat)->Prop
 | []=>False
 | [x]=>x=g
 |x::y::r=>Nx A g x y/\Chn A g (y::r)
end
section
variable{N:Type}{A:N->N->Prop}{g:N}
def Up(A:N->N->Prop)(g:N)(k:Nat)(F:List N)(x:N)(n:Nat):Prop:=(n<=k/\Far A g n x)\/(n=k+1/\x∈F)
end
def pr(r:Qr)(x y:List Nat):Prop:=(r.a=x/\r.b=y)\/(r.a=y/\r.b=x)
def Lk(R:List Qr)(d:Int)(x y:List Nat):Prop:=∃r∈R,r.d<=d/\pr r x y
def Cov(R:List Qr)(C:List (List Nat)):Prop:=∀r∈R,r.a∈C/\r.b∈C
structure SD(m:List (Key × V))(P:List Nat->Nat->Prop):Prop where
 nd:(m.map (·.1)).Nodup
 to:∀k v,(k,v)∈m->∃(x:List Nat) (n:Nat),k = .inr ⟨⟨x⟩⟩/\v = .int n/\P x n
 fr:∀x (n:Nat),P x n->((.inr ⟨⟨x⟩⟩:Key),V.int n)∈m
def Rows(R:List Qr)(C:List (List Nat)):Prop:=∀r∈R,(0<=r.d/\r.d<=146096)/\r.a∈C/\r.b∈C/\r.a≠r.b/\(1<=r.p/\r.p<=1000000000)/\1<=r.q/\r.q<=1000000000
end L2
namespace L2
open PySem PyProof.Rows
section
variable{P:Program}{w:World}{A:Around}{E:Value->Shared->Prop}{s:Shared}
abbrev skd(P:Program)(w:World):=PySem.strKind P w
def Mj(P:Program)(w:World)(h:Heap)(a:Addr)(ls:List (List Nat))(ld:Bool):Prop:=∃o es ep t,h.get? a=some o/\o.ExactSet/\o.data = .set es ep t/\ElemsOf (skd P w) es.toList/\es.size<scanBound/\t.fits es.size=true/\t.led=ld/\(0<es.size->t.plain=false)/\(es.toList.map fun e=>jD e.2).Nodup/\∀l,l∈es.toList.map (fun e=>jD e.2)↔l∈ls
noncomputable def byT(w:World):Bool:=w.params.followText "set-order"
noncomputable abbrev qr(w:World):Obj:={ cls:=.type "set",dict:=none,data:=.set #[] 0 (.fresh 0 0 (!byT w)) }
end
section
variable{P:Program}{w:World}{A:Around}{E:Value->Shared->Prop}{s:Shared}{a:Addr}{ls:List (List Nat)}
def Mn(ls:List (List Nat))(vs:List Value):Prop:=(∀v∈vs,IsS v)/\(vs.map jD).Nodup/\(∀l,l∈vs.map jD↔l∈ls)/\vs.length<scanBound
end
end L2
namespace L2
open PySem
noncomputable def kI:Key->Int
 | .inl i=>i
 | .inr _=>0
noncomputable def vI:V->Int
 | .int i=>i
 |_=>0
noncomputable def sE(P:Int->Bool):List (Key × V)->Int
 | []=>0
 |e::m=>(if P (kI e.1)=true then vI e.2 else 0)+sE P m
noncomputable def gM(m:List (Key × V))(d:Int):Int:=match cV m (.inl d) with
 |some v=>vI v
 |none=>0
def Me(m:List (Key × V)):Prop:=∀k v,(k,v)∈m->∃D a,k = .inl D/\v = .int a
abbrev PR:=Int × List Nat × List Nat × Int
noncomputable def sR(x y:List Nat)(P:Int->Bool):List PR->Int
 | []=>0
 |z::R=>(if z.2.1=x/\z.2.2.1=y/\P z.1=true then z.2.2.2 else 0)+sR x y P R
structure MM(m:List (Key × V))(x y:List Nat)(R:List PR):Prop where
 nd:(m.map (·.1)).Nodup
 it:Me m
 sm:∀P,sE P m=sR x y P R
def Mm{β:Type}(mk:β->List V)(H:Hp)(v:V)(b:β):Prop:=∃t,v = .ref t/\H t=some (.tup (mk b))
end L2
namespace K22
open PySem L2 K19
end K22
namespace L2
open PySem PyProof.Rows
noncomputable def LF(k:Int)(n:Nat):List Nat:=sliceRange (YY none none (some k) n).1 (YY none none (some k) n).2.1 (YY none none (some k) n).2.2
noncomputable def stp{α:Type}(k:Int)(xs:List α):List α:=(LF k xs.length).filterMap fun i=>xs[i]?
end L2
namespace L2
open PySem PyProof.Rows
def DfN(K:W.Frag)(mg:Str->Option Value)(x:Str)(st:Stmt):Prop:=∃f fd,mg x=some (.ref f)/\Fun K x x st f fd
def DfM(K:W.Frag)(C:Addr)(m q:Str)(st:Stmt):Prop:=∃f fd,Au K C m f/\Fun K m q st f fd
def Fo(P:Program)(w:World)(K:W.Frag)(mg:Str->Option Value)(base:Heap)(x:Str)(k:Nat)(sp:Sp):Prop:=
 ∃f fd ps,mg x=some (.ref f)/\Z4 K (.ref f)=true/\Binds K fd ps []/\ig P w K mg base (XE P w) k f fd ps sp
def Mo(P:Program)(w:World)(K:W.Frag)(mg:Str->Option Value)(base:Heap)(C:Addr)(m:Str)(k:Nat)(sp:Sp):Prop:=
 ∃f fd ps,Au K C m f/\Binds K fd ps []/\ig P w K mg base (XE P w) k f fd ps sp
def MkC(K:W.Frag)(C:Addr):Prop:=PySem.W.makesIn K C=true/\Z4 K (.ref C)=true
section
variable{P:Program}{w:World}{K:W.Frag}{mg:Str->Option Value}{base:Heap}{x m qual:Str}{st:Stmt}{C:Addr}{N:List Str}{n k:Nat}{sp:Sp}
def v3(x qual:Str)(st:Stmt)(ps:List Str):Prop:=∀(kV doc pm:Value) (an:Option Addr) (cdv ct:Value) (us:List Value),us.length=ps.length->bindArgs (YX x qual (iD st) (bh st) (ay st) .none kV doc pm an cdv ct) ⟨us,[]⟩=pure (ps.zip us)
section
variable(P:Program)(w:World)(K:W.Frag)(mg:Str->Option Value)(base:Heap)(N:List Str)(qual:Str)(st:Stmt)(k:Nat)
def BR(sp:Sp):Prop:=
 ∀(f:Addr) (cdv:Value) (A:Around) (outer:List Env) (s:Shared) (H:Hp) (vs:List V) (Q:VK) (E:XK),N.Nodup->(A.deeper (envOfC qual (ay st) s.heap.objs.size f cdv)).units+100<cLine->Room k (A.deeper (envOfC qual (ay st) s.heap.objs.size f cdv))->sp vs H Q E ->
  NoT H/\∃t,PSs (cp (XE P w) P w K mg base N qual (ay st) f cdv A outer s H (gcE H E)) (bh st) t/\t { nx:=fun _ H'=>∃G,Gc H G H'/\Q .non G,rt:=fun v H'=>∃G,Gc H G H'/\Q v G } (eD N vs) H
def BW(sp:Sp):Prop:=
 ∀(f:Addr) (cdv:Value) (A:Around) (outer:List Env) (s:Shared) (H:Hp) (vs:List V) (Q:VK) (E:XK),N.Nodup->(A.deeper (envOfC qual (ay st) s.heap.objs.size f cdv)).units+100<cLine->Room k (A.deeper (envOfC qual (ay st) s.heap.objs.size f cdv))->sp vs H Q E ->
  ∃t,PSs (cp (XE P w) P w K mg base N qual (ay st) f cdv A outer s H E) (bh st) t/\t { nx:=fun _ H'=>Q .non H',rt:=Q } (eD N vs) H
end
theorem DfN.okG(F:DfN K mg x st)(N:List Str)(n:Nat)(S:dA N (N.take n) (ay st))(b:v3 x x st (N.take n))(len:∀vs H Q E,sp vs H Q E->vs.length=(N.take n).length)
 (h:BR P w K mg base N x st k sp):Fo P w K mg base x (k+1) sp:=by
 obtain⟨f,fd,m,F⟩:=F;exact⟨f,fd,_,m,F.kp,F.binds b,F.okG S len fun cdv A outer s H vs Q E hr hs=>h f cdv A outer s H vs Q E S.nd (bV hr) hr hs⟩
theorem DfN.okX(F:DfN K mg x st)(N:List Str)(n:Nat)(S:dA N (N.take n) (ay st))(b:v3 x x st (N.take n))(len:∀vs H Q E,sp vs H Q E->vs.length=(N.take n).length)
 (h:BW P w K mg base N x st k sp):Fo P w K mg base x (k+1) sp:=by
 obtain⟨f,fd,m,F⟩:=F;exact⟨f,fd,_,m,F.kp,F.binds b,F.okX S len fun cdv A outer s H vs Q E hr hs=>h f cdv A outer s H vs Q E S.nd (bV hr) hr hs⟩
theorem DfM.okG(F:DfM K C m qual st)(N:List Str)(n:Nat)(S:dA N (N.take n) (ay st))(b:v3 m qual st (N.take n))(len:∀vs H Q E,sp vs H Q E->vs.length=(N.take n).length)
 (h:BR P w K mg base N qual st k sp):Mo P w K mg base C m (k+1) sp:=by
 obtain⟨f,fd,m,F⟩:=F;exact⟨f,fd,_,m,F.binds b,F.okG S len fun cdv A outer s H vs Q E hr hs=>h f cdv A outer s H vs Q E S.nd (bV hr) hr hs⟩
theorem DfM.okX(F:DfM K C m qual st)(N:List Str)(n:Nat)(S:dA N (N.take n) (ay st))(b:v3 m qual st (N.take n))(len:∀vs H Q E,sp vs H Q E->vs.length=(N.take n).length)
 (h:BW P w K mg base N qual st k sp):Mo P w K mg base C m (k+1) sp:=by
 obtain⟨f,fd,m,F⟩:=F;exact⟨f,fd,_,m,F.binds b,F.okX S len fun cdv A outer s H vs Q E hr hs=>h f cdv A outer s H vs Q E S.nd (bV hr) hr hs⟩
end
section
variable{X:Cx}{k:Nat}{C:Addr}{sp:Sp}{E:XKs}{x m:Str}{p pos apos:Pos}{e o:Expr}{es:List Expr}{ta:TE}{t:TA}
theorem Jv(F:Fo X.prog X.w X.K X.mg X.base x k sp)(hr:Room k X.A)(hg:Gl X x)(hx:bZ (XE X.prog X.w) X E)
 (ha:PA X (e::es) t) (hdb:(x==("__debug__":Str))=false:=by decide) (he:starEach (e::es) X.env=(false,eval e X.env)::starEach es X.env:=by rfl) (hpl:(backTo pos (starEach es X.env)).any (·.1)=false:=by rfl) :
 PE X (.Call (.Name x p) (e::es) [] pos) (sw sp [] E t):=by
 obtain⟨f,fd,ps,m,kp,b,F⟩:=F;exact BU F hr hg m kp b .nil hx ha hdb he hpl
theorem ci{pl:Sem Bool}(he:PE X o ta)(c:Cls X.K C)(F:Mo X.prog X.w X.K X.mg X.base C m k sp)(hr:Room k X.A)(hx:bZ (XE X.prog X.w) X E)(ha:PA X (e::es) t)
 (hst:starEach (e::es) X.env=(false,eval e X.env)::starEach es X.env:=by rfl) (hpl:(backTo pos (starEach es X.env)).any (·.1)=false:=by rfl)
 (ht:eval (.Call (.Attribute o m apos) (e::es) [] pos) X.env=(do
  let ov <- eval o X.env
  standAt apos.atName
  let (f,first) <- holding [ov] (getMethod ov m pl)
  callWith pos f first (backTo pos (starEach (e::es) X.env)) (backToKw pos (Y8 [] X.env))):=by rfl) :
 PE X (.Call (.Attribute o m apos) (e::es) [] pos) (pP C m sp [] E ta t):=by
 obtain⟨f,fd,ps,mm,b,F⟩:=F;exact C5 he c mm F hr b .nil hx ha hst hpl ht
theorem tM{pl:Sem Bool}(he:PE X o ta)(c:Cls X.K C)(F:Mo X.prog X.w X.K X.mg X.base C m k sp)(hr:Room k X.A)(hx:bZ (XE X.prog X.w) X E)
 (ht:eval (.Call (.Attribute o m apos) [] [] pos) X.env=(do
  let ov <- eval o X.env
  standAt apos.atName
  let (f,first) <- holding [ov] (getMethod ov m pl)
  callWith pos f first (backTo pos (starEach [] X.env)) (backToKw pos (Y8 [] X.env))):=by rfl) :
 PE X (.Call (.Attribute o m apos) [] [] pos) (pP C m sp [] E ta ky):=by
 obtain⟨f,fd,ps,mm,b,F⟩:=F;exact z6 he c mm F hr b .nil hx ht
theorem Bp(M:MkC X.K C)(F:Mo X.prog X.w X.K X.mg X.base C "__init__" k sp)(hr:Room (k+1) X.A)(hg:Gl X x)(hm:X.mg x=some (.ref C))(hx:bZ (XE X.prog X.w) X E)
 (ha:PA X (e::es) t) (hdb:(x==("__debug__":Str))=false:=by decide) (he:starEach (e::es) X.env=(false,eval e X.env)::starEach es X.env:=by rfl) (hpl:(backTo pos (starEach es X.env)).any (·.1)=false:=by rfl) :
 PE X (.Call (.Name x p) (e::es) [] pos) (oE C sp [] E t):=by
 obtain⟨f,fd,ps,mm,b,F⟩:=F;exact CN ⟨M.1,mm.at_,mm.fn,M.2⟩ F hr hg hm b .nil hx ha hdb he hpl
theorem sT(M:MkC X.K C)(F:Mo X.prog X.w X.K X.mg X.base C "__init__" k sp)(hr:Room (k+1) X.A)(hg:Gl X x)(hm:X.mg x=some (.ref C))(hx:bZ (XE X.prog X.w) X E)
 (hdb:(x==("__debug__":Str))=false:=by decide):PE X (.Call (.Name x p) [] [] pos) (oE C sp [] E ky):=by
 obtain⟨f,fd,ps,mm,b,F⟩:=F;exact AW ⟨M.1,mm.at_,mm.fn,M.2⟩ F hr hg hm b .nil hx hdb
theorem KG{np cpos pos:Pos}(O:∀f,Zu X.K (.ref C) "__init__" = some (some (.ref f))->jU X.K C f=true)(F:Mo X.prog X.w X.K X.mg X.base C "__init__" k sp)(hr:Room (k+1) X.A)(hp:bZ (XE X.prog X.w) X E)(hx:uq X E)
 (hc:X.calm=true) (hg:Gl X x) (hm:X.mg x=some (.ref C)) (ha:PA X (e::es) t) (hex:X.ex=[]:=by rfl) (hdb:(x==("__debug__":Str))=false:=by decide)
 (he:starEach (e::es) X.env=(false,eval e X.env)::starEach es X.env:=by rfl) (hpl:(backTo cpos (starEach es X.env)).any (·.1)=false:=by rfl) :
 PS X (.Raise (some (.Call (.Name x np) (e::es) [] cpos)) none pos) (oz C sp [] E t):=by
 obtain⟨f,fd,ps,mm,b,F⟩:=F;exact Aw (O f mm.at_) mm.fn F hr b .nil hp hx hc hg hm ha hex hdb he hpl
end
section
variable{X:Cx}{k j i:Nat}{C:Addr}{sp:Sp}{E:XKs}{x m:Str}{p pos pos' apos:Pos}{e o a b:Expr}{es:List Expr}{ta tb te:TE}{t:TA}
theorem aH(F:Fo X.prog X.w X.K X.mg X.base x k sp)(hr:Room j X.A)(hx:bZ (XE X.prog X.w) X E)(ha:PA X (e::es) t)(hk:k<=j:=by decide)(hg:Gl X x:=by rfl)(hdb:(x==("__debug__":Str))=false:=by decide)(he:starEach (e::es) X.env=(false,eval e X.env)::starEach es X.env:=by rfl)(hpl:(backTo pos (starEach es X.env)).any (·.1)=false:=by rfl):PE X (.Call (.Name x p) (e::es) [] pos) (sw sp [] E t):=Jv F (hr.mono hk) hg hx ha hdb he hpl
theorem aR(i:Nat){e:Expr}(hN:X.N.Nodup)(he:PE X e te)(hi:X.N[i]? = some x:=by rfl)(hx:Loc X.env.scope x:=by first|exact Or.inl rfl|exact Or.inr rfl)(hs:swapsWith e (some (.Name x pos')) pos.line X.env=pure false:=by rfl)(hf:X.fn x=true\/X.env.scope.names.lookup x=some .local:=by first|exact .inl rfl|exact .inr rfl|assumption):PS X (.Assign [.Name x pos'] e pos) (z5 te (gZ i)):=IS hN hi hx he hs hf
theorem aM(K:W.Frag)(ha:PE X a ta)(hb:PE X b tb)(hs:tw b:=by exact fun _ _=>rfl)(hK:X.K=K:=by rfl):PE X (.Subscript a b pos) (tOp (gIx K) ta tb):=Kq (EY K hK) ha hb hs
theorem bg{op:CmpOp}{r:R2}(ho:OpR X (Zq op) r)(ha:PE X a ta)(hb:PE X b tb)(hm:Yj op b=false:=by exact fe _):PT X (.Compare a [op] [b] pos) (qP (tOp r ta tb)):=xA ho ha hb hm
theorem fa1{e0:Expr}{t0:TE}(h0:PE X e0 t0)(n0:b9 e0=true:=by rfl):PA X [e0] (c_ t0 ky):=FA.pa (aN h0 cv n0)
theorem fa2{e0 e1:Expr}{t0 t1:TE}(h0:PE X e0 t0)(h1:PE X e1 t1)(n0:b9 e0=true:=by rfl)(n1:b9 e1=true:=by rfl):PA X [e0,e1] (c_ t0 (c_ t1 ky)):=FA.pa (aN h0 (aN h1 cv n1) n0)
theorem fa3{e0 e1 e2:Expr}{t0 t1 t2:TE}(h0:PE X e0 t0)(h1:PE X e1 t1)(h2:PE X e2 t2)(n0:b9 e0=true:=by rfl)(n1:b9 e1=true:=by rfl)(n2:b9 e2=true:=by rfl):PA X [e0,e1,e2] (c_ t0 (c_ t1 (c_ t2 ky))):=FA.pa (aN h0 (aN h1 (aN h2 cv n2) n1) n0)
theorem fa4{e0 e1 e2 e3:Expr}{t0 t1 t2 t3:TE}(h0:PE X e0 t0)(h1:PE X e1 t1)(h2:PE X e2 t2)(h3:PE X e3 t3)(n0:b9 e0=true:=by rfl)(n1:b9 e1=true:=by rfl)(n2:b9 e2=true:=by rfl)(n3:b9 e3=true:=by rfl):PA X [e0,e1,e2,e3] (c_ t0 (c_ t1 (c_ t2 (c_ t3 ky)))):=FA.pa (aN h0 (aN h1 (aN h2 (aN h3 cv n3) n2) n1) n0)
theorem fa5{e0 e1 e2 e3 e4:Expr}{t0 t1 t2 t3 t4:TE}(h0:PE X e0 t0)(h1:PE X e1 t1)(h2:PE X e2 t2)(h3:PE X e3 t3)(h4:PE X e4 t4)(n0:b9 e0=true:=by rfl)(n1:b9 e1=true:=by rfl)(n2:b9 e2=true:=by rfl)(n3:b9 e3=true:=by rfl)(n4:b9 e4=true:=by rfl):PA X [e0,e1,e2,e3,e4] (c_ t0 (c_ t1 (c_ t2 (c_ t3 (c_ t4 ky))))):=FA.pa (aN h0 (aN h1 (aN h2 (aN h3 (aN h4 cv n4) n3) n2) n1) n0)
theorem fa6{e0 e1 e2 e3 e4 e5:Expr}{t0 t1 t2 t3 t4 t5:TE}(h0:PE X e0 t0)(h1:PE X e1 t1)(h2:PE X e2 t2)(h3:PE X e3 t3)(h4:PE X e4 t4)(h5:PE X e5 t5)(n0:b9 e0=true:=by rfl)(n1:b9 e1=true:=by rfl)(n2:b9 e2=true:=by rfl)(n3:b9 e3=true:=by rfl)(n4:b9 e4=true:=by rfl)(n5:b9 e5=true:=by rfl):PA X [e0,e1,e2,e3,e4,e5] (c_ t0 (c_ t1 (c_ t2 (c_ t3 (c_ t4 (c_ t5 ky)))))):=FA.pa (aN h0 (aN h1 (aN h2 (aN h3 (aN h4 (aN h5 cv n5) n4) n3) n2) n1) n0)
theorem b8{E:XKs}{msg:Str}{j1}{p1 np cpos:Pos}(O:PySem.W.excIn X.K C qE "ValueError.__new__" = true)(hm:X.mg x=some (.ref C))(hx:xI X E)(hc:X.calm=true:=by rfl)(hg:Gl X x:=by rfl)(hdb:(x==("__debug__":Str))=false:=by decide):PS X (.Raise (some (.Call (.Name x np) [.Constant (.str msg) j1 p1] [] cpos)) none pos) (xN C E (c_ (tC (.str msg)) ky)):=Dz O PySem.F.excBase_ValueError hc hg hm hx (fa1 DI) hdb
end
section
variable(P:Program)(w:World)(K:W.Frag)(mg:Str->Option Value)(base:Heap)(N:List Str)(qual:Str)(st:Stmt)(k:Nat)
def BdG(vs:List V)(r:Hp->VK->XK->Prop):Prop:=∀(fA:Addr) (cdv:Value) (A:Around) (outer:List Env) (s:Shared) (H:Hp) (Q:VK) (E:XK),N.Nodup->(A.deeper (envOfC qual (ay st) s.heap.objs.size fA cdv)).units+100<cLine->Room k (A.deeper (envOfC qual (ay st) s.heap.objs.size fA cdv))->r H Q E->NoT H/\∃t,PSs (cp (XE P w) P w K mg base N qual (ay st) fA cdv A outer s H (gcE H E)) (bh st) t/\t { nx:=fun _ H'=>∃G,Gc H G H'/\Q .non G,rt:=fun v H'=>∃G,Gc H G H'/\Q v G } (eD N vs) H
def BdX(vs:List V)(r:Hp->VK->XK->Prop):Prop:=∀(fA:Addr) (cdv:Value) (A:Around) (outer:List Env) (s:Shared) (H:Hp) (Q:VK) (E:XK),N.Nodup->(A.deeper (envOfC qual (ay st) s.heap.objs.size fA cdv)).units+100<cLine->Room k (A.deeper (envOfC qual (ay st) s.heap.objs.size fA cdv))->r H Q E->∃t,PSs (cp (XE P w) P w K mg base N qual (ay st) fA cdv A outer s H E) (bh st) t/\t { nx:=fun _ H'=>Q .non H',rt:=Q } (eD N vs) H
def BX(n:Nat)(sp:Sp):Prop:=(∀vs H Q E,sp vs H Q E->vs.length=n)/\BW P w K mg base N qual st k sp
def BG(n:Nat)(sp:Sp):Prop:=(∀vs H Q E,sp vs H Q E->vs.length=n)/\BR P w K mg base N qual st k sp
end
section
variable{P:Program}{w:World}{K:W.Frag}{mg:Str->Option Value}{base:Heap}{x m qual:Str}{st:Stmt}{C:Addr}{k:Nat}
section
variable{sp:Sp}{n:Nat}
theorem DfN.hg(F:DfN K mg x st)(N:List Str)(h:BG P w K mg base N x st k n sp)(S:dA N (N.take n) (ay st):=by exact⟨rfl,rfl,rfl,by decide +kernel,rfl,by decide +kernel,by decide +kernel⟩)(b:v3 x x st (N.take n):=by walk_at "b")(l:(N.take n).length=n:=by rfl):Fo P w K mg base x (k+1) sp:=F.okG N n S b (fun vs H Q E z=>(h.1 vs H Q E z).trans l.symm) h.2
theorem DfN.hx(F:DfN K mg x st)(N:List Str)(h:BX P w K mg base N x st k n sp)(S:dA N (N.take n) (ay st):=by exact⟨rfl,rfl,rfl,by decide +kernel,rfl,by decide +kernel,by decide +kernel⟩)(b:v3 x x st (N.take n):=by walk_at "b")(l:(N.take n).length=n:=by rfl):Fo P w K mg base x (k+1) sp:=F.okX N n S b (fun vs H Q E z=>(h.1 vs H Q E z).trans l.symm) h.2
theorem DfM.hg(F:DfM K C m qual st)(N:List Str)(h:BG P w K mg base N qual st k n sp)(S:dA N (N.take n) (ay st):=by exact⟨rfl,rfl,rfl,by decide +kernel,rfl,by decide +kernel,by decide +kernel⟩)(b:v3 m qual st (N.take n):=by walk_at "b")(l:(N.take n).length=n:=by rfl):Mo P w K mg base C m (k+1) sp:=F.okG N n S b (fun vs H Q E z=>(h.1 vs H Q E z).trans l.symm) h.2
theorem DfM.hx(F:DfM K C m qual st)(N:List Str)(h:BX P w K mg base N qual st k n sp)(S:dA N (N.take n) (ay st):=by exact⟨rfl,rfl,rfl,by decide +kernel,rfl,by decide +kernel,by decide +kernel⟩)(b:v3 m qual st (N.take n):=by walk_at "b")(l:(N.take n).length=n:=by rfl):Mo P w K mg base C m (k+1) sp:=F.okX N n S b (fun vs H Q E z=>(h.1 vs H Q E z).trans l.symm) h.2
end
variable{N:List Str}
theorem gG1{f:V->Hp->VK->XK->Prop}(h:∀x0,BdG P w K mg base N qual st k [x0] (f x0)):BG P w K mg base N qual st k 1 (sp1 f):=⟨fun vs H Q E h=>sp1.len h,fun fA cdv A outer s H vs Q E ND HU hr hs=>by obtain⟨x0,rfl,hs⟩:=sp1.inv hs;exact h x0 fA cdv A outer s H Q E ND HU hr hs⟩
theorem gX1{f:V->Hp->VK->XK->Prop}(h:∀x0,BdX P w K mg base N qual st k [x0] (f x0)):BX P w K mg base N qual st k 1 (sp1 f):=⟨fun vs H Q E h=>sp1.len h,fun fA cdv A outer s H vs Q E ND HU hr hs=>by obtain⟨x0,rfl,hs⟩:=sp1.inv hs;exact h x0 fA cdv A outer s H Q E ND HU hr hs⟩
theorem gG2{f:V->V->Hp->VK->XK->Prop}(h:∀x0 x1,BdG P w K mg base N qual st k [x0,x1] (f x0 x1)):BG P w K mg base N qual st k 2 (sp2 f):=⟨fun vs H Q E h=>sp2.len h,fun fA cdv A outer s H vs Q E ND HU hr hs=>by obtain⟨x0,x1,rfl,hs⟩:=sp2.inv hs;exact h x0 x1 fA cdv A outer s H Q E ND HU hr hs⟩
theorem gX2{f:V->V->Hp->VK->XK->Prop}(h:∀x0 x1,BdX P w K mg base N qual st k [x0,x1] (f x0 x1)):BX P w K mg base N qual st k 2 (sp2 f):=⟨fun vs H Q E h=>sp2.len h,fun fA cdv A outer s H vs Q E ND HU hr hs=>by obtain⟨x0,x1,rfl,hs⟩:=sp2.inv hs;exact h x0 x1 fA cdv A outer s H Q E ND HU hr hs⟩
theorem gG3{f:V->V->V->Hp->VK->XK->Prop}(h:∀x0 x1 x2,BdG P w K mg base N qual st k [x0,x1,x2] (f x0 x1 x2)):BG P w K mg base N qual st k 3 (sp3 f):=⟨fun vs H Q E h=>sp3.len h,fun fA cdv A outer s H vs Q E ND HU hr hs=>by obtain⟨x0,x1,x2,rfl,hs⟩:=sp3.inv hs;exact h x0 x1 x2 fA cdv A outer s H Q E ND HU hr hs⟩
theorem gX3{f:V->V->V->Hp->VK->XK->Prop}(h:∀x0 x1 x2,BdX P w K mg base N qual st k [x0,x1,x2] (f x0 x1 x2)):BX P w K mg base N qual st k 3 (sp3 f):=⟨fun vs H Q E h=>sp3.len h,fun fA cdv A outer s H vs Q E ND HU hr hs=>by obtain⟨x0,x1,x2,rfl,hs⟩:=sp3.inv hs;exact h x0 x1 x2 fA cdv A outer s H Q E ND HU hr hs⟩
theorem gG4{f:V->V->V->V->Hp->VK->XK->Prop}(h:∀x0 x1 x2 x3,BdG P w K mg base N qual st k [x0,x1,x2,x3] (f x0 x1 x2 x3)):BG P w K mg base N qual st k 4 (sp4 f):=⟨fun vs H Q E h=>sp4.len h,fun fA cdv A outer s H vs Q E ND HU hr hs=>by obtain⟨x0,x1,x2,x3,rfl,hs⟩:=sp4.inv hs;exact h x0 x1 x2 x3 fA cdv A outer s H Q E ND HU hr hs⟩
theorem gX4{f:V->V->V->V->Hp->VK->XK->Prop}(h:∀x0 x1 x2 x3,BdX P w K mg base N qual st k [x0,x1,x2,x3] (f x0 x1 x2 x3)):BX P w K mg base N qual st k 4 (sp4 f):=⟨fun vs H Q E h=>sp4.len h,fun fA cdv A outer s H vs Q E ND HU hr hs=>by obtain⟨x0,x1,x2,x3,rfl,hs⟩:=sp4.inv hs;exact h x0 x1 x2 x3 fA cdv A outer s H Q E ND HU hr hs⟩
theorem gX5{f:V->V->V->V->V->Hp->VK->XK->Prop}(h:∀x0 x1 x2 x3 x4,BdX P w K mg base N qual st k [x0,x1,x2,x3,x4] (f x0 x1 x2 x3 x4)):BX P w K mg base N qual st k 5 (sp5 f):=⟨fun vs H Q E h=>sp5.len h,fun fA cdv A outer s H vs Q E ND HU hr hs=>by obtain⟨x0,x1,x2,x3,x4,rfl,hs⟩:=sp5.inv hs;exact h x0 x1 x2 x3 x4 fA cdv A outer s H Q E ND HU hr hs⟩
theorem gX6{f:V->V->V->V->V->V->Hp->VK->XK->Prop}(h:∀x0 x1 x2 x3 x4 x5,BdX P w K mg base N qual st k [x0,x1,x2,x3,x4,x5] (f x0 x1 x2 x3 x4 x5)):BX P w K mg base N qual st k 6 (sp6 f):=⟨fun vs H Q E h=>sp6.len h,fun fA cdv A outer s H vs Q E ND HU hr hs=>by obtain⟨x0,x1,x2,x3,x4,x5,rfl,hs⟩:=sp6.inv hs;exact h x0 x1 x2 x3 x4 x5 fA cdv A outer s H Q E ND HU hr hs⟩
theorem gX7{f:V->V->V->V->V->V->V->Hp->VK->XK->Prop}(h:∀x0 x1 x2 x3 x4 x5 x6,BdX P w K mg base N qual st k [x0,x1,x2,x3,x4,x5,x6] (f x0 x1 x2 x3 x4 x5 x6)):BX P w K mg base N qual st k 7 (sp7 f):=⟨fun vs H Q E h=>sp7.len h,fun fA cdv A outer s H vs Q E ND HU hr hs=>by obtain⟨x0,x1,x2,x3,x4,x5,x6,rfl,hs⟩:=sp7.inv hs;exact h x0 x1 x2 x3 x4 x5 x6 fA cdv A outer s H Q E ND HU hr hs⟩
end
section
variable{X:Cx}
def LS(K:W.Frag):List V->Hp->VK->Prop
 | [.ref p],H,Q=>∃ns:List Int,SqL K H p (ns.map V.int)/\ns.length<64/\∀out:List Int,out.Perm ns->out.Pairwise (· <= ·)->∀l,H l=none->Q (.ref l) (upd H l (.lst (out.map V.int)))
 |_,_,_=>False
def Kc:V->List V->Hp->VK->Prop:=fun x vs H Q=>∃l b xs zs,x = .ref l/\vs=[.ref b]/\H l=some (.lst xs)/\H b=some (.lst zs)/\xs.length+zs.length<=sizeLine/\Q .non (upd H l (.lst (xs++zs)))
theorem E_:MtM X "list.extend" Kc:=by
 intro pins s σ H x vs v us Q I rx rv h;obtain⟨l,b,xs,zs,rfl,rfl,hH,hB,hz,q⟩:=h;cases rx;obtain⟨u,rfl,ru⟩:=rv.one;cases ru;obtain⟨z,its,n,r,hl,e⟩:=I.lstM hH;obtain⟨z2,its2,n2,r2,hl2,e2⟩:=I.lstM hB;have fin:Inv X pins σ (upd H l (.lst (xs++zs))) { s with heap:=s.heap.update l (ZT (· ++ its2.toArray)) }:=I.lset (its':=its++its2) hH e (by simp) (r.append r2) (by rw[vx];lia);refine Z0 F.slot_list_extend ⟨_,e,rfl⟩ F.entry_list_extend ?_ (F.args_list_extend_2 _ _);show wpAny _ _ (Yk (.ref l) (.ref b) .none) _ _ s;unfold Yk;refine zZ (wpAny_typeOf ⟨_,e2,rfl⟩ ?_);rw[if_pos (by rw[show(Yi "list" == Yi "list")=true by decide,Bool.or_true,Bool.true_or])];refine zZ (YJ e2 rfl (zZ (YJ e rfl ?_)));have hsz:its.toArray.size+its2.toArray.size<=sizeLine:=by rw[z8,z8];lia
 rw[if_neg (by rw[o9 hsz,Bool.and_false];exact vX)];refine zZ (listUpdate_at e rfl ?_ (hsz:=by rw[z8];lia) (hsz2:=by rw[Array.size_append];lia));exact xc ⟨_,rfl,.non,_,fin,rfl,q⟩
end
def sp8(f:V->V->V->V->V->V->V->V->Hp->VK->XK->Prop):Sp:=fun vs H Q E=>match vs with
 | [x,y,z,u,v,a,b,c]=>f x y z u v a b c H Q E
 |_=>False
theorem sp8.inv{f}(h:sp8 f vs H Q E):∃x y z u v a b c,vs=[x,y,z,u,v,a,b,c]/\f x y z u v a b c H Q E:=by
 rcases vs with _|⟨x,_|⟨y,_|⟨z,_|⟨u,_|⟨v,_|⟨a,_|⟨b,_|⟨c,_|⟨w,r⟩⟩⟩⟩⟩⟩⟩⟩⟩
 rotate_left 8
 ·exact⟨_,_,_,_,_,_,_,_,rfl,h⟩
 all_goals exact(id h:False).elim
theorem sp8.len{f}(h:sp8 f vs H Q E):vs.length=8:=by obtain⟨_,_,_,_,_,_,_,_,rfl,_⟩:=sp8.inv h;rfl
theorem ex8(hl:us.length=8):∃a0 a1 a2 a3 a4 a5 a6 a7,us=[a0,a1,a2,a3,a4,a5,a6,a7]:=by
 cases us with
 |nil=>cases hl
 |cons a r=>
  obtain⟨a1,a2,a3,a4,a5,a6,a7,e⟩:=ex7 (YI hl);exact⟨a,a1,a2,a3,a4,a5,a6,a7,by rw[e]⟩
end L2
namespace L2
open PySem
section
variable{X:Cx}{k j i:Nat}{C:Addr}{sp:Sp}{E:XKs}{x m:Str}{p pos pos' apos:Pos}{e o a b:Expr}{es:List Expr}{ta tb te:TE}{t:TA}
variable{N:List Str}{P:Program}{w:World}{K:W.Frag}{mg:Str->Option Value}{base:Heap}{x m qual:Str}{st:Stmt}{C:Addr}{k:Nat}
theorem gX8{f:V->V->V->V->V->V->V->V->Hp->VK->XK->Prop}(h:∀x0 x1 x2 x3 x4 x5 x6 x7,BdX P w K mg base N qual st k [x0,x1,x2,x3,x4,x5,x6,x7] (f x0 x1 x2 x3 x4 x5 x6 x7)):BX P w K mg base N qual st k 8 (sp8 f):=⟨fun vs H Q E h=>sp8.len h,fun fA cdv A outer s H vs Q E ND HU hr hs=>by obtain⟨x0,x1,x2,x3,x4,x5,x6,x7,rfl,hs⟩:=sp8.inv hs;exact h x0 x1 x2 x3 x4 x5 x6 x7 fA cdv A outer s H Q E ND HU hr hs⟩
end
end L2
namespace L2
open PySem PyProof.Rows
def FoC(P:Program)(w:World)(K:W.Frag)(mg:Str->Option Value)(base:Heap)(x:Str)(k:Nat)(sp:Sp):Prop:=
 ∃f fd ps,mg x=some (.ref f)/\Z4 K (.ref f)=true/\Binds K fd ps []/\GU P w K mg base (XE P w) k f fd ps sp
section
variable{P:Program}{w:World}{K:W.Frag}{mg:Str->Option Value}{base:Heap}{x:Str}{st:Stmt}{k:Nat}
def BdC(P:Program)(w:World)(K:W.Frag)(mg:Str->Option Value)(base:Heap)(N:List Str)(qual:Str)(st:Stmt)(k:Nat)(vs:List V)(r:Hp->VK->XK->Prop):Prop:=∀(fA:Addr) (cdv:Value) (A:Around) (outer:List Env) (s:Shared) (H:Hp) (Q:VK) (E:XK),N.Nodup->(A.deeper (envOfC qual (ay st) s.heap.objs.size fA cdv)).units+100<cLine->GP k (A.deeper (envOfC qual (ay st) s.heap.objs.size fA cdv))->r H Q E->∃t,PSs (JT (XE P w) P w K mg base N qual (ay st) fA cdv A outer s H E) (bh st) t/\t { nx:=fun _ H'=>Q .non H',rt:=Q } (eD N vs) H
end
def MoC(P:Program)(w:World)(K:W.Frag)(mg:Str->Option Value)(base:Heap)(C:Addr)(m:Str)(k:Nat)(sp:Sp):Prop:=
 ∃f fd ps,Au K C m f/\Binds K fd ps []/\GU P w K mg base (XE P w) k f fd ps sp
end L2
namespace K3
noncomputable def lg(m:Int):Int:=LG (2000+m / 12) (1+m % 12)
theorem Gz(m:Int):28<=lg m/\lg m<=31:=C4 _ _
theorem y8(m:Int):FD (m+1)=FD m+lg m:=ui m
noncomputable def dy(m pl:Int):Int:=FD m+(if lg m<pl then lg m else pl)-1
theorem m_{m pl:Int}(h:1<=pl):FD m<=dy m pl/\dy m pl<FD (m+1):=by
 have:=Gz m;rw[y8];unfold dy;split <;> omega
theorem KY{m m' pl:Int}(h:1<=pl)(lt:m<m'):dy m pl<dy m' pl:=by
 have a:=(m_ (m:=m) h).2;have b:=(m_ (m:=m') h).1;have c:=de (show m+1<=m' by omega)
 omega
theorem E1{m pl n:Int}(p0:1<=pl)(p1:pl<=lg m)(h2:0<=m+n)(h3:m+n<=4799):lV (FD m+pl-1) n=dy (m+n) pl:=by
 have hm:MO (FD m+pl-1)=m:=rE (by omega) (by rw[y8];omega);obtain⟨_,_,_,e⟩:=D5 (d:=FD m+pl-1) (n:=n) hm (by omega) h2 h3;unfold dy;have e':lV (FD m+pl-1) n-FD (m+n)+1=(if lg (m+n)<pl then lg (m+n) else pl):=by
  rw[e];have:FD m+pl-1-FD m+1=pl:=by omega
  rw[this];rfl
 omega
theorem Ko{m pl:Int}(p0:1<=pl):MO (dy m pl)=m:=rE (m_ p0).1 (m_ p0).2
noncomputable def NN(m e n:Int):Nat:=min n.toNat ((4799-m) / e+1).toNat
theorem wE{m e:Int}(he:1<=e)(hm:m<=4799)(n:Nat):(Zw n).filter (fun j:Nat=>decide (m+e*j<=4799))=Zw (min n ((4799-m) / e+1).toNat):=by
 have key:∀j:Nat,m+e*j<=4799↔j<((4799-m) / e+1).toNat:=fun j=>by
  have h0:0<=(4799-m) / e:=Int.ediv_nonneg (by omega) (by omega);have h1:e*(j:Int)<=4799-m↔(j:Int)<=(4799-m) / e:=by
   rw[Int.mul_comm];exact(Yl (by omega)).symm
  omega
 generalize ((4799-m) / e+1).toNat=b at key
 induction n with
 |zero=>rw[Nat.zero_min];rfl
 |succ n ih=>
  rw[List.range_succ,ZY,ih];by_cases h:n<b
  ·rw[ZN (by simpa using(key n).mpr h),Yy,Xh (by omega),Xh (by omega),List.range_succ]
  ·rw[ZM (by have:=mt (key n).mp h;simpa using this),Yy,Ze,Xs (by omega),Xs (by omega)]
theorem yb{m pl e n:Int}(he:1<=e)(m0:0<=m)(hm:m<=4799)(p0:1<=pl)(p1:pl<=lg m):((Zw n.toNat).filter fun j:Nat=>decide (MO (FD m+pl-1)+e*j<=4799)).map (fun j:Nat=>lV (FD m+pl-1) (e*j))=(Zw (NN m e n)).map fun j:Nat=>dy (m+j*e) pl:=by
 have hM:MO (FD m+pl-1)=m:=rE (by omega) (by rw[y8];omega);rw[hM,wE he hm];apply uW;intro j hj;have hj:=List.mem_range.mp hj;have h0:0<=(4799-m) / e:=Int.ediv_nonneg (by omega) (by omega);have h1:(j:Int)<=(4799-m) / e:=by omega
 have h2:(j:Int)*e<=4799-m:=(Yl (by omega)).mp h1;have h3:0<=(j:Int)*e:=Int.mul_nonneg (by omega) (by omega);rw[Int.mul_comm e,E1 p0 p1 (by omega) (by omega)]
theorem l_{u:Int}:∀ {l:List Int},l.Pairwise (· < ·)->l.filter (fun i=>decide (i<=u))=l.takeWhile fun i=>decide (i<=u)
 | [],_=>rfl
 |a::r,h=>by
  rw[ZZ]at h;by_cases ha:a<=u
  ·rw[ZN (by simpa using ha),Xw (by simpa using ha),l_ h.2]
  ·rw[ZM (by simpa using ha),List.takeWhile_cons_of_neg (by simpa using ha),Z6]
   intro b hb;have:=h.1 b hb;simp;omega
theorem yT{m pl e:Int}(he:1<=e)(p0:1<=pl)(n:Nat):((Zw n).map fun j:Nat=>dy (m+j*e) pl).Pairwise (· < ·):=by
 rw[Zc];refine List.Pairwise.imp (fun {a b} h=>?_) List.pairwise_lt_range;refine KY p0 ?_;have:(a:Int)*e<b*e:=Int.mul_lt_mul_of_pos_right (by omega) (by omega)
 omega
end K3
namespace L2
open PySem
section
variable{X:Cx}{st:Stmt}{rest:List Stmt}{t u:TS}
def Jw(b:TS)(D:iu)(σ:St)(H:Hp):Prop:=b D σ H
theorem goH{b:TS}{D:iu}{σ:St}{H:Hp}(h:b D σ H):Jw b D σ H:=h
def zh(t u:TS):TS:=fun D σ H=>t { D with nx:=Jw u D } σ H
theorem fQ(h1:PS X st t)(h2:PSs X rest u):PSs X (st::rest) (zh t u):=ae h1 h2
end
end L2
namespace L2
theorem JQ{p q r:Prop}{C:Prop}(z:p/\q/\r)(k:p->q->r->C):C:=by obtain⟨h0,h1,h2⟩:=z;exact k h0 h1 h2
theorem ce{α:Type}{p q:α->Prop}{C:Prop}(z:∃a,p a/\q a)(k:∀a,p a->q a->C):C:=by obtain⟨a,h0,h1⟩:=z;exact k a h0 h1
theorem gb{α:Type}{p q r:α->Prop}{C:Prop}(z:∃a,p a/\q a/\r a)(k:∀a,p a->q a->r a->C):C:=by obtain⟨a,h0,h1,h2⟩:=z;exact k a h0 h1 h2
theorem bW{α:Type}{p q r s:α->Prop}{C:Prop}(z:∃a,p a/\q a/\r a/\s a)(k:∀a,p a->q a->r a->s a->C):C:=by obtain⟨a,h0,h1,h2,h3⟩:=z;exact k a h0 h1 h2 h3
theorem qm{α β:Type}{p q:α->β->Prop}{C:Prop}(z:∃a b,p a b/\q a b)(k:∀a b,p a b->q a b->C):C:=by obtain⟨a,b,h0,h1⟩:=z;exact k a b h0 h1
theorem Cf{α β:Type}{p q r s t:α->β->Prop}{C:Prop}(z:∃a b,p a b/\q a b/\r a b/\s a b/\t a b)(k:∀a b,p a b->q a b->r a b->s a b->t a b->C):C:=by obtain⟨a,b,h0,h1,h2,h3,h4⟩:=z;exact k a b h0 h1 h2 h3 h4
theorem Jx{α β:Type}{p q r s t u:α->β->Prop}{C:Prop}(z:∃a b,p a b/\q a b/\r a b/\s a b/\t a b/\u a b)(k:∀a b,p a b->q a b->r a b->s a b->t a b->u a b->C):C:=by obtain⟨a,b,h0,h1,h2,h3,h4,h5⟩:=z;exact k a b h0 h1 h2 h3 h4 h5
theorem GV{α β γ δ ε:Type}{p q r s:α->β->γ->δ->ε->Prop}{C:Prop}(z:∃a b c d e,p a b c d e/\q a b c d e/\r a b c d e/\s a b c d e)(k:∀a b c d e,p a b c d e->q a b c d e->r a b c d e->s a b c d e->C):C:=by obtain⟨a,b,c,d,e,h0,h1,h2,h3⟩:=z;exact k a b c d e h0 h1 h2 h3
theorem LR{α β γ δ ε ζ η:Type}{p q r s t u v w x:α->β->γ->δ->ε->ζ->η->Prop}{C:Prop}(z:∃a b c d e f g,p a b c d e f g/\q a b c d e f g/\r a b c d e f g/\s a b c d e f g/\t a b c d e f g/\u a b c d e f g/\v a b c d e f g/\w a b c d e f g/\x a b c d e f g)(k:∀a b c d e f g,p a b c d e f g->q a b c d e f g->r a b c d e f g->s a b c d e f g->t a b c d e f g->u a b c d e f g->v a b c d e f g->w a b c d e f g->x a b c d e f g->C):C:=by obtain⟨a,b,c,d,e,f,g,h0,h1,h2,h3,h4,h5,h6,h7,h8⟩:=z;exact k a b c d e f g h0 h1 h2 h3 h4 h5 h6 h7 h8
theorem LJ{α β γ δ ε ζ η θ:Type}{p:α->β->γ->δ->ε->ζ->η->θ->Prop}{C:Prop}(z:∃a b c d e f g h,p a b c d e f g h)(k:∀a b c d e f g h,p a b c d e f g h->C):C:=by obtain⟨a,b,c,d,e,f,g,h,h0⟩:=z;exact k a b c d e f g h h0
end L2
namespace K28
open PySem L2
noncomputable abbrev h_:List Str:=["_law_script","_law_names","_law_base","_law_accounts_here","_law_chart_here","_law_gate","_law_journal","_law_standing","_law_rows","_law_bookings","_law_closed","_law_sealed","_law_orders","_law_k","_law_pairs","_law_until","_law_turn","_law_wrong","_law_due"]
noncomputable abbrev eB:List Str:=["_law_orders","_law_accounts_here","_law_closed","_law_bookings","_law_until","_law_waiting","_law_name","_law_some","_law_due","_law_day_here","_law_month","_law_number"]
noncomputable abbrev ii:List Str:=["_law_script","_law_first","_law_accounts_here","_law_base","_law_cell","_law_more","_law_paths","_law_month","_law_amount","_law_coins","_law_one","_law_other","_law_rows"]
noncomputable abbrev fZ:List Str:=["_law_script","_law_gate","_law_standing","_law_orders","_law_names","_law_accounts_here","_law_base","_law_closed"]
noncomputable abbrev hV:List Str:=["_law_accounts_here","_law_closed","_law_day_here","_law_month","_law_rows","_law_sums","_law_path","_law_coin","_law_amount","_law_currency","_law_first","_law_end"]
noncomputable abbrev nh:List Str:=["_law_order_here","_law_until","_law_month","_law_place","_law_every","_law_times","_law_gone","_law_found","_law_k","_law_day_here"]
noncomputable abbrev iJ:List Str:=["_law_script","_law_names","_law_base","_law_cell","_law_low","_law_end","_law_accounts_here"]
noncomputable abbrev Gh:List Str:=["chart","gate","journal","standing","until","turns","name","told","day"]
structure Adr where
 dM:Addr
 cz:Addr
 rM:Addr
 rV:Addr
 bN:Addr
 qf:Addr
 cL:Addr
 bH:Addr
 rD:Addr
 rj:Addr
 bJ:Addr
 yI:Addr
 cR:Addr
 oW:Addr
 v0:Addr
 bX:Addr
 mZ:Addr
 bP:Addr
 rm:Addr
 bK:Addr
 aO:Addr
 aV:Addr
 bc:Addr
 aX:Addr
 az:Addr
 aD:Addr
 dY:Addr
 lq:Addr
abbrev zzK(K:W.Frag)(a b:Addr)(c:Bool):Prop:=Zr K (.ref a) (.ref b)=some c
abbrev zzX(K:W.Frag)(a:Addr):Prop:=PySem.W.excIn K a [.type "ValueError",.type "Exception",.type "BaseException",.type "object"] "ValueError.__new__" = true
structure Txt(K:W.Frag)(mg:Str->Option Value)(a:Adr):Prop where
 xC:DfN K mg "is_whole" (top 22)
 xW:DfN K mg "is_among" (top 23)
 uC:DfN K mg "signs_lie" (top 24)
 AA:DfN K mg "is_name" (top 25)
 zB:DfN K mg "is_note" (top 26)
 Cv:DfN K mg "is_day" (top 29)
 ya:DfN K mg "is_month" (top 30)
 uH:DfN K mg "leap_days" (top 31)
 vZ:DfN K mg "first_day" (top 32)
 xD:DfN K mg "last_day" (top 33)
 wR:DfN K mg "month_of" (top 34)
 zI:DfN K mg "stepped" (top 35)
 wg:DfN K mg "is_amount" (top 37)
 qB:DfN K mg "is_currency" (top 38)
 Cr:DfN K mg "is_row" (top 40)
 uM:DfN K mg "need_form" (top 41)
 pN:DfN K mg "need_account" (top 42)
 Az:DfN K mg "sums_of" (top 43)
 v5:DfN K mg "need_even" (top 44)
 vG:DfN K mg "need_rows" (top 45)
 jh:DfN K mg "need_note_and_gate" (top 47)
 IW:DfN K mg "book" (top 48)
 Ci:DfN K mg "booked" (top 50)
 KN:DfN K mg "run" (top 51)
 uS:DfN K mg "are_names" (top 53)
 z4:DfN K mg "is_path" (top 54)
 xB:DfN K mg "names_of" (top 55)
 Fn:DfN K mg "above" (top 56)
 Al:DfN K mg "rows_of" (top 65)
 lI:DfN K mg "bookings_up_to" (top 66)
 xi:DfN K mg "balances" (top 67)
 G0:DfN K mg "seal" (top 69)
 ET:DfN K mg "holds" (top 70)
 vf:DfN K mg "days_from" (top 72)
 pV:DfN K mg "_law_cell_at" (top 76)
 pU:DfN K mg "_law_name_by" (top 77)
 uZ:DfN K mg "_law_long" (top 78)
 xL:DfN K mg "_law_day" (top 79)
 vy:DfN K mg "_law_left" (top 80)
 nQ:DfN K mg "_law_accounts" (top 81)
 t8:DfN K mg "_law_chart" (top 82)
 tR:DfN K mg "_law_order" (top 83)
 mw:DfN K mg "_law_is_booked" (top 84)
 oX:DfN K mg "_law_run_due" cg
 xP:DfN K mg "_law_put" (top 86)
 pO:DfN K mg "_law_refused" (top 87)
 wu:DfN K mg "_law_same" (top 88)
 k8:DfN K mg "_law_state_good" (top 89)
 pd:DfN K mg "_law_between" (top 90)
 ue:DfN K mg "_law_begun" (top 91)
 Ku:∃fd,Fun K "law" "law" cf a.dM fd
 jR:DfM K a.aO "__init__" "Account.__init__" (bj (top 59) 0)
 jB:DfM K a.aO "stands_on" "Account.stands_on" (bj (top 59) 1)
 iy:DfM K a.aO "stands_later" "Account.stands_later" (bj (top 59) 2)
 lL:DfM K a.aV "__init__" "Chart.__init__" (bj (top 60) 0)
 nM:DfM K a.aV "add_top" "Chart.add_top" (bj (top 60) 1)
 vq:DfM K a.aV "add" "Chart.add" gB
 tf:DfM K a.aV "shut" "Chart.shut" (bj (top 60) 3)
 vM:DfM K a.aV "has" "Chart.has" (bj (top 60) 4)
 nB:DfM K a.aV "account" "Chart.account" (bj (top 60) 5)
 jA:DfM K a.aV "currency_of" "Chart.currency_of" (bj (top 60) 7)
 nX:DfM K a.aV "is_open" "Chart.is_open" (bj (top 60) 9)
 A1:DfM K a.aV "beneath" "Chart.beneath" (bj (top 60) 10)
 z9:DfM K a.aV "accounts" "Chart.accounts" (bj (top 60) 11)
 nP:DfM K a.bc "__init__" "Gate.__init__" (bj (top 62) 0)
 DZ:DfM K a.bc "closed" "Gate.closed" (bj (top 62) 1)
 uK:DfM K a.bc "lets" "Gate.lets" (bj (top 62) 2)
 lZ:DfM K a.bc "need_next" "Gate.need_next" (bj (top 62) 3)
 wq:DfM K a.bc "shut" "Gate.shut" (bj (top 62) 4)
 j3:DfM K a.aX "__init__" "Journal.__init__" (bj (top 63) 0)
 qq:DfM K a.aX "put" "Journal.put" (bj (top 63) 1)
 Br:DfM K a.aX "many" "Journal.many" (bj (top 63) 2)
 yB:DfM K a.aX "booking" "Journal.booking" (bj (top 63) 3)
 nK:DfM K a.aX "every" "Journal.every" (bj (top 63) 4)
 gL:DfM K a.az "__init__" "StandingOrder.__init__" (bj (top 73) 0)
 jF:DfM K a.aD "__init__" "Standing.__init__" (bj (top 74) 0)
 pX:DfM K a.aD "put" "Standing.put" (bj (top 74) 1)
 mI:DfM K a.aD "order" "Standing.order" (bj (top 74) 2)
 n6:DfM K a.aD "drop" "Standing.drop" (bj (top 74) 3)
 mK:DfM K a.aD "names" "Standing.names" (bj (top 74) 4)
 lN:DfM K a.aD "terms" "Standing.terms" (bj (top 74) 5)
 nL:DfM K a.aD "done" "Standing.done" (bj (top 74) 6)
 nR:DfM K a.aD "step" "Standing.step" (bj (top 74) 7)
 nU:DfM K a.aD "days" "Standing.days" (bj (top 74) 8)
 lh:DfM K a.bX "__init__" "Uneven.__init__" (bj (top 16) 0)
 ka:mg "HouseError" = some (.ref a.cz)
 rK:mg "BadName" = some (.ref a.rM)
 rZ:mg "BadNote" = some (.ref a.rV)
 f8:mg "BadDay" = some (.ref a.bN)
 pC:mg "BadMonth" = some (.ref a.qf)
 p8:mg "BadCount" = some (.ref a.cL)
 jL:mg "BadCurrency" = some (.ref a.bH)
 lS:mg "BadPath" = some (.ref a.rD)
 zT:mg "BadKind" = some (.ref a.rj)
 vi:mg "NoAccount" = some (.ref a.bJ)
 sj:mg "Twice" = some (.ref a.yI)
 lR:mg "NotOpen" = some (.ref a.cR)
 w4:mg "HasBelow" = some (.ref a.oW)
 uD:mg "BadRow" = some (.ref a.v0)
 B7:mg "Uneven" = some (.ref a.bX)
 Gq:mg "NoBooking" = some (.ref a.mZ)
 uA:mg "Closed" = some (.ref a.bP)
 Af:mg "NotNext" = some (.ref a.rm)
 rY:mg "NoOrder" = some (.ref a.bK)
 rS:mg "Account" = some (.ref a.aO)
 EI:mg "Chart" = some (.ref a.aV)
 HE:mg "Gate" = some (.ref a.bc)
 zL:mg "Journal" = some (.ref a.aX)
 nV:mg "StandingOrder" = some (.ref a.az)
 xG:mg "Standing" = some (.ref a.aD)
 bz:Cls K a.aO
 jr:NoAttr K a.aO "kind"
 fT:NoAttr K a.aO "currency"
 e_:NoAttr K a.aO "first"
 cw:NoAttr K a.aO "until"
 e7:NoAttr K a.aO "below"
 oU:MkC K a.aO
 bS:Cls K a.aV
 b6:NoAttr K a.aV "by_path"
 BJ:MkC K a.aV
 eJ:Cls K a.bc
 bT:NoAttr K a.bc "last_closed"
 E0:MkC K a.bc
 cK:Cls K a.aX
 cW:NoAttr K a.aX "bookings"
 f_:NoAttr K a.aX "undoings"
 xX:MkC K a.aX
 bC:Cls K a.az
 ez:NoAttr K a.az "agreed"
 cJ:NoAttr K a.az "all_days"
 bY:NoAttr K a.az "gone"
 l7:MkC K a.az
 a9:Cls K a.aD
 bI:NoAttr K a.aD "by_name"
 vv:MkC K a.aD
 yc:zzX K a.cL
 jN:zzX K a.bH
 DY:dt K a.bH
 gO:ZR K (.ref a.bH) (.ref a.cz)=some true
 t6:zzK K a.bH a.cL false
 v_:zzK K a.bH a.bN false
 vj:zzK K a.bH a.bP false
 uw:zzK K a.bH a.bK false
 qw:Zr K (.ref a.bH) (.type "ValueError")=some true
 gW:zzX K a.bN
 oI:dt K a.bN
 jC:ZR K (.ref a.bN) (.ref a.cz)=some true
 lz:zzK K a.bN a.cL false
 nZ:zzK K a.bN a.bN true
 nA:zzK K a.bN a.bP false
 lW:zzK K a.bN a.bK false
 jz:Zr K (.ref a.bN) (.type "ValueError")=some true
 zw:zzX K a.rj
 px:zzX K a.qf
 rH:zzX K a.rM
 rT:zzX K a.rV
 mh:zzX K a.rD
 vA:zzX K a.v0
 Cc:zzX K a.bP
 J8:dt K a.bP
 jE:ZR K (.ref a.bP) (.ref a.cz)=some true
 yr:zzK K a.bP a.cL false
 AZ:zzK K a.bP a.bN false
 AY:zzK K a.bP a.bP true
 zN:zzK K a.bP a.bK false
 wz:Zr K (.ref a.bP) (.type "ValueError")=some true
 xT:zzX K a.oW
 vU:zzX K a.bJ
 GE:dt K a.bJ
 iA:ZR K (.ref a.bJ) (.ref a.cz)=some true
 uy:zzK K a.bJ a.cL false
 xK:zzK K a.bJ a.bN false
 wK:zzK K a.bJ a.bP false
 wA:zzK K a.bJ a.bK false
 r9:Zr K (.ref a.bJ) (.type "ValueError")=some true
 GR:zzX K a.mZ
 Ag:zzX K a.bK
 Ax:zzX K a.rm
 lE:zzX K a.cR
 Js:dt K a.cR
 jn:ZR K (.ref a.cR) (.ref a.cz)=some true
 xr:zzK K a.cR a.cL false
 zv:zzK K a.cR a.bN false
 Ak:zzK K a.cR a.bP false
 yQ:zzK K a.cR a.bK false
 uV:Zr K (.ref a.cR) (.type "ValueError")=some true
 t_:zzX K a.yI
 C2:∀f,Zu K (.ref a.bX) "__init__" = some (some (.ref f))->jU K a.bX f=true
 kg:JS K a.bX "currency"
 KH:dt K a.bX
 jx:ZR K (.ref a.bX) (.ref a.cz)=some true
 y4:zzK K a.bX a.cL false
 A0:zzK K a.bX a.bN false
 AX:zzK K a.bX a.bP false
 AJ:zzK K a.bX a.bK false
 wB:Zr K (.ref a.bX) (.type "ValueError")=some true
 Av:mg "LENGTHS" = some (.ref a.dY)
 dY:∃(o:Obj) (its:Array Value) (n:Nat),K.lookup a.dY=some o/\o.cls = .type "tuple" /\ o.data = .seq its n/\its.size<=sizeLine/\Vals (([31,28,31,30,31,30,31,31,30,31,30,31]:List Int).map V.int) its.toList
 E2:mg "KINDS" = some (.ref a.lq)
 lq:∃(o:Obj) (its:Array Value) (n:Nat),K.lookup a.lq=some o/\o.cls = .type "tuple" /\ o.data = .seq its n/\its.size<=sizeLine/\Vals (([[104,97,118,101],[111,119,101],[111,119,110],[103,97,105,110],[99,111,115,116]]:List (List Nat)).map T) its.toList
 tE:mg "ValueError" = none
 Go:mg "all" = none
 Ly:mg "any" = none
 xF:mg "bool" = none
 Cz:mg "int" = none
 aZ:mg "isinstance" = none
 eR:mg "len" = none
 pY:mg "list" = none
 J9:mg "max" = none
 iF:mg "min" = none
 eK:mg "range" = none
 gh:mg "sorted" = none
 pF:mg "str" = none
 Kn:mg "sum" = none
 ij:mg "tuple" = none
theorem qC:Zh "ValueError" = some (.type "ValueError"):=by decide +kernel
theorem Dg:Zh "all" = some (.builtin "all"):=by decide +kernel
theorem HK:Zh "any" = some (.builtin "any"):=by decide +kernel
theorem um:Zh "bool" = some (.type "bool"):=by decide +kernel
theorem wS:Zh "int" = some (.type "int"):=by decide +kernel
theorem aU:Zh "isinstance" = some (.builtin "isinstance"):=by decide +kernel
theorem dv:Zh "len" = some (.builtin "len"):=by decide +kernel
theorem kh:Zh "list" = some (.type "list"):=by decide +kernel
theorem IU:Zh "max" = some (.builtin "max"):=by decide +kernel
theorem eZ:Zh "min" = some (.builtin "min"):=by decide +kernel
theorem eI:Zh "sorted" = some (.builtin "sorted"):=by decide +kernel
theorem j6:Zh "str" = some (.type "str"):=by decide +kernel
theorem Iy:Zh "sum" = some (.builtin "sum"):=by decide +kernel
theorem fW:Zh "tuple" = some (.type "tuple"):=by decide +kernel
theorem d4:dA ["_law_script","_law_names","_law_base","_law_accounts_here","_law_chart_here","_law_gate","_law_journal","_law_standing","_law_rows","_law_bookings","_law_closed","_law_sealed","_law_orders","_law_k","_law_pairs","_law_until","_law_turn","_law_wrong","_law_due"] ["_law_script"] (ay cf):=⟨rfl,rfl,rfl,by decide +kernel,rfl,by decide +kernel,by decide +kernel⟩
seal L2.PE L2.PT L2.PW L2.PA L2.PS L2.PSs L2.PI L2.PG L2.PGs L2.PO
open PySem L2 K19 K22
local macro_rules | `(tactic| walk_at "c") => `(tactic| exact ⟨rfl, by decide +kernel, rfl, by decide +kernel, rfl, cF rfl, rfl, aS rfl, aS (k := fun y => vL y _) rfl, cD rfl⟩)
local macro_rules | `(tactic| walk_at "s") => `(tactic| exact ⟨rfl, rfl, rfl, by decide +kernel, rfl, by decide +kernel, by decide +kernel⟩)
local macro_rules | `(tactic| walk_at "b") => `(tactic| (intro _ _ _ _ _ _ us hl; first | (obtain ⟨_, e⟩ := ex1 hl; subst e; rfl) | (obtain ⟨_, _, e⟩ := ex2 hl; subst e; rfl) | (obtain ⟨_, _, _, e⟩ := ex3 hl; subst e; rfl) | (obtain ⟨_, _, _, _, e⟩ := ex4 hl; subst e; rfl) | (obtain ⟨_, _, _, _, _, e⟩ := ex5 hl; subst e; rfl) | (obtain ⟨_, _, _, _, _, _, e⟩ := ex6 hl; subst e; rfl) | (obtain ⟨_, _, _, _, _, _, _, e⟩ := ex7 hl; subst e; rfl) | (obtain ⟨_, _, _, _, _, _, _, _, e⟩ := ex8 hl; subst e; rfl)))
local macro_rules | `(tactic| walk_at "r") => `(tactic| try simp only [iq, rdI, V.int.injEq, V.ref.injEq, yK, Do, yh, yO, BM, C8, Da, CJ, Dv, L2.eD, wV, ZX, ZV, List.nil_append, Ze, sq, Yz, Zm, List.getElem?_cons_zero, List.getElem?_cons_succ, List.set_cons_zero, List.set_cons_succ, Nat.reduceSub, Nat.reduceAdd, Int.reduceLT, Int.reduceLE, Int.reducePow, Int.reduceNeg, Nat.reducePow, Yx, exists_eq_left', exists_eq_left, eq_self, if_false, if_true, ↓reduceIte, ite_not, forall_const, Option.bind_some, id_eq, De, oz, B9, yl, GQ, K5, wP, sp8, zh])
local macro_rules | `(tactic| walk_at "o") => `(tactic| first | exact Zt (by decide) (by assumption : 1000 <= sizeLine) | omega)
section
variable{pS:Addr}{ns:List Int}{P:Program}{w:World}{K:W.Frag}{mg:Str->Option Value}{base:Heap}{a:Adr}
theorem szl:1000<=sizeLine:=by rw[uz];decide
theorem Ml:1000<sizeLine:=by rw[uz];decide
theorem itp{c:Prop}[Decidable c]{t e:Prop}(h:c)(x:t):ite c t e:=by rw[if_pos h];exact x
theorem itn{c:Prop}[Decidable c]{t e:Prop}(h:¬ c)(x:e):ite c t e:=by rw[if_neg h];exact x
def sp_vx:Sp:=sp1 fun x H Q _=>NoT H/\asK H x fun _=>Q (.bl (isI x)) H
theorem vo(T:Txt K mg a):Fo P w K mg base "is_whole" 1 sp_vx:=by
 refine T.xC.hg ["thing"] (gG1 fun x0 fA cdv A outer s H Q E ND HU hr h=>?_);obtain⟨hN,h1⟩:=h;obtain⟨t,ht,hb,k⟩:=eY h1;refine⟨hN,_,(ah (aF (dm (aC (cH K) rfl T.aZ aU (fa2 (fv 0) (cO (v:=.ty "int") rfl T.Cz wS rfl))) (d7 (DT (aC (cH K) rfl T.aZ aU (fa2 (fv 0) (cO (v:=.ty "bool") rfl T.xF um rfl)))))))),?_⟩;walk_at "r";simp only[ht];rw[<- Cp ht]at k;rcases hb with rfl|rfl|rfl|rfl|rfl|rfl|rfl
 all_goals first
  |exact Ka k
  |exact JN k
noncomputable def amg(x:V)(lo hi:Int):Bool:=match x with
 | .int i=>decide (lo<=i)&&decide (i<=hi)
 |_=>false
theorem Fx{x:V}{lo hi:Int}(h:isI x=false):amg x lo hi=false:=by
 unfold amg;split
 ·cases h
 ·rfl
def sp_vL:Sp:=sp3 fun x y z H Q _=>NoT H/\asI y fun lo=>asI z fun hi=>asK H x fun _=>Q (.bl (amg x lo hi)) H
theorem eV(T:Txt K mg a):Fo P w K mg base "is_among" 2 sp_vL:=by
 refine T.xW.hg ["thing","least","most"] (gG3 fun x0 x1 x2 fA cdv A outer s H Q E ND HU hr h=>?_);obtain⟨hN,h1⟩:=h;obtain⟨lo,rfl,h2⟩:=aW h1;obtain⟨hi,rfl,h3⟩:=aW h2;obtain⟨t,ht,hb,k⟩:=eY h3;refine⟨hN,_,(ah (aF (dm (aH (vo T) hr av (fa1 (fv 0))) (d7 (kW fX fX (fv 1) (fv 0) (fv 2)))))),?_⟩;walk_at "r";refine⟨hN,asK.of ht ?_⟩;cases e:isI x0 with
 |false=>
  rw[Fx e]at k;exact JN k
 |true=>
  cases x0 with
  |int i=>
   refine Ka ?_;walk_at "r";split
   ·rename_i h1
    have e:amg (.int i) lo hi=decide (i<=hi):=by simp[amg,h1]
    rw[e]at k;exact k
   ·rename_i h1
    have e:amg (.int i) lo hi=false:=by simp[amg,h1]
    rw[e]at k;exact k
  |_=>cases e
def sp_zJ:Sp:=sp1 fun x H Q _=>NoT H/\asK H x fun _=>Q (.bl (amg x 0 146096)) H
theorem ia(T:Txt K mg a):Fo P w K mg base "is_day" 3 sp_zJ:=by
 refine T.Cv.hg ["thing"] (gG1 fun x0 fA cdv A outer s H Q E ND HU hr h=>?_);obtain⟨hN,h1⟩:=h;refine⟨hN,_,(ah (aF (aH (eV T) hr av (fa3 (fv 0) aa aa)))),?_⟩;walk_at "r";exact⟨hN,h1⟩
theorem Hq(a b:Nat):leN [a] [b]=decide (a<=b):=by
 unfold leN;have h:([b]<[a])↔b<a:=by
  rw[List.cons_lt_cons_iff];simp
 rw[decide_eq_decide.mpr h];by_cases h2:b<a
 ·rw[decide_eq_true h2,decide_eq_false (by walk_at "o")];rfl
 ·rw[decide_eq_false h2,decide_eq_true (by walk_at "o")];rfl
local macro_rules | `(tactic| walk_at "r") => `(tactic| try simp only [iq, rdI, V.int.injEq, V.ref.injEq, yK, Do, yh, yO, BM, C8, Da, CJ, Dv, L2.eD, wV, ZX, ZV, List.nil_append, Ze, sq, Yz, Zm, List.getElem?_cons_zero, List.getElem?_cons_succ, List.set_cons_zero, List.set_cons_succ, Nat.reduceSub, Nat.reduceAdd, Int.reduceLT, Int.reduceLE, Int.reducePow, Int.reduceNeg, Nat.reducePow, Yx, exists_eq_left', exists_eq_left, eq_self, if_false, if_true, ↓reduceIte, ite_not, forall_const, Option.bind_some, id_eq, De, oz, B9, yl, GQ, K5, wP, sp8, zh, Hq])
def ok(l:List Nat):Prop:=(∀c∈l,c<128)/\l.length<=1000
theorem oh{l:List Nat}(h:ok l):l.length<=sizeLine:=Zt h.2 (by rw[uz];decide)
noncomputable def lie(l:List Nat)(a b:Nat):Bool:=l.all fun c=>decide (a<=c)&&decide (c<=b)
def sp_sq:Sp:=sp3 fun x y z H Q _=>NoT H/\asT x fun l=>asT y fun lo=>asT z fun hi=>ok l/\∃a b,lo=[a]/\hi=[b]/\Q (.bl (lie l a b)) H
theorem ip(T:Txt K mg a):Fo P w K mg base "signs_lie" 1 sp_sq:=by
 refine T.uC.hg ["text","least","most"] (gG3 fun x0 x1 x2 fA cdv A outer s H Q E ND HU hr h=>?_);obtain⟨hN,h1⟩:=h;obtain⟨l,rfl,h2⟩:=cM h1;obtain⟨lo,rfl,h3⟩:=cM h2;obtain⟨hi,rfl,hl,a,b,rfl,rfl,k⟩:=cM h3;refine⟨hN,_,(ah (aF (aC (yU K rfl) rfl T.Go Dg (fa1 (b_ rfl (cl:=_) (x:="sign") (xs:=["sign"]) (fr:=["least","most"]) (ks:=[1,2]) (by walk_at "c") rfl (Ic (fv 0)) (fun _ _ _ _ _=>(aK (i:=0) (eC (l:=["sign","least","most"]) (by decide)) rfl (Or.inl rfl))) (fun _ _ _ _ _=>eO) (fun _ _ _ _ _=>(kW fX fX (fv 1) (fv 0) (fv 2)))))))),?_⟩;walk_at "r";refine cmS (fun _=>True) (fun _ _ _=>trivial) l (fun _=>true) (fun c=>.bl (decide (a<=c)&&decide (c<=b))) (fun R r=>r) hl.1 (oh hl) (fun c _ H R _ r=>r) (fun c _ _ H R _ r=>?_) (fun D hD=>?_)
 ·walk_at "r"
  by_cases h1:a<=c
  ·simp only[h1,decide_true,Bool.true_and]at r |-
   exact r
  ·simp only[h1,decide_false,Bool.false_and]at r |-
   exact r
 ·refine⟨l.map fun c=>decide (a<=c)&&decide (c<=b),aA (by rw[af,ZW.mpr (by simp),wM];rfl),H,Gc.none (aj _ hD),?_⟩
  have e:(l.map fun c=>decide (a<=c)&&decide (c<=b)).all id=lie l a b:=by
   rw[List.all_map];rfl
  rw[e];exact k
noncomputable def cur(l:List Nat):Bool:=decide (l.length=3)&&lie l 65 90
def sp_z8:Sp:=sp1 fun x H Q _=>NoT H/\asT x fun l=>cur l=true/\Q (.bl true) H
theorem EU{l:List Nat}(h:cur l=true):l.length=3/\lie l 65 90=true:=by
 unfold cur at h
 simpa using h
theorem IZ{l:List Nat}{a b:Nat}(h:lie l a b=true)(hb:b<128)(hl:l.length<=1000):ok l:=by
 unfold lie at h;rw[Zo]at h;exact⟨fun c hc=>by have:=h c hc;simp at this;lia,hl⟩
theorem i8(T:Txt K mg a):Fo P w K mg base "is_currency" 2 sp_z8:=by
 refine T.qB.hg ["thing"] (gG1 fun x0 fA cdv A outer s H Q E ND HU hr h=>?_);obtain⟨hN,h1⟩:=h;obtain⟨l,rfl,hc,k⟩:=cM h1;obtain⟨h3,hl⟩:=EU hc;have ol:=IZ hl (by decide) (by lia);refine⟨hN,_,(ah (aF (dm (aC (cH K) rfl T.aZ aU (fa2 (fv 0) (cO (v:=.ty "str") rfl T.pF j6 rfl))) (dm (d_ (dF K HU) (aC (cG K) rfl T.eR dv (fa1 (fv 0))) aa (fe _)) (d7 (aH (ip T) hr av (fa3 (fv 0) (bv [65]) (bv [90])))))))),?_⟩;walk_at "r";refine⟨oh ol,itp (by lia) ⟨hN,ol,65,90,rfl,rfl,?_⟩⟩;rw[hl];exact k
noncomputable def nm(l:List Nat):Bool:=decide (1<=l.length)&&decide (l.length<=12)&&lie l 97 122
def sp_wU:Sp:=sp1 fun x H Q _=>NoT H/\asT x fun l=>ok l/\Q (.bl (nm l)) H
theorem jT(T:Txt K mg a):Fo P w K mg base "is_name" 2 sp_wU:=by
 refine T.AA.hg ["thing"] (gG1 fun x0 fA cdv A outer s H Q E ND HU hr h=>?_);obtain⟨hN,h1⟩:=h;obtain⟨l,rfl,hl,k⟩:=cM h1;refine⟨hN,_,(ah (aF (dm (aC (cH K) rfl T.aZ aU (fa2 (fv 0) (cO (v:=.ty "str") rfl T.pF j6 rfl))) (dm (kW fX fX aa (aC (cG K) rfl T.eR dv (fa1 (fv 0))) aa) (d7 (aH (ip T) hr av (fa3 (fv 0) (bv [97]) (bv [122])))))))),?_⟩;walk_at "r";refine⟨oh hl,?_⟩;unfold nm at k;split
 ·rename_i h1
  rw[decide_eq_true (by lia:1<=l.length)]at k;split
  ·rename_i h2
   rw[decide_eq_true (by lia:l.length<=12)]at k;exact⟨hN,hl,97,122,rfl,rfl,k⟩
  ·rename_i h2
   rw[decide_eq_false (by lia:¬ l.length<=12)]at k;exact k
 ·rename_i h1
  rw[decide_eq_false (by lia:¬ 1<=l.length)]at k;exact k
def sp_tW(K:W.Frag):Sp:=sp1 fun x H Q _=>asR x fun p=>NoT H/\∃ls:List (List Nat),SqL K H p (ls.map L2.T)/\ls.length<=300/\(∀l∈ls,ok l)/\Q (.bl (decide (1<=ls.length)&&decide (ls.length<=6)&&ls.all nm)) H
theorem ul(T:Txt K mg a):Fo P w K mg base "are_names" 3 (sp_tW K):=by
 refine T.uS.hg ["names"] (gG1 fun x0 fA cdv A outer s H Q E ND HU hr h=>?_);refine gb (aE h) fun p yy1 hN yz=>bW yz fun ls hS hl hx k=>?_;subst yy1;refine⟨hN,_,(ah (aF (dm (kW fX fX aa (aC (cG K) rfl T.eR dv (fa1 (fv 0))) aa) (d7 (aC (yU K rfl) rfl T.Go Dg (fa1 (b_ rfl (cl:=_) (x:="name") (xs:=["name"]) (fr:=[]) (ks:=[]) (by walk_at "c") rfl (bQ K (fv 0)) (fun _ _ _ _ _=>(aK (i:=0) (eC (l:=["name"]) (by decide)) rfl (Or.inl rfl))) (fun _ _ _ _ _=>eO) (fun _ _ _ _ _=>(aH (jT T) hr oS (fa1 (fv 0))))))))))),?_⟩;walk_at "r";refine⟨_,.inl hS,?_⟩;have sz:=szl;rw[zV];split
 ·rename_i h1
  rw[decide_eq_true (by lia:1<=ls.length)]at k;split
  ·rename_i h2
   rw[decide_eq_true (by lia:ls.length<=6)]at k;refine cmL p (ls.map L2.T) (fun H'=>NoT H'/\SqL K H' p (ls.map L2.T)) (fun D ys hD=>⟨aq hN rfl,hS.same (aj _ hD)⟩) (fun H' c=>c.2) (fun _=>true) (fun x=>match x with | .str y=>.bl (nm y.cps.toList)|_=>.non) (fun R r=>r) hS (by rw[zV];lia) (fun x _ H' R _ r=>r) (fun x hx' _ H' R c r=>?_) (fun D hD=>?_)
   ·obtain⟨l,ml,rfl⟩:=xS.mp hx'
    walk_at "r";exact⟨c.1,hx l ml,r⟩
   ·refine⟨ls.map nm,aA (by rw[af,ZW.mpr (by simp),wM,wM];rfl),H,Gc.none (aj _ hD),?_⟩
    rw[List.all_map];exact k
  ·rename_i h2
   rw[decide_eq_false (by lia:¬ ls.length<=6)]at k;exact k
 ·rename_i h1
  rw[decide_eq_false (by lia:¬ 1<=ls.length)]at k;exact k
noncomputable def rN(l:List Nat):Bool:=decide (1<=(spN 58 l).length)&&decide ((spN 58 l).length<=6)&&(spN 58 l).all nm
def sp_xU:Sp:=sp1 fun x H Q _=>NoT H/\asT x fun l=>((∀c∈l,c<128)/\l.length<=199)/\Q (.bl (rN l)) H
theorem ph(T:Txt K mg a):Fo P w K mg base "is_path" 4 sp_xU:=by
 refine T.z4.hg ["thing"] (gG1 fun x0 fA cdv A outer s H Q E ND HU hr h=>?_);obtain⟨hN,h1⟩:=h;obtain⟨l,rfl,hl,k⟩:=cM h1;refine⟨hN,_,(ah (aF (dm (aC (cH K) rfl T.aZ aU (fa2 (fv 0) (cO (v:=.ty "str") rfl T.pF j6 rfl))) (d7 (aH (ul T) hr av (fa1 (df K ZS PySem.F.slot_str_split PySem.F.type_str_split pZ (fv 0) (fa1 (bv [58]))))))))),?_⟩;walk_at "r";have sz:=szl;have sl:=n8 58 l;refine⟨by walk_at "o",fun p hp=>⟨aq hN rfl,_,aA af,by lia,fun q hq=>?_,H,Gc.none (aj _ hp),k⟩⟩;obtain⟨m1,m2⟩:=lx 58 l q hq;exact⟨fun c hc=>hl.1 c (m2 c hc),by lia⟩
noncomputable def tx(ls:List (List Nat)):HO:=.lst (ls.map L2.T)
def sp_uz:Sp:=sp1 fun x H Q _=>NoT H/\asT x fun l=>((∀c∈l,c<128)/\l.length<=199)/\rN l=true/\∀p,H p=none->Q (.ref p) (upd H p (tx (spN 58 l)))
theorem wn(T:Txt K mg a):Fo P w K mg base "names_of" 5 sp_uz:=by
 refine T.xB.hg ["path"] (gG1 fun x0 fA cdv A outer s H Q E ND HU hr h=>?_);obtain⟨hN,h1⟩:=h;refine bW (cM h1) fun l yy1 hl e k=>?_;subst yy1;refine⟨hN,_,(ae (ba (bF (bA (aH (ph T) hr av (fa1 (fv 0))))) (ah (b8 T.mh T.lS bw)) aI)
  (ah (aF (df K ZS PySem.F.slot_str_split PySem.F.type_str_split pZ (fv 0) (fa1 (bv [58])))))),?_⟩
 walk_at "r";have sz:=szl;refine⟨hN,hl,itn (by rw[e];decide) ⟨by walk_at "o",fun p hp=>⟨_,Gc.one (aj _ hp) hp af rfl,k p hp⟩⟩⟩
theorem jc{l:List Nat}(h:nm l=true):1<=l.length/\l.length<=12/\∀c∈l,97<=c/\c<=122:=by
 unfold nm lie at h;simp only[ZH,decide_eq_true_eq,Zo]at h;exact⟨h.1.1,h.1.2,fun c hc=>h.2 c hc⟩
theorem F0(xs:List V){i:Int}(h:0<=i):lm xs none (some i)=xs.take i.toNat:=by
 unfold lm;have e:i=((i.toNat:Nat):Int):=by walk_at "o"
 rw[e,HT.sIx_none,HT.sIx_nat,List.drop_zero,Nat.sub_zero];by_cases hl:i.toNat<=xs.length
 ·rw[Xh hl];rfl
 ·rw[Xs (by walk_at "o"),ZG (by walk_at "o"),ZG (by simp;lia)]
theorem zr(n:Nat):∀(ls:List (List Nat)),(∀l∈ls,l.length<=n)->(ls.map ZO).sum<=n*ls.length
 | [],_=>by simp
 |l::r,h=>by
  have:=zr n r fun x hx=>h x (sU _ hx);have h1:=h l (by simp);simp only[wV,List.sum_cons,sq,Nat.mul_add,Nat.mul_one];lia
theorem Dr{ls:List (List Nat)}(h:∀l∈ls,l.length<=1000)(hl:ls.length<=1000):BD [58] ls:=by
 have:=zr 1000 ls h;have h2:1000*ls.length<=1000*1000:=Nat.mul_le_mul_left _ hl;unfold BD;simp only[sq,Yz];lia
noncomputable def abN(l:List Nat):List (List Nat):=(Zw ((spN 58 l).length-1)).map fun k=>cI [58] ((spN 58 l).take (k+1))
def sp_CL:Sp:=sp1 fun x H Q _=>NoT H/\asT x fun l=>((∀c∈l,c<128)/\l.length<=199)/\∀p,H p=none->Q (.ref p) (upd H p (tx (abN l)))
theorem B4(T:Txt K mg a):Fo P w K mg base "above" 1 sp_CL:=by
 refine T.Fn.hg ["path","names"] (gG1 fun x0 fA cdv A outer s H Q E ND HU hr h=>?_);obtain⟨hN,h1⟩:=h;obtain⟨l,rfl,hl,k⟩:=cM h1;refine⟨hN,_,(ae (aR 1 ND (df K ZS PySem.F.slot_str_split PySem.F.type_str_split pZ (fv 0) (fa1 (bv [58]))))
  (ah (aF (b_ rfl (cl:=_) (x:="many") (xs:=["many"]) (fr:=["names"]) (ks:=[1]) (by walk_at "c") rfl (mH rfl T.eK (fa2 aa (aC (cG K) rfl T.eR dv (fa1 (fv 1))))) (fun _ _ _ _ _=>(aK (i:=0) (eC (l:=["many","names"]) (by decide)) rfl (Or.inl rfl))) (fun _ _ _ _ _=>eO) (fun _ _ _ _ _=>(GG (df K ZS PySem.F.slot_str_join PySem.F.type_str_join (qi K) (bv [58]) (fa1 (lA (oQ K) (fv 1) oq (oa (fv 0))))))))))),?_⟩
 walk_at "r";have sz:=szl;have sl:=n8 58 l;refine⟨by walk_at "o",fun p hp=>?_⟩;have sm:=aj (HO.lst (List.map L2.T (spN 58 l))) hp;have nb:((spN 58 l).length:Int)<2 ^ 62:=by
  have:(400:Int)<2 ^ 62:=by decide
  lia
 refine LV (fun H'=>NoT H'/\SqL K H' p (List.map L2.T (spN 58 l))) (fun D ys hD=>⟨aq (aq hN rfl) rfl,SqL.same (aj _ hD) (aA af)⟩) 1 (spN 58 l).length ((spN 58 l).length-1) (by walk_at "o") (fun _=>true)
  (fun v=>match v with | .int i=>L2.T (cI [58] ((spN 58 l).take i.toNat))|_=>.non) (fun R r=>?_) ⟨by decide,by decide,by walk_at "o",nb⟩ (by walk_at "o") (fun x _ H' R _ r=>r) (fun j hj _ H' R c r=>?_) (fun D hD=>?_)
 ·walk_at "r"
  exact⟨_,.inl (aA af),by rw[zV];exact r⟩
 ·walk_at "r"
  refine⟨c.1,p,_,rfl,c.2,fun q hq=>⟨(spN 58 l).take (1+(j:Int)).toNat,aA (by rw[af,F0 _ (by walk_at "o"),List.map_take]),Dr (fun x hx=>?_) (by rw[Zx];lia),H',Gc.none (aj _ hq),r⟩⟩;have:=(lx 58 l x (Xx hx)).1;lia
 ·refine⟨_,Gc.one (sm.trans (aj _ hD)) (sm.free hD) af rfl,?_⟩
  have e:(List.map (fun v=>match v with|V.int i=>L2.T (cI [58] (List.take i.toNat (spN 58 l)))|_=>V.non) (List.filter (fun _=>true) (List.map (fun k:Nat=>V.int (1+(k:Int))) (Zw ((spN 58 l).length-1)))))=(abN l).map L2.T:=by
   rw[ZW.mpr (by simp),wM];unfold abN;rw[wM];apply uW;intro k _;show L2.T (cI [58] (List.take (1+(k:Int)).toNat (spN 58 l)))=L2.T (cI [58] (List.take (k+1) (spN 58 l)));rw[show(1+(k:Int)).toNat=k+1 by walk_at "o"]
  rw[e];exact k D (sm.free hD)
def sp_vH:Sp:=sp1 fun x H Q _=>NoT H/\asI x fun i=>Q (.bl (amg (.int i) 0 4799)) H
theorem eT(T:Txt K mg a):Fo P w K mg base "is_month" 3 sp_vH:=by
 refine T.ya.hg ["thing"] (gG1 fun x0 fA cdv A outer s H Q E ND HU hr h=>?_);obtain⟨hN,h1⟩:=h;obtain⟨i,rfl,k⟩:=aW h1;refine⟨hN,_,(ah (aF (aH (eV T) hr av (fa3 (fv 0) aa aa)))),?_⟩;walk_at "r";exact⟨hN,k⟩
def sp_tT:Sp:=sp1 fun x H Q _=>NoT H/\asI x fun i=>Q (.bl (amg (.int i) (-1000000000000000) 1000000000000000)) H
theorem sD(T:Txt K mg a):Fo P w K mg base "is_amount" 3 sp_tT:=by
 refine T.wg.hg ["thing"] (gG1 fun x0 fA cdv A outer s H Q E ND HU hr h=>?_);obtain⟨hN,h1⟩:=h;obtain⟨i,rfl,k⟩:=aW h1;refine⟨hN,_,(ah (aF (aH (eV T) hr av (fa3 (fv 0) (qN lO (au xH aa aa)) (au xH aa aa))))),?_⟩;walk_at "r";have e15:(10:Int) ^ Yc 15=1000000000000000:=by decide +kernel
 rw[e15];exact⟨by decide,by decide,hN,k⟩
def nt2(l:List Nat):Prop:=∃k,k<=40/\l=Zm k 110
def sp_wV:Sp:=sp1 fun x H Q _=>NoT H/\asT x fun l=>nt2 l/\Q (.bl true) H
theorem Iw{l:List Nat}(h:nt2 l):ok l/\l.length<=40/\sM l [32]=false/\l.getLast? ≠ some 32/\lie l 32 126=true:=by
 obtain⟨k,hk,rfl⟩:=h;have:∀k:Fin 41,ok (Zm k.1 110)/\(Zm k.1 110).length<=40/\sM (Zm k.1 110) [32]=false/\(Zm k.1 110).getLast? ≠ some 32/\lie (Zm k.1 110) 32 126=true:=by unfold ok;decide
 exact this ⟨k,by lia⟩
theorem pB(T:Txt K mg a):Fo P w K mg base "is_note" 2 sp_wV:=by
 refine T.zB.hg ["thing"] (gG1 fun x0 fA cdv A outer s H Q E ND HU hr h=>?_);obtain⟨hN,h1⟩:=h;obtain⟨l,rfl,h2,k⟩:=cM h1;obtain⟨ol,l4,hp,hg,hl⟩:=Iw h2;refine⟨hN,_,(ae (ba (L2.PW.pt (fE (bF (bA (aC (cH K) rfl T.aZ aU (fa2 (fv 0) (cO (v:=.ty "str") rfl T.pF j6 rfl))))) (d6 (bg rR (aC (cG K) rfl T.eR dv (fa1 (fv 0))) aa)))) (ah (aF eQ)) aI)
  (ae (ba (L2.PW.pt (fE (bA (df K ZS PySem.F.slot_str_startswith PySem.F.type_str_startswith o7 (fv 0) (fa1 (bv [32])))) (d6 (bA (df K ZS PySem.F.slot_str_endswith PySem.F.type_str_endswith uE (fv 0) (fa1 (bv [32]))))))) (ah (aF eQ)) aI)
  (ah (aF (aH (ip T) hr av (fa3 (fv 0) (bv [32]) (bv [126]))))))),?_⟩
 walk_at "r";rw[<- hl]at k;refine⟨oh ol,itn (by lia) (itn (by rw[hp];decide) (itn (fun z=>hg (of_decide_eq_true z)) ⟨hN,ol,32,126,rfl,rfl,k⟩))⟩
end
section
variable{pS:Addr}{ns:List Int}{P:Program}{w:World}{K:W.Frag}{mg:Str->Option Value}{base:Heap}{a:Adr}
open K3
def sp_sU:Sp:=sp1 fun x H Q _=>asI x fun y=>NoT H/\Q (.int (LD y)) H
theorem kj(T:Txt K mg a):Fo P w K mg base "leap_days" 1 sp_sU:=by
 refine T.uH.hg ["years"] (gG1 fun x0 fA cdv A outer s H Q E ND HU hr h=>?_);obtain⟨y,rfl,hN,k⟩:=aW h;refine⟨hN,_,(ah (aF (au aP (au iY (au bB (au aP (fv 0) aa) aa) (au bB (au aP (fv 0) aa) aa)) (au bB (au aP (fv 0) aa) aa)))),?_⟩;walk_at "r";exact k
theorem Dm(xs:List V){i:Int}(h:0<=i):lm xs none (some i)=xs.take i.toNat:=by
 unfold lm;have e:i=((i.toNat:Nat):Int):=by lia
 rw[e,HT.sIx_none,HT.sIx_nat,List.drop_zero,Nat.sub_zero];by_cases hl:i.toNat<=xs.length
 ·rw[Xh hl];rfl
 ·rw[Xs (by lia),ZG (by lia),ZG (by simp;lia)]
noncomputable def LEN:List Int:=[31,28,31,30,31,30,31,31,30,31,30,31]
theorem Df{i:Int}(h0:0<=i)(h1:i<12):(LEN.take i.toNat).sum=S i:=by
 have hc:i=0\/i=1\/i=2\/i=3\/i=4\/i=5\/i=6\/i=7\/i=8\/i=9\/i=10\/i=11:=by lia
 rcases hc with h|h|h|h|h|h|h|h|h|h|h|h <;> subst h <;> decide
theorem JK(T:Txt K mg a)(H:Hp):SqT K H a.dY (LEN.map V.int):=.inr T.dY
def sp_tG:Sp:=sp1 fun x H Q _=>asI x fun m=>NoT H/\Q (.int (FD m)) H
theorem fM(T:Txt K mg a):Fo P w K mg base "first_day" 2 sp_tG:=by
 refine T.vZ.hg ["month","years","ahead","leaps"] (gG1 fun x0 fA cdv A outer s H Q E ND HU hr h=>?_);obtain⟨m,rfl,hN,k⟩:=aW h;refine⟨hN,_,(ae (aR 1 ND (au bB (fv 0) aa))
  (ae (aR 2 ND (au bi (fv 0) aa))
  (ae (aR 3 ND (uI (bg rR (fv 2) aa) (aH (kj T) hr av (fa1 (au aP (fv 1) aa))) (aH (kj T) hr av (fa1 (fv 1)))))
  (ah (aF (au aP (au aP (au fg aa (fv 1)) (fv 3)) (aC (En K rfl) rfl T.Kn Iy (fa1 (lA (FH K) (jw (v:=.ref a.dY) rfl T.Av rfl) oq (oa (fv 2))))))))))),?_⟩
 walk_at "r";have b0:0<=m % 12:=Yn _ (by decide);have b1:m % 12<12:=Yv _ (by decide);have nw:¬ (HT.sIx (LEN.map V.int).length 0 none=0/\HT.sIx (LEN.map V.int).length (LEN.map V.int).length (some (m % 12))=(LEN.map V.int).length):=fun⟨_,z⟩=>by
  have e:m % 12=(((m % 12).toNat:Nat):Int):=by lia
  rw[e,HT.sIx_nat]at z;have l:(LEN.map V.int).length=12:=rfl;rw[l]at z;lia
 have fin:∀(p:Addr),(upd H p (.tup (lm (LEN.map V.int) none (some (m % 12))))) p=some (.tup ((LEN.take (m % 12).toNat).map V.int)):=fun p=>by
  rw[af,Dm _ b0,List.map_take]
 split
 ·rename_i h1
  refine⟨hN,a.dY,_,rfl,JK T _,nw,fun p hp=>⟨LEN.take (m % 12).toNat,.inr (bR (fin p)),H,Gc.none (aj _ hp),?_⟩⟩;have e:365*(m / 12)+LD (m / 12+1)+(LEN.take (m % 12).toNat).sum=FD m:=by
   rw[Df b0 b1];unfold FD;rw[if_pos h1]
  rw[e];exact k
 ·rename_i h1
  refine⟨hN,a.dY,_,rfl,JK T _,nw,fun p hp=>⟨LEN.take (m % 12).toNat,.inr (bR (fin p)),H,Gc.none (aj _ hp),?_⟩⟩;have e:365*(m / 12)+LD (m / 12)+(LEN.take (m % 12).toNat).sum=FD m:=by
   rw[Df b0 b1];unfold FD;rw[if_neg h1]
  rw[e];exact k
def sp_uW:Sp:=sp1 fun x H Q _=>asI x fun m=>NoT H/\Q (.int (FD (m+1)-1)) H
theorem i9(T:Txt K mg a):Fo P w K mg base "last_day" 3 sp_uW:=by
 refine T.xD.hg ["month"] (gG1 fun x0 fA cdv A outer s H Q E ND HU hr h=>?_);obtain⟨m,rfl,hN,k⟩:=aW h;refine⟨hN,_,(ah (aF (au iY (aH (fM T) hr av (fa1 (au aP (fv 0) aa))) aa))),?_⟩;walk_at "r";exact⟨hN,k⟩
def sp_vX:Sp:=sp1 fun x H Q _=>asI x fun d=>NoT H/\(0<=d/\d<=146096)/\Q (.int (MO d)) H
theorem iW(T:Txt K mg a):Fo P w K mg base "month_of" 4 sp_vX:=by
 refine T.wR.hg ["day","month"] (gG1 fun x0 fA cdv A outer s H Q E ND HU hr h=>?_);refine bW (aW h) fun d yy1 hN yy2 k=>?_;subst yy1;obtain⟨d0,d1⟩:=yy2;refine⟨hN,_,(ae (aR 1 ND (au bB (au fg (fv 0) aa) aa))
  (ae (wa (by passes_own) (bg rR (aH (fM T) hr av (fa1 (fv 1))) (fv 0)) (ah (aR 1 ND (au iY (fv 1) aa))))
  (ae (wa (by passes_own) (bg yS (aH (i9 T) hr av (fa1 (fv 1))) (fv 0)) (ah (aR 1 ND (au aP (fv 1) aa))))
  (ah (aF (fv 1)))))),?_⟩
 walk_at "r";refine⟨fun n σ H1=>∃m,σ=[some (.int d),some (.int m)]/\H=H1/\0<=m/\m<=4799/\n=m.toNat,⟨_,_,rfl,rfl,by lia,by lia,rfl⟩,?_⟩;rintro n σ H1 ⟨m,rfl,rfl,m0,m1,rfl⟩;walk_at "r";refine⟨hN,?_⟩;split
 ·rename_i h2
  have hm:1<=m:=by
   by_cases z:m=0
   ·rw[z,xw]at h2;lia
   ·lia
  refine⟨_,fun σ' H' z=>z,(m-1).toNat,by lia,m-1,rfl,rfl,by lia,by lia,rfl⟩
 ·rename_i h2
  refine⟨fun n σ H1=>∃m,σ=[some (.int d),some (.int m)]/\H=H1/\0<=m/\m<=4799/\FD m<=d/\n=(4800-m).toNat,⟨_,_,rfl,rfl,m0,m1,by lia,rfl⟩,?_⟩;rintro n σ H1 ⟨m',rfl,rfl,m0',m1',h3,rfl⟩;walk_at "r";refine⟨hN,?_⟩;split
  ·rename_i h4
   have hm:m'+1<=4799:=by
    by_cases z:m'=4799
    ·rw[z]at h4
     have e:(4799:Int)+1=4800:=by decide
     rw[e,jW]at h4;lia
    ·lia
   exact⟨_,fun σ' H' z=>z,(4800-(m'+1)).toNat,by lia,m'+1,rfl,rfl,by lia,hm,by lia,rfl⟩
  ·rename_i h4
   rw[rE h3 (by lia)]at k;exact k
def sp_wM(c:Addr):Sp:=sp2 fun x y H Q E=>asI x fun d=>asI y fun n=>NoT H/\(0<=d/\d<=146096)/\if 0<=MO d+n/\MO d+n<=4799 then Q (.int (lV d n)) H else E (.ref c) none H
theorem xh(T:Txt K mg a):Fo P w K mg base "stepped" 5 (sp_wM a.bN):=by
 refine T.zI.hg ["day","months","month","place","other"] (gG2 fun x0 x1 fA cdv A outer s H Q E ND HU hr h=>?_);obtain⟨d,rfl,h1⟩:=aW h;refine bW (aW h1) fun n yy1 hN hd k=>?_;subst yy1;refine⟨hN,_,(ae (aR 2 ND (aH (iW T) hr av (fa1 (fv 0))))
  (ae (aR 3 ND (au iY (fv 0) (aH (fM T) hr av (fa1 (fv 2)))))
  (ae (aR 4 ND (au aP (fv 2) (fv 1)))
  (ae (ba (bF (bA (aH (eT T) hr av (fa1 (fv 4))))) (ah (b8 T.gW T.f8 bw)) aI)
  (ah (aF (aC (eX rfl) rfl T.iF eZ (fa2 (au aP (aH (fM T) hr av (fa1 (fv 4))) (fv 3)) (aH (i9 T) hr av (fa1 (fv 4))))))))))),?_⟩
 walk_at "r";refine⟨hN,hd,hN,hN,?_⟩;by_cases hin:0<=MO d+n/\MO d+n<=4799
 ·rw[if_pos hin]at k
  have e:amg (.int (MO d+n)) 0 4799=true:=by simp[amg,hin.1,hin.2]
  rw[e];exact K6 ⟨hN,hN,k⟩
 ·rw[if_neg hin]at k
  have e:amg (.int (MO d+n)) 0 4799=false:=by
   simp only[amg,Bool.and_eq_false_iff,decide_eq_false_iff_not];lia
  rw[e];exact Lh ⟨by show 1<=sizeLine;decide,k⟩
end
section
variable{pS:Addr}{ns:List Int}{P:Program}{w:World}{K:W.Frag}{mg:Str->Option Value}{base:Heap}{a:Adr}
def Keep(S:List Addr)(H H':Hp):Prop:=∀c z,H c=some z->c∉S->H' c=some z
theorem Keep.refl{S:List Addr}{H:Hp}:Keep S H H:=fun _ _ e _=>e
theorem Keep.trans{S:List Addr}{H H1 H2:Hp}(x:Keep S H H1)(y:Keep S H1 H2):Keep S H H2:=fun c z e n=>y c z (x c z e n) n
theorem Keep.mono{S S':List Addr}{H H':Hp}(x:Keep S H H')(h:∀c,c∈S->c∈S'):Keep S' H H':=fun c z e n=>x c z e fun m=>n (h c m)
theorem Keep.new{S:List Addr}{H H1:Hp}{p:Addr}{o:HO}(x:Keep S H H1)(h:H1 p=none):Keep S H (upd H1 p o):=fun c z e n=>by
 rw[ai (aL (x c z e n) h)];exact x c z e n
theorem Keep.put{S:List Addr}{H H1:Hp}{p:Addr}{o:HO}(x:Keep S H H1)(h:p∈S):Keep S H (upd H1 p o):=fun c z e n=>by
 rw[ai (by rintro rfl;exact n h)];exact x c z e n
theorem bL{S:List Addr}{H H':Hp}(x:Same H H'):Keep S H H':=fun c z e _=>x c z e
theorem Keep.free{S:List Addr}{H H':Hp}{p:Addr}(x:Keep S H H')(h:H' p=none)(n:p∉S):H p=none:=by
 cases e:H p with
 |none=>rfl
 |some z=>rw[x p z e n]at h;cases h
theorem aY{H:Hp}{p q:Addr}{x y:HO}(h:H p=some x)(g:H q=some y)(n:x≠y:=by intro z;cases z):p≠q:=by
 rintro rfl;rw[h]at g;cases g;exact n rfl
noncomputable def cl:Option Int->V
 |none=>.non
 |some m=>.int m
structure Acc where
 pa:List Nat
 ob:Addr
 bl:Addr
 ki:V
 cu:V
 fi:Int
 un:Option Int
 be:List (List Nat)
noncomputable def gN(k c f u b:V):List (Str × V):=[("kind",k),("currency",c),("first",f),("until",u),("below",b)]
theorem fk(k c f u b:V):vL (zS "kind") (gN k c f u b)=some k:=fY
theorem ff(k c f u b:V):vL (zS "first") (gN k c f u b)=some f:=by unfold gN;rw[aQ (by decide +kernel),aQ (by decide +kernel)];exact fY
theorem fu(k c f u b:V):vL (zS "until") (gN k c f u b)=some u:=by unfold gN;rw[aQ (by decide +kernel),aQ,aQ (by decide +kernel)];exact fY
theorem fb(k c f u b:V):vL (zS "below") (gN k c f u b)=some b:=by unfold gN;rw[aQ (by decide +kernel),aQ,aQ (by decide +kernel),aQ (by decide +kernel)];exact fY
theorem Km(k c f u b:V):vL (zS "stands_on") (gN k c f u b)=none:=by unfold gN;rw[aQ (by decide +kernel),aQ,aQ (by decide +kernel),aQ,aQ (by decide +kernel)];rfl
theorem JA(k c f u b v:V):cZ (zS "until") v (gN k c f u b)=gN k c f v b:=by
 have q1:¬ (zS "kind" = zS "until"):=by decide +kernel
 have q2:¬ (zS "currency" = zS "until"):=by decide +kernel
 have q3:¬ (zS "first" = zS "until"):=by decide +kernel
 simp[cZ,gN,q1,q2,q3]
theorem HA(k c f u b:V):cZ (zS "below") b (cZ (zS "until") u (cZ (zS "first") f (cZ (zS "currency") c (cZ (zS "kind") k []))))=gN k c f u b:=by
 have q1:¬ (zS "kind" = zS "until"):=by decide +kernel
 have q2:¬ (zS "currency" = zS "until"):=by decide +kernel
 have q3:¬ (zS "first" = zS "until"):=by decide +kernel
 have q4:¬ (zS "kind" = zS "first"):=by decide +kernel
 have q5:¬ (zS "currency" = zS "first"):=by decide +kernel
 have q6:¬ (zS "kind" = zS "currency"):=by decide +kernel
 have q7:¬ (zS "kind" = zS "below"):=by decide +kernel
 have q8:¬ (zS "currency" = zS "below"):=by decide +kernel
 have q9:¬ (zS "first" = zS "below"):=by decide +kernel
 have q0:¬ (zS "until" = zS "below"):=by decide +kernel
 simp[cZ,gN,q1,q2,q3,q4,q5,q6,q7,q8,q9,q0]
def sp_zS(A:Addr):Sp:=sp4 fun x k c f H Q _=>NoT H/\asR x fun p=>∃dx,H p=some (.ins A dx [])/\∀b H',H b=none->H' p=some (.ins A dx (gN k c f .non (.ref b)))->H' b=some (.lst [])->Keep [p] H H'->NoT H'->Q .non H'
theorem fj(T:Txt K mg a):Mo P w K mg base a.aO "__init__" 1 (sp_zS a.aO):=by
 refine T.jR.hx ["self","kind","currency","first"] (gX4 fun x0 x1 x2 x3 fA cdv A outer s H Q E ND HU hr h=>?_);obtain⟨hN,h1⟩:=h;obtain⟨p,rfl,dx,hp,k⟩:=aE h1;refine⟨_,(ae (cP K (fv 0) (fv 1))
  (ae (cP K (fv 0) (fv 2))
  (ae (cP K (fv 0) (fv 3))
  (ae (cP K (fv 0) cY)
  (ah (cP K (fv 0) (cj (FA.pa cv)))))))),?_⟩
 walk_at "r";refine⟨_,_,_,hp,T.bz,T.jr,by decide,_,_,_,af,T.bz,T.fT,by show 1<1000;decide,_,_,_,af,T.bz,T.e_,by show 2<1000;decide,_,_,_,af,T.bz,T.cw,by show 3<1000;decide,Zv _,fun b hb=>?_⟩;rw[ie,ie,ie]at hb |-
 have np:p≠b:=fun q=>by rw[<- q,af]at hb;cases hb
 have hb0:H b=none:=by rw[ai (Ne.symm np)]at hb;exact hb
 refine⟨_,_,_,(ai np).trans af,T.bz,T.e7,by show 4<1000;decide,?_⟩;rw[HA];refine k b _ hb0 af ?_ ?_ ?_
 ·rw[ai (Ne.symm np),af]
 ·exact((Keep.refl.put (zz.2 rfl)).new hb).put (zz.2 rfl)
 ·exact aq (aq (aq hN rfl) rfl) rfl
noncomputable def lat(u:Option Int)(d:Int):Bool:=match u with
 |none=>true
 |some t=>decide (d<t)
noncomputable def opn(f:Int)(u:Option Int)(d:Int):Bool:=decide (f<=d)&&lat u d
def sp_on(A:Addr):Sp:=sp2 fun x y H Q _=>NoT H/\asR x fun p=>asI y fun d=>∃dx k c f u b,H p=some (.ins A dx (gN k c (.int f) (cl u) b))/\Q (.bl (opn f u d)) H
theorem eS(T:Txt K mg a):Mo P w K mg base a.aO "stands_on" 1 (sp_on a.aO):=by
 refine T.jB.hg ["self","day"] (gG2 fun x0 x1 fA cdv A outer s H Q E ND HU hr h=>?_);obtain⟨hN,h1⟩:=h;obtain⟨p,rfl,h2⟩:=aE h1;obtain⟨d,rfl,dx,k,c,f,u,b,hp,q⟩:=aW h2;refine⟨hN,_,(ah (aF (dm (d_ fX (a8 K (fv 0)) (fv 1) (fe _)) (d7 (F_ (wX (xy (a8 K (fv 0)))) (d7 (d_ yS (fv 1) (a8 K (fv 0)) (fe _)))))))),?_⟩;walk_at "r";refine⟨_,_,_,_,hp,T.bz,T.e_,ff ..,?_⟩;walk_at "r";split
 ·rename_i h1
  refine⟨_,_,_,_,hp,T.bz,T.cw,fu ..,?_⟩;have e:opn f u d=lat u d:=by unfold opn;rw[decide_eq_true h1];rfl
  rw[e]at q;cases u with
  |none=>exact q
  |some t=>
   rw[if_neg (by intro z;cases z)];exact⟨_,_,_,_,hp,T.bz,T.cw,fu ..,⟨H,Gc.refl,q⟩⟩
 ·rename_i h1
  have e:opn f u d=false:=by unfold opn;rw[decide_eq_false h1];rfl
  rw[e]at q;exact q
def sp_AI:Sp:=sp2 fun _ _ _ _ _=>False
theorem hZ(T:Txt K mg a):Mo P w K mg base a.aO "stands_later" 1 sp_AI:=by
 refine T.iy.hg ["self","day"] (gG2 fun x0 x1 fA cdv A outer s H Q E ND HU hr h=>?_);exact h.elim
noncomputable def kyA(c:Acc):Key × V:=(.inr ⟨⟨c.pa⟩⟩,.ref c.ob)
structure AAt(A:Addr)(H:Hp)(c:Acc):Prop where
 ob:∃dx,H c.ob=some (.ins A dx (gN c.ki c.cu (.int c.fi) (cl c.un) (.ref c.bl)))
 ls:H c.bl=some (.lst (c.be.map L2.T))
structure CAt(C A:Addr)(H:Hp)(p d:Addr)(cs:List Acc):Prop where
 ob:∃dx,H p=some (.ins C dx [("by_path",.ref d)])
 dc:H d=some (.dK (cs.map kyA))
 ac:∀c∈cs,AAt A H c
 np:(cs.map (·.pa)).Nodup
 na:(cs.map (·.ob)).Nodup
 nb:(cs.map (·.bl)).Nodup
theorem CAt.keep{C A:Addr}{S:List Addr}{H H':Hp}{p d:Addr}{cs:List Acc}(j:CAt C A H p d cs)(x:Keep S H H')(hp:p∉S)(hd:d∉S)(hc:∀c∈cs,c.ob∉S/\c.bl∉S):CAt C A H' p d cs:=
 ⟨by obtain⟨dx,e⟩:=j.ob;exact⟨dx,x _ _ e hp⟩,x _ _ j.dc hd,fun c hm=>⟨by obtain⟨dx,e⟩:=(j.ac c hm).ob;exact⟨dx,x _ _ e (hc c hm).1⟩,x _ _ (j.ac c hm).ls (hc c hm).2⟩,j.np,j.na,j.nb⟩
theorem CAt.same{C A:Addr}{H H':Hp}{p d:Addr}{cs:List Acc}(j:CAt C A H p d cs)(x:Same H H'):CAt C A H' p d cs:=
 j.keep (S:=[]) (bL x) zJ zJ fun _ _=>⟨zJ,zJ⟩
noncomputable def fnd(cs:List Acc)(l:List Nat):Option Acc:=cs.find? fun c=>decide (c.pa=l)
theorem jt(l:List Nat):∀cs:List Acc,cV (cs.map kyA) (.inr ⟨⟨l⟩⟩)=(fnd cs l).map fun c=>.ref c.ob
 | []=>rfl
 |c::r=>by
  have ih:=jt l r;by_cases h:c.pa=l
  ·rw[wV,bU (by show Sum.inr _=Sum.inr _;rw[h])]
   simp[fnd,h,kyA]
  ·rw[wV,bO (fun z=>h (by simpa [kyA] using z)),ih]
   simp[fnd,h]
theorem tz{cs:List Acc}{l:List Nat}{c:Acc}(h:fnd cs l=some c):c∈cs/\c.pa=l:=
 ⟨List.mem_of_find?_eq_some h,by simpa using List.find?_some h⟩
theorem kJ{cs:List Acc}{l:List Nat}(h:fnd cs l=none):∀c∈cs,c.pa≠l:=fun c hc=>by
 simpa using List.find?_eq_none.mp h c hc
theorem fK{α β:Type}{f:α->β}:∀ {cs:List α} {c c':α},(cs.map f).Nodup->c∈cs->c'∈cs->f c=f c'->c=c'
 | [],_,_,_,h,_,_=>nomatch h
 |x::r,c,c',hn,h,h',e=>by
  rw[wV,Zi]at hn;rcases zO.mp h with h1|h1
  ·rcases zO.mp h' with h2|h2
   ·rw[h1,h2]
   ·subst h1
    exact absurd (by rw[e];exact xf h2) hn.1
  ·rcases zO.mp h' with h2|h2
   ·subst h2
    exact absurd (by rw[<- e];exact xf h1) hn.1
   ·exact fK hn.2 h1 h2 e
theorem uk{cs:List Acc}(hn:(cs.map (·.pa)).Nodup){c:Acc}(hc:c∈cs):fnd cs c.pa=some c:=by
 cases e:fnd cs c.pa with
 |none=>exact absurd rfl (kJ e c hc)
 |some c'=>
  obtain⟨h1,h2⟩:=tz e;rw[fK hn h1 hc h2]
theorem lkp(x:V):vL (zS "by_path") [(zS "by_path",x)]=some x:=fY
def sp_Ae(C A:Addr):Sp:=sp1 fun x H Q _=>NoT H/\asR x fun p=>∃dx,H p=some (.ins C dx [])/\∀d H',H d=none->CAt C A H' p d []->Keep [p] H H'->NoT H'->Q .non H'
theorem kK(T:Txt K mg a):Mo P w K mg base a.aV "__init__" 1 (sp_Ae a.aV a.aO):=by
 refine T.lL.hx ["self"] (gX1 fun x0 fA cdv A outer s H Q E ND HU hr h=>?_);obtain⟨hN,h1⟩:=h;obtain⟨p,rfl,dx,hp,k⟩:=aE h1;refine⟨_,(ah (cP K (fv 0) kc)),?_⟩;walk_at "r";intro d hd;have np:p≠d:=aL hp hd;refine⟨_,_,_,(ai np).trans hp,T.bS,T.b6,by show 0<1000;decide,?_⟩;refine k d _ hd ⟨⟨dx,?_⟩,?_,(fun _ h=>nomatch h),.nil,.nil,.nil⟩ ?_ ?_
 ·rw[af];simp[cZ]
 ·rw[ai (Ne.symm np),af];rfl
 ·exact(Keep.refl.new hd).put (zz.2 rfl)
 ·exact aq (aq hN rfl) rfl
noncomputable def acV(cs:List Acc)(y:V):Option Acc:=match y with
 | .str s=>fnd cs s.cps.toList
 |_=>none
theorem zn(cs:List Acc)(l:List Nat):acV cs (L2.T l)=fnd cs l:=rfl
theorem DM{cs:List Acc}{y:V}(h:isS y=false):acV cs y=none:=by
 cases y with
 |str s=>cases h
 |_=>rfl
theorem Gj{y:V}(h:isS y=true):∃l,y=L2.T l:=by
 cases y with
 |str s=>exact⟨s.cps.toList,rfl⟩
 |_=>cases h
def sp_HZ(C A:Addr):Sp:=sp2 fun x y H Q _=>NoT H/\asR x fun p=>∃d cs,CAt C A H p d cs/\asK H y fun _=>Q (.bl (acV cs y).isSome) H
theorem sX(T:Txt K mg a):Mo P w K mg base a.aV "has" 1 (sp_HZ a.aV a.aO):=by
 refine T.vM.hg ["self","path"] (gG2 fun x0 x1 fA cdv A outer s H Q E ND HU hr h=>?_);obtain⟨hN,h1⟩:=h;refine ce (aE h1) fun p yy1 yz=>qm yz fun d cs J h2=>?_;subst yy1;obtain⟨t,ht,hb,k⟩:=eY h2;obtain⟨dx,hp⟩:=J.ob;refine⟨hN,_,(ah (aF (dm (aC (cH K) rfl T.aZ aU (fa2 (fv 1) (cO (v:=.ty "str") rfl T.pF j6 rfl))) (d7 (wX (qg (Zz HU) (fv 1) (a8 K (fv 0))) (by with_unfolding_all rfl)))))),?_⟩;walk_at "r";simp only[ht];rw[show cn t "str" = isS x1 by rw[<- Bi ht];rcases hb with rfl|rfl|rfl|rfl|rfl|rfl|rfl <;> rfl];cases e:isS x1 with
 |false=>
  refine itn (by decide) ?_;rw[DM e]at k;exact k
 |true=>
  obtain⟨l,rfl⟩:=Gj e;refine itp rfl ⟨_,_,_,_,hp,T.bS,T.b6,lkp _,d,_,rfl,DGet.k (k:=.inr ⟨⟨l⟩⟩) J.dc,?_⟩;rw[jt,YW];exact k
theorem Ip(x:V):vL (zS "has") [(zS "by_path",x)]=none:=by rw[aQ (by decide +kernel)];rfl
theorem ir(x:V):vL (zS "account") [(zS "by_path",x)]=none:=by rw[aQ (by decide +kernel)];rfl
def sp_xf(C A na:Addr):Sp:=sp2 fun x y H Q E=>NoT H/\asR x fun p=>∃d cs,CAt C A H p d cs/\asK H y fun _=>match acV cs y with
 |none=>E (.ref na) none H
 |some c=>Q (.ref c.ob) H
theorem dB(T:Txt K mg a):Mo P w K mg base a.aV "account" 2 (sp_xf a.aV a.aO a.bJ):=by
 refine T.nB.hg ["self","path"] (gG2 fun x0 x1 fA cdv A outer s H Q E ND HU hr h=>?_);obtain⟨hN,h1⟩:=h;refine ce (aE h1) fun p yy1 yz=>qm yz fun d cs J h2=>?_;subst yy1;obtain⟨t,ht,hb,k⟩:=eY h2;obtain⟨dx,hp⟩:=J.ob;have sz:=szl;refine⟨hN,_,(ae (ba (bF (bA (ci (fv 0) T.bS (sX T) hr.mono av (fa1 (fv 1))))) (ah (b8 T.vU T.vi bw)) aI)
  (ah (aF (ck (Zz HU) (a8 K (fv 0)) (fv 1) (fun _ _=>rfl))))),?_⟩
 walk_at "r";refine⟨_,_,hp,Ip _,hN,d,cs,J,asK.of ht ?_⟩;cases e:acV cs x1 with
 |none=>
  rw[e]at k;exact itp rfl ⟨by walk_at "o",k⟩
 |some c=>
  rw[e]at k;cases es:isS x1 with
  |false=>rw[DM es]at e;cases e
  |true=>
   obtain⟨l,rfl⟩:=Gj es;have e:fnd cs l=some c:=e;have g:=DGet.k (k:=.inr ⟨⟨l⟩⟩) J.dc;rw[jt,e]at g;exact itn (by intro z;cases z) ⟨_,_,_,_,hp,T.bS,T.b6,lkp _,d,.ref c.ob,rfl,g,k⟩
theorem fcu(k c f u b:V):vL (zS "currency") (gN k c f u b)=some c:=by unfold gN;rw[aQ (by decide +kernel)];exact fY
def sp_Cu(C A:Addr):Sp:=sp2 fun x y H Q _=>NoT H/\asR x fun p=>asT y fun l=>∃d cs c,CAt C A H p d cs/\c∈cs/\c.pa=l/\Q c.cu H
theorem eU(T:Txt K mg a):Mo P w K mg base a.aV "currency_of" 3 (sp_Cu a.aV a.aO):=by
 refine T.jA.hg ["self","path"] (gG2 fun x0 x1 fA cdv A outer s H Q E ND HU hr h=>?_);obtain⟨hN,h1⟩:=h;obtain⟨p,rfl,h2⟩:=aE h1;obtain⟨l,rfl,d,cs,c,J,hc,rfl,k⟩:=cM h2;obtain⟨dx,hp⟩:=J.ob;refine⟨hN,_,(ah (aF (a8 K (ci (fv 0) T.bS (dB T) hr.mono av (fa1 (fv 1)))))),?_⟩;walk_at "r";obtain⟨du,ho⟩:=(J.ac c hc).ob;exact⟨_,_,hp,ir _,hN,d,cs,J,(by rw[zn,uk J.np hc];exact⟨_,_,_,_,ho,T.bz,T.fT,fcu ..,k⟩)⟩
def sp_wJ(C A na:Addr):Sp:=sp3 fun x y z H Q E=>NoT H/\asR x fun p=>asT y fun l=>asI z fun t=>∃d cs,CAt C A H p d cs/\match fnd cs l with
 |none=>E (.ref na) none H
 |some c=>Q (.bl (opn c.fi c.un t)) H
theorem mE(T:Txt K mg a):Mo P w K mg base a.aV "is_open" 3 (sp_wJ a.aV a.aO a.bJ):=by
 refine T.nX.hg ["self","path","day"] (gG3 fun x0 x1 x2 fA cdv A outer s H Q E ND HU hr h=>?_);obtain⟨hN,h1⟩:=h;obtain⟨p,rfl,h2⟩:=aE h1;obtain⟨l,rfl,h3⟩:=cM h2;refine ce (aW h3) fun t yy1 yz=>qm yz fun d cs J k=>?_;subst yy1;obtain⟨dx,hp⟩:=J.ob;refine⟨hN,_,(ah (aF (ci (ci (fv 0) T.bS (dB T) hr.mono av (fa1 (fv 1))) T.bz (eS T) hr.mono av (fa1 (fv 2))))),?_⟩;walk_at "r";refine⟨_,_,hp,ir _,hN,d,cs,J,?_⟩;rw[zn];cases e:fnd cs l with
 |none=>rw[e]at k;exact k
 |some c=>
  rw[e]at k;obtain⟨du,ho⟩:=(J.ac c (tz e).1).ob;exact⟨_,_,ho,Km ..,hN,_,_,_,_,_,_,ho,k⟩
end
local macro_rules | `(tactic| walk_at "q") => `(tactic| ((try with_reducible refine goH ?_); (try dsimp only [↓iq, zh, rdI, L2.eD, wV, ZX, ZV, List.nil_append, sq, Yz, Zm, List.getElem?_cons_zero, List.getElem?_cons_succ, List.set_cons_zero, List.set_cons_succ, Option.bind_some, id_eq]); walk_at "r"))
section
variable{pS:Addr}{ns:List Int}{P:Program}{w:World}{K:W.Frag}{mg:Str->Option Value}{base:Heap}{a:Adr}
theorem dR{β:Type}{l:List β}{x:β}(h:l.Nodup)(n:x∉l):(l++[x]).Nodup:=
 Y4.mpr ⟨h,Zi.mpr ⟨zJ,List.nodup_nil⟩,fun a ha b hb=>by rw[zz.mp hb];rintro rfl;exact n ha⟩
theorem CAt.bl_d{C A:Addr}{H:Hp}{p d:Addr}{cs:List Acc}(J:CAt C A H p d cs){c:Acc}(hc:c∈cs):c.bl≠d:=aY (J.ac c hc).ls J.dc
theorem CAt.ob_d{C A:Addr}{H:Hp}{p d:Addr}{cs:List Acc}(J:CAt C A H p d cs){c:Acc}(hc:c∈cs):c.ob≠d:=by
 obtain⟨dx,e⟩:=(J.ac c hc).ob;exact aY e J.dc
theorem CAt.p_d{C A:Addr}{H:Hp}{p d:Addr}{cs:List Acc}(J:CAt C A H p d cs):p≠d:=by
 obtain⟨dx,e⟩:=J.ob;exact aY e J.dc
theorem CAt.p_bl{C A:Addr}{H:Hp}{p d:Addr}{cs:List Acc}(J:CAt C A H p d cs){c:Acc}(hc:c∈cs):p≠c.bl:=by
 obtain⟨dx,e⟩:=J.ob;exact aY e (J.ac c hc).ls
theorem CAt.ob_bl{C A:Addr}{H:Hp}{p d:Addr}{cs:List Acc}(J:CAt C A H p d cs){c c':Acc}(hc:c∈cs)(hc':c'∈cs):c.ob≠c'.bl:=by
 obtain⟨dx,e⟩:=(J.ac c hc).ob;exact aY e (J.ac c' hc').ls
theorem vY{cs:List Acc}{l:List Nat}(h:fnd cs l=none)(c:Acc)(e:c.pa=l):dU (cs.map kyA) (.inr ⟨⟨l⟩⟩) (.ref c.ob)=(cs++[c]).map kyA:=by
 rw[kl _ (by rw[jt,h];rfl),vH,<- e];rfl
theorem CAt.more{C A:Addr}{H H':Hp}{p d:Addr}{cs:List Acc}(J:CAt C A H p d cs)(kp:Keep [] H H'){c:Acc}(hf:fnd cs c.pa=none)(h0:H c.ob=none)(h1:H c.bl=none)(hc:AAt A H' c) :
 CAt C A (upd H' d (.dK ((cs++[c]).map kyA))) p d (cs++[c]):=by
 have J1:=J.keep kp zJ zJ fun _ _=>⟨zJ,zJ⟩;have dn:=J1.dc;obtain⟨dc,eo⟩:=hc.ob;have n1:c.ob≠d:=aY eo dn;have n2:c.bl≠d:=aY hc.ls dn;refine⟨?_,af,fun z hz=>?_,?_,?_,?_⟩
 ·obtain⟨dx,e⟩:=J1.ob
  exact⟨dx,(ai J1.p_d).trans e⟩
 ·rcases tT.mp hz with hz|hz
  ·obtain⟨dz,e⟩:=(J1.ac z hz).ob
   exact⟨⟨dz,(ai (J1.ob_d hz)).trans e⟩,(ai (J1.bl_d hz)).trans (J1.ac z hz).ls⟩
  ·rw[zz.mp hz]
   exact⟨⟨dc,(ai n1).trans eo⟩,(ai n2).trans hc.ls⟩
 ·rw[vH]
  refine dR J.np fun h=>?_;obtain⟨z,hz,e⟩:=xS.mp h;exact kJ hf z hz e
 ·rw[vH]
  refine dR J.na fun h=>?_;obtain⟨z,hz,e⟩:=xS.mp h;obtain⟨dz,eo⟩:=(J.ac z hz).ob;rw[e,h0]at eo;cases eo
 ·rw[vH]
  refine dR J.nb fun h=>?_;obtain⟨z,hz,e⟩:=xS.mp h;have eo:=(J.ac z hz).ls;rw[e,h1]at eo;cases eo
theorem eE{H H':Hp}{x dx:Addr}{o o':HO}(hx:H x=none)(hd:H dx=none)(kp:Keep [x] (upd (upd H dx o) x o') H'):Keep [] H H':=fun c z e _=>by
 have n1:c≠x:=aL e hx;have n2:c≠dx:=aL e hd;exact kp c z (by rw[ai n1,ai n2];exact e) (by simpa using n1)
theorem cU{H:Hp}{x dx b:Addr}{o o':HO}(h:upd (upd H dx o) x o' b=none):H b=none:=by
 have n1:b≠x:=fun z=>by rw[z,af]at h;cases h
 rw[ai n1]at h;have n2:b≠dx:=fun z=>by rw[z,af]at h;cases h
 rw[ai n2]at h;exact h
noncomputable abbrev KDS:List (List Nat):=[[104,97,118,101],[111,119,101],[111,119,110],[103,97,105,110],[99,111,115,116]]
def sp_xc(C A:Addr):Sp:=sp3 fun x y z H Q _=>NoT H/\asR x fun p=>asT y fun l=>nm l=true/\asT z fun kd=>kd∈KDS/\∃d cs,CAt C A H p d cs/\cs.length<=100/\fnd cs l=none /\
 (∀c H',c.pa=l->c.ki=L2.T kd->c.cu = .non->c.fi=0->c.un=none->c.be=[]->H c.ob=none->H c.bl=none->CAt C A H' p d (cs++[c])->Keep [d] H H'->NoT H'->Q .non H')
theorem CZ{l:List Nat}(h:l∈KDS):inV (L2.T l) (KDS.map L2.T)=true:=by
 simp only[zO,zJ,or_false]at h;rcases h with rfl|rfl|rfl|rfl|rfl <;> decide
theorem Gi{l:List Nat}(h:nm l=true):ok l:=by
 obtain⟨_,h2,h3⟩:=jc h;exact⟨fun c hc=>by have:=h3 c hc;lia,by lia⟩
theorem lY(T:Txt K mg a):Mo P w K mg base a.aV "add_top" 4 (sp_xc a.aV a.aO):=by
 refine T.nM.hx ["self","name","kind"] (gX3 fun x0 x1 x2 fA cdv A outer s H Q E ND HU hr h=>?_);obtain⟨hN,h1⟩:=h;obtain⟨p,rfl,h2⟩:=aE h1;obtain⟨l,rfl,e,h3⟩:=cM h2;obtain⟨kd,rfl,hz,d,cs,J,len,ef,k⟩:=cM h3;obtain⟨dx,hp⟩:=J.ob;refine⟨_,(ae (ba (bF (bA (aH (jT T) hr av (fa1 (fv 1))))) (ah (b8 T.rH T.rK bw)) aI)
  (ae (ba (xA (zC K) (fv 2) (jw (v:=.ref a.lq) rfl T.E2 rfl) (by with_unfolding_all rfl)) (ah (b8 T.zw T.zT bw)) aI)
  (ae (ba (dZ (qg (Zz HU) (fv 1) (a8 K (fv 0))) (by with_unfolding_all rfl)) (ah (b8 T.t_ T.sj bw)) aI)
  (ah (fP (Zz HU) (a8 K (fv 0)) (fv 1) (Bp T.oU (fj T) hr.mono rfl T.rS av (fa3 (fv 2) cY aa)) rfl))))),?_⟩
 walk_at "q";refine⟨hN,Gi e,itn (by rw[e];decide) ?_⟩;refine⟨_,.inr (.inr T.lq),rfl,by decide,?_⟩;rw[show inV (L2.T kd) _=true from CZ hz,if_neg (by decide)];refine⟨_,_,_,_,hp,T.bS,T.b6,lkp _,d,_,rfl,DGet.k (k:=.inr ⟨⟨l⟩⟩) J.dc,?_⟩;rw[jt,YW,ef,if_neg (by intro z;cases z)];intro x dx hx hdx ne;refine⟨aq (aq hN rfl) rfl,_,af,fun b H' hb h1 h2 kp hN'=>?_⟩;have kp0:=eE hx hdx kp;have J1:=J.keep kp0 zJ zJ fun _ _=>⟨zJ,zJ⟩;obtain⟨dx1,hp1⟩:=J1.ob
 let c:Acc:=⟨l,x,b,L2.T kd,.non,0,none,[]⟩
 have smk:(cs.map kyA).length<sizeLine:=by rw[zV,uz];lia
 refine⟨_,_,_,_,hp1,T.bS,T.b6,lkp _,d,_,rfl,DPut.k (k:=.inr ⟨⟨l⟩⟩) J1.dc smk,?_⟩;rw[vY ef c rfl];exact k c _ rfl rfl rfl rfl rfl rfl hx (cU hb) (J.more kp0 ef hx (cU hb) ⟨⟨dx,h1⟩,h2⟩) ((kp0.mono (fun _ h=>nomatch h)).put (.head _)) (aq hN' rfl)
theorem pI(s x:List Nat):∀(r:List (List Nat)),r≠[]->cI s (r++[x])=cI s r++s++x
 | [],h=>absurd rfl h
 | [y],_=>by simp[cI]
 |y::z::r,_=>by
  have:=pI s x (z::r) (by simp);rw[ZV,ZV,cI,<- ZV,this,cI];simp
theorem iB{v n:List Nat}(hn:58∉n):spN 58 (v++58::n)=spN 58 v++[n]:=by
 have h:=oA 58 (spN 58 v++[n]) (by simp) fun p hp=>by
  rcases tT.mp hp with h|h
  ·exact ju 58 v p h
  ·rw[zz.mp h];exact hn
 rw[pI _ _ _ (jQ 58 v),p7]at h;rw[<- h];simp
theorem Fl{v n:List Nat}(hn:58∉n):abN (v++58::n)=abN v++[v]:=by
 unfold abN;rw[iB hn,vx,Ye,Nat.add_sub_cancel];have hp:0<(spN 58 v).length:=List.length_pos_iff.mpr (jQ 58 v);obtain⟨m,hm⟩:∃m,(spN 58 v).length=m+1:=⟨(spN 58 v).length-1,by lia⟩;rw[hm,List.range_succ,vH,Nat.add_sub_cancel]
 congr 1
 ·apply uW
  intro k hk;have:=List.mem_range.mp hk;rw[List.take_append_of_le_length (by lia)]
 ·rw[List.map_singleton,<- hm,List.take_left',p7]
  rfl
noncomputable def j4(cs:List Acc)(l:List Nat)(f:Acc->Acc):List Acc:=cs.map fun z=>if z.pa=l then f z else z
theorem d8{β:Type}{cs:List Acc}{l:List Nat}{f:Acc->Acc}(g:Acc->β)(h:∀z,g (f z)=g z):(j4 cs l f).map g=cs.map g:=by
 unfold j4;rw[wM];apply uW;intro z _;show g (if z.pa=l then f z else z)=g z;split
 ·exact h z
 ·rfl
theorem o5{cs:List Acc}{l:List Nat}{f:Acc->Acc}{z:Acc}(h:z∈j4 cs l f):∃y∈cs,z=if y.pa=l then f y else y:=by
 obtain⟨y,hy,e⟩:=xS.mp h;exact⟨y,hy,e.symm⟩
noncomputable def grw(l:List Nat)(z:Acc):Acc:={ z with be:=z.be++[l] }
noncomputable def shu(t:Int)(z:Acc):Acc:={ z with un:=some t }
theorem CAt.grow{C A:Addr}{H:Hp}{p d:Addr}{cs:List Acc}(J:CAt C A H p d cs){u:Acc}(hu:u∈cs)(l:List Nat):CAt C A (upd H u.bl (.lst (u.be.map L2.T++[L2.T l]))) p d (j4 cs u.pa (grw l)):=by
 refine⟨?_,?_,fun z hz=>?_,?_,?_,?_⟩
 ·obtain⟨dx,e⟩:=J.ob
  exact⟨dx,(ai (J.p_bl hu)).trans e⟩
 ·rw[d8 (f:=grw l) kyA fun _=>rfl,ai (Ne.symm (J.bl_d hu))];exact J.dc
 ·obtain⟨y,hy,e⟩:=o5 hz
  obtain⟨dy,ho⟩:=(J.ac y hy).ob;by_cases h:y.pa=u.pa
  ·have:y=u:=fK J.np hy hu h
   subst this;rw[if_pos rfl]at e;subst e;exact⟨⟨dy,(ai (J.ob_bl hy hu)).trans ho⟩,by show upd H y.bl _ y.bl=some (.lst ((y.be++[l]).map L2.T));rw[af,vH];rfl⟩
  ·rw[if_neg h]at e
   subst e;have nb:z.bl≠u.bl:=fun q=>h (by rw[fK J.nb hy hu q]);exact⟨⟨dy,(ai (J.ob_bl hy hu)).trans ho⟩,(ai nb).trans (J.ac z hy).ls⟩
 ·rw[d8 (f:=grw l) _ fun _=>rfl];exact J.np
 ·rw[d8 (f:=grw l) _ fun _=>rfl];exact J.na
 ·rw[d8 (f:=grw l) _ fun _=>rfl];exact J.nb
theorem CT{cs:List Acc}{v l:List Nat}{f:Acc->Acc}(hf:∀z,(f z).pa=z.pa)(h:fnd cs l=none):fnd (j4 cs v f) l=none:=by
 refine List.find?_eq_none.mpr fun z hz=>?_;obtain⟨y,hy,e⟩:=o5 hz;have:=kJ h y hy;subst e;split
 ·simpa [hf] using this
 ·simpa using this
theorem L6{p q:Prop}(f:p->q)(x:p):q:=f x
theorem Hy{x:V}{l:List Nat}{f:List Nat->Prop}(h:x=L2.T l)(k:f l):asT x f:=by subst h;exact k
def sp_Ik(C A:Addr):Sp:=sp4 fun x y z t H Q _=>NoT H/\asR x fun p=>asT y fun l=>((∀c∈l,c<128)/\l.length<=199)/\(z = .non\/∃cl,z=L2.T cl/\cur cl=true)/\asI t fun day=>(0<=day/\day<=146096)/\∃v n d cs u,l=v++58::n/\58∉n/\rN l=true/\CAt C A H p d cs/\cs.length<=100/\(∀c∈cs,c.be.length<=100) /\
 fnd cs l=none/\u∈cs/\u.pa=v/\u.un=none/\u.fi<=day /\
 ∀c H',c.pa=l->c.ki=u.ki->c.cu=z->c.fi=day->c.un=none->c.be=[]->H c.ob=none->H c.bl=none->CAt C A H' p d (j4 cs v (grw l)++[c])->Keep (d::cs.map (·.bl)) H H'->NoT H'->Q .non H'
theorem sN(T:Txt K mg a):Mo P w K mg base a.aV "add" 7 (sp_Ik a.aV a.aO):=by
 refine T.vq.hx ["self","path","currency","day","upper"] (gX4 fun x0 x1 x2 x3 fA cdv A outer s H Q E ND HU hr h=>?_);obtain⟨hN,h1⟩:=h;obtain⟨p,rfl,h2⟩:=aE h1;refine bW (cM h2) fun l yy1 hl hz h3=>?_;subst yy1;obtain⟨day,rfl,hd,v,n,d,cs,u,el,hn,e,J,len,lb,ef,hu,pu,un,uf,k⟩:=aW h3;obtain⟨dx,hp⟩:=J.ob
 skip
 have c4:∃z,PSs (cp (XE P w) P w K mg base ["self","path","currency","day","upper"] "Chart.add" (ay gB) fA cdv A outer s H E) (ZU 4 (bh gB)) z/\z { nx:=fun _ H'=>Q .non H',rt:=Q } [some (.ref p),some (L2.T l),some x2,some (.int day),none] H:=by
  refine⟨_,(ae (aR 4 ND (ci (fv 0) T.bS (dB T) hr.mono av (fa1 (GG (aM K (aH (B4 T) hr av (fa1 (fv 1))) (qN lO aa))))))
   (ae (ba (L2.PW.pt (fE (dZ (dQ (a8 K (fv 4)))) (d6 (bF (bA (ci (fv 4) T.bz (eS T) hr.mono av (fa1 (fv 3)))))))) (ah (b8 T.lE T.lR bw)) aI)
   (ae (bt (df K Zk ZP ZQ dX (a8 K (fv 4)) (fa1 (fv 1))))
   (ah (fP (Zz HU) (a8 K (fv 0)) (fv 1) (Bp T.oU (fj T) hr.mono rfl T.rS av (fa3 (a8 K (fv 4)) (fv 2) (fv 3))) rfl))))),?_⟩
  walk_at "q";refine⟨_,_,hp,ir _,hN,hN,hl,fun q2 hq2=>⟨_,L2.T v,.inl (aA af),?_,?_⟩⟩
  ·rw[el,Fl hn,vH];exact uO _ _
  refine⟨H,Gc.none (aj _ hq2),hN,?_⟩;walk_at "q";refine⟨d,cs,J,?_⟩;rw[zn,show fnd cs v=some u from pu ▸ uk J.np hu];obtain⟨du,ho⟩:=(J.ac u hu).ob;refine⟨_,_,_,_,ho,T.bz,T.cw,fu ..,?_⟩;rw[un];have eo:opn u.fi u.un day=true:=by rw[un];unfold opn;rw[decide_eq_true uf];rfl
  refine itp rfl ⟨_,_,ho,Km ..,hN,_,_,_,_,_,_,ho,?_⟩;rw[eo];have sml:(u.be.map L2.T).length<sizeLine:=by have:=lb u hu;rw[zV,uz];lia
  refine itn (by decide) ⟨_,_,_,_,ho,T.bz,T.e7,fb ..,.inl ⟨rfl,_,aA (J.ac u hu).ls⟩,u.bl,_,_,rfl,rfl,(J.ac u hu).ls,sml,?_⟩;have J1:=J.grow hu l;have N1:NoT (upd H u.bl (.lst (u.be.map L2.T++[L2.T l]))):=aq hN rfl;have ho1:=(ai (o:=.lst (u.be.map L2.T++[L2.T l])) (J.ob_bl hu hu)).trans ho;have K1:Keep (d::cs.map (·.bl)) H (upd H u.bl (.lst (u.be.map L2.T++[L2.T l]))):=Keep.refl.put (.tail _ (xf hu));have n58:∀q,upd H u.bl (.lst (u.be.map L2.T++[L2.T l])) q=none->H q=none:=fun q hq=>by
   by_cases hc:q=u.bl
   ·rw[hc,af]at hq;cases hq
   ·rw[ai hc]at hq;exact hq
  generalize upd H u.bl (.lst (u.be.map L2.T++[L2.T l]))=H1 at J1 N1 ho1 K1 n58 |-
  refine⟨_,_,_,_,ho1,T.bz,T.jr,fk ..,fun x dx1 hx hdx ne=>?_⟩;refine⟨aq (aq N1 rfl) rfl,_,af,fun b H' hb h1 h2 kp hN'=>?_⟩;have kp0:=eE hx hdx kp;have J2:=J1.keep kp0 zJ zJ fun _ _=>⟨zJ,zJ⟩;obtain⟨dx2,hp2⟩:=J2.ob
  let c:Acc:=⟨l,x,b,u.ki,x2,day,none,[]⟩
  have smk:((j4 cs u.pa (grw l)).map kyA).length<sizeLine:=by rw[d8 (f:=grw l) kyA fun _=>rfl,zV,uz];lia
  have ef1:fnd (j4 cs u.pa (grw l)) l=none:=CT (fun _=>rfl) ef;refine⟨_,_,_,_,hp2,T.bS,T.b6,lkp _,d,_,rfl,DPut.k (k:=.inr ⟨⟨l⟩⟩) J2.dc smk,?_⟩;rw[vY ef1 c rfl];have J3:=J1.more kp0 (c:=c) ef1 hx (cU hb) ⟨⟨dx1,h1⟩,h2⟩;rw[pu]at J3 |-
  exact k c _ rfl rfl rfl rfl rfl rfl (n58 _ hx) (n58 _ (cU hb)) J3 ((K1.trans (kp0.mono (fun _ h=>nomatch h))).put (.head _)) (aq hN' rfl)
 obtain⟨u4,hu4,c4⟩:=c4;refine⟨_,(ae (ba (yF (bg (dF K HU) (aC (cG K) rfl T.eR dv (fa1 (aH (wn T) hr av (fa1 (fv 1))))) aa)) (ah (b8 T.mh T.lS bw)) aI)
  (ae (ba (L2.PW.pt (gH (dZ (dQ (fv 2))) (eM (bF (bA (aH (i8 T) hr av (fa1 (fv 2)))))))) (ah (b8 T.jN T.jL bw)) aI)
  (ae (ba (bF (bA (aH (ia T) hr av (fa1 (fv 3))))) (ah (b8 T.gW T.f8 bw)) aI)
  (ae (ba (dZ (qg (Zz HU) (fv 1) (a8 K (fv 0))) (by with_unfolding_all rfl)) (ah (b8 T.t_ T.sj bw)) aI)
  hu4)))),?_⟩
 walk_at "q";refine⟨hN,hN,hl,e,fun q hq=>?_⟩;refine⟨_,.inl (aA af),H,Gc.none (aj _ hq),?_⟩;rw[zV,el,iB hn,vx,if_neg (by
  have hp:0<(spN 58 v).length:=List.length_pos_iff.mpr (jQ 58 v);simp only[Ye];lia)]
 rw[<- el];refine' L6 (fun key=>_) _
 rotate_left 1
 ·rcases hz with hz|⟨cl',hz,hcl⟩
  ·exact itp hz key
  ·exact itn (by rw[hz];intro z;cases z) ⟨hN,Hy hz ⟨hcl,key⟩⟩
 have ed:amg (.int day) 0 146096=true:=by show(decide (0<=day)&&decide (day<=146096))=true;rw[decide_eq_true hd.1,decide_eq_true hd.2];rfl
 rw[ed];refine⟨hN,itn (by decide) ⟨_,_,_,_,hp,T.bS,T.b6,lkp _,d,_,rfl,DGet.k (k:=.inr ⟨⟨l⟩⟩) J.dc,?_⟩⟩;rw[jt,YW,ef,if_neg (by intro z;cases z)];exact c4
end
section
variable{P:Program}{w:World}{K:W.Frag}{mg:Str->Option Value}{base:Heap}{a:Adr}
theorem CAt.shutA{C A:Addr}{H:Hp}{p d:Addr}{cs:List Acc}(J:CAt C A H p d cs){u:Acc}(hu:u∈cs)(t:Int){dx:Addr}(ho:H u.ob=some (.ins A dx (gN u.ki u.cu (.int u.fi) (cl u.un) (.ref u.bl)))):CAt C A (upd H u.ob (.ins A dx (gN u.ki u.cu (.int u.fi) (.int t) (.ref u.bl)))) p d (j4 cs u.pa (shu t)):=by
 have pob:p≠u.ob\/p=u.ob:=(Decidable.em _).symm;refine⟨?_,?_,fun z hz=>?_,?_,?_,?_⟩
 ·obtain⟨dp,e⟩:=J.ob
  have:p≠u.ob:=aY e ho;exact⟨dp,(ai this).trans e⟩
 ·rw[d8 (f:=shu t) kyA fun _=>rfl,ai (Ne.symm (J.ob_d hu))];exact J.dc
 ·obtain⟨y,hy,e⟩:=o5 hz
  obtain⟨dy,hoy⟩:=(J.ac y hy).ob;by_cases h:y.pa=u.pa
  ·have:y=u:=fK J.np hy hu h
   subst this;rw[if_pos rfl]at e;subst e;exact⟨⟨dx,af⟩,(ai (Ne.symm (J.ob_bl hy hu))).trans (J.ac y hy).ls⟩
  ·rw[if_neg h]at e
   subst e;have nb:z.ob≠u.ob:=fun q=>h (by rw[fK J.na hy hu q]);exact⟨⟨dy,(ai nb).trans hoy⟩,(ai (Ne.symm (J.ob_bl hu hy))).trans (J.ac z hy).ls⟩
 ·rw[d8 (f:=shu t) _ fun _=>rfl];exact J.np
 ·rw[d8 (f:=shu t) _ fun _=>rfl];exact J.na
 ·rw[d8 (f:=shu t) _ fun _=>rfl];exact J.nb
def sp_EW(C A:Addr):Sp:=sp3 fun x y z H Q _=>NoT H/\asR x fun p=>asT y fun l=>((∀c∈l,c<128)/\l.length<=199)/\asI z fun day=>(0<=day/\day<=146096)/\∃d cs u,CAt C A H p d cs/\u∈cs/\u.pa=l/\rN l=true/\u.un=none/\u.fi<day/\u.be=[] /\
 ∀H',CAt C A H' p d (j4 cs l (shu day))->Keep (cs.map (·.ob)) H H'->NoT H'->Q .non H'
theorem qz(T:Txt K mg a):Mo P w K mg base a.aV "shut" 6 (sp_EW a.aV a.aO):=by
 refine T.tf.hx ["self","path","day","account"] (gX3 fun x0 x1 x2 fA cdv A outer s H Q E ND HU hr h=>?_);obtain⟨hN,h1⟩:=h;obtain⟨p,rfl,h2⟩:=aE h1;obtain⟨l,rfl,hl,h3⟩:=cM h2;obtain⟨day,rfl,hd,d,cs,u,J,hu,pu,e,un,uf,ub,k⟩:=aW h3;obtain⟨dx,hp⟩:=J.ob;refine⟨_,(ae (ba (bF (bA (aH (ph T) hr av (fa1 (fv 1))))) (ah (b8 T.mh T.lS bw)) aI)
  (ae (aR 3 ND (ci (fv 0) T.bS (dB T) hr.mono av (fa1 (fv 1))))
  (ae (ba (L2.PW.pt (fE (bF (bA (aH (ia T) hr av (fa1 (fv 2))))) (d6 (bg fX (fv 2) (a8 K (fv 3)))))) (ah (b8 T.gW T.f8 bw)) aI)
  (ae (ba (dZ (dQ (a8 K (fv 3)))) (ah (b8 T.lE T.lR bw)) aI)
  (ae (ba (yF (bA (aC (EA K rfl) rfl T.Ly HK (fa1 (b_ rfl (cl:=_) (x:="lower") (xs:=["lower"]) (fr:=["day","self"]) (ks:=[2,0]) (by walk_at "c") rfl (bQ K (a8 K (fv 3))) (fun _ _ _ _ _=>(aK (i:=0) (eC (l:=["lower","day","self"]) (by decide)) rfl (Or.inl rfl))) (fun _ _ _ _ _=>eO) (fun _ _ _ _ _=>(ci (ck (Zz HU) (a8 K (fv 2)) (fv 0) (fun _ _=>rfl)) T.bz (hZ T) hr.mono oS (fa1 (fv 1))))))))) (ah (b8 T.xT T.w4 bw)) aI)
  (ah (cP K (fv 3) (fv 2)))))))),?_⟩
 walk_at "r";refine⟨hN,hl,itn (by rw[e];decide) ?_⟩;refine⟨_,_,hp,ir _,hN,d,cs,J,?_⟩;rw[zn,show fnd cs l=some u from pu ▸ uk J.np hu];obtain⟨du,ho⟩:=(J.ac u hu).ob;refine⟨hN,?_⟩;have ed:amg (.int day) 0 146096=true:=by show(decide (0<=day)&&decide (day<=146096))=true;rw[decide_eq_true hd.1,decide_eq_true hd.2];rfl
 rw[ed];refine itn (by decide) ⟨_,_,_,_,ho,T.bz,T.e_,ff ..,?_⟩;walk_at "r";refine itn (by lia) ⟨_,_,_,_,ho,T.bz,T.cw,fu ..,?_⟩;rw[un];refine itp rfl ⟨hN,?_⟩;have hb:SqL K H u.bl []:=aA (by rw[(J.ac u hu).ls,ub];rfl);refine cmL u.bl [] (fun H'=>SqL K H' u.bl []) (fun D ys hD=>hb.same (aj _ hD)) (fun H' c=>c) (fun _=>true) (fun x=>x) (fun R r=>?_) hb (Zv _) (fun x hx=>nomatch hx) (fun x hx=>nomatch hx) (fun D hD=>?_)
 ·walk_at "r"
  exact⟨_,_,_,_,ho,T.bz,T.e7,fb ..,r⟩
 ·refine⟨[],aA af,H,Gc.none (aj _ hD),itn (by decide) ⟨_,_,_,ho,T.bz,T.cw,by show 5<1000;decide,?_⟩⟩
  rw[JA];have J1:=J.shutA hu day ho;rw[pu]at J1;exact k _ J1 (Keep.refl.put (xf hu)) (aq hN rfl)
end
section
variable{P:Program}{w:World}{K:W.Frag}{mg:Str->Option Value}{base:Heap}{a:Adr}
open K3
theorem fJ(i lo hi:Int):amg (.int i) lo hi=(decide (lo<=i)&&decide (i<=hi)):=rfl
noncomputable def cq(C dx:Addr)(v:V):HO:=.ins C dx [("last_closed",v)]
def sp_zO(C:Addr):Sp:=sp1 fun x H Q _=>asR x fun p=>∃dx,H p=some (.ins C dx [])/\Q .non (upd H p (cq C dx .non))
theorem mD(T:Txt K mg a):Mo P w K mg base a.bc "__init__" 1 (sp_zO a.bc):=by
 refine T.nP.hx ["self"] (gX1 fun x0 fA cdv A outer s H Q E ND HU hr h=>?_);obtain⟨p,rfl,dx,hp,k⟩:=aE h;refine⟨_,(ah (cP K (fv 0) cY)),?_⟩;walk_at "r";exact⟨_,_,_,hp,T.eJ,T.bT,by decide,k⟩
theorem lk1(v:V):vL (zS "last_closed") [(zS "last_closed",v)]=some v:=by simp[vL]
def sp_AG(C:Addr):Sp:=sp2 fun x y H Q _=>NoT H/\asR x fun p=>asI y fun d=>(0<=d/\d<=146096)/\∃dx o,H p=some (cq C dx (cl o))/\Q (.bl (match o with|none=>true|some m=>decide (m<MO d))) H
theorem tI(T:Txt K mg a):Mo P w K mg base a.bc "lets" 5 (sp_AG a.bc):=by
 refine T.uK.hg ["self","day"] (gG2 fun x0 x1 fA cdv A outer s H Q E ND HU hr h=>?_);obtain⟨hN,h1⟩:=h;obtain⟨p,rfl,h2⟩:=aE h1;refine gb (aW h2) fun d yy1 hd yz=>qm yz fun dx o hp k=>?_;subst yy1;refine⟨hN,_,(ah (aF (F_ (wX (xy (a8 K (fv 0)))) (d7 (d_ rR (aH (iW T) hr av (fa1 (fv 1))) (a8 K (fv 0)) (fe _)))))),?_⟩;walk_at "r";refine⟨_,_,_,_,hp,T.eJ,T.bT,lk1 _,?_⟩;cases o with
 |none=>exact k
 |some m=>
  rw[if_neg (by intro z;cases z)];exact⟨hN,hd,_,_,_,_,hp,T.eJ,T.bT,lk1 _,H,Gc.refl,k⟩
def sp_Ap(C:Addr):Sp:=sp2 fun x y H Q _=>NoT H/\asR x fun p=>asI y fun m=>∃dx o,H p=some (cq C dx (cl o))/\(0<=m/\m<=4799)/\(o=none\/o=some (m-1))/\Q .non H
theorem k9(T:Txt K mg a):Mo P w K mg base a.bc "need_next" 4 (sp_Ap a.bc):=by
 refine T.lZ.hg ["self","month"] (gG2 fun x0 x1 fA cdv A outer s H Q E ND HU hr h=>?_);obtain⟨hN,h1⟩:=h;obtain⟨p,rfl,h2⟩:=aE h1;obtain⟨m,rfl,dx,o,hp,hm,ho,k⟩:=aW h2;refine⟨hN,_,(ae (ba (bF (bA (aH (eT T) hr av (fa1 (fv 1))))) (ah (b8 T.px T.pC bw)) aI)
  (ah (ba (L2.PW.pt (gH (dZ (dQ (a8 K (fv 0)))) (eM (bg (d9 K HU) (fv 1) (au aP (a8 K (fv 0)) aa))))) (ah (b8 T.Ax T.Af bw)) aI))),?_⟩
 walk_at "r";rw[fJ,decide_eq_true hm.1,decide_eq_true hm.2];refine⟨hN,itn (by decide) ⟨_,_,_,_,hp,T.eJ,T.bT,lk1 _,?_⟩⟩;rcases ho with rfl|rfl
 ·exact k
 ·refine itn (by intro z;cases z) ⟨_,_,_,_,hp,T.eJ,T.bT,lk1 _,?_⟩
  show Ai (.int (m-1)) (.int 1) H _;walk_at "r";exact itp (by lia) k
def sp_zZ(C:Addr):Sp:=sp2 fun x y H Q _=>NoT H/\asR x fun p=>asI y fun m=>∃dx o,H p=some (cq C dx (cl o))/\(0<=m/\m<=4799)/\(o=none\/o=some (m-1))/\Q .non (upd H p (cq C dx (.int m)))
theorem kq(T:Txt K mg a):Mo P w K mg base a.bc "shut" 5 (sp_zZ a.bc):=by
 refine T.wq.hx ["self","month"] (gX2 fun x0 x1 fA cdv A outer s H Q E ND HU hr h=>?_);obtain⟨hN,h1⟩:=h;obtain⟨p,rfl,h2⟩:=aE h1;obtain⟨m,rfl,dx,o,hp,hm,ho,k⟩:=aW h2;refine⟨_,(ae (bt (ci (fv 0) T.eJ (k9 T) hr.mono av (fa1 (fv 1))))
  (ah (cP K (fv 0) (fv 1)))),?_⟩
 walk_at "r";have pf:cZ (zS "last_closed") (.int m) [(zS "last_closed",cl o)]=[(zS "last_closed",.int m)]:=by simp[cZ]
 refine⟨_,_,hp,aQ,hN,dx,o,hp,hm,ho,_,_,_,hp,T.eJ,T.bT,by show 1<1000;decide,?_⟩;rw[pf];exact k
noncomputable def Cy(C dx b u:Addr):HO:=.ins C dx [("bookings",.ref b),("undoings",.ref u)]
theorem lkb(x y:V):vL (zS "bookings") [(zS "bookings",x),(zS "undoings",y)]=some x:=by simp[vL]
theorem lku(x y:V):vL (zS "undoings") [(zS "bookings",x),(zS "undoings",y)]=some y:=by rw[aQ (by decide +kernel)];exact fY
structure JAt(C:Addr)(H:Hp)(p b u:Addr)(bs:List V)(kvs:List (Key × V)):Prop where
 ob:∃dx,H p=some (Cy C dx b u)
 ls:H b=some (.lst bs)
 dc:H u=some (.dK kvs)
theorem JAt.keep{C:Addr}{S:List Addr}{H H':Hp}{p b u:Addr}{bs:List V}{kvs:List (Key × V)}(j:JAt C H p b u bs kvs)(x:Keep S H H')(hp:p∉S)(hb:b∉S)(hu:u∉S):JAt C H' p b u bs kvs:=
 ⟨by obtain⟨dx,e⟩:=j.ob;exact⟨dx,x _ _ e hp⟩,x _ _ j.ls hb,x _ _ j.dc hu⟩
def sp_Ab(C:Addr):Sp:=sp1 fun x H Q _=>NoT H/\asR x fun p=>∃dx,H p=some (.ins C dx [])/\∀b u H',H b=none->H u=none->JAt C H' p b u [] []->Keep [p] H H'->NoT H'->Q .non H'
theorem jy(T:Txt K mg a):Mo P w K mg base a.aX "__init__" 1 (sp_Ab a.aX):=by
 refine T.j3.hx ["self"] (gX1 fun x0 fA cdv A outer s H Q E ND HU hr h=>?_);obtain⟨hN,h1⟩:=h;obtain⟨p,rfl,dx,hp,k⟩:=aE h1;refine⟨_,(ae (cP K (fv 0) (cj (FA.pa cv)))
  (ah (cP K (fv 0) kc))),?_⟩
 walk_at "r";refine⟨Zv _,fun b hb=>?_⟩;have np:p≠b:=aL hp hb;refine⟨_,_,_,(ai np).trans hp,T.cK,T.cW,by show 0<1000;decide,fun u hu=>?_⟩;have nu:p≠u:=fun q=>by rw[<- q,af]at hu;cases hu
 have nb:b≠u:=fun q=>by rw[<- q,ai (Ne.symm np),af]at hu;cases hu
 refine⟨_,_,_,(ai nu).trans af,T.cK,T.f_,by show 1<1000;decide,?_⟩;have hu0:H u=none:=by
  rw[ai (Ne.symm nu),ai (Ne.symm nb)]at hu;exact hu
 refine k b u _ hb hu0 ⟨⟨dx,?_⟩,?_,?_⟩ ?_ ?_
 ·rw[af]
  have e:cZ (zS "undoings") (V.ref u) (cZ (zS "bookings") (V.ref b) [])=[(zS "bookings",.ref b),(zS "undoings",.ref u)]:=by
   have q:¬ (zS "bookings" = zS "undoings"):=by decide +kernel
   simp[cZ,q]
  rw[e];rfl
 ·rw[ai (Ne.symm np),ai nb,ai (Ne.symm np),af]
 ·rw[ai (Ne.symm nu),af]
 ·exact(((Keep.refl.new hb).put (zz.2 rfl)).new hu).put (zz.2 rfl)
 ·exact aq (aq (aq (aq hN rfl) rfl) rfl) rfl
def sp_CW(K:W.Frag)(C:Addr):Sp:=sp5 fun x d n r o H Q _=>NoT H/\asR x fun p=>asR r fun r=>∃b u bs kvs rs,JAt C H p b u bs kvs/\bs.length<=100/\kvs.length<=100/\SqL K H r rs/\(o = .non\/∃i,o = .int i) /\
 ∀t q H',H t=none->H' t=some (.tup rs)->H q=none->H' q=some (.tup [.int bs.length,d,n,.ref t,o])->JAt C H' p b u (bs++[.ref q]) (match o with | .int i=>dU kvs (.inl i) (.int bs.length)|_=>kvs)->Keep [b,u] H H'->NoT H'->Q (.int bs.length) H'
theorem iV(T:Txt K mg a):Mo P w K mg base a.aX "put" 1 (sp_CW K a.aX):=by
 refine T.qq.hx ["self","day","note","rows","undoes","number"] (gX5 fun x0 x1 x2 x3 x4 fA cdv A outer s H Q E ND HU hr h=>?_);obtain⟨hN,h1⟩:=h;obtain⟨p,rfl,h2⟩:=aE h1;obtain⟨r,rfl,b,u,bs,kvs,rs,J,l1,l2,hs,ho,k⟩:=aE h2;obtain⟨dx,hp⟩:=J.ob;refine⟨_,(ae (aR 5 ND (aC (cG K) rfl T.eR dv (fa1 (a8 K (fv 0)))))
  (ae (bt (df K Zk ZP ZQ dX (a8 K (fv 0)) (fa1 (b7 (fa5 (fv 5) (fv 1) (fv 2) (da (ja K) rfl T.ij fW (fa1 (fv 3))) (fv 4))))))
  (ae (ba (dZ (dQ (fv 4))) (ah (fP (Zz HU) (a8 K (fv 0)) (fv 4) (fv 5) rfl)) aI)
  (ah (aF (fv 5)))))),?_⟩
 walk_at "r";refine⟨_,_,_,_,hp,T.cK,T.cW,lkb _ _,bs,.inl (.inl (.inl J.ls)),_,_,_,_,hp,T.cK,T.cW,lkb _ _,.inl ⟨rfl,bs,.inl (.inl J.ls)⟩,rs,?_⟩;have five:5<=sizeLine:=by rw[uz];decide
 have sml:bs.length<sizeLine:=by rw[uz];lia
 have smk:kvs.length<sizeLine:=by rw[uz];lia
 have nb:p≠b:=aY hp J.ls;have nu:p≠u:=aY hp J.dc;have bu:b≠u:=aY J.ls J.dc;have fin:∀t H1,H t=none->H1 t=some (.tup rs)->Same H H1->NoT H1->∀q,H1 q=none->∃l xs y,V.ref b=V.ref l/\V.ref q=y/\upd H1 q (HO.tup [.int bs.length,x1,x2,V.ref t,x4]) l=some (HO.lst xs)/\xs.length<sizeLine /\
  if x4=V.non then Q (.int bs.length) (upd (upd H1 q (HO.tup [.int bs.length,x1,x2,V.ref t,x4])) l (HO.lst (xs++[y]))) else
   ∃C dx fs v,upd (upd H1 q (HO.tup [V.int bs.length,x1,x2,V.ref t,x4])) l (HO.lst (xs++[y])) p=some (HO.ins C dx fs)/\Cls K C/\NoAttr K C (zS "undoings")/\vL (zS "undoings") fs=some v /\
    ∃a H4,v=V.ref a/\DPut (upd (upd H1 q (HO.tup [V.int bs.length,x1,x2,V.ref t,x4])) l (HO.lst (xs++[y]))) a x4 (V.int bs.length) H4/\Q (V.int bs.length) H4:=by
  intro t H1 ht1 ht2 kp n1 q hq;have mb:b∈[b,u]:=.head _;have mu:u∈[b,u]:=.tail _ (.head _);have hp1:=kp _ _ hp;have hb1:=kp _ _ J.ls;have hu1:=kp _ _ J.dc;have qb:b≠q:=aL hb1 hq;have qu:u≠q:=aL hu1 hq;have qp:p≠q:=aL hp1 hq;have qt:t≠q:=aL ht2 hq;have tb:t≠b:=aY ht2 hb1;have tu:t≠u:=aY ht2 hu1;have q0:H q=none:=kp.free hq;generalize hz:HO.tup [V.int bs.length,x1,x2,V.ref t,x4]=z at *;have dz:iU z=true:=by rw[<- hz];rfl
  refine⟨b,bs,_,rfl,rfl,(ai qb).trans hb1,sml,?_⟩;have K2:Keep [b,u] H (upd (upd H1 q z) b (.lst (bs++[.ref q]))):=((bL kp).new hq).put mb;have N2:NoT (upd (upd H1 q z) b (.lst (bs++[.ref q]))):=aq (aq n1 dz) rfl;rcases ho with rfl|⟨i,rfl⟩
  ·rw[if_pos rfl]
   refine k t q _ ht1 ?_ q0 ?_ ⟨⟨dx,?_⟩,af,?_⟩ K2 N2
   ·rw[ai tb,ai qt];exact ht2
   ·rw[ai (Ne.symm qb),af,hz]
   ·rw[ai nb,ai qp];exact hp1
   ·rw[ai (Ne.symm bu),ai qu];exact hu1
  ·rw[if_neg (by intro z;cases z)]
   refine⟨_,dx,[(zS "bookings",.ref b),(zS "undoings",.ref u)],_,?_,T.cK,T.f_,lku _ _,u,_,rfl,DPut.k (k:=.inl i) (kvs:=kvs) ?_ smk,?_⟩
   ·rw[ai nb,ai qp];exact hp1
   ·rw[ai (Ne.symm bu),ai qu];exact hu1
   ·refine k t q _ ht1 ?_ q0 ?_ ⟨⟨dx,?_⟩,?_,af⟩ (K2.put mu) (aq N2 rfl)
    ·rw[ai tu,ai tb,ai qt];exact ht2
    ·rw[ai (Ne.symm qu),ai (Ne.symm qb),af,hz]
    ·rw[ai nu,ai nb,ai qp];exact hp1
    ·rw[ai bu,af]
 exact .inl ⟨hs,fun l hl=>⟨five,fin l _ hl af (aj _ hl) (aq hN rfl)⟩⟩
def sp_x_(C:Addr):Sp:=sp1 fun x H Q _=>NoT H/\asR x fun p=>∃b u bs kvs,JAt C H p b u bs kvs/\∀q,H q=none->Q (.ref q) (upd H q (.lst bs))
theorem gX(T:Txt K mg a):Mo P w K mg base a.aX "every" 1 (sp_x_ a.aX):=by
 refine T.nK.hg ["self"] (gG1 fun x0 fA cdv A outer s H Q E ND HU hr h=>?_);obtain⟨hN,h1⟩:=h;obtain⟨p,rfl,b,u,bs,kvs,J,k⟩:=aE h1;obtain⟨dx,hp⟩:=J.ob;refine⟨hN,_,(ah (aF (da (sO K) rfl T.pY kh (fa1 (a8 K (fv 0)))))),?_⟩;walk_at "r";exact⟨_,_,_,_,hp,T.cK,T.cW,lkb _ _,bs,.inl (.inl (.inl J.ls)),fun l hl=>⟨_,Gc.one (aj _ hl) hl af rfl,k l hl⟩⟩
theorem cX{H H':Hp}{D:Addr}{o:HO}(s:Same H H')(h:H D=none):Same H (upd H' D o):=fun c z e=>by
 rw[ai (aL e h)];exact s c z e
def RwAt(H:Hp)(v:V)(r:Row):Prop:=∃q,v = .ref q/\H q=some (.tup [L2.T r.pa,L2.T r.cu,.int r.am])
def BkAt(H:Hp)(v:V)(b:Bk):Prop:=∃q t vs nt un,v = .ref q/\H q=some (.tup [.int b.k,.int b.d,L2.T nt,.ref t,cl un])/\H t=some (.tup vs)/\A2 (RwAt H) vs b.rs
def LW(W:List Addr)(H:Hp):Prop:=∀s∈W,∃l,H s=some (.lst l)
theorem LW.nil{H:Hp}:LW [] H:=fun _ h=>nomatch h
theorem LW.one{H:Hp}{s:Addr}{xs:List V}(h:H s=some (.lst xs)):LW [s] H:=fun z m=>by rw[zz.mp m];exact⟨_,h⟩
theorem LW.no{W:List Addr}{H:Hp}(t:LW W H){q:Addr}{o:HO}(h:H q=some o)(n:∀l,o ≠ .lst l):q∉W:=fun m=>by
 obtain⟨l,e⟩:=t q m;rw[h]at e;cases e;exact n _ rfl
theorem LW.tup{W:List Addr}{H:Hp}(t:LW W H){q:Addr}{l:List V}(h:H q=some (.tup l)):q∉W:=t.no h (by intro _ z;cases z)
section
variable{W:List Addr}{H H':Hp}(x:Keep W H H')(t:LW W H)
include x t
theorem RwAt.keep{v:V}{r:Row}(h:RwAt H v r):RwAt H' v r:=by
 obtain⟨q,rfl,e⟩:=h;exact⟨q,rfl,x _ _ e (t.tup e)⟩
theorem gU{vs:List V}{rs:List Row}(h:A2 (RwAt H) vs rs):A2 (RwAt H') vs rs:=h.imp fun _ _ _ _ r=>r.keep x t
theorem BkAt.keep{v:V}{b:Bk}(h:BkAt H v b):BkAt H' v b:=by
 obtain⟨q,u,vs,nt,un,rfl,e1,e2,r⟩:=h;exact⟨q,u,vs,nt,un,rfl,x _ _ e1 (t.tup e1),x _ _ e2 (t.tup e2),gU x t r⟩
theorem uX{vs:List V}{bs:List Bk}(h:A2 (BkAt H) vs bs):A2 (BkAt H') vs bs:=h.imp fun _ _ _ _ r=>r.keep x t
end
theorem bD{H H':Hp}(s:Same H H'){vs:List V}{rs:List Row}(h:A2 (RwAt H) vs rs):A2 (RwAt H') vs rs:=gU (W:=[]) (bL s) LW.nil h
theorem BS{H H':Hp}(s:Same H H'){vs:List V}{bs:List Bk}(h:A2 (BkAt H) vs bs):A2 (BkAt H') vs bs:=uX (W:=[]) (bL s) LW.nil h
def rOk(r:Row):Prop:=cur r.cu=true/\(-1000000000000000<=r.am/\r.am<=1000000000000000)/\r.am≠0
def sp_Ah:Sp:=sp1 fun x H Q _=>NoT H/\∃r,RwAt H x r/\rOk r/\Q (.bl true) H
theorem zA(T:Txt K mg a):Fo P w K mg base "is_row" 4 sp_Ah:=by
 refine T.Cr.hg ["thing"] (gG1 fun x0 fA cdv A outer s H Q E ND HU hr h=>?_);obtain⟨hN,r,⟨q,rfl,hq⟩,⟨hc,ha,h0⟩,k⟩:=h;refine⟨hN,_,(ae (ba (L2.PW.pt (fE (bF (bA (aC (cH K) rfl T.aZ aU (fa2 (fv 0) (cO (v:=.ty "tuple") rfl T.ij fW rfl))))) (d6 (bg (d9 K HU) (aC (cG K) rfl T.eR dv (fa1 (fv 0))) aa)))) (ah (aF eQ)) aI)
  (ah (aF (dm (aC (cH K) rfl T.aZ aU (fa2 (aM K (fv 0) aa) (cO (v:=.ty "str") rfl T.pF j6 rfl))) (dm (aH (i8 T) hr av (fa1 (aM K (fv 0) aa))) (dm (aH (sD T) hr av (fa1 (aM K (fv 0) aa))) (d7 (d_ (d9 K HU) (aM K (fv 0) aa) aa (fe _))))))))),?_⟩
 have et:cS H (.ref q)=some "tuple":=by simp[cS,hq]
 have hS:=bR (K:=K) hq;walk_at "r";simp only[et];refine itn (by decide) ⟨_,.inr hS,itp rfl ⟨_,_,.inr hS,aJ (j:=0) rfl,?_⟩⟩;walk_at "r";refine⟨_,_,.inr hS,aJ (j:=1) rfl,hN,hc,?_⟩;walk_at "r";refine⟨_,_,.inr hS,aJ (j:=2) rfl,hN,?_⟩;walk_at "r";rw[fJ,decide_eq_true ha.1,decide_eq_true ha.2];refine itp rfl ⟨_,_,.inr hS,aJ (j:=2) rfl,?_⟩;walk_at "r";rw[decide_eq_false h0];exact k
def sp_FK:Sp:=sp1 fun x H Q _=>NoT H/\asR x fun q=>∃vs rs,H q=some (.lst vs)/\A2 (RwAt H) vs rs/\(2<=rs.length/\rs.length<=200)/\(∀r∈rs,rOk r)/\Q .non H
theorem lC(T:Txt K mg a):Fo P w K mg base "need_form" 5 sp_FK:=by
 refine T.uM.hg ["rows","row"] (gG1 fun x0 fA cdv A outer s H Q E ND HU hr h=>?_);obtain⟨hN,h1⟩:=h;refine ce (aE h1) fun q yy1 yz=>Cf yz fun vs rs hq ha ln ho k=>?_;subst yy1;have lv:=ha.len;refine⟨hN,_,(ae (ba (L2.PW.pt (fE (bF (bA (aC (cH K) rfl T.aZ aU (fa2 (fv 0) (cO (v:=.ty "list") rfl T.pY kh rfl))))) (d6 (bF (Ba fX fX aa (aC (cG K) rfl T.eR dv (fa1 (fv 0))) aa))))) (ah (b8 T.vA T.uD bw)) aI)
  (ah (dE (by passes_own) rfl (bQ K (fv 0)) (aK (i:=1) ND rfl (Or.inl rfl)) (ah (ba (bF (bA (aH (zA T) hr av (fa1 (fv 1))))) (ah (b8 T.vA T.uD bw)) aI))))),?_⟩
 have et:cS H (.ref q)=some "list":=by simp[cS,hq]
 walk_at "r";simp only[et];refine itn (by decide) ⟨_,.inl (aA hq),itp (by lia) (itp (by lia) (dJ ?_))⟩;walk_at "r";refine dL (xs:=vs) (aA hq) (dH (fun i σ' H'=>H'=H/\∃z,σ'=[some (.ref q),z]) ⟨rfl,none,rfl⟩ (fun i σ' H' _ h=>by rw[h.1];exact aA hq) ?_ ?_)
 ·rintro i x σ' H' hx ⟨rfl,z,rfl⟩
  obtain⟨r,hr,rr⟩:=ha.at_ hx;walk_at "r";refine⟨hN,r,rr,ho r (vW hr),_,rfl⟩
 ·rintro σ' H' ⟨rfl,z,rfl⟩
  exact⟨H',Gc.none (Same.refl _),k⟩
theorem bE{α:Type}{l:List α}{i:Nat}{x:α}(h:l[i]? = some x):l.take (i+1)=l.take i++[x]:=by rw[Xz,h];rfl
theorem Ei(o:Option Int)(j:Int):(o.map V.int).getD (.int j) = .int (o.getD j):=by cases o <;> rfl
def KM(H:Hp)(Q:VK)(rs:List Row):Prop:=∀out r ws H',out.Perm ((dk rs).map (·.1))->vh out->H r=none->H' r=some (.lst ws)->A2 (RwAt H') ws (res rs out)->Same H H'->NoT H'->Q (.ref r) H'
noncomputable def flt(H H':Hp):Hp:=fun p=>match H p with
 |some o=>some o
 |none=>match H' p with
  |some o=>if jS o=true then some o else none
  |none=>none
theorem yn{H H':Hp}{p:Addr}{o:HO}(h:H p=some o):flt H H' p=some o:=by unfold flt;rw[h]
theorem Ck{H H':Hp}(s:Same H H'){p:Addr}{o:HO}(h:H' p=some o)(n:jS o=true):flt H H' p=some o:=by
 cases e:H p with
 |some z=>rw[s _ _ e]at h;cases h;exact yn e
 |none=>unfold flt;simp only[e,h,n,if_true]
theorem sB{H H':Hp}{p:Addr}{o:HO}(h:flt H H' p=some o):H p=some o\/(H' p=some o/\jS o=true):=by
 unfold flt at h;cases e:H p with
 |some z=>rw[e]at h;exact .inl h
 |none=>
  simp only[e]at h;cases e2:H' p with
  |none=>rw[e2]at h;cases h
  |some z=>
   simp only[e2]at h;split at h
   ·rename_i q;cases h;exact .inr ⟨rfl,q⟩
   ·cases h
theorem Gc.flt{H H':Hp}(s:Same H H'):Gc H (flt H H') H':=⟨fun _ _ e=>yn e,fun p o e=>(sB e).elim (s p o) (·.1),fun p o e=>(sB e).imp id (·.2)⟩
theorem Fh{H H':Hp}(n:NoT H):NoT (flt H H'):=fun p o e=>by
 rcases sB e with q|⟨_,q⟩
 ·exact n p o q
 ·cases o <;> first|rfl|cases q
theorem Cd{H H':Hp}(s:Same H H'){vs:List V}{rs:List Row}(h:A2 (RwAt H') vs rs):A2 (RwAt (flt H H')) vs rs:=h.imp fun _ _ _ _ ⟨q,e,r⟩=>⟨q,e,Ck s r rfl⟩
theorem BI{H0 F:Hp}{D p:Addr}{ys:List V}{rs:List Row}(r:Row)(s:Same H0 F)(fD:H0 D=none)(hD:F D=some (.lst ys))(hp:F p=none)(aw:A2 (RwAt F) ys rs) :
 upd F p (.tup [L2.T r.pa,L2.T r.cu,.int r.am]) D=some (.lst ys)/\Same H0 (upd (upd F p (.tup [L2.T r.pa,L2.T r.cu,.int r.am])) D (.lst (ys++[.ref p])))/\A2 (RwAt (upd (upd F p (.tup [L2.T r.pa,L2.T r.cu,.int r.am])) D (.lst (ys++[.ref p])))) (ys++[.ref p]) (rs++[r]):=by
 have s1:=aj (HO.tup [L2.T r.pa,L2.T r.cu,.int r.am]) hp;have hD1:=s1 _ _ hD;have kp:Keep [D] (upd F p (.tup [L2.T r.pa,L2.T r.cu,.int r.am])) (upd (upd F p (.tup [L2.T r.pa,L2.T r.cu,.int r.am])) D (.lst (ys++[.ref p]))):=Keep.refl.put (.head _);exact⟨hD1,cX (s.trans s1) fD,(gU kp (LW.one hD1) (bD s1 aw)).snoc ⟨p,rfl,(ai (Ne.symm (aL hD hp))).trans af⟩⟩
def sp_Eb:Sp:=sp1 fun x H Q _=>NoT H/\asR x fun p=>∃vs rs,H p=some (.lst vs)/\A2 (RwAt H) vs rs/\rs.length<=1000/\(dk rs).length<64/\KM H Q rs
theorem By(d:List (Pt × Int)):(d.map mP).map (·.1)=(d.map (·.1)).map kP:=by rw[wM,wM];rfl
theorem pz(T:Txt K mg a):Fo P w K mg base "sums_of" 1 sp_Eb:=by
 refine T.Az.hg ["rows","together","path","currency","amount"] (gG1 fun x0 fA cdv A outer s H Q E ND HU hr h=>?_);obtain⟨hN,h1⟩:=h;refine ce (aE h1) fun p yy1 yz=>Cf yz fun vs rs hp ha len l64 k=>?_;subst yy1;have sz:=szl;refine⟨hN,_,(ae (aR 1 ND Bf)
  (ae (dE (by passes_own) rfl (bQ K (fv 0)) (gC K (n:=3) rfl (a_ (aK (i:=2) ND rfl (Or.inl rfl)) (a_ (aK (i:=3) ND rfl (Or.inl rfl)) (a_ (aK (i:=4) ND rfl (Or.inl rfl)) eL)))) (ah (fP (Zz HU) (fv 1) (b7 (fa2 (fv 2) (fv 3))) (au aP (vK (Zz HU) (fv 1) (b7 (fa2 (fv 2) (fv 3))) aa ⟨rfl,rfl,rfl,rfl⟩) (fv 4)) rfl)))
  (ah (aF (b_ rfl (cl:=_) (x:="path") (xs:=["path","currency"]) (fr:=["together"]) (ks:=[1]) (by walk_at "c") rfl (bQ K (aC (zU rfl) rfl T.gh eI (fa1 (fv 1)))) (fun _ _ _ _ _=>(gC K (n:=2) rfl (a_ (aK (i:=0) (eC (l:=["path","currency","together"]) (by decide)) rfl (Or.inl rfl)) (a_ (aK (i:=1) (eC (l:=["path","currency","together"]) (by decide)) rfl (Or.inl rfl)) eL)))) (fun _ _ _ _ _=>(iz (bg (d9 K HU) (ck (Zz HU) (fv 2) (b7 (fa2 (fv 0) (fv 1))) (fun _ _=>rfl)) aa))) (fun _ _ _ _ _=>(b7 (fa3 (fv 0) (fv 1) (ck (Zz HU) (fv 2) (b7 (fa2 (fv 0) (fv 1))) (fun _ _=>rfl)))))))))),?_⟩
 walk_at "q";intro d hd;refine dJ ?_;walk_at "q";refine dL (aA ((aj _ hd) _ _ hp)) (dH (fun i σ' H'=>Same H H'/\∃x2 x3 x4,H' d=some (.dT ((dk (rs.take i)).map mP))/\σ'=[some (.ref p),some (.ref d),x2,x3,x4]) ⟨aj _ hd,none,none,none,af,rfl⟩ (fun i σ' H' _ h=>aA (h.1 _ _ hp)) ?_ ?_)
 ·rintro i x σ' H' hx ⟨sm,x2,x3,x4,hd',rfl⟩
  refine ce (ha.at_ hx) fun r hr yz=>ce yz fun q yy1 hq=>?_;subst yy1;have hq':=sm _ _ hq;walk_at "q";refine⟨_,_,rfl,bR hq',rfl,_,_,rfl,_,_,rfl,_,_,rfl,rfl,?_⟩;walk_at "q";have l1:=(zc (rs.take i)).2.2;have l2:(rs.take i).length<=1000:=by rw[Zx];lia
  refine⟨.inr ⟨_,.inl hd'⟩,by walk_at "o",fun p1 hp1=>⟨_,DGet.t (k:=kP (r.pa,r.cu)) ((aj _ hp1) _ _ hd') af,?_⟩⟩;rw[jq,Ei];walk_at "q";have s1:=aj (HO.tup [L2.T r.pa,L2.T r.cu]) hp1;refine⟨by walk_at "o",fun p2 hp2=>?_⟩;have s2:=s1.trans (aj (HO.tup [L2.T r.pa,L2.T r.cu]) hp2);refine⟨d,_,rfl,DPut.t (k:=kP (r.pa,r.cu)) (s2 _ _ hd') af (by rw[zV,uz];lia),?_⟩;rw[v4];refine⟨cX (sm.trans s2) hd,_,_,_,?_,rfl,rfl,rfl⟩;rw[af,bE hr,uh];rfl
 ·rintro σ' H' ⟨sm,x2,x3,x4,hd',rfl⟩
  rw[ha.len,Zl]at hd';walk_at "q";refine ql ?_;walk_at "q";refine⟨_,(dk rs).map (·.1),hd',By _,by rw[zV];exact l64,fun out as po oo ao l hl=>?_⟩;have sl:=aj (HO.lst (as.map V.ref)) hl;have lo:=po.length_eq;rw[zV]at lo;have la:=ao.len;refine⟨⟨_,aA af⟩,yi l (as.map V.ref) (fun D i ys G=>Same (upd H' l (.lst (as.map V.ref))) G/\G D=some (.lst ys)/\upd H' l (.lst (as.map V.ref)) D=none/\A2 (RwAt G) ys (res rs (out.take i))) (by rw[zV,uz];lia) (fun D hD=>⟨aj _ hD,af,hD,.nil⟩) (fun D i ys G h=>⟨h.2.1,aA (h.1 _ _ af),?_⟩) ?_ ?_⟩
  ·rw[h.2.2.2.len]
   exact Zt (Fe _ _) (by rw[Zx];lia)
  ·rintro D i y ys G zs N1 N0 hy ⟨sG,hD,fD,aG⟩ hz n1 n0
   rw[List.getElem?_map]at hy;obtain⟨b,hb,rfl⟩:=Zg.mp hy;obtain⟨e,he,kb⟩:=ao.at_ hb;have kG:=sG _ _ (sl _ _ kb);have dG:=sG _ _ (sl _ _ hd');have ve:=IE (po.mem_iff.mp (vW he));obtain⟨z1,z2,rfl⟩:=ex2 hz;walk_at "q";refine⟨_,_,rfl,bR kG,rfl,_,_,rfl,_,_,rfl,rfl,?_⟩;walk_at "q";have gd:∀(F:Hp) (q:Addr),KAt F q e->F d=some (.dT ((dk (rs)).map mP))->DGet F d (.ref q) (some (.int (val (rs) e))):=fun F q h1 h2=>by
    have g:=DGet.t (k:=kP e) h2 h1
    rwa [jq,ve]at g
   rw[bE he,C7]at n1 n0;refine⟨⟨[some (L2.T e.1),some (L2.T e.2)],rfl,rfl⟩,by walk_at "o",fun p1 hp1=>?_⟩;have s1:=aj (HO.tup (tP e)) hp1;refine⟨d,_,rfl,gd _ p1 af (s1 _ _ dG),?_⟩;walk_at "q";by_cases hv:val rs e=0
   ·rw[if_neg fun z=>z hv,Ze]at n0
    exact itp hv (n0 _ ⟨sG.trans s1,s1 _ _ hD,fD,bD s1 aG⟩)
   ·rw[if_pos hv]at n1
    refine itn hv ⟨by walk_at "o",fun p2 hp2=>?_⟩;have s2:=s1.trans (aj (HO.tup (tP e)) hp2);refine⟨d,_,rfl,gd _ p2 af (s2 _ _ dG),by walk_at "o",fun p3 hp3=>?_⟩;obtain⟨m1,m2,m3⟩:=BI ⟨e.1,e.2,val rs e⟩ (sG.trans s2) fD (s2 _ _ hD) hp3 (bD s2 aG);exact n1 _ _ m1 ⟨m2,af,fD,m3⟩
  ·rintro D ys G ⟨sG,hD,fD,aG⟩
   rw[zV,la,Zl]at aG;have sg:=(sm.trans sl).trans sG;exact⟨_,Gc.flt sg,k out D ys _ po oo ((sm.trans sl).free fD) (Ck sg hD rfl) (Cd sg aG) (Gc.flt sg).a (Fh hN)⟩
noncomputable def ev(rs:List Row):List Row:=rs.map fun r=>⟨[],r.cu,r.am⟩
def EvR(rs:List Row):Prop:=∀c,sm (ev rs) ([],c)=0
theorem RwAt.mv(G G':Hp)(v:V)(r:Row)(k:∀t l,G t=some (.tup l)->G' t=some (.tup l))(h:RwAt G v r):RwAt G' v r:=by
 obtain⟨q,e,h⟩:=h;exact⟨q,e,k _ _ h⟩
def sp_BK(U:Addr):Sp:=sp2 fun x _ H Q _=>asR x fun p=>H p=some (ExN U p)/\Q .non (upd H p (ExD U p))
theorem jY(T:Txt K mg a):Mo P w K mg base a.bX "__init__" 1 (sp_BK a.bX):=by
 refine T.lh.hx ["self","currency"] (gX2 fun x0 x1 fA cdv A outer s H Q E ND HU hr h=>?_);obtain⟨p,rfl,hp,k⟩:=aE h;refine⟨_,(ah (E9 T.kg (fv 0) (fv 1))),?_⟩;walk_at "q";exact⟨hp,k⟩
theorem Ha{rs:List Row}{out:List Pt}(po:out.Perm ((dk (ev rs)).map (·.1))):res (ev rs) out=[]↔EvR rs:=by
 constructor
 ·intro h c
  by_cases m:([],c)∈out
  ·by_cases z:val (ev rs) ([],c)=0
   ·rw[<- C0];exact z
   ·unfold res at h
    have:=List.map_eq_nil_iff.mp h;have:=Z6.mp this _ m;exact absurd (by simpa using this) z
  ·exact FN fun r mr e=>m (po.mem_iff.mpr (by rw[<- e];exact G_ r mr))
 ·intro h
  unfold res;rw[List.map_eq_nil_iff,Z6];intro e me;obtain⟨r,mr,rfl⟩:=(zc (ev rs)).2.1 e (po.mem_iff.mp me);obtain⟨r',m',rfl⟩:=xS.mp mr;have:=h r'.cu;rw[<- C0]at this
  simpa using this
def sp_E4(U:Addr):Sp:=sp1 fun x H Q E=>NoT H/\asR x fun p=>∃vs rs,H p=some (.lst vs)/\A2 (RwAt H) vs rs/\rs.length<=40/\∀H',Same H H'->NoT H'->(EvR rs->Q .non H')/\(¬ EvR rs->E (.ref U) none H')
theorem sY(T:Txt K mg a):Fo P w K mg base "need_even" 4 (sp_E4 a.bX):=by
 refine T.v5.hx ["rows","uneven"] (gX1 fun x0 fA cdv A outer s H Q E ND HU hr h=>?_);obtain⟨hN,h1⟩:=h;obtain⟨p,rfl,vs,rs,hp,ha,len,k⟩:=aE h1;have lv:=ha.len;have sz:=szl;refine⟨_,(ae (aR 1 ND (aH (pz T) hr av (fa1 (b_ rfl (cl:=_) (x:="row") (xs:=["row"]) (fr:=[]) (ks:=[]) (by walk_at "c") rfl (bQ K (fv 0)) (fun _ _ _ _ _=>(aK (i:=0) (eC (l:=["row"]) (by decide)) rfl (Or.inl rfl))) (fun _ _ _ _ _=>eO) (fun _ _ _ _ _=>(b7 (fa3 (bv []) (aM K (fv 0) aa) (aM K (fv 0) aa))))))))
  (ah (ba (bg rR (aC (cG K) rfl T.eR dv (fa1 (fv 1))) aa) (ah (KG T.C2 (jY T) hr.mono av D8 rfl rfl T.B7 (fa1 (aM K (aM K (fv 1) aa) aa)))) aI))),?_⟩
 walk_at "q";refine ql ?_;walk_at "q";refine⟨⟨vs,aA hp⟩,ceA RwAt.mv p vs rs (RwAt H) (fun _=>true) (fun r=>⟨[],r.cu,r.am⟩) hp hN ha (by lia) (fun v b mb rb G zs N1 N0 sG nG hz n1 n0=>?_) fun D ws G hD sG nG gD aG=>?_⟩
 ·obtain⟨q,rfl,hq⟩:=rb
  have hq:=sG _ _ hq;obtain⟨z1,rfl⟩:=ex1 hz;walk_at "q";exact⟨⟨[_],rfl,rfl⟩,_,_,.inr (bR hq),aJ (j:=1) rfl,_,_,.inr (bR hq),aJ (j:=2) rfl,by walk_at "o",fun p1 hp1=>n1 rfl _ _ (aj _ hp1) (aq nG rfl) ⟨p1,rfl,af⟩⟩
 ·walk_at "q"
  rw[ZW.mpr (fun _ _=>rfl)]at aG;have le:(ev rs).length<=40:=by unfold ev;rw[zV];exact len
  refine⟨nG,ws,ev rs,gD,aG,by lia,Nat.lt_of_le_of_lt (zc _).2.2 (by lia),fun out r ws' H' po _ fr hr' ar s' n'=>?_⟩;obtain⟨k1,k0⟩:=k H' (sG.trans s') n';walk_at "q";refine⟨_,.inl (aA hr'),?_⟩;have er:=Ha po;cases hre:res (ev rs) out with
  |nil=>
   rw[hre]at ar;cases ar;exact k1 (er.mp hre)
  |cons y ys=>
   rw[hre]at ar;cases ar with
   |cons r1 ar=>
   obtain⟨q1,rfl,hq1⟩:=r1;refine itp (Int.ofNat_lt.mpr (Nat.succ_pos _)) ⟨_,_,.inl (aA hr'),aJ (j:=0) rfl,?_⟩;walk_at "q";exact⟨_,_,.inr (bR hq1),aJ (j:=1) rfl,by walk_at "o",n',fun p hp=>⟨af,af,by rw[ie];exact aj _ hp,k0 fun e=>by have:=er.mpr e;rw[hre]at this;cases this⟩⟩
noncomputable def RF(a:Adr):List Addr:=[a.bP,a.bJ,a.cR,a.bH,a.bX]
theorem RF.all{a:Adr}{p:Addr->Prop}(h:∀c∈RF a,p c):p a.bP/\p a.bJ/\p a.cR/\p a.bH/\p a.bX:=by
 refine⟨h _ ?_,h _ ?_,h _ ?_,h _ ?_,h _ ?_⟩ <;> unfold RF <;> simp only[zO,true_or,or_true]
def acT(cs:List Acc)(t:Int)(l cy:List Nat):Prop:=∃c,fnd cs l=some c/\opn c.fi c.un t=true/\(c.cu = .non\/c.cu=L2.T cy)
def CuV(v:V):Prop:=v = .non\/∃l,v=L2.T l
def sp_FT(a:Adr):Sp:=sp4 fun x y z u H Q E=>NoT H/\asR x fun p=>asI y fun t=>asT z fun l=>asT u fun cy=>∃d cs,CAt a.aV a.aO H p d cs/\(∀c∈cs,CuV c.cu)/\(acT cs t l cy->Q .non H)/\(¬ acT cs t l cy->∀e∈RF a,E (.ref e) none H)
theorem nW(T:Txt K mg a):Fo P w K mg base "need_account" 4 (sp_FT a):=by
 refine T.pN.hg ["chart","day","path","currency"] (gG4 fun x0 x1 x2 x3 fA cdv A outer s H Q E ND HU hr h=>?_);obtain⟨hN,h1⟩:=h;obtain⟨p,rfl,h2⟩:=aE h1;obtain⟨t,rfl,h3⟩:=aW h2;obtain⟨l,rfl,h4⟩:=cM h3;obtain⟨cy,rfl,d,cs,J,hcu,k1,k0⟩:=cM h4;have sz:=szl;obtain⟨dx,hp⟩:=J.ob;refine⟨hN,_,(ae (ba (bF (bA (ci (fv 0) T.bS (mE T) hr.mono av (fa2 (fv 2) (fv 1))))) (ah (b8 T.lE T.lR bw)) aI)
  (ah (ba (L2.PW.pt (gH (dZ (dQ (ci (fv 0) T.bS (eU T) hr.mono av (fa1 (fv 2))))) (eM (bg (d9 K HU) (ci (fv 0) T.bS (eU T) hr.mono av (fa1 (fv 2))) (fv 3))))) (ah (b8 T.jN T.jL bw)) aI))),?_⟩
 walk_at "r";refine⟨_,_,hp,aQ,hN,d,cs,J,?_⟩;cases ef:fnd cs l with
 |none=>exact(RF.all (k0 fun z=>by obtain⟨c,e,_⟩:=z;rw[ef]at e;cases e)).2.1
 |some c=>
 obtain⟨hc,el⟩:=tz ef;dsimp only;cases ho:opn c.fi c.un t with
 |false=>exact itp rfl ⟨by walk_at "o",(RF.all (k0 fun z=>by obtain⟨c',e,o,_⟩:=z;rw[ef]at e;cases e;rw[ho]at o;cases o)).2.2.1⟩
 |true=>
  refine itn (by decide) ⟨_,_,hp,aQ,hN,d,cs,c,J,hc,el,?_⟩;rcases hcu c hc with e|⟨m,e⟩
  ·exact itp e (k1 ⟨c,ef,ho,.inl e⟩)
  ·refine itn (by rw[e];intro z;cases z) ⟨_,_,hp,aQ,hN,d,cs,c,J,hc,el,?_⟩
   rw[e];walk_at "r";by_cases h:m=cy
   ·exact itp h (k1 ⟨c,ef,ho,.inr (by rw[e,h])⟩)
   ·exact itn h ⟨by walk_at "o",(RF.all (k0 fun z=>by
     obtain⟨c',e',_,q⟩:=z;rw[ef]at e';cases e';rcases q with q|q <;> rw[e]at q
     ·cases q
     ·exact h (by simpa using q))).2.2.2.1⟩
def BkR(cs:List Acc)(t:Int)(rs:List Row):Prop:=(∀r∈rs,acT cs t r.pa r.cu)/\EvR rs
def sp_BH(a:Adr):Sp:=sp3 fun x y z H Q E=>NoT H/\asR x fun p=>asI y fun t=>asR z fun q=>∃d cs vs rs,CAt a.aV a.aO H p d cs/\(∀c∈cs,CuV c.cu)/\H q=some (.lst vs)/\A2 (RwAt H) vs rs/\(2<=rs.length/\rs.length<=40)/\(∀r∈rs,rOk r) /\
 ∀H',Same H H'->NoT H'->(BkR cs t rs->Q .non H')/\(¬ BkR cs t rs->∀e∈RF a,E (.ref e) none H')
theorem tU(T:Txt K mg a):Fo P w K mg base "need_rows" 6 (sp_BH a):=by
 refine T.vG.hx ["chart","day","rows","path","currency","amount"] (gX3 fun x0 x1 x2 fA cdv A outer s H Q E ND HU hr h=>?_);obtain⟨hN,h1⟩:=h;obtain⟨p,rfl,h2⟩:=aE h1;obtain⟨t,rfl,h3⟩:=aW h2;obtain⟨q,rfl,d,cs,vs,rs,J,hcu,hq,ha,ln,ho,k⟩:=aE h3;have sz:=szl;refine⟨_,(ae (bt (aH (lC T) hr av (fa1 (fv 2))))
  (ae (dE (by passes_own) rfl (bQ K (fv 2)) (gC K (n:=3) rfl (a_ (aK (i:=3) ND rfl (Or.inl rfl)) (a_ (aK (i:=4) ND rfl (Or.inl rfl)) (a_ (aK (i:=5) ND rfl (Or.inl rfl)) eL)))) (ah (bt (aH (nW T) hr av (fa4 (fv 0) (fv 1) (fv 3) (fv 4))))))
  (ah (bt (aH (sY T) hr av (fa1 (fv 2))))))),?_⟩
 walk_at "r";refine⟨hN,vs,rs,hq,ha,by lia,ho,?_⟩;refine dJ ?_;walk_at "r";refine dL (xs:=vs) (aA hq) (dH (fun i σ' H'=>H'=H/\(∀r∈rs.take i,acT cs t r.pa r.cu)/\∃x3 x4 x5,σ'=[some (.ref p),some (.int t),some (.ref q),x3,x4,x5]) ⟨rfl,(fun _ z=>nomatch z),none,none,none,rfl⟩ (fun i σ' H' _ h=>by rw[h.1];exact aA hq) ?_ ?_)
 ·rintro i x σ' H' hx ⟨rfl,hi,x3,x4,x5,rfl⟩
  refine ce (ha.at_ hx) fun r hr yz=>ce yz fun q1 yy1 hq1=>?_;subst yy1;walk_at "r";refine⟨_,_,rfl,bR hq1,rfl,_,_,rfl,_,_,rfl,_,_,rfl,rfl,?_⟩;walk_at "r";refine⟨hN,d,cs,J,hcu,fun h1=>?_,fun h0=>(k _ (Same.refl _) hN).2 fun z=>h0 (z.1 r (vW hr))⟩;refine⟨fun r' m'=>?_,_,_,_,rfl,rfl,rfl⟩;rw[bE hr]at m';rcases tT.mp m' with m'|m'
  ·exact hi r' m'
  ·rw[zz.mp m'];exact h1
 ·rintro σ' H' ⟨rfl,hi,x3,x4,x5,rfl⟩
  rw[ha.len,Zl]at hi;walk_at "r";refine⟨hN,vs,rs,hq,ha,ln.2,fun H1 s1 n1=>?_⟩;obtain⟨k1,k0⟩:=k H1 s1 n1;exact⟨fun e=>k1 ⟨hi,e⟩,fun e=>(RF.all (k0 fun z=>e z.2)).2.2.2.2⟩
def lts(o:Option Int)(d:Int):Prop:=match o with|none=>True|some m=>m<MO d
def sp_B5(a:Adr):Sp:=sp3 fun x y z H Q E=>NoT H/\asR x fun p=>asI y fun d=>asT z fun l=>nt2 l/\(0<=d/\d<=146096)/\∃dx o,H p=some (cq a.bc dx (cl o))/\(lts o d->Q .non H)/\(¬ lts o d->∀e∈RF a,E (.ref e) none H)
theorem iR(T:Txt K mg a):Fo P w K mg base "need_note_and_gate" 6 (sp_B5 a):=by
 refine T.jh.hg ["gate","day","note"] (gG3 fun x0 x1 x2 fA cdv A outer s H Q E ND HU hr h=>?_);obtain⟨hN,h1⟩:=h;obtain⟨p,rfl,h2⟩:=aE h1;obtain⟨d,rfl,h3⟩:=aW h2;obtain⟨l,rfl,hl,hd,dx,o,hp,k1,k0⟩:=cM h3;have sz:=szl;refine⟨hN,_,(ae (ba (bF (bA (aH (pB T) hr av (fa1 (fv 2))))) (ah (b8 T.rT T.rZ bw)) aI)
  (ah (ba (bF (bA (ci (fv 0) T.eJ (tI T) hr.mono av (fa1 (fv 1))))) (ah (b8 T.Cc T.uA bw)) aI))),?_⟩
 walk_at "r";refine⟨hN,hl,_,_,hp,aQ,hN,hd,dx,o,hp,?_⟩;cases o with
 |none=>exact k1 trivial
 |some m=>
  by_cases h:m<MO d
  ·exact itn (by simp[h]) (k1 h)
  ·exact itp (by simp[h]) ⟨by walk_at "o",(RF.all (k0 h)).1⟩
theorem HH(x y:V):vL (zS "put") [(zS "bookings",x),(zS "undoings",y)]=none:=by rw[aQ (by decide +kernel),aQ (by decide +kernel)];rfl
def Jb(a:Adr)(H H':Hp)(j b u:Addr)(bs:List V)(kvs:List (Key × V))(d nt:V)(vs:List V)(o:V):Prop:=∃q t,H q=none/\H t=none/\H' q=some (.tup [.int bs.length,d,nt,.ref t,o])/\H' t=some (.tup vs)/\JAt a.aX H' j b u (bs++[.ref q]) kvs/\Keep [b,u] H H'/\NoT H'
def sp_Et(a:Adr):Sp:=sp6 fun x y z u v r H Q E=>NoT H/\asR x fun p=>asR y fun g=>asR z fun j=>asI u fun t=>asT v fun nt=>asR r fun q=>nt2 nt/\(0<=t/\t<=146096) /\
 ∃d cs vs rs dx o b u bs kvs,CAt a.aV a.aO H p d cs/\(∀c∈cs,CuV c.cu)/\H q=some (.lst vs)/\A2 (RwAt H) vs rs/\(2<=rs.length/\rs.length<=40)/\(∀r∈rs,rOk r)/\H g=some (cq a.bc dx (cl o))/\JAt a.aX H j b u bs kvs/\bs.length<=100/\kvs.length<=100 /\
 (lts o t/\BkR cs t rs->∀H',Jb a H H' j b u bs kvs (.int t) (L2.T nt) vs .non->Q (.int bs.length) H')/\(¬ (lts o t/\BkR cs t rs)->∀e∈RF a,∀H',Same H H'->NoT H'->E (.ref e) none H')
theorem D2(T:Txt K mg a):Fo P w K mg base "book" 7 (sp_Et a):=by
 refine T.IW.hx ["chart","gate","journal","day","note","rows"] (gX6 fun x0 x1 x2 x3 x4 x5 fA cdv A outer s H Q E ND HU hr h=>?_);obtain⟨hN,h1⟩:=h;obtain⟨p,rfl,h2⟩:=aE h1;obtain⟨g,rfl,h3⟩:=aE h2;obtain⟨j,rfl,h4⟩:=aE h3;obtain⟨t,rfl,h5⟩:=aW h4;obtain⟨nt,rfl,h6⟩:=cM h5;obtain⟨q,rfl,hnt,ht,d,cs,vs,rs,dx,o,b,u,bs,kvs,J,hcu,hq,ha,ln,ho,hg,JJ,l1,l2,k1,k0⟩:=aE h6;have sz:=szl;refine⟨_,(ae (ba (bF (bA (aH (ia T) hr av (fa1 (fv 3))))) (ah (b8 T.gW T.f8 bw)) aI)
  (ae (bt (aH (iR T) hr av (fa3 (fv 1) (fv 3) (fv 4))))
  (ae (bt (aH (tU T) hr av (fa3 (fv 0) (fv 3) (fv 5))))
  (ah (aF (ci (fv 2) T.cK (iV T) hr.mono av (fa4 (fv 3) (fv 4) (fv 5) cY))))))),?_⟩
 walk_at "r";rw[fJ,decide_eq_true ht.1,decide_eq_true ht.2];refine⟨hN,itn (by decide) ⟨hN,hnt,ht,dx,o,hg,fun hl=>?_,fun hl e m=>k0 (fun z=>hl z.1) e m _ (Same.refl _) hN⟩⟩;refine⟨hN,d,cs,vs,rs,J,hcu,hq,ha,ln,ho,fun H1 s1 n1=>⟨fun hb=>?_,fun hb e m=>k0 (fun z=>hb z.2) e m _ s1 n1⟩⟩;have J1:=JJ.keep (S:=[]) (bL s1) zJ zJ zJ;obtain⟨dj,hj⟩:=J1.ob;exact⟨_,_,hj,HH _ _,n1,b,u,bs,kvs,vs,J1,l1,l2,aA (s1 _ _ hq),fun t' q' H' h0 h2 h3 h4 h5 h6 h7=>k1 ⟨hl,hb⟩ H' ⟨q',t',s1.free h3,s1.free h0,h4,h2,h5,fun c z e n=>h6 c z (s1 c z e) n,h7⟩⟩
def sp_Ej(c:Addr):Sp:=sp3 fun x y z H Q E=>NoT H/\asI x fun f=>asI y fun e=>asI z fun n=>(0<=f/\f<=146096)/\1<=e/\(0<=n/\n<=1000)/\∀q,H q=none->Q (.ref q) (upd H q (.lst (((Zw n.toNat).filter fun j:Nat=>decide (MO f+e*j<=4799)).map fun j:Nat=>V.int (lV f (e*j)))))
theorem sK(T:Txt K mg a):Fo P w K mg base "days_from" 6 (sp_Ej a.bN):=by
 refine T.vf.hg ["first","every","times","month"] (gG3 fun x0 x1 x2 fA cdv A outer s H Q E ND HU hr h=>?_);obtain⟨hN,h1⟩:=h;obtain⟨f,rfl,h2⟩:=aW h1;obtain⟨e,rfl,h3⟩:=aW h2;obtain⟨n,rfl,hf,he,hn,k⟩:=aW h3;have sz:=szl;refine⟨hN,_,(ae (aR 3 ND (aH (iW T) hr av (fa1 (fv 0))))
  (ah (aF (b_ rfl (cl:=_) (x:="turn") (xs:=["turn"]) (fr:=["first","every","month"]) (ks:=[0,1,3]) (by walk_at "c") rfl (eF rfl T.eK (fa1 (fv 2))) (fun _ _ _ _ _=>(aK (i:=0) (eC (l:=["turn","first","every","month"]) (by decide)) rfl (Or.inl rfl))) (fun _ _ _ _ _=>(iz (bA (aH (eT T) hr oS (fa1 (au aP (fv 3) (au fg (fv 2) (fv 0)))))))) (fun _ _ _ _ _=>(aH (xh T) hr oS (fa2 (fv 1) (au fg (fv 2) (fv 0))))))))),?_⟩
 walk_at "r";refine⟨hN,hf,?_⟩;obtain⟨m0,m1,m2,m3⟩:=Gx hf.1 hf.2;have ge:∀j:Nat,0<=e*(j:Int):=fun j=>Int.mul_nonneg (by lia) (by lia);refine cmR (fun H'=>NoT H') (fun D ys hD=>aq hN rfl) n.toNat (fun j:Nat=>decide (MO f+e*j<=4799)) (fun j:Nat=>V.int (lV f (e*j))) (fun R r=>?_) (by lia) (fun j hj H' R c r=>?_) (fun j hj pj H' R c r=>?_) (fun D hD=>?_)
 ·walk_at "r"
  rw[show((n.toNat:Nat):Int)=n by lia]at r;exact r
 ·walk_at "r"
  have e1:amg (.int (MO f+e*(j:Int))) 0 4799=decide (MO f+e*(j:Int)<=4799):=by
   have:=ge j;unfold amg;simp only[];rw[decide_eq_true (by lia:(0:Int)<=MO f+e*(j:Int)),Bool.true_and]
  rw[<- e1]at r;exact⟨.inr (by lia),c,r⟩
 ·walk_at "r"
  have pj:=of_decide_eq_true pj;have:=ge j;exact⟨.inr (by lia),c,hf,itp ⟨by lia,pj⟩ r⟩
 ·exact⟨_,Gc.one (aj _ hD) hD af rfl,k D hD⟩
theorem FW{H:Hp}{x:V}{t:String}(ht:cS H x=some t)(h:¬ ∃l,x = .str ⟨⟨l⟩⟩):cn t "str" = false:=by
 unfold cS at ht;split at ht
 case h_4 y=>exact absurd ⟨y.cps.toList,rfl⟩ h
 case h_5=>split at ht <;> cases ht <;> decide
 all_goals (cases ht <;> decide)
structure Od where
 nm:List Nat
 ob:Addr
 ag:Addr
 rt:Addr
 ad:Addr
 f:Int
 e:Int
 n:Int
 nt:V
 rs:List V
 go:Int
noncomputable def dys(f e n:Int):List Int:=((Zw n.toNat).filter fun j:Nat=>decide (MO f+e*j<=4799)).map fun j:Nat=>lV f (e*j)
noncomputable def dN(x y z:V):List (Str × V):=[("agreed",x),("all_days",y),("gone",z)]
theorem Ma(x y z:V):vL (zS "agreed") (dN x y z)=some x:=fY
theorem Kr(x y z:V):vL (zS "all_days") (dN x y z)=some y:=by unfold dN;rw[aQ (by decide +kernel)];exact fY
theorem Ia(x y z:V):vL (zS "gone") (dN x y z)=some z:=by unfold dN;rw[aQ (by decide +kernel),aQ (by decide +kernel)];exact fY
theorem Hi(x y z v:V):cZ (zS "gone") v (dN x y z)=dN x y v:=by
 have q1:¬ (zS "agreed" = zS "gone"):=by decide +kernel
 have q2:¬ (zS "all_days" = zS "gone"):=by decide +kernel
 simp[cZ,dN,q1,q2]
theorem FM(x y z:V):cZ (zS "gone") z (cZ (zS "all_days") y (cZ (zS "agreed") x []))=dN x y z:=by
 have q1:¬ (zS "agreed" = zS "gone"):=by decide +kernel
 have q2:¬ (zS "all_days" = zS "gone"):=by decide +kernel
 have q3:¬ (zS "agreed" = zS "all_days"):=by decide +kernel
 simp[cZ,dN,q1,q2,q3]
structure OgAt(H:Hp)(ag rt:Addr)(f e n:Int)(nt:V)(rs:List V):Prop where
 ag:H ag=some (.tup [.int f,.int e,.int n,nt,.ref rt])
 rt:H rt=some (.tup rs)
structure OAt(O:Addr)(H:Hp)(o:Od):Prop where
 ob:∃dx,H o.ob=some (.ins O dx (dN (.ref o.ag) (.ref o.ad) (.int o.go)))
 ag:OgAt H o.ag o.rt o.f o.e o.n o.nt o.rs
 ad:H o.ad=some (.lst ((dys o.f o.e o.n).map V.int))
theorem br{H:Hp}{p:Addr}{o:HO}(h:H p=none)(n:NoT H)(ho:iU o=true):∃H1,upd H p o=H1/\Same H H1/\H1 p=some o/\NoT H1:=⟨_,rfl,aj _ h,af,aq n ho⟩
def sp_zz(O:Addr):Sp:=sp6 fun x f e n t r H Q E=>NoT H/\asR x fun p=>asI f fun f=>asI e fun e=>asI n fun n=>asR r fun rq=>∃dx rs,H p=some (.ins O dx [])/\(0<=f/\f<=146096)/\1<=e/\(0<=n/\n<=1000)/\H rq=some (.lst rs)/\rs.length<=500 /\
 ∀ag rt ad H',H' p=some (.ins O dx (dN (.ref ag) (.ref ad) (.int 0)))->OgAt H' ag rt f e n t rs->H' ad=some (.lst ((dys f e n).map V.int))->H ag=none->H rt=none->H ad=none->Keep [p] H H'->NoT H'->Q .non H'
theorem gi(T:Txt K mg a):Mo P w K mg base a.az "__init__" 7 (sp_zz a.az):=by
 refine T.gL.hx ["self","first","every","times","note","rows"] (gX6 fun x0 x1 x2 x3 x4 x5 fA cdv A outer s H Q E ND HU hr h=>?_);obtain⟨hN,h1⟩:=h;obtain⟨p,rfl,h2⟩:=aE h1;obtain⟨f,rfl,h3⟩:=aW h2;obtain⟨e,rfl,h4⟩:=aW h3;obtain⟨n,rfl,h5⟩:=aW h4;obtain⟨rq,rfl,dx,rs,hp,hf,he,hn,hrq,lr,k⟩:=aE h5;have sz:=szl;refine⟨_,(ae (cP K (fv 0) (b7 (fa5 (fv 1) (fv 2) (fv 3) (fv 4) (da (ja K) rfl T.ij fW (fa1 (fv 5))))))
  (ae (cP K (fv 0) (aH (sK T) hr av (fa3 (fv 1) (fv 2) (fv 3))))
  (ah (cP K (fv 0) aa)))),?_⟩
 walk_at "r";refine⟨rs,.inl ⟨aA hrq,fun rt frt=>?_⟩⟩;refine bW (br (o:=HO.tup rs) frt hN rfl) fun H1 ee m1 g1 N1=>?_;rw[ee];refine⟨by walk_at "o",fun ag fag=>?_⟩;refine bW (br (o:=HO.tup [V.int f,V.int e,V.int n,x4,V.ref rt]) fag N1 rfl) fun H2 ee m2 g2 N2=>?_;rw[ee];have hp2:=m2 _ _ (m1 _ _ hp);refine⟨_,_,_,hp2,T.bC,T.ez,by decide,aq N2 rfl,hf,he,hn,fun ad fad=>?_⟩;have na:p≠ad:=fun z=>by rw[<- z,af]at fad;cases fad
 have fad2:H2 ad=none:=by rw[ai (Ne.symm na)]at fad;exact fad
 refine⟨_,_,_,(ai na).trans af,T.bC,T.cJ,by show 1<1000;decide,_,_,_,af,T.bC,T.bY,by show 2<1000;decide,?_⟩;rw[FM,ie];have k1:Keep [p] H2 (upd (upd (upd H2 p (HO.ins a.az dx (cZ (zS "agreed") (V.ref ag) []))) ad (HO.lst (List.map (fun j:Nat=>V.int (lV f (e*j))) (List.filter (fun j:Nat=>decide (MO f+e*j<=4799)) (Zw n.toNat))))) p (HO.ins a.az dx (dN (V.ref ag) (V.ref ad) (V.int 0)))):=((Keep.refl.put (.head _)).new fad).put (.head _);have m12:=m1.trans m2;refine k ag rt ad _ af ⟨k1 _ _ g2 (by simpa using aY g2 hp2),k1 _ _ (m2 _ _ g1) (by simpa using aY (m2 _ _ g1) hp2)⟩ ?_ (m1.free fag) frt (m12.free fad2) ((bL m12).trans k1) (aq (aq (aq N2 rfl) rfl) rfl);rw[ai (Ne.symm na),af];unfold dys;rw[wM];rfl
noncomputable def kyO(o:Od):Key × V:=(.inr ⟨⟨o.nm⟩⟩,.ref o.ob)
structure SAt(S O:Addr)(H:Hp)(p d:Addr)(os:List Od):Prop where
 ob:∃dx,H p=some (.ins S dx [("by_name",.ref d)])
 dc:H d=some (.dK (os.map kyO))
 od:∀o∈os,OAt O H o
 np:(os.map (·.nm)).Nodup
 na:(os.map (·.ob)).Nodup
theorem OgAt.keep{X:List Addr}{H H':Hp}{ag rt:Addr}{f e n:Int}{nt:V}{rs:List V}(j:OgAt H ag rt f e n nt rs)(x:Keep X H H')(h:ag∉X/\rt∉X):OgAt H' ag rt f e n nt rs:=⟨x _ _ j.ag h.1,x _ _ j.rt h.2⟩
theorem OAt.keep{X:List Addr}{O:Addr}{H H':Hp}{o:Od}(j:OAt O H o)(x:Keep X H H')(h:o.ob∉X/\o.ag∉X/\o.rt∉X/\o.ad∉X):OAt O H' o:=
 ⟨by obtain⟨dx,e⟩:=j.ob;exact⟨dx,x _ _ e h.1⟩,j.ag.keep x ⟨h.2.1,h.2.2.1⟩,x _ _ j.ad h.2.2.2⟩
theorem SAt.keep{X:List Addr}{S O:Addr}{H H':Hp}{p d:Addr}{os:List Od}(j:SAt S O H p d os)(x:Keep X H H')(hp:p∉X)(hd:d∉X)(ho:∀o∈os,o.ob∉X/\o.ag∉X/\o.rt∉X/\o.ad∉X):SAt S O H' p d os:=
 ⟨by obtain⟨dx,e⟩:=j.ob;exact⟨dx,x _ _ e hp⟩,x _ _ j.dc hd,fun o hm=>(j.od o hm).keep x (ho o hm),j.np,j.na⟩
theorem SAt.same{S O:Addr}{H H':Hp}{p d:Addr}{os:List Od}(j:SAt S O H p d os)(x:Same H H'):SAt S O H' p d os:=
 j.keep (X:=[]) (bL x) zJ zJ fun _ _=>⟨zJ,zJ,zJ,zJ⟩
noncomputable def gT(os:List Od)(l:List Nat):Option Od:=os.find? fun o=>decide (o.nm=l)
theorem iS(l:List Nat):∀os:List Od,cV (os.map kyO) (.inr ⟨⟨l⟩⟩)=(gT os l).map fun o=>.ref o.ob
 | []=>rfl
 |c::r=>by
  have ih:=iS l r;by_cases h:c.nm=l
  ·rw[wV,bU (by show Sum.inr _=Sum.inr _;rw[h])]
   simp[gT,h,kyO]
  ·rw[wV,bO (fun z=>h (by simpa [kyO] using z)),ih]
   simp[gT,h]
theorem pM{os:List Od}{l:List Nat}{o:Od}(h:gT os l=some o):o∈os/\o.nm=l:=
 ⟨List.mem_of_find?_eq_some h,by simpa using List.find?_some h⟩
theorem qX{os:List Od}{l:List Nat}(h:gT os l=none):∀o∈os,o.nm≠l:=fun c hc=>by
 simpa using List.find?_eq_none.mp h c hc
theorem D_{cs:List Od}(hn:(cs.map (·.nm)).Nodup){c:Od}(hc:c∈cs):gT cs c.nm=some c:=by
 cases e:gT cs c.nm with
 |none=>exact absurd rfl (qX e c hc)
 |some c'=>
  obtain⟨h1,h2⟩:=pM e;rw[fK hn h1 hc h2]
noncomputable def jG(os:List Od):V->Option Od
 | .str y=>gT os y.cps.toList
 |_=>none
theorem uU{cs:List Od}{y:V}{c:Od}(h:jG cs y=some c):∃l,y=L2.T l/\gT cs l=some c:=by
 cases y with
 |str z=>exact⟨z.cps.toList,rfl,h⟩
 |_=>cases h
theorem je{cs:List Od}{y:V}{c:Od}(h:jG cs y=some c):c∈cs:=by
 obtain⟨l,rfl,e⟩:=uU h;exact(pM e).1
theorem Aa(x:V):vL (zS "by_name") [(zS "by_name",x)]=some x:=fY
def sp_wF(S O:Addr):Sp:=sp1 fun x H Q _=>NoT H/\asR x fun p=>∃dx,H p=some (.ins S dx [])/\∀d H',H d=none->SAt S O H' p d []->Keep [p] H H'->NoT H'->Q .non H'
theorem i5(T:Txt K mg a):Mo P w K mg base a.aD "__init__" 1 (sp_wF a.aD a.az):=by
 refine T.jF.hx ["self"] (gX1 fun x0 fA cdv A outer s H Q E ND HU hr h=>?_);obtain⟨hN,h1⟩:=h;obtain⟨p,rfl,dx,hp,k⟩:=aE h1;refine⟨_,(ah (cP K (fv 0) kc)),?_⟩;walk_at "r";intro d hd;have np:p≠d:=aL hp hd;refine⟨_,_,_,(ai np).trans hp,T.a9,T.bI,by show 0<1000;decide,?_⟩;refine k d _ hd ⟨⟨dx,?_⟩,?_,(fun _ h=>nomatch h),.nil,.nil⟩ ?_ ?_
 ·rw[af];simp[cZ]
 ·rw[ai (Ne.symm np),af];rfl
 ·exact(Keep.refl.new hd).put (zz.2 rfl)
 ·exact aq (aq hN rfl) rfl
def mn{H:Hp}(E:XK)(no:Addr)(o:Option Od)(k:Od->Prop):Prop:=match o with
 |some c=>k c
 |none=>E (.ref no) none H
def sp_Du(S O no:Addr):Sp:=sp2 fun x y H Q E=>NoT H/\asR x fun p=>asK H y fun _=>∃d os,SAt S O H p d os/\mn (H:=H) E no (jG os y) fun c=>Q (.ref c.ob) H
theorem cx(T:Txt K mg a):Mo P w K mg base a.aD "order" 1 (sp_Du a.aD a.az a.bK):=by
 refine T.mI.hg ["self","name"] (gG2 fun x0 x1 fA cdv A outer s H Q E ND HU hr h=>?_);obtain⟨hN,h1⟩:=h;obtain⟨p,rfl,h2⟩:=aE h1;refine gb (eY h2) fun t ht hb yz=>qm yz fun d os J k=>?_;obtain⟨dx,hp⟩:=J.ob;have one:1<=sizeLine:=by rw[uz];decide
 refine⟨hN,_,(ae (ba (L2.PW.pt (fE (bF (bA (aC (cH K) rfl T.aZ aU (fa2 (fv 1) (cO (v:=.ty "str") rfl T.pF j6 rfl))))) (d6 (dZ (lM (Zz HU) (fv 1) (a8 K (fv 0))) (by with_unfolding_all rfl))))) (ah (b8 T.Ag T.rY bw)) aI)
  (ah (aF (ck (Zz HU) (a8 K (fv 0)) (fv 1) (fun _ _=>rfl))))),?_⟩
 by_cases hx:∃l,x1 = .str ⟨⟨l⟩⟩
 ·obtain⟨l,rfl⟩:=hx
  cases ht;walk_at "r";have g:=DGet.k (k:=.inr ⟨⟨l⟩⟩) J.dc;rw[iS]at g;refine⟨_,_,_,_,hp,T.a9,T.bI,Aa _,d,_,rfl,g,?_⟩;rw[show jG os (.str ⟨⟨l⟩⟩)=gT os l from rfl]at k;cases e:gT os l with
  |none=>rw[e]at k;exact itp rfl ⟨one,k⟩
  |some c=>
   rw[e]at k g;exact itn (by intro z;cases z) ⟨_,_,_,_,hp,T.a9,T.bI,Aa _,d,_,rfl,g,k⟩
 ·have e:=FW ht hx
  have e2:jG os x1=none:=by
   cases x1 with
   |str y=>exact absurd ⟨y.cps.toList,rfl⟩ hx
   |_=>rfl
  rw[e2]at k;walk_at "r";simp only[ht];exact itp e ⟨one,k⟩
theorem Be{os:List Od}{l:List Nat}(h:gT os l=none)(o:Od)(e:o.nm=l):dU (os.map kyO) (.inr ⟨⟨l⟩⟩) (.ref o.ob)=(os++[o]).map kyO:=by
 rw[kl _ (by rw[iS,h];rfl),vH,<- e];rfl
theorem SAt.more{S O:Addr}{H H':Hp}{p d:Addr}{os:List Od}(J:SAt S O H p d os)(kp:Keep [] H H'){o:Od}(hf:gT os o.nm=none)(h0:H o.ob=none)(hc:OAt O H' o) :
 SAt S O (upd H' d (.dK ((os++[o]).map kyO))) p d (os++[o]):=by
 have J1:=J.keep kp zJ zJ fun _ _=>⟨zJ,zJ,zJ,zJ⟩;have dn:=J1.dc;have ku:Keep [d] H' (upd H' d (.dK ((os++[o]).map kyO))):=Keep.refl.put (.head _);have no:∀ {x:Addr} {z:HO},H' x=some z->(∀l,z ≠ .dK l)->x∉[d]:=fun e n m=>aY e dn (fun q=>n _ q) (zz.mp m);have ok:∀z,OAt O H' z->OAt O (upd H' d (.dK ((os++[o]).map kyO))) z:=fun z hz=>by
  obtain⟨dz,e⟩:=hz.ob;exact hz.keep ku ⟨no e (by intro _ z;cases z),no hz.ag.ag (by intro _ z;cases z),no hz.ag.rt (by intro _ z;cases z),no hz.ad (by intro _ z;cases z)⟩
 refine⟨?_,af,fun z hz=>?_,?_,?_⟩
 ·obtain⟨dx,e⟩:=J1.ob
  exact⟨dx,ku _ _ e (no e (by intro _ z;cases z))⟩
 ·rcases tT.mp hz with hz|hz
  ·exact ok z (J1.od z hz)
  ·rw[zz.mp hz];exact ok o hc
 ·rw[vH]
  refine dR J.np fun h=>?_;obtain⟨z,hz,e⟩:=xS.mp h;exact qX hf z hz e
 ·rw[vH]
  refine dR J.na fun h=>?_;obtain⟨z,hz,e⟩:=xS.mp h;obtain⟨dz,eo⟩:=(J.od z hz).ob;rw[e,h0]at eo;cases eo
def sp_HR(a:Adr):Sp:=sp7 fun x y f e n t r H Q _=>NoT H/\asR x fun p=>asT y fun l=>asI f fun f=>asI e fun e=>asI n fun n=>asT t fun nt=>asR r fun q=>nm l=true/\(0<=f/\f<=146096)/\(1<=e/\e<=120)/\(1<=n/\n<=1000)/\nt2 nt /\
 ∃d os vs rs,SAt a.aD a.az H p d os/\os.length<=100/\gT os l=none/\H q=some (.lst vs)/\A2 (RwAt H) vs rs/\(2<=rs.length/\rs.length<=200)/\(∀r∈rs,rOk r) /\
 ∀ob ag rt ad H',H ob=none->SAt a.aD a.az H' p d (os++[⟨l,ob,ag,rt,ad,f,e,n,L2.T nt,vs,0⟩])->H ag=none->H rt=none->H ad=none->Keep [d] H H'->NoT H'->Q .non H'
theorem ny(T:Txt K mg a):Mo P w K mg base a.aD "put" 9 (sp_HR a):=by
 refine T.pX.hx ["self","name","first","every","times","note","rows"] (gX7 fun x0 x1 x2 x3 x4 x5 x6 fA cdv A outer s H Q E ND HU hr h=>?_);obtain⟨hN,h1⟩:=h;obtain⟨p,rfl,h2⟩:=aE h1;obtain⟨l,rfl,h3⟩:=cM h2;obtain⟨f,rfl,h4⟩:=aW h3;obtain⟨e,rfl,h5⟩:=aW h4;obtain⟨n,rfl,h6⟩:=aW h5;obtain⟨nt,rfl,h7⟩:=cM h6;obtain⟨q,rfl,hl,hf,he,hn,hnt,d,os,vs,rs,J,len,ef,hq,ha,lr,ho,k⟩:=aE h7;obtain⟨dx,hp⟩:=J.ob;have sz:=szl;refine⟨_,(ae (ba (bF (bA (aH (jT T) hr av (fa1 (fv 1))))) (ah (b8 T.rH T.rK bw)) aI)
  (ae (ba (bF (bA (aH (ia T) hr av (fa1 (fv 2))))) (ah (b8 T.gW T.f8 bw)) aI)
  (ae (ba (L2.PW.pt (fE (bF (bA (aH (eV T) hr av (fa3 (fv 3) aa aa)))) (d6 (bF (bA (aH (eV T) hr av (fa3 (fv 4) aa aa))))))) (ah (b8 T.yc T.p8 bw)) aI)
  (ae (ba (bF (bA (aH (pB T) hr av (fa1 (fv 5))))) (ah (b8 T.rT T.rZ bw)) aI)
  (ae (bt (aH (lC T) hr av (fa1 (fv 6))))
  (ae (ba (dZ (qg (Zz HU) (fv 1) (a8 K (fv 0))) (by with_unfolding_all rfl)) (ah (b8 T.t_ T.sj bw)) aI)
  (ah (fP (Zz HU) (a8 K (fv 0)) (fv 1) (Bp T.l7 (gi T) hr.mono rfl T.nV av (fa5 (fv 2) (fv 3) (fv 4) (fv 5) (fv 6))) rfl)))))))),?_⟩
 walk_at "r";refine⟨hN,Gi hl,itn (by rw[hl];decide) ⟨hN,?_⟩⟩;rw[fJ,fJ,fJ,decide_eq_true hf.1,decide_eq_true hf.2,decide_eq_true he.1,decide_eq_true he.2,decide_eq_true hn.1,decide_eq_true hn.2];refine itn (by decide) ⟨hN,itn (by decide) ⟨hN,itn (by decide) ⟨hN,hnt,hN,vs,rs,hq,ha,lr,ho,?_⟩⟩⟩;have g:=DGet.k (k:=.inr ⟨⟨l⟩⟩) J.dc;rw[iS,ef]at g;refine⟨_,_,_,_,hp,T.a9,T.bI,Aa _,d,_,rfl,g,itn (by intro z;cases z) ?_⟩;intro x dx hx hdx ne;have lv:=ha.len;have qn:q≠x:=aL hq hx;have qd:q≠dx:=aL hq hdx;refine⟨aq (aq hN rfl) rfl,dx,vs,af,hf,he.1,⟨by lia,hn.2⟩,(ai qn).trans ((ai qd).trans hq),by lia,fun ag rt ad H' h1 h2 h3 fag frt fad kp hN'=>?_⟩;have kp0:=eE hx hdx kp;have J1:=J.keep kp0 zJ zJ fun _ _=>⟨zJ,zJ,zJ,zJ⟩;obtain⟨dx1,hp1⟩:=J1.ob;have smk:(os.map kyO).length<sizeLine:=by rw[zV];lia
 refine⟨_,_,_,_,hp1,T.a9,T.bI,Aa _,d,_,rfl,DPut.k (k:=.inr ⟨⟨l⟩⟩) J1.dc smk,?_⟩;rw[Be ef ⟨l,x,ag,rt,ad,f,e,n,L2.T nt,vs,0⟩ rfl];exact k x ag rt ad _ hx (J.more kp0 (o:=⟨l,x,ag,rt,ad,f,e,n,L2.T nt,vs,0⟩) ef hx ⟨⟨dx,h1⟩,h2,h3⟩) (cU fag) (cU frt) (cU fad) ((kp0.mono (fun _ h=>nomatch h)).put (.head _)) (aq hN' rfl)
theorem jm(x:V):vL (zS "order") [(zS "by_name",x)]=none:=by rw[aQ (by decide +kernel)];rfl
def sp_DR(S O:Addr):Sp:=sp1 fun x H Q _=>NoT H/\asR x fun p=>∃d os,SAt S O H p d os/\os.length<64/\∀out:List (List Nat),out.Perm (os.map (·.nm))->InO out->∀q,H q=none->Q (.ref q) (upd H q (.lst (out.map L2.T)))
theorem gl(T:Txt K mg a):Mo P w K mg base a.aD "names" 1 (sp_DR a.aD a.az):=by
 refine T.mK.hg ["self"] (gG1 fun x0 fA cdv A outer s H Q E ND HU hr h=>?_);obtain⟨hN,h1⟩:=h;obtain⟨p,rfl,d,os,J,h64,k⟩:=aE h1;obtain⟨dx,hp⟩:=J.ob;refine⟨hN,_,(ah (aF (aC (k6 rfl) rfl T.gh eI (fa1 (a8 K (fv 0)))))),?_⟩;walk_at "r";refine⟨_,_,_,_,hp,T.a9,T.bI,Aa _,_,os.map (·.nm),J.dc,by rw[wM,wM];rfl,by rw[zV];exact h64,fun out h1 h2 q hq=>⟨_,Gc.one (aj _ hq) hq af rfl,k out h1 h2 q hq⟩⟩
def sp_C_(S O no:Addr):Sp:=sp2 fun x y H Q E=>NoT H/\asR x fun p=>asK H y fun _=>∃d os,SAt S O H p d os/\mn (H:=H) E no (jG os y) fun c=>Q (.ref c.ag) H
theorem j7(T:Txt K mg a):Mo P w K mg base a.aD "terms" 2 (sp_C_ a.aD a.az a.bK):=by
 refine T.lN.hg ["self","name"] (gG2 fun x0 x1 fA cdv A outer s H Q E ND HU hr h=>?_);obtain⟨hN,h1⟩:=h;obtain⟨p,rfl,h2⟩:=aE h1;refine gb (eY h2) fun t ht hb yz=>qm yz fun d os J k=>?_;obtain⟨dx,hp⟩:=J.ob;refine⟨hN,_,(ah (aF (a8 K (ci (fv 0) T.a9 (cx T) hr.mono av (fa1 (fv 1)))))),?_⟩;walk_at "r";refine⟨_,_,hp,jm _,hN,asK.of ht ⟨d,os,J,?_⟩⟩;cases e:jG os x1 with
 |none=>rw[e]at k;exact⟨H,Gc.none (Same.refl _),k⟩
 |some c=>
  rw[e]at k;obtain⟨dc,ho⟩:=(J.od c (je e)).ob;exact⟨_,_,_,_,ho,T.bC,T.ez,Ma ..,k⟩
def sp_Ea(S O no:Addr):Sp:=sp2 fun x y H Q E=>NoT H/\asR x fun p=>asK H y fun _=>∃d os,SAt S O H p d os/\mn (H:=H) E no (jG os y) fun c=>Q (.int c.go) H
theorem lP(T:Txt K mg a):Mo P w K mg base a.aD "done" 2 (sp_Ea a.aD a.az a.bK):=by
 refine T.nL.hg ["self","name"] (gG2 fun x0 x1 fA cdv A outer s H Q E ND HU hr h=>?_);obtain⟨hN,h1⟩:=h;obtain⟨p,rfl,h2⟩:=aE h1;refine gb (eY h2) fun t ht hb yz=>qm yz fun d os J k=>?_;obtain⟨dx,hp⟩:=J.ob;refine⟨hN,_,(ah (aF (a8 K (ci (fv 0) T.a9 (cx T) hr.mono av (fa1 (fv 1)))))),?_⟩;walk_at "r";refine⟨_,_,hp,jm _,hN,asK.of ht ⟨d,os,J,?_⟩⟩;cases e:jG os x1 with
 |none=>rw[e]at k;exact⟨H,Gc.none (Same.refl _),k⟩
 |some c=>
  rw[e]at k;obtain⟨dc,ho⟩:=(J.od c (je e)).ob;exact⟨_,_,_,_,ho,T.bC,T.bY,Ia ..,k⟩
noncomputable def qr(os:List Od)(l:List Nat)(f:Od->Od):List Od:=os.map fun z=>if z.nm=l then f z else z
theorem o_{β:Type}{os:List Od}{l:List Nat}{f:Od->Od}(g:Od->β)(h:∀z,g (f z)=g z):(qr os l f).map g=os.map g:=by
 unfold qr;rw[wM];apply uW;intro z _;show g (if z.nm=l then f z else z)=g z;split
 ·exact h z
 ·rfl
theorem DW{os:List Od}{l:List Nat}{f:Od->Od}{z:Od}(h:z∈qr os l f):∃y∈os,z=if y.nm=l then f y else y:=by
 obtain⟨y,hy,e⟩:=xS.mp h;exact⟨y,hy,e.symm⟩
noncomputable def stp(i:Int)(z:Od):Od:={ z with go:=i }
theorem SAt.step{S O:Addr}{H:Hp}{p d:Addr}{os:List Od}(J:SAt S O H p d os){u:Od}(hu:u∈os)(i:Int){dx:Addr}(ho:H u.ob=some (.ins O dx (dN (.ref u.ag) (.ref u.ad) (.int u.go)))):SAt S O (upd H u.ob (.ins O dx (dN (.ref u.ag) (.ref u.ad) (.int i)))) p d (qr os u.nm (stp i)):=by
 have ku:Keep [u.ob] H (upd H u.ob (.ins O dx (dN (.ref u.ag) (.ref u.ad) (.int i)))):=Keep.refl.put (.head _);have no:∀ {x:Addr} {z:HO},H x=some z->(∀k e f,z ≠ .ins k e f)->x∉[u.ob]:=fun e n m=>aY e ho (fun q=>n _ _ _ q) (zz.mp m);refine⟨?_,?_,fun z hz=>?_,?_,?_⟩
 ·obtain⟨dp,e⟩:=J.ob
  have:p≠u.ob:=aY e ho (by intro z;injection z with _ _ z;unfold dN at z;cases z);exact⟨dp,(ai this).trans e⟩
 ·rw[o_ (f:=stp i) kyO fun _=>rfl];exact ku _ _ J.dc (no J.dc (by intro _ _ _ z;cases z))
 ·obtain⟨y,hy,e⟩:=DW hz
  obtain⟨dy,hoy⟩:=(J.od y hy).ob;have A:=(J.od y hy).ag;have D:=(J.od y hy).ad;have A':=A.keep ku ⟨no A.ag (by intro _ _ _ z;cases z),no A.rt (by intro _ _ _ z;cases z)⟩;have D':=ku _ _ D (no D (by intro _ _ _ z;cases z));by_cases h:y.nm=u.nm
  ·have:y=u:=fK J.np hy hu h
   subst this;rw[if_pos rfl]at e;subst e;exact⟨⟨dx,af⟩,A',D'⟩
  ·rw[if_neg h]at e
   subst e;have nb:z.ob≠u.ob:=fun q=>h (by rw[fK J.na hy hu q]);exact⟨⟨dy,(ai nb).trans hoy⟩,A',D'⟩
 ·rw[o_ (f:=stp i) _ fun _=>rfl];exact J.np
 ·rw[o_ (f:=stp i) _ fun _=>rfl];exact J.na
def sp_ES(S O no:Addr):Sp:=sp2 fun x y H Q E=>NoT H/\asR x fun p=>asK H y fun _=>∃d os,SAt S O H p d os/\mn (H:=H) E no (jG os y) fun c=>∀H',SAt S O H' p d (qr os c.nm (stp (if ((dys c.f c.e c.n).length:Int)<c.go+1 then ((dys c.f c.e c.n).length:Int) else c.go+1)))->Keep [c.ob] H H'->NoT H'->Q .non H'
theorem l9(T:Txt K mg a):Mo P w K mg base a.aD "step" 2 (sp_ES a.aD a.az a.bK):=by
 refine T.nR.hx ["self","name","order"] (gX2 fun x0 x1 fA cdv A outer s H Q E ND HU hr h=>?_);obtain⟨hN,h1⟩:=h;obtain⟨p,rfl,h2⟩:=aE h1;refine gb (eY h2) fun t ht hb yz=>qm yz fun d os J k=>?_;obtain⟨dx,hp⟩:=J.ob;refine⟨_,(ae (aR 2 ND (ci (fv 0) T.a9 (cx T) hr.mono av (fa1 (fv 1))))
  (ah (cP K (fv 2) (aC (eX rfl) rfl T.iF eZ (fa2 (au aP (a8 K (fv 2)) aa) (aC (cG K) rfl T.eR dv (fa1 (a8 K (fv 2))))))))),?_⟩
 walk_at "r";refine⟨_,_,hp,jm _,hN,asK.of ht ⟨d,os,J,?_⟩⟩;cases e:jG os x1 with
 |none=>rw[e]at k;exact k
 |some c=>
  rw[e]at k;have hc:=je e;obtain⟨dc,ho⟩:=(J.od c hc).ob;refine⟨_,_,_,_,ho,T.bC,T.bY,Ia ..,?_⟩;walk_at "r";refine⟨_,_,_,_,ho,T.bC,T.cJ,Kr ..,_,.inl (aA (J.od c hc).ad),?_⟩;rw[zV];walk_at "r";refine⟨_,_,_,ho,T.bC,T.bY,by show 3<1000;decide,?_⟩;rw[Hi];exact k _ (J.step hc _ ho) (Keep.refl.put (.head _)) (aq hN rfl)
def sp_EK(S O no:Addr):Sp:=sp2 fun x y H Q E=>NoT H/\asR x fun p=>asK H y fun _=>∃d os,SAt S O H p d os/\mn (H:=H) E no (jG os y) fun c=>∀H',SAt S O H' p d (os.filter fun o=>decide (o.nm≠c.nm))->Keep [d] H H'->NoT H'->Q .non H'
theorem lX(T:Txt K mg a):Mo P w K mg base a.aD "drop" 2 (sp_EK a.aD a.az a.bK):=by
 refine T.n6.hx ["self","name"] (gX2 fun x0 x1 fA cdv A outer s H Q E ND HU hr h=>?_);obtain⟨hN,h1⟩:=h;obtain⟨p,rfl,h2⟩:=aE h1;refine gb (eY h2) fun t ht hb yz=>qm yz fun d os J k=>?_;obtain⟨dx,hp⟩:=J.ob;refine⟨_,(ae (bt (ci (fv 0) T.a9 (cx T) hr.mono av (fa1 (fv 1))))
  (ah (bt (v6 (a8 K (fv 0)) (fv 1) ⟨rfl,rfl,rfl,rfl⟩)))),?_⟩
 walk_at "r";refine⟨_,_,hp,jm _,hN,asK.of ht ⟨d,os,J,?_⟩⟩;cases e:jG os x1 with
 |none=>rw[e]at k;exact k
 |some c=>
  rw[e]at k;have hc:=je e;obtain⟨l,rfl,e1⟩:=uU e;refine⟨_,_,_,_,hp,T.a9,T.bI,Aa _,d,rfl,.inl ⟨_,.inl J.dc⟩,_,.inr ⟨⟨l⟩⟩,.ref c.ob,J.dc,rfl,by rw[iS,e1];rfl,?_⟩;have ed:jJ (os.map kyO) (.inr ⟨⟨l⟩⟩)=(os.filter fun o=>decide (o.nm≠c.nm)).map kyO:=by
   unfold jJ;rw[YD,(pM e1).2]
   congr 1
   apply List.filter_congr;intro o _;show decide ((Sum.inr ⟨⟨o.nm⟩⟩:Key)≠Sum.inr ⟨⟨l⟩⟩)=decide (o.nm≠l);exact decide_eq_decide.mpr ⟨fun h z=>h (by rw[z]),fun h z=>h (by cases z;rfl)⟩
  rw[ed];have ku:Keep [d] H (upd H d (.dK ((os.filter fun o=>decide (o.nm≠c.nm)).map kyO))):=Keep.refl.put (.head _);have no:∀ {x:Addr} {z:HO},H x=some z->(∀l,z ≠ .dK l)->x∉[d]:=fun e n m=>aY e J.dc (fun q=>n _ q) (zz.mp m);refine k _ ⟨⟨dx,ku _ _ hp (no hp (by intro _ z;cases z))⟩,af,fun o ho=>?_,J.np.sublist (List.filter_sublist.map _),J.na.sublist (List.filter_sublist.map _)⟩ ku (aq hN rfl);have hz:=J.od o (Z9.mp ho).1;obtain⟨dz,eo⟩:=hz.ob;exact hz.keep ku ⟨no eo (by intro _ z;cases z),no hz.ag.ag (by intro _ z;cases z),no hz.ag.rt (by intro _ z;cases z),no hz.ad (by intro _ z;cases z)⟩
theorem HY{ks:List Nat}{tt:TT}{te:TE}{σ:St}{H1:Hp}{Q:VK}(a:Addr)(xs:List V)(p:V->Bool)(ha:H1 a=some (.lst xs))(hz:xs.length<sizeLine)
 (hp:∀x∈xs,∀G (R:Bool->Hp->Prop),Same H1 G->R (p x) G->tt ([some x]++ks.map fun k=>(σ[k]?).join) G R)
 (he:∀x∈xs,∀G (R:VK),Same H1 G->R x G->te ([some x]++ks.map fun k=>(σ[k]?).join) G R)
 (k:∀D,H1 D=none->Q (.ref D) (upd H1 D (.lst (xs.filter p)))):CEl (Itl K a) 1 (gZ 0) ks tt te σ H1 Q:=by
 refine yi a xs (fun D i ys G=>H1 D=none/\G=upd H1 D (.lst ys)/\ys=(xs.take i).filter p) hz ?_ ?_ ?_ ?_
 ·exact fun D hD=>⟨hD,rfl,rfl⟩
 ·rintro D i ys G ⟨hD,rfl,rfl⟩
  exact⟨af,aA ((aj _ hD) _ _ ha),Zt (Zj _ _) (by rw[Zx];lia)⟩
 ·rintro D i y ys G zs N1 N0 hy ⟨hD,rfl,rfl⟩ hzs n1 n0
  have my:=vW hy;obtain⟨z1,rfl⟩:=ex1 hzs;have et:xs.take (i+1)=xs.take i++[y]:=by rw[Xz,hy];rfl
  rw[et,ZY]at n1 n0;refine⟨⟨[_],rfl,rfl⟩,hp y my _ _ (aj _ hD) ?_⟩;cases e:p y with
  |false=>
   rw[ZM (by simp[e]),Yy,Ze]at n0;exact itn (by decide) (n0 _ ⟨hD,rfl,rfl⟩)
  |true=>
   rw[ZN (by simp[e]),Yy]at n1;exact itp rfl (he y my _ _ (aj _ hD) (n1 _ _ af ⟨hD,by rw[ie],rfl⟩))
 ·rintro D ys G ⟨hD,rfl,rfl⟩
  rw[Zl];exact k D hD
theorem CY(xs:List V)(n:Nat):lm xs (some (n:Int)) none=xs.drop n:=by
 unfold lm;rw[HT.sIx_none,HT.sIx_nat];by_cases h:n<=xs.length
 ·rw[Xh h,ZG (by rw[YK];lia)]
 ·rw[Xs (by lia),List.drop_eq_nil_of_le (xU _),List.drop_eq_nil_of_le (by lia),List.take_nil]
def sp_DH(S O no:Addr):Sp:=sp3 fun x y z H Q E=>NoT H/\asR x fun p=>asI z fun u=>asK H y fun _=>∃d os,SAt S O H p d os/\mn (H:=H) E no (jG os y) fun c=>(0<=c.go/\c.n<=1000)/\∀q,H q=none->Q (.ref q) (upd H q (.lst ((((dys c.f c.e c.n).drop c.go.toNat).filter fun i=>decide (i<=u)).map V.int)))
theorem lJ(T:Txt K mg a):Mo P w K mg base a.aD "days" 2 (sp_DH a.aD a.az a.bK):=by
 refine T.nU.hg ["self","name","until","order"] (gG3 fun x0 x1 x2 fA cdv A outer s H Q E ND HU hr h=>?_);obtain⟨hN,h1⟩:=h;obtain⟨p,rfl,h2⟩:=aE h1;obtain⟨u,rfl,h3⟩:=aW h2;refine gb (eY h3) fun t ht hb yz=>qm yz fun d os J k=>?_;obtain⟨dx,hp⟩:=J.ob;refine⟨hN,_,(ae (aR 3 ND (ci (fv 0) T.a9 (cx T) hr.mono av (fa1 (fv 1))))
  (ah (aF (b_ rfl (cl:=_) (x:="day") (xs:=["day"]) (fr:=["until"]) (ks:=[2]) (by walk_at "c") rfl (bQ K (lA (oQ K) (a8 K (fv 3)) (oa (a8 K (fv 3))) oq)) (fun _ _ _ _ _=>(aK (i:=0) (eC (l:=["day","until"]) (by decide)) rfl (Or.inl rfl))) (fun _ _ _ _ _=>(iz (bg fX (fv 0) (fv 1)))) (fun _ _ _ _ _=>(fv 0)))))),?_⟩
 walk_at "r";refine⟨_,_,hp,jm _,hN,asK.of ht ⟨d,os,J,?_⟩⟩;cases e:jG os x1 with
 |none=>rw[e]at k;exact⟨H,Gc.none (Same.refl _),k⟩
 |some c=>
  rw[e]at k;have hc:=je e;obtain⟨dc,ho⟩:=(J.od c hc).ob;obtain⟨⟨g0,n1⟩,k⟩:=k;have sz:10000<=sizeLine:=by rw[uz];decide
  have ld:(dys c.f c.e c.n).length<=c.n.toNat:=by
   unfold dys;rw[zV];exact Zt (Zj _ _) (by rw[Za];exact xU _)
  dsimp only[mn];refine ql ?_;walk_at "r";refine⟨_,_,_,_,ho,T.bC,T.cJ,Kr ..,_,_,_,_,ho,T.bC,T.bY,Ia ..,_,rfl,c.ad,_,rfl,aA (J.od c hc).ad,fun q fq=>⟨q,rfl,⟨_,aA af⟩,?_⟩⟩;have eg:c.go=((c.go.toNat:Nat):Int):=by lia
  rw[eg,CY];refine HY q _ (fun v=>match v with | .int i=>decide (i<=u)|_=>false) af (by rw[YK,zV];lia) (fun x hx G R m r=>?_) (fun x hx G R m r=>r) (fun D hD=>?_)
  ·obtain⟨i,_,rfl⟩:=xS.mp (List.mem_of_mem_drop hx)
   walk_at "r";exact r
  ·refine⟨_,Gc.one ((aj _ fq).trans (aj _ hD)) ((aj _ fq).free hD) af rfl,?_⟩
   have:=k D ((aj _ fq).free hD);rw[<- List.map_drop,YD];exact this
def sp_at(K:W.Frag):Sp:=sp2 fun x y H Q _=>asR x fun p=>asI y fun k=>∃ns:List Int,SqL K H p (ns.map V.int)/\0<=k/\Q (.int (ns.getD k.toNat 0)) H
theorem bq(T:Txt K mg a):Fo P w K mg base "_law_cell_at" 1 (sp_at K):=by
 refine T.pV.hx ["_law_script","_law_k"] (gX2 fun x0 x1 fA cdv A outer s H Q E ND HU hr h=>?_);obtain⟨p,rfl,h1⟩:=aE h;refine ce (aW h1) fun k yy1 yz=>gb yz fun ns hp k0 q=>?_;subst yy1;refine⟨_,(ae (ba (bg yS (fv 1) (aC (cG K) rfl T.eR dv (fa1 (fv 0)))) (ah (aF (aM K (fv 0) (fv 1)))) aI)
  (ah (aF aa))),?_⟩
 walk_at "r";refine⟨_,.inl hp,?_⟩;rw[zV];by_cases hk:k<ns.length
 ·exact itp hk ⟨_,_,.inl hp,Dc k0 hk,q⟩
 ·have g:ns.getD k.toNat 0=0:=by
   have l:ns.length<=k.toNat:=by lia
   simp[List.getD,l]
  rw[g]at q;exact itn hk q
noncomputable def LET:List Nat:=[97,98,99,100,101,102,103,104,105,106,107,108,109,110,111,112,113,114,115,116,117,118,119,120,121,122]
theorem CV{i:Int}(h0:0<=i)(h1:i<26):atI LET i=some (97+i.toNat):=by
 obtain⟨j,rfl⟩:∃j:Nat,i=j:=⟨i.toNat,by lia⟩;refine aJ ?_;have hb:∀k,k<26->LET[k]? = some (97+k):=by decide
 exact hb j (by lia)
noncomputable def sg(f:Int)(j:Int):Nat:=97+((f+5*j) % 26).toNat
theorem GK(f j:Int):97<=sg f j/\sg f j<=122:=by unfold sg;lia
noncomputable def NB(c k:Int):List Nat:=if c % 3=1 then (Zw (1+k).toNat).map fun j:Nat=>sg (c / 432 % 26) j
 else ((Zw (1+c / 3 % 12).toNat).map fun j:Nat=>sg (c / 432 % 26) j).set (c / 36 % 12 % (1+c / 3 % 12)).toNat (97+((c / 432 % 26+5*(c / 36 % 12 % (1+c / 3 % 12))+1+k) % 26).toNat)
theorem zq{c k:Int}(h0:0<=k)(h1:k<=11):nm (NB c k)=true:=by
 have lie_of:∀l:List Nat,(∀d∈l,97<=d/\d<=122)->lie l 97 122=true:=fun l h=>by
  unfold lie;rw[Zo];intro d hd;simp[h d hd]
 unfold nm NB;split
 ·rw[zV,Za,decide_eq_true (by lia),decide_eq_true (by lia),lie_of _ (fun d hd=>by
   obtain⟨j,_,rfl⟩:=xS.mp hd;exact GK _ _)];rfl
 ·rw[List.length_set,zV,Za,decide_eq_true (by lia),decide_eq_true (by lia),lie_of _ (fun d hd=>by
   rcases List.mem_or_eq_of_mem_set hd with h|h
   ·obtain⟨j,_,rfl⟩:=xS.mp h;exact GK _ _
   ·lia)];rfl
def sp_xS:Sp:=sp2 fun x y H Q _=>NoT H/\asI x fun c=>asI y fun k=>(0<=k/\k<=11)/\Q (.str ⟨⟨NB c k⟩⟩) H
theorem nI(T:Txt K mg a):Fo P w K mg base "_law_name_by" 1 sp_xS:=by
 refine T.pU.hg ["_law_cell","_law_k","_law_letters","_law_first","_law_size","_law_at","_law_signs"] (gG2 fun x0 x1 fA cdv A outer s H Q E ND HU hr h=>?_);obtain⟨hN,h1⟩:=h;obtain⟨c,rfl,h2⟩:=aW h1;refine gb (aW h2) fun k yy1 hk q=>?_;subst yy1;refine⟨hN,_,(ae (aR 2 ND (bv [97,98,99,100,101,102,103,104,105,106,107,108,109,110,111,112,113,114,115,116,117,118,119,120,121,122]))
  (ae (aR 3 ND (au bi (au bB (fv 0) aa) aa))
  (ae (ba (bg (dF K HU) (au bi (fv 0) aa) aa) (ah (aF (df K ZS PySem.F.slot_str_join PySem.F.type_str_join (qi K) (bv []) (fa1 (b_ rfl (cl:=_) (x:="_law_j") (xs:=["_law_j"]) (fr:=["_law_letters","_law_first"]) (ks:=[2,3]) (by walk_at "c") rfl (eF rfl T.eK (fa1 (au aP aa (fv 1)))) (fun _ _ _ _ _=>(aK (i:=0) (eC (l:=["_law_j","_law_letters","_law_first"]) (by decide)) rfl (Or.inl rfl))) (fun _ _ _ _ _=>eO) (fun _ _ _ _ _=>(aM K (fv 1) (au bi (au aP (fv 2) (au fg aa (fv 0))) aa)))))))) aI)
  (ae (aR 4 ND (au aP aa (au bi (au bB (fv 0) aa) aa)))
  (ae (aR 5 ND (au bi (au bi (au bB (fv 0) aa) aa) (fv 4)))
  (ae (v8 (i0:=6) ND rfl (Or.inl rfl) rfl (cl:=_) (x:="_law_j") (xs:=["_law_j"]) (fr:=["_law_letters","_law_first"]) (ks:=[2,3]) (by walk_at "c") rfl (eF rfl T.eK (fa1 (fv 4))) (fun _ _ _ _ _=>(aK (i:=0) (eC (l:=["_law_j","_law_letters","_law_first"]) (by decide)) rfl (Or.inl rfl))) (fun _ _ _ _ _=>eO) (fun _ _ _ _ _=>(aM K (fv 1) (au bi (au aP (fv 2) (au fg aa (fv 0))) aa))))
  (ae (mJ (aM K (fv 2) (au bi (au aP (au aP (au aP (fv 3) (au fg aa (fv 5))) aa) (fv 1)) aa)) (xa (fv 6) (fv 5) pA))
  (ah (aF (df K ZS PySem.F.slot_str_join PySem.F.type_str_join (qi K) (bv []) (fa1 (fv 6)))))))))))),?_⟩
 walk_at "r";have sz:=szl;have el:∀(j:Nat) (H':Hp) (R:VK),R (L2.T [sg (c / 432 % 26) j]) H'->(tOp (gIx K) (Aj 1) (tOp (gIC (fun x j=>0<j) fun i j=>V.int (i % j)) (tOp Ai (Aj 2) (tOp (gIC CMul fun i j=>V.int (i*j)) (tC (V.int 5)) (Aj 0))) (tC (V.int 26))))
  [some (V.int j),some (L2.T LET),some (V.int (c / 432 % 26))] H' R:=fun j H' R r=>by
  unfold LET;walk_at "r";refine⟨by lia,?_⟩;show match atI LET ((c / 432 % 26+5*(j:Int)) % 26) with|some c=>R (L2.T [c]) H'|none=>False
  rw[CV (by lia) (by lia)];exact r
 split
 ·rename_i hc
  refine cmR (fun _=>True) (fun _ _ _=>trivial) (1+k).toNat (fun _=>true) (fun j:Nat=>L2.T [sg (c / 432 % 26) j]) (fun R r=>?_) (by lia) (fun j hj H R _ r=>r) (fun j hj _ H' R _ r=>el j H' R r) (fun D hD=>?_)
  ·walk_at "r"
   rw[show((1+k).toNat:Int)=1+k by lia]at r;exact r
  ·refine vt (Zw (1+k).toNat) (fun j:Nat=>sg (c / 432 % 26) j) (by rw[af,ZW.mpr (by simp)]) (by rw[Za];lia) ⟨H,Gc.none (aj _ hD),?_⟩
   unfold NB at q;rw[if_pos hc]at q;exact q
 ·rename_i hc
  refine⟨by lia,?_⟩;have a0:0<=c / 36 % 12 % (1+c / 3 % 12):=Yn _ (by lia);have a1:c / 36 % 12 % (1+c / 3 % 12)<1+c / 3 % 12:=Yv _ (by lia);unfold NB at q;rw[if_neg hc]at q;generalize c / 36 % 12 % (1+c / 3 % 12)=at_ at a0 a1 q;refine cmR (fun _=>True) (fun _ _ _=>trivial) (1+c / 3 % 12).toNat (fun _=>true) (fun j:Nat=>L2.T [sg (c / 432 % 26) j]) (fun R r=>?_) (by lia) (fun j hj H R _ r=>r) (fun j hj _ H' R _ r=>el j H' R r) (fun D hD=>?_)
  ·walk_at "r"
   rw[show((1+c / 3 % 12).toNat:Int)=1+c / 3 % 12 by lia]at r;exact r
  ·refine⟨by lia,?_⟩
   show match atI LET ((c / 432 % 26+5*at_+1+k) % 26) with|some c_1=>_|none=>False
   rw[CV (by lia) (by lia)];obtain⟨j,rfl⟩:∃j:Nat,at_=j:=⟨at_.toNat,by lia⟩;refine⟨D,_,_,j,rfl,rfl,af,DV (by rw[zV,ZW.mpr (by simp),Za];lia),?_⟩;rw[ie];refine vt ((((Zw (1+c / 3 % 12).toNat).map fun j:Nat=>sg (c / 432 % 26) j)).set j (97+((c / 432 % 26+5*(j:Int)+1+k) % 26).toNat)) (fun x=>x) (by rw[af,ZW.mpr (by simp),List.map_set,wM];rfl) (by rw[List.length_set,zV,Za];lia) ⟨H,Gc.none (aj _ hD),?_⟩;rw[List.map_id'];exact q
theorem o8{ta:TA}{g:TG}{tb:TS}{D:iu}{σ:St}{H:Hp}(h:ta σ H fun vs H1=>∃j:Int,vs=[.int j] /\ -(2 ^ 62)<=j/\j<2 ^ 62/\FE (Itr 0 j.toNat) g tb D σ H1):xM (Bv ta) g tb D σ H:=h
theorem qU{ta:TA}{g:TG}{tb:TS}{D:iu}{σ:St}{H:Hp}(h:ta σ H fun vs H1=>∃i j:Int,vs=[.int i,.int j]/\(-(2 ^ 62)<=i/\i<2 ^ 62 /\ -(2 ^ 62)<=j/\j<2 ^ 62)/\FE (Itr i (j-i).toNat) g tb D σ H1):xM (Di ta) g tb D σ H:=h
def sp_EG:Sp:=sp1 fun x H Q _=>NoT H/\asI x fun m=>Q (.int (lg m)) H
theorem iC(T:Txt K mg a):Fo P w K mg base "_law_long" 1 sp_EG:=by
 refine T.uZ.hg ["_law_month","_law_year"] (gG1 fun x0 fA cdv A outer s H Q E ND HU hr h=>?_);obtain⟨hN,h1⟩:=h;obtain⟨m,rfl,k⟩:=aW h1;have sz:=szl;refine⟨hN,_,(ae (aR 1 ND (au aP aa (au bB (fv 0) aa)))
  (ae (ba (L2.PW.pt (gH (bg (dF K HU) (au bi (fv 0) aa) aa) (eM (L2.PW.pt (fE (bg (dF K HU) (au bi (fv 1) aa) aa) (d6 (L2.PW.pt (gH (bg (dF K HU) (au bi (fv 1) aa) aa) (eM (bg (d9 K HU) (au bi (fv 1) aa) aa)))))))))) (ah (aF aa)) aI)
  (ah (aF (fV (FA.pa (aN aa (aN aa (aN aa (aN aa (aN aa (aN aa (aN aa (aN aa (aN aa (aN aa (aN aa (aN aa cv))))))))))))) (au bi (fv 0) aa) (fun _ _=>rfl)))))),?_⟩
 walk_at "r";have b0:0<=m % 12:=Yn _ (by decide);have b1:m % 12<12:=Yv _ (by decide);have e1:lg m=LG (2000+m / 12) (1+m % 12):=rfl;rw[e1]at k;generalize 2000+m / 12=y at k;generalize m % 12=z at k b0 b1;have fin:¬ (z=1/\((y % 4=0/\y % 100≠0)\/y % 400=0))->NoT H/\12<=sizeLine/\∀(p:Addr),H p=none->gz [V.int 31,V.int 28,V.int 31,V.int 30,V.int 31,V.int 30,V.int 31,V.int 31,V.int 30,V.int 31,V.int 30,V.int 31] H H (fun v H'=>∃G,Gc H G H'/\Q v G) (V.int z):=fun hn=>by
  refine⟨hN,by walk_at "o",fun p hp=>zR (ns:=[31,28,31,30,31,30,31,31,30,31,30,31]) b0 b1 ⟨H,Gc.refl,?_⟩⟩;have e2:List.getD [31,28,31,30,31,30,31,31,30,31,30,31] z.toNat (0:Int)=LG y (1+z):=by
   have hc:z=0\/z=1\/z=2\/z=3\/z=4\/z=5\/z=6\/z=7\/z=8\/z=9\/z=10\/z=11:=by lia
   unfold LG;rcases hc with h|h|h|h|h|h|h|h|h|h|h|h <;> subst h
   all_goals first
    |rfl
    |(rw[if_pos (by decide),if_neg fun w=>hn ⟨rfl,w⟩];rfl)
  rw[e2];exact k
 have leap:z=1->((y % 4=0/\y % 100≠0)\/y % 400=0)->Q (.int 29) H:=fun h1 h2=>by
  subst h1;unfold LG at k;rw[if_pos (by decide),if_pos h2]at k;exact k
 by_cases h1:z=1
 ·refine itp h1 ?_
  by_cases h2:y % 400=0
  ·exact itp h2 (leap h1 (.inr h2))
  refine itn h2 ?_;by_cases h3:y % 4=0
  ·refine itp h3 ?_
   by_cases h4:y % 100=0
   ·exact itp h4 (fin fun w=>w.2.elim (fun v=>v.2 h4) h2)
   ·exact itn h4 (leap h1 (.inl ⟨h3,h4⟩))
  ·exact itn h3 (fin fun w=>w.2.elim (fun v=>h3 v.1) h2)
 ·exact itn h1 (fin fun w=>h1 w.1)
def sp_Ij:Sp:=sp2 fun x y H Q _=>NoT H/\asI x fun m=>asI y fun pl=>(0<=m/\m<=100000)/\Q (.int (dy m pl)) H
theorem dw(T:Txt K mg a):Fo P w K mg base "_law_day" 2 sp_Ij:=by
 refine T.xL.hg ["_law_month","_law_place","_law_years","_law_day_here","_law_other"] (gG2 fun x0 x1 fA cdv A outer s H Q E ND HU hr h=>?_);obtain⟨hN,h1⟩:=h;obtain⟨m,rfl,h2⟩:=aW h1;obtain⟨pl,rfl,hm,k⟩:=aW h2;refine⟨hN,_,(ae (aR 2 ND (au bB (fv 0) aa))
  (ae (aR 3 ND (au aP (au iY (au aP (au fg aa (fv 2)) (au bB (au aP (fv 2) aa) aa)) (au bB (au aP (fv 2) aa) aa)) (au bB (au aP (fv 2) aa) aa)))
  (ae (dE (by passes_own) rfl (mH rfl T.eK (fa2 (au fg aa (fv 2)) (fv 0))) (aK (i:=4) ND rfl (Or.inl rfl)) (ah (aR 3 ND (au aP (fv 3) (aH (iC T) hr av (fa1 (fv 4)))))))
  (ah (aF (au iY (au aP (fv 3) (aC (eX rfl) rfl T.iF eZ (fa2 (fv 1) (aH (iC T) hr av (fa1 (fv 0)))))) aa)))))),?_⟩
 walk_at "r";refine qU ?_;walk_at "r";have b0:0<=m % 12:=Yn _ (by decide);have b1:m % 12<12:=Yv _ (by decide);have e0:12*(m / 12)+m % 12=m:=Int.mul_ediv_add_emod m 12;have ef:365*(m / 12)+(m / 12+3) / 4-(m / 12+99) / 100+(m / 12+399) / 400=FD (12*(m / 12)):=by
  rw[yV (y:=m / 12) (a:=0) (by lia) (by decide) (by decide),if_neg (by decide)];have:S 0=0:=by decide
  rw[this];unfold LD;lia
 rw[ef];refine⟨_,_,⟨rfl,rfl⟩,⟨by lia,by lia,by lia,by lia⟩,?_⟩;refine g8 (lo:=12*(m / 12)) (n:=(m-12*(m / 12)).toNat) (fun i σ' H'=>H'=H/\∃z,σ'=[some (.int m),some (.int pl),some (.int (m / 12)),some (.int (FD (12*(m / 12)+i))),z]) ⟨rfl,none,by rw[Int.natCast_zero,Int.add_zero]⟩ ?_ ?_
 ·rintro i σ' H' hi ⟨rfl,z,rfl⟩
  walk_at "r";refine⟨hN,?_⟩;rw[<- y8,Int.natCast_add,Xl];exact⟨_,rfl,rfl⟩
 ·rintro σ' H' ⟨rfl,z,rfl⟩
  rw[show 12*(m / 12)+(((m-12*(m / 12)).toNat:Nat):Int)=m by lia];walk_at "r";unfold dy at k;exact⟨hN,k⟩
theorem GC{p:Int->Bool}:∀ {l:List Int} {i:Nat} {d:Int},l[i]? = some d->(∀x∈l.take i,p x=true)->p d=false->l.takeWhile p=l.take i
 | [],i,d,h,_,_=>by simp at h
 |a::r,0,d,h,_,hd=>by
  cases h;rw[List.takeWhile_cons_of_neg (by rw[hd];decide)];rfl
 |a::r,i+1,d,h,hx,hd=>by
  rw[Xw (hx a (by simp)),List.take_succ_cons,GC (by simpa using h) (fun x m=>hx x (by rw[List.take_succ_cons];exact .tail _ m)) hd]
theorem A3{p:Int->Bool}:∀ {l:List Int},(∀x∈l,p x=true)->l.takeWhile p=l
 | [],_=>rfl
 |a::r,h=>by rw[Xw (h a (by simp)),A3 fun x m=>h x (.tail _ m)]
def PrA(H:Hp)(v:V)(d:Int):Prop:=∃p,v = .ref p/\H p=some (.tup [.int d,.int (MO d)])
noncomputable def dl(m pl e:Int)(g N:Nat):List Int:=((Zw N).map fun j:Nat=>dy (m+j*e) pl).drop g
theorem nnB{b n:Int}(b0:0<=b)(n0:0<=n)(n1:n<=1000):min n.toNat b.toNat=(if b<n then b else n).toNat/\(if b<n then b else n)<=b/\0<=(if b<n then b else n)/\(if b<n then b else n)<=1000:=by split <;> lia
def sp_Fv:Sp:=sp2 fun x y H Q _=>NoT H/\asR x fun q=>asI y fun u=>∃m pl e n g:Int,∃tl,H q=some (.lst ([.int m,.int pl,.int e,.int n,.int g]++tl))/\(0<=m/\m<=4799)/\1<=pl/\(1<=e/\e<=120)/\(0<=n/\n<=1000)/\(0<=g/\g<=1000) /\
 ∀r vs H',Same H H'->NoT H'->H r=none->H' r=some (.lst vs)->A2 (PrA H') vs ((dl m pl e g.toNat (NN m e n)).takeWhile fun i=>decide (i<=u))->Q (.ref r) H'
theorem tZ(T:Txt K mg a):Fo P w K mg base "_law_left" 3 sp_Fv:=by
 refine T.vy.hx nh (gX2 fun x0 x1 fA cdv A outer s H Q E ND HU hr h=>?_);obtain⟨hN,h1⟩:=h;obtain⟨q,rfl,h2⟩:=aE h1;obtain⟨u,rfl,m,pl,e,n,g,tl,hq,hm,p0,he,hn,hg,k⟩:=aW h2;have sz:=szl
 skip
 have c2:∃uu,PSs (cp (XE P w) P w K mg base nh "_law_left" (ay (top 80)) fA cdv A outer s H E) (ZU 2 (bh (top 80))) uu/\∀r H1,Same H H1->NoT H1->H r=none->H1 r=some (.lst []) ->
  uu { nx:=fun _ H'=>Q .non H',rt:=Q } [some (.ref q),some (.int u),some (.int m),some (.int pl),some (.int e),some (.int n),some (.int g),some (.ref r),none,none] H1:=by
  refine⟨_,(ae (dE (by passes_own) rfl (mH rfl T.eK (fa2 (fv 6) (aC (eX rfl) rfl T.iF eZ (fa2 (fv 5) (au aP (au bB (au iY aa (fv 2)) (fv 4)) aa))))) (aK (i:=8) ND rfl (Or.inl rfl)) (ae (aR 9 ND (aH (dw T) hr av (fa2 (au aP (fv 2) (au fg (fv 8) (fv 4))) (fv 3))))
   (ae (ba (bg rR (fv 9) (fv 1)) (ah (aF (fv 7))) aI)
   (ah (bt (df K Zk ZP ZQ dX (fv 7) (fa1 (b7 (fa2 (fv 9) (au aP (fv 2) (au fg (fv 8) (fv 4))))))))))))
   (ah (aF (fv 7)))),fun r H1 m1 N1 fr g1=>?_⟩
  walk_at "r";refine qU ?_;walk_at "r";have q0:0<=(4799-m) / e:=Int.ediv_nonneg (by lia) (by lia);have q1:(4799-m) / e<=4799-m:=Int.ediv_le_self _ (by lia);generalize hB:(4799-m) / e+1=B at q0 q1;generalize hj:(if B<n then B else n)=j;have hN':NN m e n=j.toNat/\j<=B/\0<=j/\j<=1000:=by
   unfold NN;rw[hB,<- hj];exact nnB (by lia) hn.1 hn.2
  refine⟨by lia,_,_,⟨rfl,rfl⟩,⟨by lia,by lia,by lia,by lia⟩,?_⟩;have ll:(dl m pl e g.toNat (NN m e n)).length=(j-g).toNat:=by
   unfold dl;rw[YK,zV,Za];lia
  generalize hL:dl m pl e g.toNat (NN m e n)=L at k ll;refine g8 (lo:=g) (n:=(j-g).toNat) (fun i σ' G=>∃vs x8 x9,Same H G/\NoT G/\G r=some (.lst vs)/\A2 (PrA G) vs (L.take i)/\(∀d∈L.take i,d<=u)/\σ'=[some (.ref q),some (.int u),some (.int m),some (.int pl),some (.int e),some (.int n),some (.int g),some (.ref r),x8,x9]) ⟨[],none,none,m1,N1,g1,.nil,(fun _ h=>nomatch h),rfl⟩ ?_ ?_
  ·rintro i σ' G hi ⟨vs,x8,x9,mG,NG,gr,A,hu,rfl⟩
   have hd:L[i]? = some (dy (m+(g+i)*e) pl):=by
    rw[<- hL];unfold dl;rw[List.getElem?_drop,List.getElem?_map,List.getElem?_range (by lia)];show some (dy (m+((g.toNat+i:Nat):Int)*e) pl)=_;rw[show((g.toNat+i:Nat):Int)=g+i by lia]
   have b0:0<=(g+i)*e:=Int.mul_nonneg (by lia) (by lia);have b1:(g+i)*e<=4799-m:=(Yl (by lia)).mp (by lia);have tk:L.take (i+1)=L.take i++[dy (m+(g+i)*e) pl]:=by rw[Xz,hd];rfl
   have lv:=A.len;rw[Zx]at lv;walk_at "r";refine⟨.inr (by lia),NG,by lia,?_⟩;have em:m+(g + ↑i)*e=MO (dy (m+(g + ↑i)*e) pl):=(Ko p0).symm;generalize dy (m+(g + ↑i)*e) pl=dd at hd tk em;rw[em];by_cases h1:u<dd
   ·refine itp h1 (k r vs G mG NG fr gr ?_)
    rw[GC hd (fun x hx=>by simpa using hu x hx) (by simpa using h1)];exact A
   ·refine itn h1 ⟨.inl ⟨_,aA gr⟩,.inr (by lia),by walk_at "o",fun p fp=>⟨r,vs,_,rfl,rfl,(aj _ fp) _ _ gr,by lia,?_⟩⟩
    have np:p≠r:=fun z=>by rw[z,gr]at fp;cases fp
    refine⟨_,_,_,cX (mG.trans (aj _ fp)) fr,aq (aq NG rfl) rfl,af,?_,?_,rfl,rfl⟩
    ·rw[tk]
     refine(A.imp fun v d _ _ h=>?_).snoc ⟨p,rfl,(ai np).trans af⟩;obtain⟨p',rfl,e'⟩:=h;have n':p'≠r:=fun z=>by rw[z,gr]at e';cases e'
     exact⟨p',rfl,(ai n').trans ((aj _ fp) _ _ e')⟩
    ·rw[tk]
     intro d hd';rcases tT.mp hd' with z|z
     ·exact hu d z
     ·rw[zz.mp z];lia
  ·rintro σ' G ⟨vs,x8,x9,mG,NG,gr,A,hu,rfl⟩
   rw[<- ll,Zl]at A hu;walk_at "r";refine k r vs G mG NG fr gr ?_;rw[A3 fun x hx=>by simpa using hu x hx];exact A
 obtain⟨u2,hu2,c2⟩:=c2;refine⟨_,(ae (mJ (lA (oQ K) (fv 0) oq (oa aa)) (yE K (n:=5) rfl (a_ (aK (i:=2) ND rfl (Or.inl rfl)) (a_ (aK (i:=3) ND rfl (Or.inl rfl)) (a_ (aK (i:=4) ND rfl (Or.inl rfl)) (a_ (aK (i:=5) ND rfl (Or.inl rfl)) (a_ (aK (i:=6) ND rfl (Or.inl rfl)) eL)))))))
  (ae (aR 7 ND (cj (FA.pa cv)))
  hu2)),?_⟩
 walk_at "r";refine⟨q,_,rfl,aA hq,fun p1 f1=>?_⟩;rw[F0 _ (by decide)];refine bW (br (o:=HO.lst (List.take (Yc 5) ([V.int m,V.int pl,V.int e,V.int n,V.int g]++tl))) f1 hN rfl) fun H1 ee m1 g1 N1=>?_;rw[ee];refine⟨p1,[V.int m,V.int pl,V.int e,V.int n,V.int g],rfl,aA g1,rfl,_,_,rfl,_,_,rfl,_,_,rfl,_,_,rfl,_,_,rfl,rfl,Zv _,fun r fr=>?_⟩;exact c2 r _ (m1.trans (aj _ fr)) (aq N1 rfl) (m1.free fr) af
theorem wm(x y:V):vL (zS "every") [(zS "bookings",x),(zS "undoings",y)]=none:=by rw[aQ (by decide +kernel),aQ (by decide +kernel)];rfl
def sp_wC:Sp:=sp1 fun x H Q _=>NoT H/\asR x fun p=>∃vs bs,H p=some (.lst vs)/\A2 (BkAt H) vs bs/\bs.length<=100/\(∀b∈bs,b.rs.length<=4)/\∀r ws H',H r=none->H' r=some (.lst ws)->A2 (RwAt H') ws (bs.flatMap (·.rs))->Same H H'->NoT H'->Q (.ref r) H'
theorem uB:∀ {bs:List Bk},(∀b∈bs,b.rs.length<=4)->(bs.flatMap (·.rs)).length<=4*bs.length
 | [],_=>xU _
 |b::r,h=>by
  have ih:=uB (bs:=r) fun x m=>h x (.tail _ m);have hb:=h b (.head _);rw[YV,vx,sq];lia
theorem xZ(T:Txt K mg a):Fo P w K mg base "rows_of" 1 sp_wC:=by
 refine T.Al.hx ["bookings","rows","booking"] (gX1 fun x0 fA cdv A outer s H Q E ND HU hr h=>?_);obtain⟨hN,h1⟩:=h;refine ce (aE h1) fun p yy1 yz=>Cf yz fun vs bs hp ha len ok k=>?_;subst yy1;have sz:=szl;refine⟨_,(ae (aR 1 ND (cj (FA.pa cv)))
  (ae (dE (by passes_own) rfl (bQ K (fv 0)) (aK (i:=2) ND rfl (Or.inl rfl)) (ah (bt (df K Zk PySem.F.slot_list_extend PySem.F.type_list_extend Fw (fv 1) (fa1 (aM K (fv 2) aa))))))
  (ah (aF (fv 1))))),?_⟩
 walk_at "r";refine⟨Zv _,fun r hr=>dJ ?_⟩;walk_at "r";refine dL (aA ((aj _ hr) _ _ hp)) (dH (fun i σ' H'=>Same H H'/\NoT H'/\∃ws x2,H' r=some (.lst ws)/\A2 (RwAt H') ws ((bs.take i).flatMap (·.rs))/\σ'=[some (.ref p),some (.ref r),x2]) ⟨aj _ hr,aq hN rfl,[],none,af,.nil,rfl⟩ (fun i σ' H' _ h=>aA (h.1 _ _ hp)) ?_ ?_)
 ·rintro i x σ' H' hx ⟨sm,nT,ws,x2,hr',aw,rfl⟩
  refine ce (ha.at_ hx) fun b hb yz=>GV yz fun q u us nt un yy1 e1 e2 ar=>?_;subst yy1;have e1':=sm _ _ e1;have e2':=sm _ _ e2;have lw:=aw.len;have lf:=uB (bs:=bs.take i) fun x m=>ok x (Xx m);rw[Zx]at lf;have lb:=ok b (vW hb);have lu:=ar.len;walk_at "r";refine⟨.inl ⟨_,aA hr'⟩,_,_,.inr (bR e1'),aJ (j:=3) rfl,r,u,ws,us,rfl,rfl,hr',e2',by rw[uz];lia,cX sm hr,aq nT rfl,_,_,af,?_,rfl⟩;have kp:Keep [r] H' (upd H' r (.lst (ws++us))):=Keep.refl.put (.head _);rw[bE hb,Xn,YV,List.flatMap_nil,Ze];exact(gU kp (LW.one hr') aw).app (gU kp (LW.one hr') (bD sm ar))
 ·rintro σ' H' ⟨sm,nT,ws,x2,hr',aw,rfl⟩
  rw[ha.len,Zl]at aw;walk_at "r";exact k r ws H' hr hr' aw sm nT
def sp_Cq(J:Addr):Sp:=sp2 fun x y H Q _=>NoT H/\asR x fun j=>asI y fun t=>∃b u vs kvs bs,JAt J H j b u vs kvs/\A2 (BkAt H) vs bs/\bs.length<=100/\∀r ws H',H r=none->H' r=some (.lst ws)->A2 (BkAt H') ws (bs.filter fun b=>decide (b.d<=t))->Same H H'->NoT H'->Q (.ref r) H'
theorem gA(T:Txt K mg a):Fo P w K mg base "bookings_up_to" 2 (sp_Cq a.aX):=by
 refine T.lI.hx ["journal","day"] (gX2 fun x0 x1 fA cdv A outer s H Q E ND HU hr h=>?_);obtain⟨hN,h1⟩:=h;obtain⟨j,rfl,h2⟩:=aE h1;refine ce (aW h2) fun t yy1 yz=>GV yz fun b u vs kvs bs JJ hv len k=>?_;subst yy1;have sz:=szl;refine⟨_,(ah (aF (b_ rfl (cl:=_) (x:="booking") (xs:=["booking"]) (fr:=["day"]) (ks:=[1]) (by walk_at "c") rfl (bQ K (tM (fv 0) T.cK (gX T) hr.mono av)) (fun _ _ _ _ _=>(aK (i:=0) (eC (l:=["booking","day"]) (by decide)) rfl (Or.inl rfl))) (fun _ _ _ _ _=>(iz (bg fX (aM K (fv 0) aa) (fv 1)))) (fun _ _ _ _ _=>(fv 0))))),?_⟩;obtain⟨dj,hj⟩:=JJ.ob;walk_at "r";refine ql ?_;walk_at "r";refine⟨_,_,hj,wm _ _,hN,b,u,vs,kvs,JJ,fun l hl=>?_⟩;have sl:=aj (HO.lst vs) hl;have lv:=hv.len;refine⟨⟨_,aA af⟩,yi l vs (fun D i ys G=>Same (upd H l (.lst vs)) G/\NoT G/\G D=some (.lst ys)/\upd H l (.lst vs) D=none/\A2 (BkAt G) ys ((bs.take i).filter fun b=>decide (b.d<=t))) (by rw[uz];lia) (fun D hD=>⟨aj _ hD,aq (aq hN rfl) rfl,af,hD,.nil⟩) (fun D i ys G h=>⟨h.2.2.1,aA (h.1 _ _ af),?_⟩) ?_ ?_⟩
 ·rw[h.2.2.2.2.len]
  exact Zt (Zj _ _) (by rw[Zx];lia)
 ·rintro D i y ys G zs N1 N0 hy ⟨sG,nG,hD,fD,aG⟩ hz n1 n0
  obtain⟨bb,hb1,hb2⟩:=hv.at_ hy;have hb3:=hb2.keep (W:=[]) (bL (sl.trans sG)) LW.nil;refine GV (id hb3) fun qb tb vb nt un yy1 e1 e2 rw_=>?_;subst yy1;obtain⟨z1,rfl⟩:=ex1 hz;walk_at "r";refine⟨⟨[some (.ref qb)],rfl,rfl⟩,_,_,.inr (bR e1),aJ (j:=1) rfl,?_⟩;walk_at "r";rw[bE hb1,ZY]at n1 n0;by_cases h:bb.d<=t
  ·rw[ZN (by simpa using h)]at n1
   have kp:Keep [D] G (upd G D (.lst (ys++[.ref qb]))):=Keep.refl.put (.head _);exact itp h (n1 _ _ hD ⟨cX sG fD,aq nG rfl,af,fD,(uX kp (LW.one hD) aG).snoc (hb3.keep kp (LW.one hD))⟩)
  ·rw[ZM (by simpa using h),Yy,Ze]at n0
   exact itn h (n0 _ ⟨sG,nG,hD,fD,aG⟩)
 ·rintro D ys G ⟨sG,nG,hD,fD,aG⟩
  rw[lv,Zl]at aG;exact k D ys G (sl.free fD) hD aG (sl.trans sG) nG
def sp_HC(J:Addr):Sp:=sp3 fun _ y z H Q _=>NoT H/\asR y fun j=>asI z fun t=>∃b u vs kvs bs,JAt J H j b u vs kvs/\A2 (BkAt H) vs bs/\bs.length<=100/\(∀b∈bs,b.rs.length<=4)/\(dk (rsd t bs)).length<64/\KM H Q (rsd t bs)
theorem wy(T:Txt K mg a):Fo P w K mg base "balances" 3 (sp_HC a.aX):=by
 refine T.xi.hx ["chart","journal","day"] (gX3 fun x0 x1 x2 fA cdv A outer s H Q E ND HU hr h=>?_);obtain⟨hN,h1⟩:=h;obtain⟨j,rfl,h2⟩:=aE h1;obtain⟨t,rfl,b,u,vs,kvs,bs,JJ,hv,len,ok,l64,k⟩:=aW h2;refine⟨_,(ah (aF (aH (pz T) hr av (fa1 (aH (xZ T) hr av (fa1 (aH (gA T) hr av (fa2 (fv 1) (fv 2))))))))),?_⟩;walk_at "r";refine⟨hN,b,u,vs,kvs,bs,JJ,hv,len,fun r ws H1 fr hr aw s1 N1=>?_⟩;walk_at "r";refine⟨N1,ws,_,hr,aw,Zt (Zj _ _) len,fun x m=>ok x (Z9.mp m).1,fun r2 ws2 H2 fr2 hr2 aw2 s2 N2=>?_⟩;walk_at "r";rw[p5]at aw2;have lr:=oV (t:=t) ok;exact⟨N2,ws2,_,hr2,aw2,by lia,l64,fun out r3 ws3 H3 po oo f3 h3 a3 s3 N3=>k out r3 ws3 H3 po oo ((s1.trans s2).free f3) h3 a3 ((s1.trans s2).trans s3) N3⟩
def SeAt(H:Hp)(t:Addr)(m n:Int)(rs:List Row):Prop:=∃tr ws,H t=some (.tup [.int m,.int n,.ref tr])/\H tr=some (.tup ws)/\A2 (RwAt H) ws rs
theorem SeAt.same{H H':Hp}{t:Addr}{m n:Int}{rs:List Row}(h:SeAt H t m n rs)(s:Same H H'):SeAt H' t m n rs:=by
 obtain⟨tr,ws,e1,e2,e3⟩:=h;exact⟨tr,ws,s _ _ e1,s _ _ e2,bD s e3⟩
noncomputable def mny(t:Int)(bs:List Bk):Int:=((bs.filter fun b=>decide (b.d<=t)).length:Nat)
structure JB(J:Addr)(H:Hp)(j b u:Addr)(vs:List V)(kvs:List (Key × V))(bs:List Bk)(t:Int):Prop where
 jo:JAt J H j b u vs kvs
 bk:A2 (BkAt H) vs bs
 l1:bs.length<=100
 l2:∀b∈bs,b.rs.length<=4
 l3:(dk (rsd t bs)).length<64
theorem JB.same{J:Addr}{H H':Hp}{j b u:Addr}{vs:List V}{kvs:List (Key × V)}{bs:List Bk}{x:Int}(h:JB J H j b u vs kvs bs x)(s:Same H H'):JB J H' j b u vs kvs bs x:=
 { h with jo:=h.jo.keep (S:=[]) (bL s) zJ zJ zJ,bk:=BS s h.bk }
def Gu(H:Hp)(Q:VK)(m:Int)(bs:List Bk):Prop:=∀out t H',out.Perm ((dk (rsd (FD (m+1)-1) bs)).map (·.1))->vh out->H t=none->SeAt H' t m (mny (FD (m+1)-1) bs) (res (rsd (FD (m+1)-1) bs) out)->Same H H'->NoT H'->Q (.ref t) H'
def sp_D7(J:Addr):Sp:=sp3 fun _ y z H Q _=>NoT H/\asR y fun j=>asI z fun m=>(0<=m/\m<=4799)/\∃b u vs kvs bs,JB J H j b u vs kvs bs (FD (m+1)-1)/\Gu H Q m bs
theorem yx(T:Txt K mg a):Fo P w K mg base "seal" 4 (sp_D7 a.aX):=by
 refine T.G0.hx ["chart","journal","month","day"] (gX3 fun x0 x1 x2 fA cdv A outer s H Q E ND HU hr h=>?_);obtain⟨hN,h1⟩:=h;obtain⟨j,rfl,h2⟩:=aE h1;obtain⟨m,rfl,hm,b,u,vs,kvs,bs,JJ,k⟩:=aW h2;have sz:=szl;refine⟨_,(ae (ba (bF (bA (aH (eT T) hr av (fa1 (fv 2))))) (ah (b8 T.px T.pC bw)) aI)
  (ae (aR 3 ND (aH (i9 T) hr av (fa1 (fv 2))))
  (ah (aF (b7 (fa3 (fv 2) (aC (cG K) rfl T.eR dv (fa1 (aH (gA T) hr av (fa2 (fv 1) (fv 3))))) (da (ja K) rfl T.ij fW (fa1 (aH (wy T) hr av (fa3 (fv 0) (fv 1) (fv 3))))))))))),?_⟩
 walk_at "r";rw[fJ,decide_eq_true hm.1,decide_eq_true hm.2];refine⟨hN,itn (by decide) ?_⟩;walk_at "r";refine⟨hN,hN,b,u,vs,kvs,bs,JJ.jo,JJ.bk,JJ.l1,fun r ws H1 hr hr1 aw s1 N1=>?_⟩;have J1:=JJ.same s1;refine⟨ws,.inl (aA hr1),N1,b,u,vs,kvs,bs,J1.jo,J1.bk,JJ.l1,JJ.l2,JJ.l3,?_⟩;intro out r2 ws2 H2 po oo hr2 hr3 a2 s2 N2;walk_at "r";refine⟨ws2,.inl ⟨aA hr3,fun t ht=>⟨by walk_at "o",fun p hp=>?_⟩⟩⟩;have s3:=aj (HO.tup ws2) ht;have s4:=s3.trans (aj (HO.tup [V.int m,V.int (ws.length:Nat),V.ref t]) hp);have em:((ws.length:Nat):Int)=mny (FD (m+1)-1) bs:=by rw[aw.len];rfl
 refine k out p _ po oo ((s1.trans (s2.trans s3)).free hp) ⟨t,ws2,by rw[af,em],(aj _ hp) _ _ af,bD s4 a2⟩ ((s1.trans s2).trans s4) (aq (aq N2 rfl) rfl)
theorem EL(l m:List Nat):((⟨⟨l⟩⟩:Str)==⟨⟨m⟩⟩)=(l==m):=by
 rw[YZ,beq_iff_eq,beq_iff_eq];exact⟨fun h=>by injection h with h;injection h,fun h=>by rw[h]⟩
theorem oj{H:Hp}{n:Nat}{i j:Int}:EqH K H n (.int i) (.int j) (i==j):=EqH.flat (x:=.int i) (y:=.int j) rfl rfl
theorem sV{H:Hp}{n:Nat}{l m:List Nat}:EqH K H n (L2.T l) (L2.T m) (l==m):=by
 have:=EqH.flat (K:=K) (H:=H) (n:=n) (x:=L2.T l) (y:=L2.T m) rfl rfl
 rwa [show eqV (L2.T l) (L2.T m)=(l==m) by unfold eqV;exact EL l m]at this
noncomputable def rwB(r r':Row):Bool:=r.pa==r'.pa&&(r.cu==r'.cu&&r.am==r'.am)
theorem vN(r:Row):rwB r r=true:=by unfold rwB;rw[beq_self_eq_true,beq_self_eq_true,beq_self_eq_true];rfl
noncomputable def AM(xs ys:List Row):Bool:=(Zw (min xs.length ys.length)).all (fun j=>(xs[j]?).any fun x=>(ys[j]?).any fun y=>rwB x y)&&xs.length==ys.length
theorem mO(xs:List Row):AM xs xs=true:=by
 unfold AM;rw[beq_self_eq_true,Bool.and_true,Zo];intro j m;have hj:j<xs.length:=by rw[Nat.min_self]at m;exact List.mem_range.mp m
 rw[List.getElem?_eq_getElem hj];exact vN _
theorem zd{H:Hp}{v:V}{r r':Row}(h:RwAt H v r)(h':RwAt H v r'):r=r':=by
 obtain⟨q,rfl,e⟩:=h;obtain⟨q',e',e2⟩:=h';cases e';rw[e]at e2;cases r;cases r';simp at e2;simp[e2]
theorem B8{H:Hp}{xs:List V}{rs rs':List Row}(h:A2 (RwAt H) xs rs):A2 (RwAt H) xs rs'->rs=rs':=by
 induction h generalizing rs' with
 |nil=>intro h';cases h';rfl
 |cons e _ ih=>intro h';cases h' with|cons e' t=>rw[zd e e',ih t]
theorem Ix{H:Hp}{n:Nat}{v v':V}{r r':Row}(h:RwAt H v r)(h':RwAt H v' r'):EqH K H (n+1) v v' (rwB r r'):=by
 obtain⟨q,rfl,e1⟩:=id h;obtain⟨q',rfl,e2⟩:=id h';by_cases hq:q=q'
 ·subst hq;rw[zd h h',vN];exact .same
 ·have:=EqH.tup (K:=K) (H:=H) (n:=n) (e:=fun j=>[r.pa==r'.pa,r.cu==r'.cu,r.am==r'.am].getD j false) hq (bR e1) (bR e2) fun j x y gx gy=>by
   match j,gx with
   |0,gx=>cases gx;cases gy;exact sV
   |1,gx=>cases gx;cases gy;exact sV
   |2,gx=>cases gx;cases gy;exact oj
   |j+3,gx=>simp at gx
  have e:((r.pa==r'.pa&&(r.cu==r'.cu&&(r.am==r'.am&&true)))&&true)=rwB r r':=by rw[Bool.and_true,Bool.and_true];rfl
  exact e ▸ this
theorem yw{H:Hp}{n:Nat}{p q:Addr}{xs ys:List V}{rs rs':List Row}(hp:H p=some (.tup xs))(hq:H q=some (.tup ys))(h:A2 (RwAt H) xs rs)(h':A2 (RwAt H) ys rs'):EqH K H (n+2) (.ref p) (.ref q) (AM rs rs'):=by
 by_cases e:p=q
 ·subst e
  rw[hp]at hq;cases hq;rw[B8 h h',mO];exact .same
 ·have:=EqH.tup (K:=K) (H:=H) (n:=n+1) (e:=fun j=>(rs[j]?).any fun x=>(rs'[j]?).any fun y=>rwB x y) e (bR hp) (bR hq) fun j x y gx gy=>by
   obtain⟨r,g1,r1⟩:=h.at_ gx;obtain⟨r',g2,r2⟩:=h'.at_ gy;rw[g1,g2];exact Ix r1 r2
  rw[h.len,h'.len]at this;exact this
noncomputable def seB(m n:Int)(rs:List Row)(m' n':Int)(rs':List Row):Bool:=m==m'&&(n==n'&&AM rs rs')
theorem Bd(m n:Int)(rs:List Row):seB m n rs m n rs=true:=by unfold seB;rw[mO,beq_self_eq_true,beq_self_eq_true];rfl
theorem Lf{H:Hp}{p q:Addr}{m n m' n':Int}{rs rs':List Row}(h:SeAt H p m n rs)(h':SeAt H q m' n' rs'):EqR K H p q (seB m n rs m' n' rs'):=by
 obtain⟨tr,ws,e1,e2,e3⟩:=h;obtain⟨tr',ws',g1,g2,g3⟩:=h';have:=EqR.tup (K:=K) (e:=fun j=>[m==m',n==n',AM rs rs'].getD j false) (bR e1) (bR g1) fun j x y gx gy=>by
  match j,gx with
  |0,gx=>cases gx;cases gy;exact oj
  |1,gx=>cases gx;cases gy;exact oj
  |2,gx=>cases gx;cases gy;exact yw e2 g2 e3 g3
  |j+3,gx=>simp at gx
 have e:((m==m'&&(n==n'&&(AM rs rs'&&true)))&&true)=seB m n rs m' n' rs':=by rw[Bool.and_true,Bool.and_true];rfl
 exact e ▸ this
def sp_BP(J:Addr):Sp:=sp3 fun _ y z H Q _=>NoT H/\asR y fun j=>asR z fun t=>∃m n rs b u vs kvs bs,SeAt H t m n rs/\(0<=m/\m<=4799)/\JB J H j b u vs kvs bs (FD (m+1)-1) /\
 ∀out,out.Perm ((dk (rsd (FD (m+1)-1) bs)).map (·.1))->vh out->Q (.bl (seB m (mny (FD (m+1)-1) bs) (res (rsd (FD (m+1)-1) bs) out) m n rs)) H
theorem DA(T:Txt K mg a):Fo P w K mg base "holds" 5 (sp_BP a.aX):=by
 refine T.ET.hg ["chart","journal","told"] (gG3 fun x0 x1 x2 fA cdv A outer s H Q E ND HU hr h=>?_);obtain⟨hN,h1⟩:=h;obtain⟨j,rfl,h2⟩:=aE h1;obtain⟨t,rfl,m,n,rs,b,u,vs,kvs,bs,S,m0,JJ,k⟩:=aE h2;have sz:=szl;refine⟨hN,_,(ah (aF (dm (aH (eT T) hr av (fa1 (aM K (fv 2) aa))) (d7 (d_ (dF K HU) (aH (yx T) hr av (fa3 (fv 0) (fv 1) (aM K (fv 2) aa))) (fv 2) (fe _)))))),?_⟩;walk_at "r";obtain⟨tr,ws,e1,e2,e3⟩:=id S;have em:amg (.int m) 0 4799=true:=by unfold amg;simp[m0.1,m0.2]
 refine⟨_,_,.inr (bR e1),aJ (j:=0) rfl,hN,?_⟩;refine itp em ⟨_,_,.inr (bR e1),aJ (j:=0) rfl,hN,m0,b,u,vs,kvs,bs,JJ,fun out q H1 po oo hq hS sm nT=>?_⟩;exact⟨_,Lf hS (S.same sm),H,Gc.none sm,by rw[Bool.false_xor];exact k out po oo⟩
structure BkP(a:Adr)(H:Hp)(p g j ag:Addr)(t:Int)(cs:List Acc)(o:Option Int)(nt:List Nat)(vs:List V)(rs:List Row)(b u:Addr)(bs:List V)(kvs:List (Key × V)):Prop where
 nT:NoT H
 hnt:nt2 nt
 ht:0<=t/\t<=146096
 hJ:∃d,CAt a.aV a.aO H p d cs
 hcu:∀c∈cs,CuV c.cu
 hag:∃rt f e n,OgAt H ag rt f e n (L2.T nt) vs
 hrs:A2 (RwAt H) vs rs
 ln:2<=rs.length/\rs.length<=40
 ok:∀r∈rs,rOk r
 hg:∃dx,H g=some (cq a.bc dx (cl o))
 hj:JAt a.aX H j b u bs kvs
 ll:bs.length<=100/\kvs.length<=100
theorem DB(T:Txt K mg a):∀e∈RF a,ZR K (.ref e) (.ref a.cz)=some true:=fun e m=>by
 unfold RF at m;simp only[zO,zJ,or_false]at m;rcases m with rfl|rfl|rfl|rfl|rfl
 ·exact T.jE
 ·exact T.iA
 ·exact T.jn
 ·exact T.gO
 ·exact T.jx
def sp_AQ(a:Adr):Sp:=sp5 fun x y z u t H Q _=>asR x fun p=>asR y fun g=>asR z fun j=>asI u fun t'=>asR t fun ag=>
 ∃cs o nt vs rs b u bs kvs,BkP a H p g j ag t' cs o nt vs rs b u bs kvs /\
 (lts o t'/\BkR cs t' rs->∀H',Jb a H H' j b u bs kvs (.int t') (L2.T nt) vs .non->Q (.int bs.length) H')/\(¬ (lts o t'/\BkR cs t' rs)->∀H',Same H H'->NoT H'->Q .non H')
theorem AT(T:Txt K mg a):Fo P w K mg base "booked" 8 (sp_AQ a):=by
 refine T.Ci.hx ["chart","gate","journal","day","terms"] (gX5 fun x0 x1 x2 x3 x4 fA cdv A outer s H Q E ND HU hr h=>?_);obtain⟨p,rfl,h2⟩:=aE h;obtain⟨g,rfl,h3⟩:=aE h2;obtain⟨j,rfl,h4⟩:=aE h3;obtain⟨t,rfl,h5⟩:=aW h4;refine ce (aE h5) fun ag yy1 yz=>LJ yz fun cs o nt vs rs b u bs yz=>gb yz fun kvs B k1 k0=>?_;subst yy1;obtain⟨rt,f,e,n,O⟩:=B.hag;have sz:=szl;refine⟨_,(ah (Fa rfl T.ka rfl rfl rfl (fun pn Ee Ex PX=>(ah (aF (aH (D2 T) hr PX (fa6 (fv 0) (fv 1) (fv 2) (fv 3) (aM K (fv 4) aa) (da (sO K) rfl T.pY kh (fa1 (aM K (fv 4) aa)))))))) (fun e=>(ah (aF cY))))),?_⟩;walk_at "r";refine⟨_,_,.inr (bR O.ag),aJ (j:=3) rfl,_,_,.inr (bR O.ag),aJ (j:=4) rfl,?_⟩;walk_at "r";refine⟨vs,.inr (bR O.rt),fun q fq=>?_⟩;refine bW (br (o:=HO.lst vs) fq B.nT rfl) fun H1 ee m1 g1 N1=>?_;rw[ee];obtain⟨d,J⟩:=B.hJ;obtain⟨dx,hg⟩:=B.hg;refine⟨N1,B.hnt,B.ht,d,cs,vs,rs,dx,o,b,u,bs,kvs,J.same m1,B.hcu,g1,bD m1 B.hrs,B.ln,B.ok,m1 _ _ hg,B.hj.keep (S:=[]) (bL m1) zJ zJ zJ,B.ll.1,B.ll.2,fun ok H' L=>k1 ok H' ?_,fun no=>?_⟩
 ·obtain⟨q',t',f1,f2,g2,g3,J',kp,n'⟩:=L
  exact⟨q',t',m1.free f1,m1.free f2,g2,g3,J',fun c z e n=>kp c z (m1 _ _ e) n,n'⟩
 ·exact fun e me H' s' n'=>⟨e,rfl,DB T e me,k0 no H' (m1.trans s') n'⟩
structure Bx where
 k:Int
 d:Int
 nt:List Nat
 rs:List Row
def BxAt(H:Hp)(v:V)(b:Bx):Prop:=∃q t vs,v = .ref q/\H q=some (.tup [.int b.k,.int b.d,L2.T b.nt,.ref t,.non])/\H t=some (.tup vs)/\A2 (RwAt H) vs b.rs
theorem BxAt.same{H H':Hp}{v:V}{b:Bx}(s:Same H H')(h:BxAt H v b):BxAt H' v b:=by
 obtain⟨q,t,vs,e,h1,h2,h3⟩:=h;exact⟨q,t,vs,e,s _ _ h1,s _ _ h2,bD s h3⟩
theorem c7{H H':Hp}(s:Same H H'){vs:List V}{bs:List Bx}(h:A2 (BxAt H) vs bs):A2 (BxAt H') vs bs:=h.imp fun _ _ _ _ r=>r.same s
structure Ot where
 od:Od
 tn:List Nat
 rw:List Row
 lo:Addr
 rl:Addr
 m:Int
 pl:Int
abbrev Tn:=Int × List Nat
def TnAt(H:Hp)(v:V)(x:Tn):Prop:=∃q,v = .ref q/\H q=some (.tup [.int x.1,L2.T x.2])
theorem TnAt.mv(G G':Hp)(v:V)(x:Tn)(k:∀t l,G t=some (.tup l)->G' t=some (.tup l))(h:TnAt G v x):TnAt G' v x:=by
 obtain⟨q,e,h⟩:=h;exact⟨q,e,k _ _ h⟩
noncomputable def xl(x:Tn):List Key:=[.inl x.1,.inr ⟨⟨x.2⟩⟩]
theorem o4{x y:Tn}(h:xl x=xl y):x=y:=by
 simp only[xl,Yx,Sum.inl.injEq,Sum.inr.injEq,Str.mk.injEq,Array.mk.injEq,and_true]at h;exact Prod.ext h.1 h.2
abbrev OrdT(ts:List Tn):Prop:=zK (ts.map xl)
noncomputable def lft(o:Od)(u:Int):List Int:=((dys o.f o.e o.n).drop o.go.toNat).filter fun i=>decide (i<=u)
def IsT(os:List Ot)(u:Int)(ts:List Tn):Prop:=OrdT ts/\∀x,x∈ts↔∃o∈os,x.2=o.od.nm/\x.1∈lft o.od u
theorem IsT.uniq{os:List Ot}{u:Int}{ts ts':List Tn}(h:IsT os u ts)(h':IsT os u ts'):ts=ts':=by
 have e:=v7 h.1 h'.1 fun x=>by
  constructor <;> intro m <;> obtain⟨y,my,rfl⟩:=xS.mp m
  ·exact xf ((h'.2 y).mpr ((h.2 y).mp my))
  ·exact xf ((h.2 y).mpr ((h'.2 y).mp my))
 exact List.map_inj_right (fun x y h=>o4 h) |>.mp e
theorem OrdT.nd{ts:List Tn}(h:OrdT ts):ts.Nodup:=(Zc.mp h).imp fun h e=>by rw[e,qO]at h;cases h
noncomputable def cnt(ts:List Tn)(l:List Nat):Nat:=(ts.filter fun x=>decide (x.2=l)).length
theorem uG(ts:List Tn)(x:Tn)(l:List Nat):cnt (ts++[x]) l=cnt ts l+if x.2=l then 1 else 0:=by
 unfold cnt;rw[ZY,vx];by_cases h:x.2=l <;> simp[h]
def xJ(o:Od):Prop:=(dys o.f o.e o.n).Pairwise (· < ·)
theorem A8{o:Od}(h:xJ o)(u:Int):(lft o u).Nodup:=((h.sublist (List.drop_sublist _ _)).sublist List.filter_sublist).imp fun h e=>by rw[e]at h;exact Int.lt_irrefl _ h
theorem tF{os:List Ot}{o o':Ot}(np:(os.map (·.od.nm)).Nodup)(ho:o∈os)(ho':o'∈os)(e:o.od.nm=o'.od.nm):o=o':=by
 induction os with
 |nil=>cases ho
 |cons x r ih=>
  rw[wV,Zi]at np;rcases zO.mp ho with h1|h1 <;> rcases zO.mp ho' with h2|h2
  ·rw[h1,h2]
  ·rw[h1]at e;exact absurd (e ▸ xf (f:=(·.od.nm)) h2) np.1
  ·rw[h2]at e;exact absurd (e ▸ xf (f:=(·.od.nm)) h1) np.1
  ·exact ih np.2 h1 h2
theorem IsT.cnt{os:List Ot}{u:Int}{ts:List Tn}(h:IsT os u ts)(np:(os.map (·.od.nm)).Nodup){o:Ot}(ho:o∈os)(hd:xJ o.od):cnt ts o.od.nm=(lft o.od u).length:=by
 have:(ts.filter fun x=>decide (x.2=o.od.nm)).Perm ((lft o.od u).map fun d=>(d,o.od.nm)):=by
  refine(List.perm_ext_iff_of_nodup (h.1.nd.sublist List.filter_sublist) (Zc.mpr ((A8 hd u).imp fun h e=>h (by simpa using e)))).mpr fun x=>?_;rw[Z9,h.2,xS];constructor
  ·rintro⟨⟨o',ho',e1,e2⟩,e⟩
   have e:=of_decide_eq_true e;rw[tF np ho' ho (e1.symm.trans e)]at e2;exact⟨x.1,e2,by rw[<- e]⟩
  ·rintro⟨d,md,rfl⟩
   exact⟨⟨o,ho,rfl,md⟩,by simp⟩
 unfold K28.cnt;rw[this.length_eq,zV]
theorem Cl(ts:List Tn)(i:Nat)(l:List Nat):cnt (ts.take i) l<=cnt ts l:=by
 unfold cnt;exact((List.take_sublist i ts).filter _).length_le
noncomputable def fO(os:List Ot)(l:List Nat):Option Ot:=os.find? fun o=>decide (o.od.nm=l)
theorem qQ{os:List Ot}(np:(os.map (·.od.nm)).Nodup){o:Ot}(ho:o∈os):fO os o.od.nm=some o:=by
 unfold fO;cases e:os.find? fun z=>decide (z.od.nm=o.od.nm) with
 |none=>exact absurd (List.find?_eq_none.mp e o ho) (by simp)
 |some z=>rw[tF np (List.mem_of_find?_eq_some e) ho (by simpa using List.find?_some e)]
def okT(cs:List Acc)(g:Option Int)(o:Ot)(t:Int):Prop:=lts g t/\BkR cs t o.rw
open Classical in
noncomputable def stB(cs:List Acc)(g:Option Int)(os:List Ot)(bx:List Bx)(x:Tn):List Bx:=match fO os x.2 with
 |some o=>if okT cs g o x.1 then bx++[⟨bx.length,x.1,o.tn,o.rw⟩] else bx
 |none=>bx
open Classical in
noncomputable def nuB(cs:List Acc)(g:Option Int)(os:List Ot)(bx:List Bx)(x:Tn):Option Int:=match fO os x.2 with
 |some o=>if okT cs g o x.1 then some bx.length else none
 |none=>none
noncomputable def bkB(cs:List Acc)(g:Option Int)(os:List Ot)(bx:List Bx)(ts:List Tn):List Bx:=ts.foldl (stB cs g os) bx
noncomputable def tlB(cs:List Acc)(g:Option Int)(os:List Ot)(bx:List Bx)(ts:List Tn):List (Tn × Option Int):=match ts with
 | []=>[]
 |x::r=>(x,nuB cs g os bx x)::tlB cs g os (stB cs g os bx x) r
theorem oN{cs:List Acc}{g:Option Int}{os:List Ot}{bx:List Bx}{ts:List Tn}{x:Tn}:bkB cs g os bx (ts++[x])=stB cs g os (bkB cs g os bx ts) x:=by unfold bkB;rw[List.foldl_append];rfl
theorem qh{cs:List Acc}{g:Option Int}{os:List Ot}{x:Tn}:∀ {bx:List Bx} {ts:List Tn},tlB cs g os bx (ts++[x])=tlB cs g os bx ts++[(x,nuB cs g os (bkB cs g os bx ts) x)]
 |_,[]=>rfl
 |bx,y::r=>by
  rw[ZV,tlB,qh,tlB]
  rfl
def ToAt(H:Hp)(v:V)(x:Tn × Option Int):Prop:=∃q,v = .ref q/\H q=some (.tup [L2.T x.1.2,.int x.1.1,cl x.2])
theorem ToAt.same{H H':Hp}{v:V}{x:Tn × Option Int}(s:Same H H')(h:ToAt H v x):ToAt H' v x:=by
 obtain⟨q,e,h⟩:=h;exact⟨q,e,s _ _ h⟩
noncomputable def adv(ts:List Tn)(o:Ot):Ot:={ o with od:={ o.od with go:=o.od.go+cnt ts o.od.nm } }
theorem Eu(o:Ot):adv [] o=o:=by
 unfold adv cnt;show { o with od:={ o.od with go:=o.od.go+((0:Nat):Int) } }=o;rw[Int.natCast_zero,Int.add_zero]
structure Gr(F H F':Hp):Prop where
 s:Same F F'
 n:∀c,H c≠none->F c=none->F' c=none
noncomputable def frz(F H H':Hp):Hp:=fun c=>match F c with
 |some z=>some z
 |none=>match H c with
  |none=>H' c
  |some _=>none
theorem fN{F H H':Hp}{c:Addr}(fh:Same F H)(h:H c=none):frz F H H' c=H' c:=by
 unfold frz;cases e:F c with
 |some z=>rw[fh _ _ e]at h;cases h
 |none=>simp only[h]
theorem dW(F H H':Hp):Gr F H (frz F H H'):=⟨fun c z e=>by unfold frz;rw[e],fun c n e=>by
 unfold frz;rw[e];cases h:H c with
 |none=>exact absurd h n
 |some z=>rfl⟩
theorem tj{F H H':Hp}(h:Same F H'):Same (frz F H H') H':=fun c z e=>by
 unfold frz at e;cases f:F c with
 |some y=>simp only[f]at e;cases e;exact h _ _ f
 |none=>
  simp only[f]at e;cases g:H c with
  |none=>simp only[g]at e;exact e
  |some y=>simp only[g]at e;cases e
theorem Gr.trans{F H F' H' F'':Hp}(x:Gr F H F')(y:Gr F' H' F'')(h:∀c,H c≠none->H' c≠none):Gr F H F'':=⟨x.s.trans y.s,fun c n e=>y.n c (h c n) (x.n c n e)⟩
structure OtOk(F:Hp)(o:Ot):Prop where
 ag:OgAt F o.od.ag o.od.rt o.od.f o.od.e o.od.n (L2.T o.tn) o.od.rs
 nt:o.od.nt=L2.T o.tn
 nt2:nt2 o.tn
 ad:F o.od.ad=some (.lst ((dys o.od.f o.od.e o.od.n).map V.int))
 rs:A2 (RwAt F) o.od.rs o.rw
 ln:o.rw.length=2
 ok:∀r∈o.rw,rOk r
 dy:xJ o.od
 di:∀d∈dys o.od.f o.od.e o.od.n,0<=d/\d<=146096
 n1:o.od.n<=8
 g0:0<=o.od.go
 nm:nm o.od.nm=true
theorem OgAt.same{H H':Hp}{ag rt:Addr}{f e n:Int}{nt:V}{rs:List V}(j:OgAt H ag rt f e n nt rs)(s:Same H H'):OgAt H' ag rt f e n nt rs:=⟨s _ _ j.ag,s _ _ j.rt⟩
theorem OtOk.same{F F':Hp}{o:Ot}(h:OtOk F o)(s:Same F F'):OtOk F' o:=
 { h with ag:=⟨s _ _ h.ag.ag,s _ _ h.ag.rt⟩,ad:=s _ _ h.ad,rs:=bD s h.rs }
theorem sx{F:Hp}{o:Ot}(h:OtOk F o):(dys o.od.f o.od.e o.od.n).length<=8:=by
 have:=h.n1;unfold dys;rw[zV];exact Zt (Zj _ _) (by rw[Za];lia)
theorem j_(o:Od)(u:Int):(lft o u).length<=(dys o.f o.e o.n).length-o.go.toNat:=by
 unfold lft;exact Zt (Zj _ _) (by rw[YK];exact xU _)
structure Wd where
 ch:Addr
 g:Addr
 j:Addr
 b:Addr
 u:Addr
 s:Addr
 ds:Addr
noncomputable def own(W:Wd)(os:List Ot):List Addr:=W.b::os.map (·.od.ob)
noncomputable def mtb(W:Wd)(os:List Ot):List Addr:=W.u::W.ds::W.g::own W os
theorem kX(W:Wd)(os:List Ot)(ts:List Tn):own W (os.map (adv ts))=own W os:=by unfold own;rw[wM];rfl
theorem og(W:Wd)(os:List Ot)(ts:List Tn):mtb W (os.map (adv ts))=mtb W os:=by unfold mtb;rw[kX]
structure RP(a:Adr)(W:Wd)(F H:Hp)(cs:List Acc)(g:Option Int)(os:List Ot)(bs:List V):Prop where
 fh:Same F H
 nT:NoT H
 ch:∃d,CAt a.aV a.aO F W.ch d cs
 cu:∀c∈cs,CuV c.cu
 g:∃dx,H W.g=some (cq a.bc dx (cl g))
 j:∃dx,F W.j=some (Cy a.aX dx W.b W.u)
 b:H W.b=some (.lst bs)
 u:H W.u=some (.dK [])
 s:∃dx,F W.s=some (.ins a.aD dx [("by_name",.ref W.ds)])
 dc:H W.ds=some (.dK (os.map fun o=>kyO o.od))
 ob:∀o∈os,∃dx,H o.od.ob=some (.ins a.az dx (dN (.ref o.od.ag) (.ref o.od.ad) (.int o.od.go)))
 ok:∀o∈os,OtOk F o
 np:(os.map (·.od.nm)).Nodup
 na:(os.map (·.od.ob)).Nodup
 fm:∀c∈mtb W os,F c=none
 ud:W.u≠W.ds
section
variable{W:Wd}{F H:Hp}{cs:List Acc}{g:Option Int}{os:List Ot}{bs:List V}
theorem RP.sat(h:RP a W F H cs g os bs):SAt a.aD a.az H W.s W.ds (os.map (·.od)):=by
 obtain⟨dx,e⟩:=h.s;refine⟨⟨dx,h.fh _ _ e⟩,by rw[h.dc,wM];rfl,fun o m=>?_,by rw[wM];exact h.np,by rw[wM];exact h.na⟩;obtain⟨o,m2,rfl⟩:=xS.mp m;have k:=h.ok o m2;exact⟨h.ob o m2,⟨h.fh _ _ (by rw[k.nt];exact k.ag.ag),h.fh _ _ k.ag.rt⟩,h.fh _ _ k.ad⟩
theorem RP.jat(h:RP a W F H cs g os bs):JAt a.aX H W.j W.b W.u bs []:=by
 obtain⟨dx,e⟩:=h.j;exact⟨⟨dx,h.fh _ _ e⟩,h.b,h.u⟩
theorem RP.fnd(h:RP a W F H cs g os bs){o:Ot}(ho:o∈os):gT (os.map (·.od)) o.od.nm=some o.od:=D_ (by rw[wM];exact h.np) (xf (f:=(·.od)) ho)
theorem RP.same(h:RP a W F H cs g os bs){H':Hp}(s:Same H H')(n:NoT H'):RP a W F H' cs g os bs:=
 { h with fh:=h.fh.trans s,nT:=n,g:=h.g.imp fun _ e=>s _ _ e,b:=s _ _ h.b,u:=s _ _ h.u,dc:=s _ _ h.dc,ob:=fun o m=>(h.ob o m).imp fun _ e=>s _ _ e }
theorem RP.grow(h:RP a W F H cs g os bs){F':Hp}(gs:Same F F')(fh:Same F' H)(n:∀c∈mtb W os,F' c=none):RP a W F' H cs g os bs:=by
 obtain⟨d,J⟩:=h.ch;exact { h with
  fh:=fh
  ch:=⟨d,J.same gs⟩
  j:=h.j.imp fun _ e=>gs _ _ e
  s:=h.s.imp fun _ e=>gs _ _ e
  ok:=fun o m=>(h.ok o m).same gs
  fm:=n }
theorem RP.ex(h:RP a W F H cs g os bs){c:Addr}(m:c∈own W os):H c≠none:=by
 rcases zO.mp m with rfl|m
 ·rw[h.b];intro z;cases z
 ·obtain⟨o,mo,rfl⟩:=xS.mp m
  obtain⟨dx,e⟩:=h.ob o mo;rw[e];intro z;cases z
theorem RP.exm(h:RP a W F H cs g os bs){c:Addr}(m:c∈mtb W os):H c≠none:=by
 rcases zO.mp m with rfl|m
 ·rw[h.u];intro z;cases z
 rcases zO.mp m with rfl|m
 ·rw[h.dc];intro z;cases z
 rcases zO.mp m with rfl|m
 ·obtain⟨dx,e⟩:=h.g
  rw[e];intro z;cases z
 ·exact h.ex m
theorem RP.ntup(h:RP a W F H cs g os bs){c:Addr}(m:c∈own W os){l:List V}(e:H c=some (.tup l)):False:=by
 rcases zO.mp m with rfl|m
 ·rw[h.b]at e;cases e
 ·obtain⟨o,mo,rfl⟩:=xS.mp m
  obtain⟨dx,e'⟩:=h.ob o mo;rw[e']at e;cases e
theorem RP.keep(h:RP a W F H cs g os bs){H':Hp}{S:List Addr}(k:Keep S H H')(n:NoT H')(hS:∀c∈S,F c=none/\c∉mtb W os):RP a W F H' cs g os bs:=by
 have kf:Same F H':=fun c z e=>k c z (h.fh _ _ e) fun m=>by rw[(hS c m).1]at e;cases e
 have km:∀ {c z},H c=some z->c∈mtb W os->H' c=some z:=fun e m=>k _ _ e fun q=>(hS _ q).2 m;have mo:∀o∈os,o.od.ob∈mtb W os:=fun o m=>.tail _ (.tail _ (.tail _ (.tail _ (xf (f:=fun o:Ot=>o.od.ob) m))));exact { h with
  fh:=kf
  nT:=n
  g:=h.g.imp fun _ e=>km e (.tail _ (.tail _ (.head _)))
  b:=km h.b (.tail _ (.tail _ (.tail _ (.head _))))
  u:=km h.u (.head _)
  dc:=km h.dc (.tail _ (.head _))
  ob:=fun o m=>(h.ob o m).imp fun _ e=>km e (mo o m) }
theorem RP.new(h:RP a W F H cs g os bs){c:Addr}(e:H c=none):F c=none/\c∉mtb W os:=⟨h.fh.free e,fun m=>h.exm m e⟩
end
def Tld(F:Hp)(r:Addr)(tl:List (Tn × Option Int)):Prop:=∃ws,F r=some (.lst ws)/\A2 (ToAt F) ws tl
def RnQ(a:Adr)(W:Wd)(F H:Hp)(cs:List Acc)(g:Option Int)(os:List Ot)(bx:List Bx)(u:Int)(Q:VK):Prop:=∀ts F' H' r bs',IsT os u ts->Gr F H F'->RP a W F' H' cs g (os.map (adv ts)) bs'->A2 (BxAt F') bs' (bkB cs g os bx ts)->Keep (own W os) H H'->H r=none->Tld F' r (tlB cs g os bx ts)->Q (.ref r) H'
def sp_Hn(a:Adr):Sp:=sp5 fun x y z s u H Q E=>NoT H/\asR x fun p=>asR y fun g=>asR z fun j=>asR s fun s=>asK H u fun _=>(amg u 0 146096=false->E (.ref a.bN) none H)/\(amg u 0 146096=true->∃W F cs o os bs bx,p=W.ch/\g=W.g/\j=W.j/\s=W.s/\os.length<=4/\bx.length<=68/\RP a W F H cs o os bs/\A2 (BxAt F) bs bx/\∀t,u = .int t->RnQ a W F H cs o os bx t Q)
theorem JX{a a' b c d g i n m s:Nat}(h1:a=a')(h2:b=c)(h3:c<=d-g)(h4:d<=8)(h5:a'<=8*min i n)(h6:n=m)(h7:m<=4)(h8:1000<=s):a+b<=s:=by lia
noncomputable def trn(os:List Ot)(u:Int)(l:List Nat):List Tn:=match fO os l with
 |some o=>(lft o.od u).map fun d=>(d,l)
 |none=>[]
theorem Bc{α β:Type}{R:α->β->Prop}(f:β->α)(h:∀b,R (f b) b):∀ {l:List β},A2 R (l.map f) l
 | []=>.nil
 |_::_=>.cons (h _) (Bc f h)
theorem CU{os:List Ot}{u:Int}{l:List Nat}{x:Tn}(m:x∈trn os u l):x.2=l:=by
 unfold trn at m;split at m
 ·obtain⟨d,_,rfl⟩:=xS.mp m;rfl
 ·cases m
theorem gJ{os:List Ot}(np:(os.map (·.od.nm)).Nodup){u:Int}{o:Ot}(ho:o∈os):trn os u o.od.nm=(lft o.od u).map fun d=>(d,o.od.nm):=by unfold trn;rw[qQ np ho]
theorem lU{os:List Ot}(np:(os.map (·.od.nm)).Nodup)(ok:∀o∈os,xJ o.od/\(dys o.od.f o.od.e o.od.n).length<=8){u:Int}:∀ {out:List (List Nat)},out.Nodup->(∀l∈out,l∈os.map (·.od.nm))->(out.flatMap (trn os u)).Nodup/\(out.flatMap (trn os u)).length<=8*out.length
 | [],_,_=>⟨.nil,xU _⟩
 |l::r,h,hm=>by
  obtain⟨h1,h2⟩:=Zi.mp h;obtain⟨i1,i2⟩:=lU np ok (u:=u) h2 fun l m=>hm l (.tail _ m);obtain⟨o,mo,rfl⟩:=xS.mp (hm l (.head _));have l1:=(ok o mo).2;have l2:=j_ o.od u;rw[YV,vx,sq];refine⟨Y4.mpr ⟨?_,i1,fun x mx y my e=>?_⟩,?_⟩
  ·rw[gJ np mo]
   exact Zc.mpr ((A8 (ok o mo).1 u).imp fun h e=>h (by simpa using e))
  ·obtain⟨l',ml,my⟩:=List.mem_flatMap.mp my
   have e2:=CU my;rw[<- e,CU mx]at e2;exact h1 (e2 ▸ ml)
  ·rw[gJ np mo,zV];lia
theorem Fr{x:V}{lo hi:Int}(h:amg x lo hi=true):∃i,x = .int i/\lo<=i/\i<=hi:=by
 cases x with
 |int i=>
  rw[fJ,ZH,decide_eq_true_eq,decide_eq_true_eq]at h;exact⟨i,rfl,h⟩
 |_=>cases h
def TK(G G':Hp):Prop:=∀t l,G t=some (.tup l)->G' t=some (.tup l)
theorem TK.keep{S:List Addr}{G G':Hp}(k:Keep S G G')(h:∀c∈S,∀l,G c≠some (.tup l)):TK G G':=fun t l e=>k _ _ e fun m=>h t m l e
theorem TK.same{G G':Hp}(s:Same G G'):TK G G':=fun t l e=>s _ _ e
theorem TK.trans{G G' G'':Hp}(x:TK G G')(y:TK G' G''):TK G G'':=fun t l e=>y _ _ (x _ _ e)
theorem TK.put{G:Hp}{p:Addr}{o z:HO}(h:G p=some z)(n:∀l,z ≠ .tup l):TK G (upd G p o):=fun t l e=>by
 rw[ai fun q=>by rw[q,h]at e;cases e;exact n _ rfl];exact e
theorem TK.frz{F H G G':Hp}(h:TK G G'):TK (frz F H G) (frz F H G'):=fun t l e=>by
 unfold K28.frz at e |-
 cases f:F t with
 |some z=>rw[f]at e;exact e
 |none=>
  simp only[f]at e |-
  cases g:H t with
  |none=>simp only[g]at e |-; exact h _ _ e
  |some z=>simp only[g]at e;cases e
theorem xO{G G':Hp}(k:TK G G'){vs:List V}{rs:List Row}(h:A2 (RwAt G) vs rs):A2 (RwAt G') vs rs:=h.imp fun _ _ _ _ ⟨q,e,h⟩=>⟨q,e,k _ _ h⟩
theorem gf{G G':Hp}(k:TK G G'){vs:List V}{bs:List Bx}(h:A2 (BxAt G) vs bs):A2 (BxAt G') vs bs:=h.imp fun _ _ _ _ ⟨q,t,vs,e,h1,h2,h3⟩=>⟨q,t,vs,e,k _ _ h1,k _ _ h2,xO k h3⟩
theorem CA{G G':Hp}(k:TK G G'){vs:List V}{bs:List (Tn × Option Int)}(h:A2 (ToAt G) vs bs):A2 (ToAt G') vs bs:=h.imp fun _ _ _ _ ⟨q,e,h⟩=>⟨q,e,k _ _ h⟩
def Kx(kf:Tn->List Key)(H:Hp)(v:V)(x:Tn):Prop:=∃q,v = .ref q/\H q=some (.tup ((kf x).map kV))
theorem Bj{kf:Tn->List Key}{H:Hp}{ws:List V}{ts:List Tn}(h:A2 (Kx kf H) ws ts):∃ps:List AK,ws=ps.map (fun e=>.ref e.1)/\ps.map (·.2)=ts.map kf/\∀e∈ps,H e.1=some (.tup (e.2.map kV)):=by
 induction h with
 |nil=>exact⟨[],rfl,rfl,fun _ m=>nomatch m⟩
 |cons r _ ih=>
  obtain⟨q,e,hq⟩:=r;obtain⟨ps,e1,e2,e3⟩:=ih;refine⟨(q,kf _)::ps,by rw[e,e1];rfl,by rw[wV,e2];rfl,fun z m=>?_⟩;rcases zO.mp m with rfl|m
  ·exact hq
  ·exact e3 z m
theorem L5{kf:Tn->List Key}{l:List (List Key)}(h:∀k∈l,∃x,k=kf x):∃ts:List Tn,l=ts.map kf:=by
 induction l with
 |nil=>exact⟨[],rfl⟩
 |cons k r ih=>
  obtain⟨x,rfl⟩:=h k (.head _);obtain⟨ts,rfl⟩:=ih fun k m=>h k (.tail _ m);exact⟨x::ts,rfl⟩
theorem wO{kf:Tn->List Key}{H:Hp}:∀ {ps:List AK} {ts:List Tn},ps.map (·.2)=ts.map kf->(∀e∈ps,H e.1=some (.tup (e.2.map kV)))->A2 (Kx kf H) (ps.map fun e=>.ref e.1) ts
 | [],[],_,_=>.nil
 | [],_::_,h,_=>by cases h
 |_::_,[],h,_=>by cases h
 |e::r,x::ts,h,k=>by
  rw[wV,wV,Yx]at h;refine .cons ⟨e.1,rfl,?_⟩ (wO h.2 fun z m=>k z (.tail _ m));rw[k e (.head _),h.1]
theorem CP{kf:Tn->List Key}(inj:∀ {x y},kf x=kf y->x=y){ps out:List AK}{ts:List Tn}(ek:ps.map (·.2)=ts.map kf)(po:out.Perm ps):∃tt:List Tn,out.map (·.2)=tt.map kf/\(∀x,x∈tt↔x∈ts)/\tt.length=ts.length:=by
 obtain⟨tt,et⟩:=L5 (kf:=kf) (l:=out.map (·.2)) fun k m=>by
  have m2:=(po.map (·.2)).mem_iff.mp m;rw[ek]at m2;obtain⟨x,_,e⟩:=xS.mp m2;exact⟨x,e.symm⟩
 have im:∀(l:List Tn) x,x∈l↔kf x∈l.map kf:=fun l x=>⟨xf,fun m=>by obtain⟨y,my,e⟩:=xS.mp m;rw[<- inj e];exact my⟩;refine⟨tt,et,fun x=>by rw[im,im,<- et,<- ek];exact(po.map (·.2)).mem_iff,?_⟩;have h1:=congrArg ZO et;have h2:=congrArg ZO ek;have h3:=po.length_eq;simp only[zV]at h1 h2;lia
noncomputable def sto(l:List Nat)(x:Int)(z:Ot):Ot:=if z.od.nm=l then { z with od:=stp x z.od } else z
theorem xY(l:List Nat)(x:Int)(z:Ot):(sto l x z).od=if z.od.nm=l then stp x z.od else z.od:=by unfold sto;split <;> rfl
theorem Io(l:List Nat)(x:Int)(z:Ot):(sto l x z).od.nm=z.od.nm:=by rw[xY];split <;> rfl
theorem IM(l:List Nat)(x:Int)(z:Ot):(sto l x z).od.ob=z.od.ob:=by rw[xY];split <;> rfl
theorem yW(l:List Nat)(x:Int)(os:List Ot):(os.map (sto l x)).map (·.od.ob)=os.map (·.od.ob):=by
 rw[wM];exact uW fun z _=>IM l x z
theorem FO(l:List Nat)(x:Int)(os:List Ot):(os.map (sto l x)).map (·.od.nm)=os.map (·.od.nm):=by
 rw[wM];exact uW fun z _=>Io l x z
theorem ow{cs:List Acc}{g:Option Int}{os:List Ot}:∀(ts:List Tn) (bx:List Bx),(bkB cs g os bx ts).length<=bx.length+ts.length
 | [],_=>xU _
 |x::r,bx=>by
  have ih:=ow (cs:=cs) (g:=g) (os:=os) r (stB cs g os bx x);have h1:(stB cs g os bx x).length<=bx.length+1:=by
   unfold stB;split
   ·split
    ·rw[vx];exact xU _
    ·exact ZC _
   ·exact ZC _
  show(bkB cs g os (stB cs g os bx x) r).length<=_;rw[sq];lia
theorem ot{cs:List Acc}{g:Option Int}{os:List Ot}:∀(ts:List Tn) (bx:List Bx),(tlB cs g os bx ts).length=ts.length
 | [],_=>rfl
 |x::r,bx=>by rw[tlB,sq,sq,ot r]
section
variable{W:Wd}{F H:Hp}{cs:List Acc}{g:Option Int}{os:List Ot}{bs:List V}
theorem RP.booked(R:RP a W F H cs g os bs){H':Hp}{d:Int}{nt:List Nat}{vs:List V}(L:Jb a H H' W.j W.b W.u bs [] (.int d) (L2.T nt) vs .non):∃q t,H q=none/\H t=none/\H' q=some (.tup [.int bs.length,.int d,L2.T nt,.ref t,.non])/\H' t=some (.tup vs)/\RP a W F H' cs g os (bs++[.ref q])/\Keep [W.b] H H':=by
 obtain⟨q,t,f1,f2,e1,e2,J,kp,n'⟩:=L;have kb:Keep [W.b] H H':=fun c z e n=>by
  by_cases hu:c=W.u
  ·rw[hu,J.dc,<- R.u,<- hu];exact e
  ·exact kp c z e (by simpa using⟨fun q=>n (by rw[q];exact .head _),hu⟩)
 have mb:W.b∈mtb W os:=.tail _ (.tail _ (.tail _ (.head _)));have no:∀ {c z},H c=some z->(∀l,z ≠ .lst l)->H' c=some z:=fun e n=>kb _ _ e fun m=>aY e R.b (n _) (zz.mp m);refine⟨q,t,f1,f2,e1,e2,?_,kb⟩;exact { R with
  fh:=fun c z e=>kb c z (R.fh _ _ e) fun m=>by rw[zz.mp m,R.fm _ mb]at e;cases e
  nT:=n'
  g:=R.g.imp fun _ e=>no e (by intro _ z;cases z)
  b:=J.ls
  u:=J.dc
  dc:=no R.dc (by intro _ z;cases z)
  ob:=fun o m=>(R.ob o m).imp fun _ e=>no e (by intro _ z;cases z) }
theorem RP.stepd(h:RP a W F H cs g os bs){l:List Nat}{x:Int}(x0:0<=x){c:Ot}(mc:c∈os){H':Hp}(S:SAt a.aD a.az H' W.s W.ds (qr (os.map (·.od)) l (stp x)))(k:Keep [c.od.ob] H H')(n:NoT H'):RP a W F H' cs g (os.map (sto l x)) bs:=by
 have eo:qr (os.map (·.od)) l (stp x)=(os.map (sto l x)).map (·.od):=by
  unfold qr;rw[wM,wM];exact uW fun z _=>(xY l x z).symm
 rw[eo]at S;have mm:c.od.ob∈mtb W os:=.tail _ (.tail _ (.tail _ (.tail _ (xf (f:=fun o:Ot=>o.od.ob) mc))));obtain⟨dc,ec⟩:=h.ob c mc;have kf:Same F H':=fun q z e=>k q z (h.fh _ _ e) fun m=>by rw[zz.mp m,h.fm _ mm]at e;cases e
 have em:mtb W (os.map (sto l x))=mtb W os:=by
  unfold mtb own;rw[yW]
 refine { h with
  fh:=kf
  nT:=n
  g:=h.g.imp fun _ e=>k _ _ e fun m=>aY e ec (by unfold cq dN;intro z;injection z with _ _ z;cases z) (zz.mp m)
  b:=k _ _ h.b fun m=>aY h.b ec (by intro z;cases z) (zz.mp m)
  u:=k _ _ h.u fun m=>aY h.u ec (by intro z;cases z) (zz.mp m)
  dc:=by rw[S.dc,wM];rfl
  ob:=fun o m=>(S.od o.od (xf (f:=(·.od)) m)).ob
  ok:=fun o m=>?_
  np:=by rw[FO];exact h.np
  na:=by rw[yW];exact h.na
  fm:=by rw[em];exact h.fm }
 obtain⟨o',m',rfl⟩:=xS.mp m;have k':=h.ok o' m';unfold sto;split
 ·exact { k' with g0:=x0 }
 ·exact k'
def StQ(a:Adr)(W:Wd)(E:XK)(nm:List Nat)(d:Int)(v:V)(p2:Addr)(G1:Hp)(N:Hp->Prop):Prop:=3<=sizeLine/\∀p,G1 p=none->∃l xs y,p2=l/\V.ref p=y/\upd G1 p (.tup [L2.T nm,.int d,v]) l=some (.lst xs)/\xs.length<sizeLine /\
 ∃dx fs,upd (upd G1 p (.tup [L2.T nm,.int d,v])) l (.lst (xs++[y])) W.s=some (.ins a.aD dx fs)/\vL (zS "step") fs=none/\NoT (upd (upd G1 p (.tup [L2.T nm,.int d,v])) l (.lst (xs++[y]))) /\
 ∃d1 os1,SAt a.aD a.az (upd (upd G1 p (.tup [L2.T nm,.int d,v])) l (.lst (xs++[y]))) W.s d1 os1/\mn (H:=upd (upd G1 p (.tup [L2.T nm,.int d,v])) l (.lst (xs++[y]))) E a.bK (jG os1 (L2.T nm)) fun c=>∀H',SAt a.aD a.az H' W.s d1 (qr os1 c.nm (stp (if ((dys c.f c.e c.n).length:Int)<c.go+1 then ((dys c.f c.e c.n).length:Int) else c.go+1)))->Keep [c.ob] (upd (upd G1 p (.tup [L2.T nm,.int d,v])) l (.lst (xs++[y]))) H'->NoT H'->N H'
theorem stq{E:XK}{c:Ot}{d:Int}{v:V}{p2:Addr}{N:Hp->Prop}{ws:List V}(R:RP a W F H cs g os bs)(mc:c∈os)(h2:H p2=some (.lst ws))(lw:ws.length<=500)(f2:F p2=none)(n2:p2∉mtb W os)(lt:c.od.go+1<=(dys c.od.f c.od.e c.od.n).length)
 (k:∀p H4,H p=none->H4 p=some (.tup [L2.T c.od.nm,.int d,v])->H4 p2=some (.lst (ws++[.ref p]))->RP a W F H4 cs g (os.map (sto c.od.nm (c.od.go+1))) bs->Keep (p2::own W os) H H4->N H4):StQ a W E c.od.nm d v p2 H N:=by
 refine⟨by rw[uz];decide,fun p hp=>?_⟩;have s1:=aj (HO.tup [L2.T c.od.nm,V.int d,v]) hp;have np:p≠p2:=fun z=>by rw[z,h2]at hp;cases hp
 refine⟨p2,ws,_,rfl,rfl,s1 _ _ h2,by rw[uz];lia,?_⟩;have R1:=(R.same s1 (aq R.nT rfl)).keep (S:=[p2]) (H':=upd (upd H p (.tup [L2.T c.od.nm,V.int d,v])) p2 (.lst (ws++[.ref p]))) (Keep.refl.put (.head _)) (aq (aq R.nT rfl) rfl) fun z m=>by rw[zz.mp m];exact⟨f2,n2⟩
 have gp:upd (upd H p (.tup [L2.T c.od.nm,V.int d,v])) p2 (.lst (ws++[.ref p])) p=some (.tup [L2.T c.od.nm,V.int d,v]):=(ai np).trans af;have g2:upd (upd H p (.tup [L2.T c.od.nm,V.int d,v])) p2 (.lst (ws++[.ref p])) p2=some (.lst (ws++[.ref p])):=af;have kp:Keep (p2::own W os) H (upd (upd H p (.tup [L2.T c.od.nm,V.int d,v])) p2 (.lst (ws++[.ref p]))):=(bL s1).put (.head _);generalize upd (upd H p (.tup [L2.T c.od.nm,V.int d,v])) p2 (.lst (ws++[.ref p]))=G at R1 gp g2 kp |-
 obtain⟨dx,hs⟩:=R1.sat.ob;refine⟨_,_,hs,aQ,R1.nT,_,_,R1.sat,?_⟩;show mn _ _ (gT _ c.od.nm) _;rw[R1.fnd mc];intro H4 S4 k4 n4;rw[if_neg (by lia)]at S4;obtain⟨dc,ec⟩:=R1.ob c mc;have ne:∀ {q z},G q=some z->(∀k e f,z ≠ .ins k e f)->H4 q=some z:=fun e n=>k4 _ _ e fun m=>aY e ec (n _ _ _) (zz.mp m);exact k p H4 hp (ne gp (by intro _ _ _ z;cases z)) (ne g2 (by intro _ _ _ z;cases z)) (R1.stepd (by have:=(R.ok c mc).g0;lia) mc S4 k4 n4) (kp.trans (k4.mono fun z m=>by rw[zz.mp m];exact .tail _ (.tail _ (xf (f:=fun o:Ot=>o.od.ob) mc))))
theorem Dh{ts:List Tn}{x:Tn}{c:Ot}(np:(os.map (·.od.nm)).Nodup)(mc:c∈os)(e:x.2=c.od.nm):os.map (adv (ts++[x]))=(os.map (adv ts)).map (sto c.od.nm ((adv ts c).od.go+1)):=by
 rw[wM];refine uW fun z mz=>?_;show adv (ts++[x]) z=sto _ _ (adv ts z);unfold adv sto;simp only[uG];by_cases h:z.od.nm=c.od.nm
 ·have:=tF np mz mc h
  subst this;rw[if_pos e,if_pos rfl];unfold stp;simp only[Int.natCast_add,Xl]
  rfl
 ·rw[if_neg (fun q=>h (q.symm.trans e)),if_neg h,Nat.add_zero]
theorem stK{E:XK}{u:Int}{bx:List Bx}{tt:List Tn}{i:Nat}{x:Tn}{c:Ot}{p2:Addr}{G H3:Hp}{bs' ws':List V}(R:RP a W F H cs g os bs)(R':RP a W F G cs g (os.map (adv (tt.take i))) bs')(h2:G p2=some (.lst ws'))(T':A2 (ToAt (frz F H G)) ws' (tlB cs g os bx (tt.take i)))(f2:H p2=none)(kp:Keep (p2::own W os) H3 G)(exG:∀ {c},G c=none->H c=none)(ltt:tt.length<=32)(IT:IsT os u tt)(hx:tt[i]? = some x)(mc:c∈os)(ex:x.2=c.od.nm)
 (nv:Option Int) (G1:Hp) (bs1:List V) (R1:RP a W F G1 cs g (os.map (adv (tt.take i))) bs1) (B1:A2 (BxAt (frz F H G1)) bs1 (bkB cs g os bx (tt.take (i+1)))) (en:nv=nuB cs g os (bkB cs g os bx (tt.take i)) x) (kb:Keep [W.b] G G1) :
 StQ a W E c.od.nm x.1 (cl nv) p2 G1 fun H4=>∃bs' ws' x6 x8,RP a W F H4 cs g (os.map (adv (tt.take (i+1)))) bs'/\A2 (BxAt (frz F H H4)) bs' (bkB cs g os bx (tt.take (i+1)))/\H4 p2=some (.lst ws')/\A2 (ToAt (frz F H H4)) ws' (tlB cs g os bx (tt.take (i+1)))/\Keep (p2::own W os) H3 H4/\some (L2.T c.od.nm)=x6/\some (V.int x.1)=x8:=by
 have tk:TK G G1:=TK.keep kb fun c m l e=>by rw[zz.mp m,R'.b]at e;cases e
 have n2:=R.new f2;have h21:G1 p2=some (.lst ws'):=kb _ _ h2 fun m=>by rw[zz.mp m]at f2;exact R.ex (.head _) f2
 have lw:=T'.len;rw[ot,Zx]at lw;have mc':adv (tt.take i) c∈os.map (adv (tt.take i)):=xf mc;have ok:=R.ok c mc;have lt:(adv (tt.take i) c).od.go+1<=(dys c.od.f c.od.e c.od.n).length:=by
  have h1:=IT.cnt R.np mc ok.dy;have h2:=Cl tt (i+1) c.od.nm;rw[bE hx,uG,if_pos ex]at h2;have h3:=j_ c.od u;have h4:=ok.g0;show c.od.go+(cnt (tt.take i) c.od.nm:Nat)+1<=_;lia
 refine stq (c:=adv (tt.take i) c) R1 mc' h21 (by lia) n2.1 (by rw[og];exact n2.2) lt fun p H4 fp gp g4 R4 k4=>?_;rw[kX]at k4;rw[show(adv (tt.take i) c).od.nm=c.od.nm from rfl,<- Dh R.np mc ex,<- bE hx]at R4;have fpG:G p=none:=by
  cases e:G p with
  |none=>rfl
  |some z=>
   by_cases m:p∈[W.b]
   ·rw[zz.mp m,R1.b]at fp;cases fp
   ·rw[kb _ _ e m]at fp;cases fp
 have tk4:TK G1 H4:=TK.keep k4 fun c m l e=>by
  rcases zO.mp m with rfl|m
  ·rw[h21]at e;cases e
  ·exact R1.ntup (by rw[kX];exact m) e
 refine⟨bs1,_,_,_,R4,gf tk4.frz B1,g4,?_,kp.trans ((kb.mono fun z m=>by rw[zz.mp m];exact .tail _ (.head _)).trans k4),rfl,rfl⟩;rw[bE hx,qh];refine(CA (tk.trans tk4).frz T').snoc ⟨p,rfl,?_⟩;rw[fN R.fh (exG fpG),gp,<- en,ex]
 rfl
end
theorem wo(os:List Ot):os.map (adv [])=os:=by
 rw[uW fun o _=>Eu o,List.map_id']
theorem Bn(T:Txt K mg a):Fo P w K mg base "run" 10 (sp_Hn a):=by
 refine T.KN.hx Gh (gX5 fun x0 x1 x2 x3 x4 fA cdv A outer s H Q E ND HU hr h=>?_);obtain⟨hN,h1⟩:=h;obtain⟨p,rfl,h2⟩:=aE h1;obtain⟨g,rfl,h3⟩:=aE h2;obtain⟨j,rfl,h4⟩:=aE h3;obtain⟨s',rfl,h5⟩:=aE h4;refine bW (eY h5) fun tk htk hb k0 k1=>?_;have sz:=szl
 skip
 have c3:∃uu,PSs (cp (XE P w) P w K mg base Gh "run" (ay (top 51)) fA cdv A outer s H E) (ZU 3 (bh (top 51))) uu/\∀(W:Wd) (F:Hp) cs o os bs bx t r ws x6 ts H1,amg (.int t) 0 146096=true->os.length<=4->bx.length<=68->RP a W F H cs o os bs->A2 (BxAt F) bs bx->Same H H1->NoT H1->H r=none->H1 r=some (.lst ws)->A2 (TnAt H1) ws ts->ts.Nodup->(∀x,x∈ts↔∃o∈os,x.2=o.od.nm/\x.1∈lft o.od t)->ts.length<=32->RnQ a W F H cs o os bx t Q ->
  uu { nx:=fun _ H'=>Q .non H',rt:=Q } [some (.ref W.ch),some (.ref W.g),some (.ref W.j),some (.ref W.s),some (.int t),some (.ref r),x6,none,none] H1:=by
  refine⟨_,(ae (aR 7 ND (cj (FA.pa cv)))
   (ae (dE (by passes_own) rfl (bQ K (aC (vc K) rfl T.gh eI (fa1 (fv 5)))) (gC K (n:=2) rfl (a_ (aK (i:=8) ND rfl (Or.inl rfl)) (a_ (aK (i:=6) ND rfl (Or.inr rfl)) eL))) (ae (bt (df K Zk ZP ZQ dX (fv 7) (fa1 (b7 (fa3 (fv 6) (fv 8) (aH (AT T) hr av (fa5 (fv 0) (fv 1) (fv 2) (fv 8) (ci (fv 3) T.a9 (j7 T) hr.mono av (fa1 (fv 6))))))))))
   (ah (bt (ci (fv 3) T.a9 (l9 T) hr.mono av (fa1 (fv 6)))))))
   (ah (aF (fv 7))))),fun W F cs o os bs bx t r ws x6 ts H1 ht l4 lbx R B0 s1 N1 fr g1 aw nd hm l64 k=>?_⟩
  walk_at "q";refine⟨Zv _,fun p2 f2=>dJ ?_⟩;refine bW (br (o:=HO.lst []) f2 N1 rfl) fun H2 e2 s2 g2 N2=>?_;rw[e2];walk_at "q";refine gb (Bj (kf:=xl) aw) fun ps yy1 ek hps=>?_;subst yy1;refine⟨ps,true,[false],aA (s2 _ _ g1),fun e m=>s2 _ _ (hps e m),by have:=congrArg ZO ek;rw[zV,zV]at this;lia,fun e m=>?_,by rw[ek];exact Zc.mpr (nd.imp fun h z=>h (o4 z)),fun out po oo l fl=>?_⟩
  ·have m2:e.2∈ps.map (·.2):=xf m
   rw[ek]at m2;obtain⟨x,_,e'⟩:=xS.mp m2;rw[<- e'];rfl
  refine bW (br (o:=HO.lst (out.map fun e=>.ref e.1)) fl N2 rfl) fun H3 e3 s3 g3 N3=>?_;rw[e3];refine gb (CP (kf:=xl) o4 ek po) fun tt et mt lt=>?_;have IT:IsT os t tt:=⟨by unfold OrdT;rw[<- et];exact oo,fun x=>by rw[mt,hm]⟩;have ltt:tt.length<=32:=by lia
  have s23:=s2.trans s3;have aT:=wO et fun e m=>s23 _ _ (hps e (po.mem_iff.mp m));have sH:=s1.trans s23;have R3:=R.same sH N3;walk_at "q";refine dL (aA g3) (dH (xs:=out.map fun e=>.ref e.1) (fun i σ' G=>∃bs' ws' x6 x8,RP a W F G cs o (os.map (adv (tt.take i))) bs'/\A2 (BxAt (frz F H G)) bs' (bkB cs o os bx (tt.take i))/\G p2=some (.lst ws')/\A2 (ToAt (frz F H G)) ws' (tlB cs o os bx (tt.take i))/\Keep (p2::own W os) H3 G/\σ'=[some (.ref W.ch),some (.ref W.g),some (.ref W.j),some (.ref W.s),some (.int t),some (.ref r),x6,some (.ref p2),x8]) ⟨bs,[],x6,none,?_,?_,s3 _ _ g2,.nil,Keep.refl,rfl⟩ (fun i σ' G _ h=>?_) ?_ ?_)
  ·rw[List.take_zero,wo];exact R3
  ·exact c7 (dW F H H3).s B0
  ·obtain⟨bs',ws',x6,x8,R',B',h2,T',kp,rfl⟩:=h
   refine aA (kp _ _ g3 fun m=>?_);rcases zO.mp m with rfl|m
   ·rw[g2]at fl;cases fl
   ·have:=R.ex m
    exact this ((s1.trans s2).free fl)
  ·rintro i x σ' G hx ⟨bs',ws',x6,x8,R',B',h2,T',kp,rfl⟩
   refine ce (aT.at_ hx) fun yy1 ht1 yz=>ce yz fun q1 yy2 hq1=>?_;obtain⟨d,l1⟩:=yy1;subst yy2;refine gb ((IT.2 _).mp (vW ht1)) fun o1 mo e1 hd=>?_;obtain rfl:l1=o1.od.nm:=e1;have mo':adv (tt.take i) o1∈os.map (adv (tt.take i)):=xf mo;have hq1:=kp _ _ hq1 (fun m=>?_)
   rotate_left 1
   ·rcases zO.mp m with rfl|m
    ·rw[s3 _ _ g2]at hq1;cases hq1
    ·exact R3.ntup m hq1
   walk_at "q";refine⟨_,_,rfl,bR hq1,rfl,_,_,rfl,_,_,rfl,rfl,?_⟩;walk_at "q";obtain⟨dx,hs⟩:=R'.sat.ob;have ok1:=R.ok o1 mo;have lb:=B'.len;have hd2:=ok1.di d (List.mem_of_mem_drop (Z9.mp hd).1);refine⟨.inl ⟨_,aA h2⟩,_,_,hs,aQ,R'.nT,_,_,R'.sat,?_⟩;show mn _ _ (gT _ (adv (tt.take i) o1).od.nm) _;rw[R'.fnd mo'];refine⟨cs,o,o1.tn,o1.od.rs,o1.rw,W.b,W.u,bs',[],⟨R'.nT,ok1.nt2,hd2,?_,R.cu,⟨_,_,_,_,(R'.ok _ mo').ag.same R'.fh⟩,bD R'.fh ok1.rs,by have:=ok1.ln;lia,ok1.ok,R'.g,R'.jat,?_,by decide⟩,fun yes H' L=>?_,fun no H' s' n'=>?_⟩
   ·obtain⟨d,J⟩:=R'.ch
    exact⟨d,J.same R'.fh⟩
   ·have:=ow (cs:=cs) (g:=o) (os:=os) (tt.take i) bx
    rw[Zx]at this;lia
   all_goals
    have exG:∀ {c},G c=none->H c=none:=fun {c} e=>by
     cases hc:H c with
     |none=>rfl
     |some z=>
      by_cases m:c∈p2::own W os
      ·rcases zO.mp m with rfl|m
       ·rw[h2]at e;cases e
       ·exact absurd e (R'.ex (by rw[kX];exact m))
      ·rw[kp _ _ (sH _ _ hc) m]at e;cases e
    have key:=stK R R' h2 T' (s1.free f2) kp (fun {c}=>exG) ltt IT ht1 mo rfl (E:=E)
   ·refine Jx (R'.booked L) fun q t1 fq ft eq et1 Rb kb=>?_
    have tk:TK G H':=TK.keep kb fun c m l e=>by rw[zz.mp m,R'.b]at e;cases e
    refine key (some bs'.length) H' (bs'++[.ref q]) Rb ?_ ?_ kb
    ·rw[bE ht1,oN]
     unfold stB;rw[qQ R.np mo];dsimp only;rw[if_pos (show okT cs o o1 d from yes),<- lb];exact(gf tk.frz B').snoc ⟨q,t1,_,rfl,by rw[fN R.fh (exG fq)];exact eq,by rw[fN R.fh (exG ft)];exact et1,bD (dW F H H').s ok1.rs⟩
    ·unfold nuB
     rw[qQ R.np mo];dsimp only;rw[if_pos (show okT cs o o1 d from yes),<- lb]
   ·refine key none H' bs' (R'.same s' n') ?_ ?_ (bL s')
    ·rw[bE ht1,oN]
     unfold stB;rw[qQ R.np mo];dsimp only;rw[if_neg (show ¬ okT cs o o1 d from no)];exact gf (TK.same s').frz B'
    ·unfold nuB
     rw[qQ R.np mo];dsimp only;rw[if_neg (show ¬ okT cs o o1 d from no)]
  ·rintro σ' G ⟨bs',ws',x6,x8,R',B',h2,T',kp,rfl⟩
   rw[aT.len,Zl]at R' B' T';have fp2:H p2=none:=s1.free f2;have sFG:Same F G:=R'.fh;have nt2:∀c∈own W os,H c≠none:=fun c m=>R.ex m;refine k tt (frz F H G) G p2 bs' IT (dW F H G) (R'.grow (dW F H G).s (tj sFG) fun c m=>?_) B' (fun c z e n=>?_) fp2 ⟨ws',by rw[fN R.fh fp2];exact h2,T'⟩
   ·rw[og]at m
    exact(dW F H G).n c (R.exm m) (R.fm c m)
   ·exact kp c z (sH _ _ e) fun m=>(zO.mp m).elim (fun q=>by rw[q,fp2]at e;cases e) n
 obtain⟨u3,hu3,c3⟩:=c3;refine⟨_,(ae (ba (bF (bA (aH (ia T) hr av (fa1 (fv 4))))) (ah (b8 T.gW T.f8 bw)) aI)
  (ae (aR 5 ND (cj (FA.pa cv)))
  (ae (dE (by passes_own) rfl (bQ K (tM (fv 3) T.a9 (gl T) hr.mono av)) (aK (i:=6) ND rfl (Or.inr rfl)) (ah (bt (df K Zk PySem.F.slot_list_extend PySem.F.type_list_extend E_ (fv 5) (fa1 (b_ rfl (cl:=_) (x:="day") (xs:=["day"]) (fr:=["name"]) (ks:=[6]) (by walk_at "c") rfl (bQ K (ci (fv 3) T.a9 (lJ T) hr.mono av (fa2 (fv 6) (fv 4)))) (fun _ _ _ _ _=>(aK (i:=0) (eC (l:=["day","name"]) (by decide)) rfl (Or.inl rfl))) (fun _ _ _ _ _=>eO) (fun _ _ _ _ _=>(b7 (fa2 (fv 0) (fv 1))))))))))
  hu3))),?_⟩
 walk_at "q";refine⟨hN,asK.of htk ?_⟩;cases eu:amg x4 0 146096 with
 |false=>exact itp rfl ⟨by walk_at "o",k0 eu⟩
 |true=>
 refine LR (k1 eu) fun W F cs o os bs bx yy1 yy2 yy3 yy4 l4 lbx R B0 k=>?_;subst yy1 yy2 yy3 yy4;refine gb (Fr eu) fun t yy1 t0 t1=>?_;subst yy1;have k:=k t rfl;have SA:=R.sat;obtain⟨dx,hs⟩:=SA.ob;refine itn (by decide) ⟨Zv _,fun r fr=>dJ ?_⟩;refine bW (br (o:=HO.lst []) fr hN rfl) fun H1 ee s1 g1 N1=>?_;rw[ee];walk_at "q";refine⟨_,_,s1 _ _ hs,aQ,N1,_,_,SA.same s1,by rw[zV];lia,fun out po io q fq=>?_⟩;refine bW (br (o:=HO.lst (out.map L2.T)) fq N1 rfl) fun H2 ee2 s2 g2 N2=>?_;rw[ee2];have lo:=po.length_eq;rw[zV,zV]at lo;walk_at "q";have mout:∀l∈out,l∈os.map (·.od.nm):=fun l m=>by have:=po.mem_iff.mp m;rwa [wM]at this
 have nout:out.Nodup:=po.nodup_iff.mpr (by rw[wM];exact R.np);have hm:∀ {G:Hp},Keep [r] H2 G->Same H G:=fun kp c z e=>kp c z (s2 _ _ (s1 _ _ e)) (by intro m;rw[zz.mp m,fr]at e;cases e);refine dL (xs:=out.map L2.T) (aA g2) (dH (fun i σ' G=>Keep [r] H2 G/\NoT G/\∃ws x6,G r=some (.lst ws)/\A2 (TnAt G) ws ((out.take i).flatMap (trn os t))/\σ'=[some (.ref W.ch),some (.ref W.g),some (.ref W.j),some (.ref W.s),some (.int t),some (.ref r),x6,none,none]) ⟨Keep.refl,N2,[],none,s2 _ _ g1,.nil,rfl⟩ (fun i σ' G _ h=>aA (h.1 _ _ g2 (by intro m;rw[zz.mp m,g1]at fq;cases fq))) ?_ ?_)
 ·rintro i x σ' G hx ⟨kp,nG,ws,x6,gr,aw,rfl⟩
  rw[List.getElem?_map]at hx;refine ce (Zg.mp hx) fun l hl yy1=>?_;subst yy1;have ml:=po.mem_iff.mp (vW hl);rw[wM]at ml;refine ce (xS.mp ml) fun o1 mo yy1=>?_;subst yy1;have RG:=R.same (hm kp) nG;walk_at "q";refine⟨.inl ⟨_,aA gr⟩,ql ?_⟩;walk_at "q";have ok:=R.ok o1 mo;have ld:=sx ok;obtain⟨dx,hs⟩:=RG.sat.ob;refine⟨_,_,hs,aQ,nG,_,_,RG.sat,?_⟩;show mn _ _ (gT _ o1.od.nm) _;rw[R.fnd mo];refine⟨⟨ok.g0,by have:=ok.n1;lia⟩,fun q1 f1=>?_⟩;refine bW (br (o:=HO.lst ((lft o1.od t).map V.int)) f1 nG rfl) fun G1 e1 t1 h1 M1=>?_;have e1':=e1;unfold lft at e1';rw[e1'];have ll:=j_ o1.od t;have lw:=aw.len;refine⟨⟨_,aA h1⟩,ceA TnAt.mv q1 _ (lft o1.od t) (fun v d=>v = .int d) (fun _=>true) (fun d=>(d,o1.od.nm)) h1 M1 (Bc V.int fun _=>rfl) (by rw[zV];lia) (fun v b mb rb G' zs N1 N0 sG nG' hz n1 n0=>?_) fun D ws' G' hD sG nG' gD aG=>?_⟩
  ·subst rb
   obtain⟨z1,rfl⟩:=ex1 hz;walk_at "q";exact⟨⟨[_],rfl,rfl⟩,by walk_at "o",fun p1 hp1=>n1 rfl _ _ (aj _ hp1) (aq nG' rfl) ⟨p1,rfl,af⟩⟩
  ·rw[ZW.mpr (fun _ _=>rfl)]at aG
   have gr':=sG _ _ (t1 _ _ gr);have lw':=aG.len;rw[zV]at lw';refine⟨r,D,ws,ws',rfl,rfl,gr',gD,?_,?_,aq nG' rfl,_,_,af,?_,rfl⟩
   ·have:=(lU (u:=t) R.np (fun o m=>⟨(R.ok o m).dy,sx (R.ok o m)⟩) (nout.sublist (List.take_sublist i out)) fun l m=>mout l (Xx m)).2
    rw[Zx]at this;exact JX lw lw' ll ld this lo l4 sz
   ·exact(kp.trans ((bL t1).trans (bL sG))).put (.head _)
   ·have kt:∀t l,G' t=some (.tup l)->upd G' r (.lst (ws++ws')) t=some (.tup l):=fun t l e=>by rw[ai fun z=>by rw[z,gr']at e;cases e];exact e
    rw[bE hl,Xn];have e2:List.flatMap (trn os t) [((fun x=>x.nm) ∘ fun x=>x.od) o1]=(lft o1.od t).map fun d=>(d,o1.od.nm):=by
     show trn os t o1.od.nm++[]=_;rw[gJ R.np mo,Ze]
    rw[e2];exact((aw.imp fun _ _ _ _ h=>TnAt.mv _ _ _ _ (fun t l e=>kt _ _ (sG _ _ (t1 _ _ e))) h)).app (aG.imp fun _ _ _ _ h=>TnAt.mv _ _ _ _ kt h)
 ·rintro σ' G ⟨kp,nG,ws,x6,gr,aw,rfl⟩
  rw[zV,Zl]at aw;obtain⟨n1,n2⟩:=lU (u:=t) R.np (fun o m=>⟨(R.ok o m).dy,sx (R.ok o m)⟩) nout mout;refine c3 W F cs o os bs bx t r ws x6 _ G eu l4 lbx R B0 (hm kp) nG fr gr aw n1 (fun x=>?_) (by lia) k;rw[List.mem_flatMap];constructor
  ·rintro⟨l,ml,mx⟩
   obtain⟨o1,mo,rfl⟩:=xS.mp (mout l ml);have e:=CU mx;rw[gJ R.np mo]at mx;obtain⟨d,md,rfl⟩:=xS.mp mx;exact⟨o1,mo,rfl,md⟩
  ·rintro⟨o1,mo,e1,e2⟩
   refine⟨o1.od.nm,po.mem_iff.mpr (by rw[wM];exact xf (f:=fun o:Ot=>o.od.nm) mo),?_⟩;rw[gJ R.np mo];exact xS.mpr ⟨x.1,e2,by rw[<- e1]⟩
structure La where
 pa:List Nat
 cu:Option (List Nat)
 fi:Int
 un:Option Int
 ls:Addr
noncomputable def cuV:Option (List Nat)->V
 |none=>.non
 |some l=>L2.T l
noncomputable def kyL(x:La):Key × V:=(.inr ⟨⟨x.pa⟩⟩,.ref x.ls)
noncomputable abbrev laL(x:La):HO:=.lst [cuV x.cu,.int x.fi,cl x.un]
structure Nms(ls:List (List Nat)):Prop where
 len:ls.length=4
 nm:∀l∈ls,nm l=true
 nd:ls.Nodup
theorem gm{l:List Nat}(h:nm l=true):58∉l:=fun m=>by have:=(jc h).2.2 58 m;lia
noncomputable def EUR:List Nat:=[69,85,82]
noncomputable def CHF:List Nat:=[67,72,70]
def As(n0 n1 n2 n3:List Nat)(as:List La):Prop:=∃q0 q1 q2 q3 cu2 cu3 f2 u3,as=[⟨n0,none,0,none,q0⟩,⟨n1,none,0,none,q1⟩,⟨n0++[58]++n2,cu2,f2,none,q2⟩,⟨n1++[58]++n3,cu3,0,u3,q3⟩]/\(cu2=none\/cu2=some EUR)/\(cu3=none\/cu3=some CHF)/\(0<=f2/\f2<=146096)/\∀t,u3=some t->0<t/\t<=146096
theorem z_{α:Type}{x a b c d:α}(m:x∈[a,b,c,d]):x=a\/x=b\/x=c\/x=d:=by simpa using m
theorem Cw{l:List Nat}{H:Hp}{Q:VK}{c:Int}(q:∀cu,(cu=none\/cu=some l)->Q (cuV cu) H):gz [L2.T l,V.non] H H Q (.int (c % 2)):=by
 unfold gz;rcases(by lia:c % 2=0\/c % 2=1) with e|e <;> rw[e]
 ·exact q (some l) (.inr rfl)
 ·exact q none (.inl rfl)
theorem IG{t:Int}{H:Hp}{Q:VK}{c:Int}(q:∀un,(un=none\/un=some t)->Q (cl un) H):gz [V.int t,V.non] H H Q (.int (c % 2)):=by
 unfold gz;rcases(by lia:c % 2=0\/c % 2=1) with e|e <;> rw[e]
 ·exact q (some t) (.inr rfl)
 ·exact q none (.inl rfl)
theorem EM{as:List La}{x:La}(h:∀y∈as,y.pa≠x.pa):dU (as.map kyL) (.inr ⟨⟨x.pa⟩⟩) (.ref x.ls)=(as++[x]).map kyL:=by
 rw[kl,vH]
 ·rfl
 ·induction as with
  |nil=>rfl
  |cons y r ih=>rw[wV,bO (fun z=>h y (.head _) (by simpa [kyL] using z)),ih fun z m=>h z (.tail _ m)]
theorem ze{H:Hp}{d:Addr}{as:List La}(x:La)(h:H d=some (.dK (as.map kyL)))(n:∀y∈as,y.pa≠x.pa)(l:as.length<100):DPut H d (L2.T x.pa) (.ref x.ls) (upd H d (.dK ((as++[x]).map kyL))):=by
 have:=DPut.k (k:=.inr ⟨⟨x.pa⟩⟩) (v:=.ref x.ls) h (by rw[zV,uz];lia);rw[EM n]at this;exact this
theorem IP{H:Hp}{p:Addr}{o:HO}(n:NoT H)(ho:iU o=true):∃H1,upd H p o=H1/\H1 p=some o/\Keep [p] H H1/\NoT H1:=⟨_,rfl,af,Keep.refl.put (.head _),aq n ho⟩
theorem pa_ne{u n v:List Nat}(hn:58∉v):v≠u++[58]++n:=fun e=>hn (by rw[e];simp)
def sp_vW(K:W.Frag):Sp:=sp3 fun x y z H Q _=>NoT H/\asR x fun sc=>asR y fun pn=>asI z fun b=>∃(ns:List Int) (n0 n1 n2 n3:List Nat),SqL K H sc (ns.map V.int)/\H pn=some (.lst [L2.T n0,L2.T n1,L2.T n2,L2.T n3])/\Nms [n0,n1,n2,n3]/\(0<=b/\b<=4799) /\
 ∀d as H',As n0 n1 n2 n3 as->H' d=some (.dK (as.map kyL))->(∀x∈as,H' x.ls=some (laL x))->H d=none->Same H H'->NoT H'->Q (.ref d) H'
theorem mL(T:Txt K mg a):Fo P w K mg base "_law_accounts" 4 (sp_vW K):=by
 refine T.nQ.hx iJ (gX3 fun x0 x1 x2 fA cdv A outer s H Q E ND HU hr h=>?_);obtain⟨hN,h1⟩:=h;obtain⟨sc,rfl,h2⟩:=aE h1;obtain⟨pn,rfl,h3⟩:=aE h2;obtain⟨b,rfl,ns,n0,n1,n2,n3,hS,hpn,N,hb,k⟩:=aW h3;have sz:=szl;have l0:=(jc (N.nm n0 (.head _))).2.1;have l1:=(jc (N.nm n1 (.tail _ (.head _)))).2.1;have l2:=(jc (N.nm n2 (.tail _ (.tail _ (.head _))))).2.1;have l3:=(jc (N.nm n3 (.tail _ (.tail _ (.tail _ (.head _)))))).2.1;have lowI:=m_ (m:=b) (pl:=1) (ZA _);have fd0:=de hb.1;have fd1:=de (show b+1<=4800 by lia);rw[xw]at fd0;rw[jW]at fd1
 skip
 have c4:∃u,PSs (cp (XE P w) P w K mg base iJ "_law_accounts" (ay (top 81)) fA cdv A outer s H E) (ZU 4 (bh (top 81))) u/\∀(c low en:Int) d q0 q1 H1,0<=low->0<en->en<=146096->Same H H1->NoT H1->H d=none->H1 d=some (.dK [kyL ⟨n0,none,0,none,q0⟩,kyL ⟨n1,none,0,none,q1⟩])->H1 q0=some (.lst [.non,.int 0,.non])->H1 q1=some (.lst [.non,.int 0,.non]) ->
  u { nx:=fun _ H'=>Q .non H',rt:=Q } [some (.ref sc),some (.ref pn),some (.int b),some (.int c),some (.int low),some (.int en),some (.ref d)] H1:=by
  refine⟨_,(ae (fP (Zz HU) (fv 6) (au aP (au aP (aM K (fv 1) aa) (bv [58])) (aM K (fv 1) aa)) (cj (fa3 (fV (fa2 (bv [69,85,82]) cY) (au bi (fv 3) aa) (fun _ _=>rfl)) (aC (eX rfl) rfl T.iF eZ (fa2 aa (au aP (fv 4) (au bi (au bB (fv 3) aa) aa)))) cY)) rfl)
   (ae (fP (Zz HU) (fv 6) (au aP (au aP (aM K (fv 1) aa) (bv [58])) (aM K (fv 1) aa)) (cj (fa3 (fV (fa2 (bv [67,72,70]) cY) (au bi (au bB (fv 3) aa) aa) (fun _ _=>rfl)) aa (fV (fa2 (fv 5) cY) (au bi (au bB (fv 3) aa) aa) (fun _ _=>rfl)))) rfl)
   (ah (aF (fv 6))))),fun c low en d q0 q1 H1 low0 en0 en1 s1 N1 fd g1 gq0 gq1=>?_⟩
  have h0:=gm (N.nm n0 (.head _));have h1:=gm (N.nm n1 (.tail _ (.head _)));have n01:n0≠n1:=by have:=N.nd;simp at this;exact this.1.1
  walk_at "q";refine⟨N1,by walk_at "o",fun p hp=>Cw fun cu2 hcu2=>⟨by walk_at "o",fun q2 f2=>?_⟩⟩;generalize hf:(if low+c / 4 % 16<146095 then low+c / 4 % 16 else 146095)=fi2;have bf:0<=fi2/\fi2<=146096:=by rw[<- hf];split <;> lia
  refine bW (br (o:=HO.lst [cuV cu2,V.int fi2,V.non]) f2 N1 rfl) fun H2 e2 s2 g2 N2=>?_;rw[e2];have hp2:=s2 _ _ (s1 _ _ hpn);refine⟨_,_,.inl (aA hp2),aJ (j:=0) rfl,?_⟩;walk_at "q";refine⟨by show n0.length+1<=_;lia,_,_,.inl (aA hp2),aJ (j:=2) rfl,?_⟩;walk_at "q";refine⟨by rw[vx];show n0.length+1+_<=_;lia,d,_,rfl,ze (as:=[⟨n0,none,0,none,q0⟩,⟨n1,none,0,none,q1⟩]) ⟨n0++[58]++n2,cu2,fi2,none,q2⟩ (s2 _ _ g1) (by
   intro y m;rcases zO.mp m with rfl|m
   ·exact pa_ne h0
   rcases zO.mp m with rfl|m
   ·exact pa_ne h1
   cases m) (by show 2<100;decide),?_⟩
  refine bW (IP (p:=d) (o:=HO.dK (List.map kyL ([(⟨n0,none,0,none,q0⟩:La),⟨n1,none,0,none,q1⟩]++[⟨n0++[58]++n2,cu2,fi2,none,q2⟩]))) N2 rfl) fun H3 e3 g3 k3 N3=>?_;rw[e3];have nl:∀ {q:Addr} {x:List V},H2 q=some (.lst x)->q∉[d]:=fun e m=>aY e (s2 _ _ g1) (by intro z;cases z) (zz.mp m);have s3:Same H H3:=by rw[<- e3];exact cX (s1.trans s2) fd
  have a0:=k3 _ _ (s2 _ _ gq0) (nl (s2 _ _ gq0));have a1:=k3 _ _ (s2 _ _ gq1) (nl (s2 _ _ gq1));have a2:=k3 _ _ g2 (nl g2);refine⟨N3,by walk_at "o",fun p hp=>Cw fun cu3 hcu3=>⟨N3,by walk_at "o",fun p hp=>IG fun u3 hu3=>⟨by walk_at "o",fun q3 f3=>?_⟩⟩⟩;refine bW (br (o:=HO.lst [cuV cu3,V.int 0,cl u3]) f3 N3 rfl) fun H4 e4 s4 g4 N4=>?_;rw[e4];have hp4:=s4 _ _ (s3 _ _ hpn);refine⟨_,_,.inl (aA hp4),aJ (j:=1) rfl,?_⟩;walk_at "q";refine⟨by show n1.length+1<=_;lia,_,_,.inl (aA hp4),aJ (j:=3) rfl,?_⟩;walk_at "q";refine⟨by rw[vx];show n1.length+1+_<=_;lia,d,_,rfl,ze (as:=[⟨n0,none,0,none,q0⟩,⟨n1,none,0,none,q1⟩]++[⟨n0++[58]++n2,cu2,fi2,none,q2⟩]) ⟨n1++[58]++n3,cu3,0,u3,q3⟩ (s4 _ _ g3) (by
   intro y m;rcases zO.mp m with rfl|m
   ·exact pa_ne h0
   rcases zO.mp m with rfl|m
   ·exact pa_ne h1
   rcases zO.mp m with rfl|m
   ·intro z
    have z:n0++[58]++n2=n1++[58]++n3:=z;have:=congrArg (spN 58) z;rw[Yr,Yr]at this;rw[show([58]:List Nat)++n2=58::n2 from rfl,show([58]:List Nat)++n3=58::n3 from rfl,iB (gm (N.nm n2 (.tail _ (.tail _ (.head _))))),iB (gm (N.nm n3 (.tail _ (.tail _ (.tail _ (.head _))))))]at this;rw[fU 58 _ h0,fU 58 _ h1]at this;simp at this;exact n01 this.1
   cases m) (by show 3<100;decide),?_⟩
  have nl:∀ {q:Addr} {x:List V},H4 q=some (.lst x)->q≠d:=fun e=>aY e (s4 _ _ g3);have a0:=s4 _ _ a0;have a1:=s4 _ _ a1;have a2:=s4 _ _ a2;refine k d _ _ ⟨q0,q1,q2,q3,cu2,cu3,fi2,u3,rfl,hcu2,hcu3,bf,fun t e=>?_⟩ af (fun x m=>?_) fd (cX (s3.trans s4) fd) (aq N4 rfl)
  ·rcases hu3 with h|h <;> rw[h]at e <;> cases e
   exact⟨en0,en1⟩
  ·rcases z_ m with rfl|rfl|rfl|rfl
   ·exact(ai (nl a0)).trans a0
   ·exact(ai (nl a1)).trans a1
   ·exact(ai (nl a2)).trans a2
   ·exact(ai (nl g4)).trans g4
 obtain⟨u4,hu4,c4⟩:=c4;refine⟨_,(ae (aR 3 ND (aH (bq T) hr av (fa2 (fv 0) aa)))
  (ae (aR 4 ND (aH (dw T) hr av (fa2 (fv 2) aa)))
  (ae (aR 5 ND (aC (eX rfl) rfl T.iF eZ (fa2 aa (au aP (au aP (fv 4) aa) (au bi (au bB (fv 3) aa) aa)))))
  (ae (aR 6 ND (E7 (vR (aM K (fv 1) aa) (cj (fa3 cY aa cY)) (vR (aM K (fv 1) aa) (cj (fa3 cY aa cY)) Fy)) rfl rfl (by simp) (by decide)))
  hu4)))),?_⟩
 walk_at "q";refine⟨ns,hS,hN,⟨by lia,by lia⟩,?_⟩;simp only[GM,tK];intro d hd;walk_at "q";have s0:=aj (HO.dK []) hd;refine⟨_,_,.inl (aA (s0 _ _ hpn)),aJ (j:=0) rfl,by walk_at "o",fun q0 f0=>?_⟩;have s1:=s0.trans (aj (HO.lst [V.non,V.int 0,V.non]) f0);refine⟨_,_,.inl (aA (s1 _ _ hpn)),aJ (j:=1) rfl,by walk_at "o",fun q1 f1=>?_⟩;have d0:d≠q0:=fun z=>by rw[<- z,af]at f0;cases f0
 have q01:q0≠q1:=fun z=>by rw[<- z,af]at f1;cases f1
 have d1:d≠q1:=fun z=>by rw[<- z,ai d0,af]at f1;cases f1
 have n01:n0≠n1:=by have:=N.nd;simp at this;exact this.1.1
 refine⟨by rw[ai d1,ai d0,af],[(.inr ⟨⟨n0⟩⟩,.ref q0),(.inr ⟨⟨n1⟩⟩,.ref q1)],rfl,by show 2<=15;decide,c4 _ _ _ d q0 q1 _ (by lia) (by split <;> lia) (by split <;> lia) (cX (s1.trans (aj _ f1)) hd) (aq (aq (aq (aq hN rfl) rfl) rfl) rfl) hd ?_ ?_ ?_⟩
 ·rw[af]
  have:jZ [] [((.inr ⟨⟨n0⟩⟩:Key),V.ref q0),(.inr ⟨⟨n1⟩⟩,.ref q1)]=[kyL ⟨n0,none,0,none,q0⟩,kyL ⟨n1,none,0,none,q1⟩]:=by
   simp[jZ,dU,kyL,n01]
  rw[this]
 ·rw[ai (Ne.symm d0),ai q01,af]
 ·rw[ai (Ne.symm d1),af]
structure CR(c:Acc)(x:La):Prop where
 pa:c.pa=x.pa
 cu:c.cu=cuV x.cu
 fi:c.fi=x.fi
 un:c.un=x.un
 be:58∈x.pa->c.be=[]
structure CI(a:Adr)(H0 H G:Hp)(ch cd:Addr)(as:List La)(cs:List Acc)(dn:List (List Nat)):Prop where
 at_:CAt a.aV a.aO G ch cd cs
 nT:NoT G
 kp:Keep [cd] H G
 cr:∀c∈cs,c.pa∈dn/\∃x∈as,CR c x
 al:∀l∈dn,∃c∈cs,c.pa=l
 fr:∀c∈cs,H c.ob=none/\H c.bl=none
 lb:∀c∈cs,c.be.length<=cs.length
 ln:cs.length=dn.length
theorem D4(x:V):vL (zS "shut") [(zS "by_path",x)]=none:=by rw[aQ (by decide +kernel)];rfl
theorem HQ(x:V):vL (zS "add") [(zS "by_path",x)]=none:=by rw[aQ (by decide +kernel)];rfl
theorem G7(x:V):vL (zS "add_top") [(zS "by_path",x)]=none:=by rw[aQ (by decide +kernel)];rfl
theorem KP{as:List La}(nd:(as.map (·.pa)).Nodup){x:La}(m:x∈as):cV (as.map kyL) (.inr ⟨⟨x.pa⟩⟩)=some (.ref x.ls):=by
 induction as with
 |nil=>cases m
 |cons y r ih=>
  rw[wV]at nd;obtain⟨n1,n2⟩:=Zi.mp nd;by_cases c:y.pa=x.pa
  ·rw[wV,bU (by unfold kyL;rw[c])]
   rcases zO.mp m with rfl|m
   ·rfl
   ·exact absurd (c ▸ xf (f:=(·.pa)) m) n1
  ·rw[wV,bO (fun z=>c (by simpa [kyL] using z))]
   rcases zO.mp m with rfl|m
   ·exact absurd rfl c
   ·exact ih n2 m
theorem zp{as:List La}(nd:(as.map (·.pa)).Nodup){x y:La}(mx:x∈as)(my:y∈as)(e:x.pa=y.pa):x=y:=by
 induction as with
 |nil=>cases mx
 |cons z r ih=>
  rw[wV]at nd;obtain⟨n1,n2⟩:=Zi.mp nd;rcases zO.mp mx with rfl|mx1
  ·rcases zO.mp my with rfl|my1
   ·rfl
   ·exact absurd (by rw[e];exact xf (f:=(·.pa)) my1) n1
  ·rcases zO.mp my with rfl|my1
   ·exact absurd (by rw[<- e];exact xf (f:=(·.pa)) mx1) n1
   ·exact ih n2 mx1 my1
structure AsO(as:List La):Prop where
 nd:(as.map (·.pa)).Nodup
 l4:as.length=4
 cu:∀x∈as,∀l,x.cu=some l->cur l=true
 fi:∀x∈as,0<=x.fi/\x.fi<=146096
 un:∀x∈as,∀t,x.un=some t->x.fi<t/\t<=146096/\58∈x.pa
 pa:∀x∈as,(nm x.pa=true/\x.cu=none/\x.fi=0/\x.un=none)\/(∃u∈as,∃n,x.pa=u.pa++58::n/\nm n=true/\nm u.pa=true/\u.un=none/\u.fi<=x.fi)
theorem AsO.of{n0 n1 n2 n3:List Nat}{as:List La}(N:Nms [n0,n1,n2,n3])(h:As n0 n1 n2 n3 as):AsO as:=by
 obtain⟨q0,q1,q2,q3,cu2,cu3,f2,u3,rfl,c2,c3,bf,bu⟩:=h;have N0:=N.nm n0 (.head _);have N1:=N.nm n1 (.tail _ (.head _));have N2:=N.nm n2 (.tail _ (.tail _ (.head _)));have N3:=N.nm n3 (.tail _ (.tail _ (.tail _ (.head _))));have h0:=gm N0;have h1:=gm N1;have n01:n0≠n1:=by have:=N.nd;simp at this;exact this.1.1
 have e2:n0++[58]++n2=n0++58::n2:=by rw[Yr];rfl
 have e3:n1++[58]++n3=n1++58::n3:=by rw[Yr];rfl
 have n23:n0++58::n2≠n1++58::n3:=fun z=>by
  have:=congrArg (spN 58) z;rw[iB (gm N2),iB (gm N3),fU 58 _ h0,fU 58 _ h1]at this;simp at this;exact n01 this.1
 have p0:∀u n:List Nat,n0≠u++58::n:=fun u n e=>h0 (by rw[e];simp);have p1:∀u n:List Nat,n1≠u++58::n:=fun u n e=>h1 (by rw[e];simp);rw[e2,e3];refine⟨?_,rfl,fun x m l e=>?_,fun x m=>?_,fun x m t e=>?_,fun x m=>?_⟩
 ·simp only[wV,ZX,Zi,zO,zJ,or_false,not_or,List.nodup_nil,and_true,not_false_eq_true]
  exact⟨⟨n01,p0 _ _,p0 _ _⟩,⟨p1 _ _,p1 _ _⟩,n23⟩
 ·rcases z_ m with rfl|rfl|rfl|rfl
  ·cases e
  ·cases e
  ·rcases c2 with z|z
   ·rw[z]at e;cases e
   ·rw[z]at e;cases e;decide
  ·rcases c3 with z|z
   ·rw[z]at e;cases e
   ·rw[z]at e;cases e;decide
 ·rcases z_ m with rfl|rfl|rfl|rfl
  ·exact⟨ZA _,(by decide:(0:Int)<=146096)⟩
  ·exact⟨ZA _,(by decide:(0:Int)<=146096)⟩
  ·exact bf
  ·exact⟨ZA _,(by decide:(0:Int)<=146096)⟩
 ·rcases z_ m with rfl|rfl|rfl|rfl
  ·cases e
  ·cases e
  ·cases e
  ·exact⟨(bu t e).1,(bu t e).2,by simp⟩
 ·rcases z_ m with rfl|rfl|rfl|rfl
  ·exact .inl ⟨N0,rfl,rfl,rfl⟩
  ·exact .inl ⟨N1,rfl,rfl,rfl⟩
  ·exact .inr ⟨_,.head _,n2,rfl,N2,N0,rfl,bf.1⟩
  ·exact .inr ⟨_,.tail _ (.head _),n3,rfl,N3,N1,rfl,ZA _⟩
theorem J0{u n:List Nat}(hu:nm u=true)(hn:nm n=true):rN (u++58::n)=true/\(∀c∈u++58::n,c<128)/\(u++58::n).length<=199:=by
 obtain⟨_,u2,u3⟩:=jc hu;obtain⟨_,n2,n3⟩:=jc hn;refine⟨?_,fun c m=>?_,by rw[vx,sq];lia⟩
 ·unfold rN
  rw[iB (gm hn),fU 58 _ (gm hu)];simp[hu,hn]
 ·rcases tT.mp m with m|m
  ·have:=u3 c m;lia
  ·rcases zO.mp m with rfl|m
   ·decide
   ·have:=n3 c m;lia
theorem Bm(n:List Nat):∀u:List Nat,u<u++58::n
 | []=>by simp
 |c::r=>by rw[ZV];exact List.cons_lt_cons_iff.mpr (.inr ⟨rfl,Bm n r⟩)
section
variable{H0 H G H':Hp}{ch cd:Addr}{as:List La}{cs:List Acc}{dn:List (List Nat)}
theorem CI.fresh(I:CI a H0 H G ch cd as cs dn){q:Addr}(h:G q=none):H q=none:=I.kp.free h fun m=>by rw[zz.mp m,I.at_.dc]at h;cases h
theorem CI.no(I:CI a H0 H G ch cd as cs dn){l:List Nat}(h:l∉dn):fnd cs l=none:=List.find?_eq_none.mpr fun c m=>by
 have:=(I.cr c m).1;simp only[decide_eq_true_eq];intro z;rw[z]at this;exact h this
theorem CI.more(I:CI a H0 H G ch cd as cs dn){S:List Addr}(kp:Keep S G H')(hS:∀q∈S,q=cd\/H q=none)(n:NoT H'){f:Acc->Acc}(hf:∀z,(f z).pa=z.pa/\(f z).ob=z.ob/\(f z).bl=z.bl/\(f z).be.length<=z.be.length+1)(hc:∀z∈cs,∀x,CR z x->CR (f z) x){c:Acc}{x:La}(mx:x∈as)(cr:CR c x)(be:c.be=[])(f1:G c.ob=none)(f2:G c.bl=none)(J:CAt a.aV a.aO H' ch cd (cs.map f++[c])):CI a H0 H H' ch cd as (cs.map f++[c]) (dn++[x.pa]):=by
 refine⟨J,n,fun q z e m=>kp _ _ (I.kp _ _ e m) fun ms=>?_,fun y my=>?_,fun l ml=>?_,fun y my=>?_,fun y my=>?_,by rw[vx,vx,zV,I.ln];rfl⟩
 ·rcases hS q ms with rfl|h
  ·exact m (.head _)
  ·rw[h]at e;cases e
 ·rcases tT.mp my with my|my
  ·obtain⟨z,mz,rfl⟩:=xS.mp my
   obtain⟨h1,x',mx',h2⟩:=I.cr z mz;exact⟨tW _ (by rw[(hf z).1];exact h1),x',mx',hc z mz x' h2⟩
  ·rw[zz.mp my]
   exact⟨wC _ (by rw[cr.pa];exact .head _),x,mx,cr⟩
 ·rcases tT.mp ml with ml|ml
  ·obtain⟨z,mz,e⟩:=I.al l ml
   exact⟨f z,tW _ (xf mz),by rw[(hf z).1];exact e⟩
  ·exact⟨c,wC _ (.head _),by rw[zz.mp ml];exact cr.pa⟩
 ·rcases tT.mp my with my|my
  ·obtain⟨z,mz,rfl⟩:=xS.mp my
   rw[(hf z).2.1,(hf z).2.2.1];exact I.fr z mz
  ·rw[zz.mp my]
   exact⟨I.fresh f1,I.fresh f2⟩
 ·rw[vx,zV]
  rcases tT.mp my with my|my
  ·obtain⟨z,mz,rfl⟩:=xS.mp my
   have:=I.lb z mz;have:=(hf z).2.2.2;show _<=cs.length+1;lia
  ·rw[zz.mp my,be];exact Zv _
end
theorem zF{ys:List Acc}{c:Acc}{l:List Nat}{f:Acc->Acc}(h:∀y∈ys,y.pa≠l)(e:c.pa=l):j4 (ys++[c]) l f=ys++[f c]:=by
 unfold j4;rw[vH,uW (fun y m=>if_neg (h y m)),List.map_id'];show ys++[if c.pa=l then f c else c]=_;rw[if_pos e]
def sp_A_(a:Adr):Sp:=sp1 fun x H Q _=>NoT H/\asR x fun d=>∃as,AsO as/\H d=some (.dK (as.map kyL))/\(∀x∈as,H x.ls=some (laL x)) /\
 ∀ch cd cs H',CAt a.aV a.aO H' ch cd cs->(∀c∈cs,∃x∈as,CR c x)->(∀x∈as,∃c∈cs,c.pa=x.pa)->H ch=none->H cd=none->(∀c∈cs,H c.ob=none/\H c.bl=none)->Same H H'->NoT H'->Q (.ref ch) H'
theorem qv(T:Txt K mg a):Fo P w K mg base "_law_chart" 8 (sp_A_ a):=by
 refine T.t8.hx ["_law_accounts_here","_law_chart_here","_law_path"] (gX1 fun x0 fA cdv A outer s H Q E ND HU hr h=>?_);obtain⟨hN,h1⟩:=h;refine ce (aE h1) fun d yy1 yz=>bW yz fun as AO hd hls k=>?_;subst yy1;have sz:=szl;have l4:=AO.l4;refine⟨_,(ae (aR 1 ND (sT T.BJ (kK T) hr.mono rfl T.EI av))
  (ae (dE (by passes_own) rfl (bQ K (aC (k6 rfl) rfl T.gh eI (fa1 (fv 0)))) (aK (i:=2) ND rfl (Or.inl rfl)) (ah (ba (xA Lc (bv [58]) (fv 2) (by with_unfolding_all rfl)) (ae (bt (ci (fv 1) T.bS (sN T) hr.mono av (fa3 (fv 2) (aM K (ck (Zz HU) (fv 0) (fv 2) (fun _ _=>rfl)) aa) (aM K (ck (Zz HU) (fv 0) (fv 2) (fun _ _=>rfl)) aa))))
  (ah (ba (dZ (dQ (aM K (ck (Zz HU) (fv 0) (fv 2) (fun _ _=>rfl)) aa))) (ah (bt (ci (fv 1) T.bS (qz T) hr.mono av (fa2 (fv 2) (aM K (ck (Zz HU) (fv 0) (fv 2) (fun _ _=>rfl)) aa))))) aI))) (ah (bt (ci (fv 1) T.bS (lY T) hr.mono av (fa2 (fv 2) (bv [104,97,118,101]))))))))
  (ah (aF (fv 1))))),?_⟩
 walk_at "q";intro ch dx hch hdx ne;refine⟨aq (aq hN rfl) rfl,dx,af,fun cd H1 fcd J kp1 N1=>?_⟩;have s1:Same H H1:=fun c z e=>eE hch hdx kp1 c z e zJ;refine dJ ?_;walk_at "q";refine⟨_,as.map (·.pa),s1 _ _ hd,by rw[wM,wM];rfl,by rw[zV];lia,fun out po io q fq=>?_⟩;refine bW (br (o:=HO.lst (out.map L2.T)) fq N1 rfl) fun H2 e2 s2 g2 N2=>?_;rw[e2];have lo:=po.length_eq;rw[zV]at lo;have cd2:H2 cd=some (.dK []):=s2 _ _ J.dc;refine dL (aA g2) (dH (xs:=out.map L2.T) (fun i σ' G=>∃cs x2,CI a H H2 G ch cd as cs (out.take i)/\σ'=[some (.ref d),some (.ref ch),x2]) ⟨[],none,⟨J.same s2,N2,Keep.refl,(fun _ m=>nomatch m),(fun _ m=>nomatch m),(fun _ m=>nomatch m),(fun _ m=>nomatch m),rfl⟩,rfl⟩ (fun i σ' G _ h=>?_) ?_ ?_)
 ·obtain⟨cs,x2,I,rfl⟩:=h
  exact aA (I.kp _ _ g2 fun m=>by rw[zz.mp m,cd2]at g2;cases g2)
 ·rintro i x σ' G hx ⟨cs,x2,I,rfl⟩
  rw[List.getElem?_map]at hx;refine ce (Zg.mp hx) fun l hl yy1=>?_;subst yy1;have nout:out.Nodup:=po.nodup_iff.mpr AO.nd;have il:=(List.getElem?_eq_some_iff.mp hl).1;have nl:l∉out.take i:=fun m=>by
   have h1:=nout;rw[<- List.take_append_drop i out]at h1;have h2:l∈out.drop i:=vW (i:=0) (by rw[List.getElem?_drop];exact hl);exact(Y4.mp h1).2.2 l m l h2 rfl
  refine ce (xS.mp (po.mem_iff.mp (vW hl))) fun x mx ex=>?_;have ex:x.pa=l:=ex;subst ex;have hno:=I.no nl;obtain⟨dc,hch1⟩:=I.at_.ob;have dgd:d≠cd:=fun z=>by rw[z]at hd;exact absurd (s1 _ _ hd) (by rw[J.dc];intro q;injection q with q;injection q with q;have:=congrArg ZO q;simp[l4]at this)
  have hdG:G d=some (.dK (as.map kyL)):=I.kp _ _ (s2 _ _ (s1 _ _ hd)) (by simpa using dgd);have hxG:∀ {G':Hp} {S},Keep S G G'->(∀q∈S,q=cd\/H2 q=none)->G' d=some (.dK (as.map kyL))/\G' x.ls=some (laL x):=fun kp hS=>by
   have e1:=s2 _ _ (s1 _ _ hd);have e2:=s2 _ _ (s1 _ _ (hls x mx));have n2:x.ls≠cd:=aY e2 cd2;exact⟨kp _ _ hdG fun m=>(hS _ m).elim dgd fun z=>(by rw[z]at e1;cases e1),kp _ _ (I.kp _ _ e2 (by simpa using n2)) fun m=>(hS _ m).elim n2 fun z=>(by rw[z]at e2;cases e2)⟩
  have hdx0:=hxG (S:=[]) Keep.refl fun _ m=>nomatch m;have dg:∀ {G':Hp},G' d=some (.dK (as.map kyL))->DGet G' d (L2.T x.pa) (some (.ref x.ls)):=fun h=>by
   have:=DGet.k (k:=.inr ⟨⟨x.pa⟩⟩) h
   rwa [KP AO.nd mx]at this
  have lci:cs.length<=4:=by have:=I.ln;rw[Zx]at this;lia
  walk_at "q";rcases AO.pa x mx with ⟨h1,h2,h3,h4⟩|⟨u,mu,n,h1,h2,h3,h4,h5⟩
  ·refine itn (fun z=>gm h1 (of_decide_eq_true z)) ⟨_,_,hch1,G7 _,I.nT,h1,.head _,cd,cs,I.at_,by lia,hno,fun c H' e1 e2 e3 e4 e5 e6 f1 f2 J' kp' n'=>⟨cs++[c],_,?_,rfl⟩⟩
   rw[bE hl];have:=I.more kp' (fun q m=>.inl (zz.mp m)) n' (f:=id) (fun z=>⟨rfl,rfl,rfl,ZC _⟩) (fun z _ _ h=>h) mx (c:=c) ⟨e1,by rw[e3,h2];rfl,by rw[e4,h3],by rw[e5,h4],fun _=>e6⟩ e6 f1 f2 (by rw[List.map_id];exact J')
   rwa [List.map_id]at this
  ·have m58:58∈x.pa:=by rw[h1];simp
   refine JQ (J0 h3 h2) fun p1 p2 p3=>?_;rw[<- h1]at p1 p2 p3;obtain⟨j,hj⟩:=List.getElem?_of_mem (po.mem_iff.mpr (xf (f:=(·.pa)) mu));have ji:j<i:=by
    have jl:=(List.getElem?_eq_some_iff.mp hj).1;rcases Nat.lt_trichotomy j i with h|h|h
    ·exact h
    ·rw[h,hl]at hj
     injection hj with hj
     exact absurd (hj ▸ m58) (gm h3)
    ·have:=ZF.mp io i j il jl h
     rw[(List.getElem?_eq_some_iff.mp hj).2,(List.getElem?_eq_some_iff.mp hl).2,h1]at this;exact absurd (Bm n u.pa) this
   refine ce (I.al u.pa (vW (i:=j) (by rw[List.getElem?_take,if_pos ji];exact hj))) fun cu mcu ecu=>?_;obtain⟨_,u',mu',cru⟩:=I.cr cu mcu;have eu:u'=u:=zp AO.nd mu' mu (cru.pa.symm.trans ecu);subst eu;refine itp (decide_eq_true m58) ⟨_,_,hch1,HQ _,d,_,rfl,dg hdG,?_⟩;walk_at "q";refine⟨_,_,.inl (aA hdx0.2),aJ (j:=0) rfl,d,_,rfl,dg hdG,?_⟩;walk_at "q";refine⟨_,_,.inl (aA hdx0.2),aJ (j:=1) rfl,I.nT,⟨p2,p3⟩,?_,AO.fi x mx,u'.pa,n,cd,cs,cu,h1,gm h2,p1,I.at_,by lia,fun c m=>by have:=I.lb c m;lia,hno,mcu,ecu,cru.un.trans h4,by rw[cru.fi];exact h5,fun c H' e1 e2 e3 e4 e5 e6 f1 f2 J' kp' n'=>?_⟩
   ·cases ec:x.cu with
    |none=>exact .inl rfl
    |some l=>exact .inr ⟨l,rfl,AO.cu x mx l ec⟩
   have hS:∀q∈cd::cs.map (·.bl),q=cd\/H2 q=none:=fun q m=>by
    rcases zO.mp m with h|m
    ·exact .inl h
    ·obtain⟨z,mz,rfl⟩:=xS.mp m
     exact .inr (I.fr z mz).2
   obtain⟨hd',hx'⟩:=hxG kp' hS;have hf:∀z:Acc,(if z.pa=u'.pa then grw x.pa z else z).pa=z.pa/\(if z.pa=u'.pa then grw x.pa z else z).ob=z.ob/\(if z.pa=u'.pa then grw x.pa z else z).bl=z.bl/\(if z.pa=u'.pa then grw x.pa z else z).be.length<=z.be.length+1:=fun z=>by
    split
    ·exact⟨rfl,rfl,rfl,by show(z.be++[x.pa]).length<=_;rw[vx];exact xU _⟩
    ·exact⟨rfl,rfl,rfl,ZC _⟩
   have hc:∀z∈cs,∀y,CR z y->CR (if z.pa=u'.pa then grw x.pa z else z) y:=fun z _ y r=>by
    split
    ·rename_i h
     exact⟨r.pa,r.cu,r.fi,r.un,fun m=>absurd (by rw[<- h,r.pa];exact m:58∈u'.pa) (gm h3)⟩
    ·exact r
   walk_at "q";refine⟨d,_,rfl,dg hd',?_⟩;walk_at "q";refine⟨_,_,.inl (aA hx'),aJ (j:=2) rfl,?_⟩;cases eu:x.un with
   |none=>
    refine itp rfl ⟨j4 cs u'.pa (grw x.pa)++[c],_,?_,rfl⟩;rw[bE hl];exact I.more kp' hS n' hf hc mx (c:=c) ⟨e1,e3,e4,by rw[e5,eu],fun _=>e6⟩ e6 f1 f2 J'
   |some t=>
    refine JQ (AO.un x mx t eu) fun t1 t2 _=>?_;have t0:=(AO.fi x mx).1;obtain⟨dc',hch'⟩:=J'.ob;refine itn (by intro z;cases z) ⟨_,_,hch',D4 _,d,_,rfl,dg hd',?_⟩;walk_at "q";refine⟨_,_,.inl (aA hx'),aJ (j:=2) rfl,n',⟨p2,p3⟩,?_⟩;rw[eu];refine⟨⟨by lia,t2⟩,cd,_,c,J',wC _ (.head _),e1,p1,e5,by rw[e4];exact t1,e6,fun H'' J'' kp'' n''=>⟨j4 cs u'.pa (grw x.pa)++[shu t c],_,?_,rfl⟩⟩;rw[bE hl];have nps:∀y∈j4 cs u'.pa (grw x.pa),y.pa≠x.pa:=fun y m=>by
     obtain⟨z,mz,rfl⟩:=xS.mp m;rw[(hf z).1];exact kJ hno z mz
    rw[zF nps e1]at J'';refine I.more (kp'.mono (fun q m=>tW _ m) |>.trans (kp''.mono fun q m=>wC _ m)) (fun q m=>?_) n'' hf hc mx (c:=shu t c) ⟨e1,e3,e4,eu.symm,fun _=>e6⟩ e6 f1 f2 J'';rcases tT.mp m with m|m
    ·exact hS q m
    ·obtain⟨z,mz,rfl⟩:=xS.mp m
     rcases tT.mp mz with mz|mz
     ·obtain⟨z',mz',rfl⟩:=xS.mp mz
      rw[(hf z').2.1];exact .inr (I.fr z' mz').1
     ·rw[zz.mp mz];exact .inr (I.fresh f1)
 ·rintro σ' G ⟨cs,x2,I,rfl⟩
  rw[zV,Zl]at I;walk_at "q";have hc2:H cd=none:=(cU fcd);have s12:=s1.trans s2;refine k ch cd cs G I.at_ (fun c m=>(I.cr c m).2) (fun x m=>I.al _ (po.mem_iff.mpr (xf m))) hch hc2 (fun c m=>⟨s12.free (I.fr c m).1,s12.free (I.fr c m).2⟩) (fun c z e=>I.kp _ _ (s12 _ _ e) fun m=>?_) I.nT;rw[zz.mp m,hc2]at e;cases e
structure OrD(H:Hp)(v:V)(m pl e n:Int)(tn:List Nat)(rw:List Row)(lo rl:Addr)(vs:List V):Prop where
 hv:v = .ref lo
 hl:H lo=some (.lst [.int m,.int pl,.int e,.int n,.int 0,L2.T tn,.ref rl])
 hr:H rl=some (.lst vs)
 rs:A2 (RwAt H) vs rw
 ln:rw.length=2
 ok:∀r∈rw,rOk r
 bm:0<=m/\m<=4799
 bp:1<=pl/\pl<=lg m
 be:1<=e/\e<=4
 bn:1<=n/\n<=8
 nt:nt2 tn
theorem BB{H:Hp}{Q:VK}{c:Int}(q:∀l,l=EUR\/l=CHF->Q (L2.T l) H):gz [L2.T [69,85,82],L2.T [67,72,70]] H H Q (.int (c % 2)):=by
 unfold gz;rcases(by lia:c % 2=0\/c % 2=1) with e|e <;> rw[e]
 ·exact q EUR (.inl rfl)
 ·exact q CHF (.inr rfl)
theorem B_{l:List Nat}(h:l=EUR\/l=CHF):cur l=true:=by rcases h with rfl|rfl <;> decide
def sp_zV(K:W.Frag):Sp:=sp4 fun x i y z H Q _=>NoT H/\asR x fun sc=>asI i fun i=>asR y fun d=>asI z fun b=>∃(ns:List Int) (as:List La),SqL K H sc (ns.map V.int)/\0<=i/\AsO as/\H d=some (.dK (as.map kyL))/\(0<=b/\b<=4799) /\
 ∀m pl e n tn rw lo rl vs H',OrD H' (.ref lo) m pl e n tn rw lo rl vs->H lo=none->H rl=none->(∀r∈rw,r.cu=EUR\/r.cu=CHF)->(∀q,.ref q∈vs->H q=none)->Same H H'->NoT H'->Q (.ref lo) H'
theorem jH(T:Txt K mg a):Fo P w K mg base "_law_order" 4 (sp_zV K):=by
 refine T.tR.hx ii (gX4 fun x0 x1 x2 x3 fA cdv A outer s H Q E ND HU hr h=>?_);obtain⟨hN,h1⟩:=h;obtain⟨sc,rfl,h2⟩:=aE h1;obtain⟨i,rfl,h3⟩:=aW h2;obtain⟨d,rfl,h4⟩:=aE h3;refine ce (aW h4) fun b yy1 yz=>Jx yz fun ns as hS hi AO hd hb k=>?_;subst yy1;have sz:=szl;have l4:=AO.l4
 skip
 have c9:∃u,PSs (cp (XE P w) P w K mg base ii "_law_order" (ay (top 83)) fA cdv A outer s H E) (ZU 9 (bh (top 83))) u/\∀(c mo m am x:Int) x6 pc c1 c2 p1 p2 rl q1 q2 H1,Same H H1->NoT H1->H rl=none->H q1=none->H q2=none->H1 pc=some (.lst [L2.T c1,L2.T c2])->(c1=EUR\/c1=CHF)->(c2=EUR\/c2=CHF)->H1 rl=some (.lst [.ref q1,.ref q2])->H1 q1=some (.tup [L2.T p1,L2.T c1,.int am])->H1 q2=some (.tup [L2.T p2,L2.T c2,.int x])->(0<=m/\m<=4799)->(1<=am/\am<=1000000000)->(x = - am\/x=1-am) ->
  u { nx:=fun _ H'=>Q .non H',rt:=Q } [some (.ref sc),some (.int i),some (.ref d),some (.int b),some (.int c),some (.int mo),x6,some (.int m),some (.int am),some (.ref pc),some (L2.T p1),some (L2.T p2),some (.ref rl)] H1:=by
  refine⟨_,(ae (ba (bg (dF K HU) (aM K (aM K (fv 12) aa) aa) aa) (ah (mJ (b7 (fa3 (fv 11) (aM K (fv 9) aa) (qN lO (fv 8)))) (xa (fv 12) aa pA))) aI)
   (ah (aF (cj (FA.pa (aN (fv 7) (aN (au aP aa (au bi (au bB (fv 4) aa) (aH (iC T) hr av (fa1 (fv 7))))) (aN (au aP aa (au bi (fv 5) aa)) (aN (au aP aa (au bi (au bB (fv 5) aa) aa)) (aN aa (aN (au Er (bv [110]) (au bi (fv 5) aa)) (aN (fv 12) cv)))))))))))),fun c mo m am x x6 pc c1 c2 p1 p2 rl q1 q2 H1 s1 N1 frl fq1 fq2 gpc hc1 hc2 grl g1 g2 hm ha hx=>?_⟩
  have lgI:=Gz m;have fin:∀(y:Int) q2 G,Same H G->NoT G->H q2=none->G rl=some (.lst [.ref q1,.ref q2])->G q1=some (.tup [L2.T p1,L2.T c1,.int am])->G q2=some (.tup [L2.T p2,L2.T c2,.int y])->y≠0->(y = - am\/y=1-am) ->
   NoT G/\0<lg m/\(1<=1000/\0<=mo % 41/\mo % 41<=100)/\7<=sizeLine/\∀p,G p=none->Q (.ref p) (upd G p (.lst [.int m,.int (1+c / 810 % lg m),.int (1+mo % 4),.int (1+mo / 3 % 8),.int 0,L2.T (Zm (mo % 41).toNat [110]).flatten,.ref rl])):=by
   intro y q2 G sG nG fq2 grl g1 g2 y0 hy;refine⟨nG,by lia,by lia,by walk_at "o",fun p fp=>?_⟩;have er:∀k:Nat,(Zm k [110]).flatten=Zm k 110:=fun k=>by
    induction k with
    |zero=>rfl
    |succ k ih=>rw[List.replicate_succ,List.flatten_cons,ih];rfl
   rw[er];refine bW (br (o:=HO.lst [V.int m,V.int (1+c / 810 % lg m),V.int (1+mo % 4),V.int (1+mo / 3 % 8),V.int 0,L2.T (Zm (mo % 41).toNat 110),V.ref rl]) fp nG rfl) fun G2 e2 s2 gp N2=>?_;rw[e2];have b1:0<=c / 810 % lg m:=Yn _ (by lia);have b2:c / 810 % lg m<lg m:=Yv _ (by lia);refine k m _ _ _ _ [⟨p1,c1,am⟩,⟨p2,c2,y⟩] p rl _ G2 ⟨rfl,gp,s2 _ _ grl,.cons ⟨q1,rfl,s2 _ _ g1⟩ (.cons ⟨q2,rfl,s2 _ _ g2⟩ .nil),rfl,fun r m=>?_,hm,⟨by lia,by lia⟩,⟨by lia,by lia⟩,⟨by lia,by lia⟩,⟨_,by lia,rfl⟩⟩ (sG.free fp) frl (fun r m=>?_) (fun q m=>?_) (sG.trans s2) N2
   ·rcases zO.mp m with rfl|m
    ·exact⟨B_ hc1,⟨by show _<=am;lia,by show am<=_;lia⟩,by show am≠0;lia⟩
    ·rw[zz.mp m]
     exact⟨B_ hc2,⟨by show _<=y;lia,by show y<=_;lia⟩,y0⟩
   ·rcases zO.mp m with rfl|m
    ·exact hc1
    ·rw[zz.mp m];exact hc2
   ·rcases zO.mp m with h|m
    ·cases h;exact fq1
    ·have:=zz.mp m
     cases this;exact fq2
  walk_at "q";refine⟨_,_,.inl (aA grl),aJ (j:=1) rfl,?_⟩;walk_at "q";refine⟨_,_,.inr (bR g2),aJ (j:=2) rfl,?_⟩;walk_at "q";by_cases x0:x=0
  ·refine itp x0 ⟨_,_,.inl (aA gpc),aJ (j:=1) rfl,by walk_at "o",fun q fq=>?_⟩
   refine bW (br (o:=HO.tup [L2.T p2,L2.T c2,V.int (-am)]) fq N1 rfl) fun H2 e2 s2 gq N2=>?_;rw[e2];refine⟨rl,_,1,1,rfl,rfl,s2 _ _ grl,rfl,?_⟩;have nr:∀ {q z},H2 q=some (.tup z)->q≠rl:=fun e=>aY e (s2 _ _ grl);exact fin (-am) q _ (cX (s1.trans s2) frl) (aq N2 rfl) (s1.free fq) af ((ai (nr (s2 _ _ g1))).trans (s2 _ _ g1)) ((ai (nr gq)).trans gq) (by lia) (.inl rfl)
  ·exact itn x0 (fin x q2 H1 s1 N1 fq2 grl g1 g2 x0 hx)
 obtain⟨u9,hu9,c9⟩:=c9;have c5:∃u,PSs (cp (XE P w) P w K mg base ii "_law_order" (ay (top 83)) fA cdv A outer s H E) (ZU 5 (bh (top 83))) u/\∀(c mo m am:Int) pp (ps:List (List Nat)) H1,Same H H1->NoT H1->H1 pp=some (.lst (ps.map L2.T))->ps.length=5->(0<=m/\m<=4799)->(1<=am/\am<=1000000000) ->
  u { nx:=fun _ H'=>Q .non H',rt:=Q } [some (.ref sc),some (.int i),some (.ref d),some (.int b),some (.int c),some (.int mo),some (.ref pp),some (.int m),some (.int am),none,none,none,none] H1:=by
  refine⟨_,(ae (aR 9 ND (cj (fa2 (fV (fa2 (bv [69,85,82]) (bv [67,72,70])) (au bi (au bB (fv 5) aa) aa) (fun _ _=>rfl)) (fV (fa2 (bv [69,85,82]) (bv [67,72,70])) (au bi (au aP (au bB (fv 5) aa) (da yy rfl T.Cz wS (fa1 (d_ (dF K HU) (au bi (au bB (fv 5) aa) aa) aa (fe _))))) aa) (fun _ _=>rfl)))))
   (ae (aR 10 ND (aM K (fv 6) (au bi (au bi (au bB (fv 4) aa) aa) (aC (cG K) rfl T.eR dv (fa1 (fv 6))))))
   (ae (aR 11 ND (aM K (fv 6) (au bi (au bi (au bB (fv 4) aa) aa) (aC (cG K) rfl T.eR dv (fa1 (fv 6))))))
   (ae (aR 12 ND (cj (fa2 (b7 (fa3 (fv 10) (aM K (fv 9) aa) (fv 8))) (b7 (fa3 (fv 11) (aM K (fv 9) aa) (au iY (da yy rfl T.Cz wS (fa1 (d_ (dF K HU) (au bi (au bB (fv 5) aa) aa) aa (fe _)))) (fv 8)))))))
   hu9)))),fun c mo m am pp ps H1 s1 N1 gp lp hm ha=>?_⟩
  have pk:∀z:Int,∃l,atI (ps.map L2.T) (z % ((ps.map L2.T).length:Int))=some (L2.T l):=fun z=>by
   rw[zV,lp];obtain⟨j,hj⟩:∃j:Nat,z % ((5:Nat):Int)=j:=⟨(z % ((5:Nat):Int)).toNat,by lia⟩;have jl:j<ps.length:=by lia
   exact⟨ps[j],by rw[hj];exact aJ (by rw[List.getElem?_map,List.getElem?_eq_getElem jl];rfl)⟩
  have lpos:0<((ps.map L2.T).length:Int):=by rw[zV,lp];decide
  walk_at "q";refine⟨N1,by walk_at "o",fun _ _=>BB fun k1 hk1=>⟨N1,by walk_at "o",fun _ _=>BB fun k2 hk2=>⟨by walk_at "o",fun pc fpc=>?_⟩⟩⟩;refine bW (br (o:=HO.lst [L2.T k1,L2.T k2]) fpc N1 rfl) fun H2 e2 s2 gpc N2=>?_;rw[e2];have gp2:=s2 _ _ gp;obtain⟨p1,hp1⟩:=pk (c / 10 % 9);obtain⟨p2,hp2⟩:=pk (c / 90 % 9);refine⟨_,.inl (aA gp2),lpos,_,_,.inl (aA gp2),hp1,_,.inl (aA gp2),lpos,_,_,.inl (aA gp2),hp2,_,_,.inl (aA gpc),aJ (j:=0) rfl,by walk_at "o",fun q1 f1=>?_⟩;refine bW (br (o:=HO.tup [L2.T p1,L2.T k1,V.int am]) f1 N2 rfl) fun H3 e3 s3 g1 N3=>?_;rw[e3];refine⟨_,_,.inl (aA (s3 _ _ gpc)),aJ (j:=1) rfl,?_⟩;walk_at "q";refine⟨by walk_at "o",fun q2 f2=>⟨by walk_at "o",fun rl frl=>?_⟩⟩;refine bW (br (o:=HO.tup [L2.T p2,L2.T k2,V.int ((if mo / 84 % 8=1 then 1 else 0)-am)]) f2 N3 rfl) fun H4 e4 s4 g2 N4=>?_;rw[e4]at frl |-
  refine bW (br (o:=HO.lst [V.ref q1,V.ref q2]) frl N4 rfl) fun H5 e5 s5 grl N5=>?_;rw[e5];have s12:=s1.trans s2;have s13:=s12.trans s3;have s14:=s13.trans s4;have s45:=s4.trans s5;exact c9 c mo m am _ _ pc k1 k2 p1 p2 rl q1 q2 H5 (s14.trans s5) N5 (s14.free frl) (s12.free f1) (s13.free f2) (s45 _ _ (s3 _ _ gpc)) hk1 hk2 grl (s45 _ _ g1) (s5 _ _ g2) hm ha (by split <;> lia)
 obtain⟨u5,hu5,c5⟩:=c5;refine⟨_,(ae (aR 4 ND (aH (bq T) hr av (fa2 (fv 0) (fv 1))))
  (ae (aR 5 ND (aH (bq T) hr av (fa2 (fv 0) (au aP (fv 1) aa))))
  (ae (aR 6 ND (au A5 (aC (k6 rfl) rfl T.gh eI (fa1 (fv 2))) (cj (fa1 (bv [122,122])))))
  (ae (aR 7 ND (aC (eX rfl) rfl T.iF eZ (fa2 aa (au aP (fv 3) (au bi (fv 4) aa)))))
  (ae (aR 8 ND (au aP aa (au bi (fv 5) (au xH aa aa))))
  hu5))))),?_⟩
 walk_at "q";refine⟨ns,hS,hi,ns,hS,by lia,_,as.map (·.pa),hd,by rw[wM,wM];rfl,by rw[zV];lia,fun out po _ l fl=>?_⟩;refine bW (br (o:=HO.lst (out.map L2.T)) fl hN rfl) fun H1 e1 s1 g1 N1=>?_;rw[e1];refine⟨by walk_at "o",fun p fp=>?_⟩;refine bW (br (o:=HO.lst [L2.T [122,122]]) fp N1 rfl) fun H2 e2 s2 g2 N2=>?_;rw[e2];have lo:=po.length_eq;rw[zV]at lo;refine⟨_,_,s2 _ _ g1,g2,by rw[zV];show out.length+1<=_;lia,fun pp fpp=>⟨by decide,by decide,?_⟩⟩;refine c5 _ _ _ _ pp (out++[[122,122]]) _ ((s1.trans s2).trans (aj _ fpp)) (aq N2 rfl) (by rw[af,vH];rfl) (by rw[vx,lo,l4];rfl) (by split <;> lia) ?_;have e9:(10:Int) ^ Yc 9=1000000000:=by decide +kernel
 rw[e9];lia
theorem cmD{β:Type}(kf:β->List Nat){ks:List Nat}{tt:TT}{te:TE}{σ:St}{H:Hp}{Q:VK}{r:Addr}{o:Obj}(as:List β)(f:β->V)(hr:H r=some (.dK (as.map fun c=>(.inr ⟨⟨kf c⟩⟩,f c)))\/H r=some (.frz o (.dK (as.map fun c=>(.inr ⟨⟨kf c⟩⟩,f c)))))(hl:as.length<=1000)(hN:NoT H)(p:β->Bool)(g:β->V)
 (ht:∀c∈as,∀F (R:Bool->Hp->Prop),NoT F->(∀c z,c≠r->H c=some z->F c=some z)->Rd F r (.dK (as.map fun c=>(.inr ⟨⟨kf c⟩⟩,f c)))->(∀F',Same F F'->NoT F'->R (p c) F')->tt ([some (L2.T (kf c))]++ks.map fun k=>(σ[k]?).join) F R)
 (he:∀c∈as,∀F (R:VK),(∀c z,c≠r->H c=some z->F c=some z)->Rd F r (.dK (as.map fun c=>(.inr ⟨⟨kf c⟩⟩,f c)))->R (g c) F->te ([some (L2.T (kf c))]++ks.map fun k=>(σ[k]?).join) F R)
 (k:∀D G,H D=none->Same H G->NoT G->G D=some (.lst ((as.filter p).map g))->Q (.ref D) G) :
 CEl (Itk r o (.dK (as.map fun c=>(.inr ⟨⟨kf c⟩⟩,f c)))) 1 (gZ 0) ks tt te σ (upd H r (.frz o (.dK (as.map fun c=>(.inr ⟨⟨kf c⟩⟩,f c))))) fun v H2=>Th H H2 (Q v):=by
 refine Le r o _ (fun D i ys F=>F D=some (.lst ys)/\F r=some (.frz o (.dK (as.map fun c=>(.inr ⟨⟨kf c⟩⟩,f c))))/\H D=none/\D≠r/\NoT F/\(∀c z,c≠r->H c=some z->F c=some z)/\ys=(((as.take i).filter p).map g)) (by show(as.map _).length<_;rw[zV,uz];lia) ?_ ?_ ?_ ?_
 ·intro D1 hD
  have nb:D1≠r:=fun z=>by rw[z,af]at hD;cases hD
  rw[ai nb]at hD;refine⟨af,(ai (Ne.symm nb)).trans af,hD,nb,aq (aq hN rfl) rfl,fun c z cb e=>?_,rfl⟩;rw[ai (aL e hD),ai cb];exact e
 ·rintro D1 i ys F ⟨g1,g2,_,_,_,_,rfl⟩
  refine⟨g1,g2,?_⟩;rw[zV];exact Zt (Zj _ _) (by rw[Zx];lia)
 ·rintro D1 i y v ys F zs M1 M0 hi ⟨ke,en,rfl⟩ ⟨g1,g2,hD,nb,nF,kp,rfl⟩ hzs n1 n0
  rw[List.getElem?_map]at en;obtain⟨x,ex,e2⟩:=Zg.mp en;cases e2;have mx:=vW ex;obtain⟨z1,rfl⟩:=ex1 hzs;have et:as.take (i+1)=as.take i++[x]:=by rw[Xz,ex];rfl
  rw[et,ZY,vH]at n1 n0;refine⟨⟨[_],rfl,rfl⟩,?_⟩;refine ht x mx F _ nF kp (.inr ⟨_,g2⟩) fun F' s5 N5=>?_;cases e:p x with
  |false=>
   rw[ZM (by simp[e]),Yy,ZX,Ze]at n0;exact itn (by decide) (n0 _ ⟨s5 _ _ g1,s5 _ _ g2,hD,nb,N5,fun c z cb ec=>s5 _ _ (kp c z cb ec),rfl⟩)
  |true=>
   rw[ZN (by simp[e]),Yy]at n1;refine itp rfl (he x mx F' _ (fun c z cb ec=>s5 _ _ (kp c z cb ec)) (.inr ⟨_,s5 _ _ g2⟩) (n1 _ _ (s5 _ _ g1) ⟨af,(ai (Ne.symm nb)).trans (s5 _ _ g2),hD,nb,aq N5 rfl,fun c z cb ec=>?_,rfl⟩));rw[ai (aL ec hD)];exact s5 _ _ (kp c z cb ec)
 ·rintro D ys F ⟨g1,g2,hD,nb,nF,kp,rfl⟩
  have ln:g_ (.dK (as.map fun c=>((.inr ⟨⟨kf c⟩⟩:Key),f c)))=as.length:=zV ..;rw[ln,Zl]at g1;rcases hr with hr|hr
  ·refine⟨r,o,_,g2,.inl ⟨hr,rfl,k D _ hD (fun c z e=>?_) (aq nF rfl) ((ai nb).trans g1)⟩⟩
   by_cases hc:c=r
   ·subst hc;rw[af];rw[hr]at e;exact e
   ·rw[ai hc];exact kp _ _ hc e
  ·refine⟨r,o,_,g2,.inr ⟨hr,k D _ hD (fun c z e=>?_) nF g1⟩⟩
   by_cases hc:c=r
   ·subst hc;rw[g2];rw[hr]at e;exact e
   ·exact kp _ _ hc e
theorem on{K:W.Frag}{H:Hp}{p q:Addr}{xs:List V}(hx:SqL K H p xs)(hq:SqL K H q []):EqR K H p q xs.isEmpty:=by
 cases xs with
 |nil=>exact EqR.lst (e:=fun _=>true) hx hq rfl fun j x y g _=>by simp at g
 |cons a r=>exact EqR.len hx hq (by simp)
theorem Jg{r1 r2:Row}(h1:r1.am≠0):EvR [r1,r2]↔r1.cu=r2.cu/\r1.am+r2.am=0:=by
 unfold EvR ev;constructor
 ·intro h
  have:=h r1.cu;simp only[wV,ZX,sm]at this;by_cases e:r2.cu=r1.cu
  ·simp[e]at this
   exact⟨e.symm,this⟩
  ·simp[e]at this
   exact absurd this h1
 ·rintro⟨e,z⟩ c
  simp only[wV,ZX,sm,e];split <;> lia
structure CsR(as:List La)(cs:List Acc):Prop where
 ao:AsO as
 np:(cs.map (·.pa)).Nodup
 cr:∀c∈cs,∃x∈as,CR c x
 al:∀x∈as,∃c∈cs,c.pa=x.pa
noncomputable def fA(as:List La)(l:List Nat):Option La:=as.find? fun x=>decide (x.pa=l)
theorem Cs(l:List Nat):∀as:List La,cV (as.map kyL) (.inr ⟨⟨l⟩⟩)=(fA as l).map fun x=>.ref x.ls
 | []=>rfl
 |c::r=>by
  have ih:=Cs l r;by_cases h:c.pa=l
  ·rw[wV,bU (by show Sum.inr _=Sum.inr _;rw[h])]
   simp[fA,h,kyL]
  ·rw[wV,bO (fun z=>h (by simpa [kyL] using z)),ih]
   simp[fA,h]
theorem Cm{as:List La}{l:List Nat}{x:La}(h:fA as l=some x):x∈as/\x.pa=l:=⟨List.mem_of_find?_eq_some h,by simpa using List.find?_some h⟩
theorem CsR.none{as:List La}{cs:List Acc}(h:CsR as cs){l:List Nat}(e:fA as l=none):fnd cs l=none:=List.find?_eq_none.mpr fun c m=>by
 obtain⟨x,mx,r⟩:=h.cr c m;have:=List.find?_eq_none.mp e x mx;rw[<- r.pa]at this;exact this
theorem CsR.some{as:List La}{cs:List Acc}(h:CsR as cs){l:List Nat}{x:La}(e:fA as l=some x):∃c,fnd cs l=some c/\CR c x:=by
 obtain⟨mx,rfl⟩:=Cm e;obtain⟨c,mc,ec⟩:=h.al x mx;obtain⟨x',mx',r⟩:=h.cr c mc;have:=zp h.ao.nd mx' mx (r.pa.symm.trans ec);subst this;exact⟨c,by rw[<- ec];exact uk h.np mc,r⟩
def rwT(as:List La)(t:Int)(r:Row):Prop:=∃x,fA as r.pa=Option.some x/\x.fi<=t/\(∀e,x.un=Option.some e->t<e)/\(∀l,x.cu=Option.some l->l=r.cu)
theorem CsR.acT{as:List La}{cs:List Acc}(h:CsR as cs){t:Int}{r:Row}:acT cs t r.pa r.cu↔rwT as t r:=by
 cases e:fA as r.pa with
 |none=>
  exact⟨fun⟨c,e1,_⟩=>(by rw[h.none e]at e1;cases e1),fun⟨x,e1,_⟩=>(by rw[e]at e1;cases e1)⟩
 |some x=>
  obtain⟨c,ec,r1⟩:=h.some e;have op:opn c.fi c.un t=true↔x.fi<=t/\∀e,x.un=Option.some e->t<e:=by
   rw[r1.fi,r1.un];unfold opn lat;rw[ZH,decide_eq_true_eq];cases x.un with
   |none=>exact⟨fun z=>⟨z.1,fun e w=>nomatch w⟩,fun z=>⟨z.1,rfl⟩⟩
   |some u=>exact⟨fun z=>⟨z.1,fun e w=>by cases w;exact of_decide_eq_true z.2⟩,fun z=>⟨z.1,decide_eq_true (z.2 u rfl)⟩⟩
  have cu:(c.cu = .non\/c.cu=L2.T r.cu)↔∀l,x.cu=Option.some l->l=r.cu:=by
   rw[r1.cu];cases x.cu with
   |none=>exact⟨fun _ l w=>(nomatch w),fun _=>.inl rfl⟩
   |some l=>exact⟨fun z l' w=>(by cases w;exact z.elim (fun z=>nomatch z) fun z=>by simpa [cuV] using z),fun z=>.inr (by rw[<- z l rfl];rfl)⟩
  constructor
  ·rintro⟨c',e1,e2,e3⟩
   rw[ec]at e1;cases e1;exact⟨x,e,(op.mp e2).1,(op.mp e2).2,cu.mp e3⟩
  ·rintro⟨x',e1,e2,e3,e4⟩
   rw[e]at e1;cases e1;exact⟨c,ec,op.mpr ⟨e2,e3⟩,cu.mpr e4⟩
noncomputable def sk2(r1 r2:Row)(i:Nat):List (List Nat × Int):=match i with
 |0=>[]
 |1=>[(r1.cu,r1.am)]
 |_=>if r1.cu=r2.cu then [(r1.cu,r1.am+r2.am)] else [(r1.cu,r1.am),(r2.cu,r2.am)]
theorem yD(r1 r2:Row)(i:Nat):(sk2 r1 r2 i).length<=2:=by
 unfold sk2;split
 ·exact Zv _
 ·exact ZC _
 ·split
  ·exact ZC _
  ·exact xU _
def sp_Hf(a:Adr):Sp:=sp5 fun x y z m r H Q _=>NoT H/\asR x fun d=>asI z fun t=>asI m fun m=>asR r fun rl=>∃as cs g vs rs,y=cl g/\m=MO t/\CsR as cs/\H d=some (.dK (as.map kyL))/\(∀x∈as,H x.ls=some (laL x))/\H rl=some (.lst vs)/\A2 (RwAt H) vs rs/\rs.length=2/\(∀r∈rs,r.am≠0) /\
 ∀H',Same H H'->NoT H'->(lts g t/\BkR cs t rs->Q (.bl true) H')/\(¬ (lts g t/\BkR cs t rs)->Q (.bl false) H')
theorem k7(T:Txt K mg a):Fo P w K mg base "_law_is_booked" 2 (sp_Hf a):=by
 refine T.mw.hx hV (gX5 fun x0 x1 x2 x3 x4 fA cdv A outer s H Q E ND HU hr h=>?_);obtain⟨hN,h1⟩:=h;obtain⟨d,rfl,h2⟩:=aE h1;obtain⟨t,rfl,h3⟩:=aW h2;obtain⟨m,rfl,h4⟩:=aW h3;obtain⟨rl,rfl,as,cs,g,vs,rs,rfl,em,CS,hd,hls,hrl,ha,l2,h0,k⟩:=aE h4;have sz:=szl
 skip
 have c1:∃u,PSs (cp (XE P w) P w K mg base hV "_law_is_booked" (ay (top 84)) fA cdv A outer s H E) (ZU 1 (bh (top 84))) u/\(lts g t->u { nx:=fun _ H'=>Q .non H',rt:=Q } [some (.ref d),some (cl g),some (.int t),some (.int m),some (.ref rl),none,none,none,none,none,none,none] H):=by
  refine⟨_,(fQ (aR 5 ND kc)
   (fQ (dE (by passes_own) rfl (bQ K (fv 4)) (gC K (n:=3) rfl (a_ (aK (i:=6) ND rfl (Or.inl rfl)) (a_ (aK (i:=7) ND rfl (Or.inl rfl)) (a_ (aK (i:=8) ND rfl (Or.inl rfl)) eL)))) (fQ (ba (dZ (lM (Zz HU) (fv 6) (fv 0)) (by with_unfolding_all rfl)) (ah (aF eQ)) aI)
   (fQ (mJ (ck (Zz HU) (fv 0) (fv 6) (fun _ _=>rfl)) (yE K (n:=3) rfl (a_ (aK (i:=9) ND rfl (Or.inl rfl)) (a_ (aK (i:=10) ND rfl (Or.inl rfl)) (a_ (aK (i:=11) ND rfl (Or.inl rfl)) eL)))))
   (fQ (ba (L2.PW.pt (fE (bg yS (fv 2) (fv 10)) (fE (L2.PW.pt (gH (dZ (dQ (fv 11))) (eM (bg Lv (fv 2) (fv 11))))) (d6 (L2.PW.pt (gH (dZ (dQ (fv 9))) (eM (bg (d9 K HU) (fv 9) (fv 7))))))))) (ah (aF eQ)) aI)
   (ah (fP (Zz HU) (fv 5) (fv 7) (au aP (vK (Zz HU) (fv 5) (fv 7) aa ⟨rfl,rfl,rfl,rfl⟩) (fv 8)) rfl))))))
   (ah (aF (d_ (dF K HU) (yN (b_ rfl (cl:=_) (x:="_law_coin") (xs:=["_law_coin"]) (fr:=["_law_sums"]) (ks:=[5]) (by walk_at "c") rfl (tJ (fv 5)) (fun _ _ _ _ _=>(aK (i:=0) (eC (l:=["_law_coin","_law_sums"]) (by decide)) rfl (Or.inl rfl))) (fun _ _ _ _ _=>(iz (bg (d9 K HU) (ck (Zz HU) (fv 1) (fv 0) (fun _ _=>rfl)) aa))) (fun _ _ _ _ _=>(fv 0)))) (cj (FA.pa cv)) (fe _)))))),fun hl=>?_⟩
  obtain⟨r1,r2,rfl⟩:∃r1 r2,rs=[r1,r2]:=by match rs,l2 with | [r1,r2],_=>exact⟨r1,r2,rfl⟩
  walk_at "q";intro s fs;refine bW (br (o:=HO.dK []) fs hN rfl) fun H1 e1 s1 g1 N1=>?_;rw[e1];refine dJ ?_;walk_at "q";refine dL (aA (s1 _ _ hrl)) (dH (xs:=vs) (fun i σ' G=>Keep [s] H1 G/\NoT G/\G s=some (.dK ((sk2 r1 r2 i).map fun e=>(.inr ⟨⟨e.1⟩⟩,.int e.2)))/\(∀r∈[r1,r2].take i,rwT as t r)/\∃x6 x7 x8 x9 x10 x11,σ'=[some (.ref d),some (cl g),some (.int t),some (.int m),some (.ref rl),some (.ref s),x6,x7,x8,x9,x10,x11]) ⟨Keep.refl,N1,g1,(fun _ m=>nomatch m),none,none,none,none,none,none,rfl⟩ (fun i σ' G _ h=>?_) ?_ ?_)
  ·exact aA (h.1 _ _ (s1 _ _ hrl) fun m=>aY (s1 _ _ hrl) g1 (by intro z;cases z) (zz.mp m))
  ·rintro i x σ' G hx ⟨kp,nG,gs,hr,x6,x7,x8,x9,x10,x11,rfl⟩
   refine ce (ha.at_ hx) fun r hri yz=>ce yz fun q yy1 hq=>?_;subst yy1;have kG:∀ {q z},H q=some z->G q=some z:=fun {q z} e=>kp _ _ (s1 _ _ e) fun m=>by rw[zz.mp m,fs]at e;cases e
   have hq':=kG hq;have sG:Same H G:=fun q z e=>kG e;walk_at "q";refine⟨_,_,rfl,bR hq',rfl,_,_,rfl,_,_,rfl,_,_,rfl,rfl,?_⟩;walk_at "q";have dg:=DGet.k (k:=.inr ⟨⟨r.pa⟩⟩) (kG hd);rw[Cs]at dg;refine⟨d,_,rfl,dg,?_⟩;have mr:=vW hri;have no:¬ rwT as t r->Q (.bl false) G:=fun hn=>(k G sG nG).2 fun z=>hn (CS.acT.mp (z.2.1 r mr));cases ef:K28.fA as r.pa with
   |none=>exact itp rfl (no fun⟨x,e,_⟩=>by rw[ef]at e;cases e)
   |some x=>
   rw[ef]at dg;have mx:=(Cm ef).1;refine itn (by intro z;cases z) ⟨d,_,rfl,dg,x.ls,_,rfl,aA (kG (hls x mx)),rfl,_,_,rfl,_,_,rfl,_,_,rfl,rfl,?_⟩;walk_at "q";by_cases hw:rwT as t r
   ·have key:∀v9 v10 v11:V,IsD G s/\∃o,DGet G s (L2.T r.cu) o/\Ai (o.getD (.int 0)) (.int r.am) G fun v G1=>∃a H4,s=a/\DPut G1 a (L2.T r.cu) v H4/\Keep [s] H1 H4/\NoT H4/\H4 s=some (.dK ((sk2 r1 r2 (i+1)).map fun e=>(.inr ⟨⟨e.1⟩⟩,.int e.2)))/\(∀r∈[r1,r2].take (i+1),rwT as t r) /\
     ∃x6 x7 x8 x9 x10 x11,some (L2.T r.pa)=x6/\some (L2.T r.cu)=x7/\some (V.int r.am)=x8/\some v9=x9/\some v10=x10/\some v11=x11:=by
     intro v9 v10 v11;refine⟨.inl ⟨_,.inl gs⟩,_,DGet.k (k:=.inr ⟨⟨r.cu⟩⟩) gs,?_⟩;have hr':∀r∈[r1,r2].take (i+1),rwT as t r:=fun z m=>by
      rw[bE hri]at m;rcases tT.mp m with m|m
      ·exact hr z m
      ·rw[zz.mp m];exact hw
     have il:=(List.getElem?_eq_some_iff.mp hri).1;have e3:∃y,(cV ((sk2 r1 r2 i).map fun e=>((.inr ⟨⟨e.1⟩⟩:Key),V.int e.2)) (.inr ⟨⟨r.cu⟩⟩)).getD (.int 0) = .int y/\dU ((sk2 r1 r2 i).map fun e=>((.inr ⟨⟨e.1⟩⟩:Key),V.int e.2)) (.inr ⟨⟨r.cu⟩⟩) (.int (y+r.am))=(sk2 r1 r2 (i+1)).map fun e=>(.inr ⟨⟨e.1⟩⟩,.int e.2):=by
      rcases(by have:i<2:=il;lia:i=0\/i=1) with rfl|rfl
      ·cases hri
       exact⟨0,rfl,by rw[Int.zero_add];rfl⟩
      ·cases hri
       by_cases e:r1.cu=r2.cu
       ·exact⟨r1.am,by simp[sk2,e,cV],by simp[sk2,e,dU]⟩
       ·exact⟨0,by simp[sk2,e,cV],by simp[sk2,e,dU]⟩
     refine ce e3 fun y ey ep=>?_;rw[ey];walk_at "q";refine⟨s,_,rfl,DPut.k (k:=.inr ⟨⟨r.cu⟩⟩) gs (by rw[zV,uz];have:=yD r1 r2 i;lia),kp.put (.head _),aq nG rfl,by rw[af,ep],hr',_,_,_,_,_,_,rfl,rfl,rfl,rfl,rfl,rfl⟩
    refine bW hw fun x' e' w1 w2 w3=>?_;rw[ef]at e';cases e';refine itn (by lia) ?_;cases eu:x.un with
    |none=>
     refine itp rfl ?_;cases ec:x.cu with
     |none=>exact itp rfl (by walk_at "q"; exact key _ _ _)
     |some l=>
      refine itn (by intro z;cases z) ?_;rw[w3 l ec];show jk K true (L2.T r.cu) (L2.T r.cu) G _;walk_at "q";walk_at "q";exact key _ _ _
    |some e=>
     refine itn (by intro z;cases z) ?_;show gI _ (.int t) (.int e) G _;have:=w2 e eu;walk_at "q";refine itn (by lia) ?_;cases ec:x.cu with
     |none=>exact itp rfl (by walk_at "q"; exact key _ _ _)
     |some l=>
      refine itn (by intro z;cases z) ?_;rw[w3 l ec];show jk K true (L2.T r.cu) (L2.T r.cu) G _;walk_at "q";walk_at "q";exact key _ _ _
   ·by_cases w1:t<x.fi
    ·exact itp w1 (no hw)
    refine itn w1 ?_;have no:=no hw;have hw':(∀e,x.un=some e->t<e)->(∀l,x.cu=some l->l=r.cu)->False:=fun z1 z2=>hw ⟨x,ef,by lia,z1,z2⟩;cases eu:x.un with
    |none=>
     rw[eu]at hw';refine itp rfl ?_;cases ec:x.cu with
     |none=>rw[ec]at hw';exact(hw' (fun _ z=>nomatch z) (fun _ z=>nomatch z)).elim
     |some l=>
      rw[ec]at hw';refine itn (by intro z;cases z) ?_;show jk K true (L2.T l) (L2.T r.cu) G _;walk_at "q";by_cases hl:l=r.cu
      ·exact(hw' (fun _ z=>nomatch z) (fun _ z=>by cases z;exact hl)).elim
      ·exact itn hl no
    |some e=>
     rw[eu]at hw';refine itn (by intro z;cases z) ?_;show gI _ (.int t) (.int e) G _;walk_at "q";by_cases he:e<=t
     ·exact itp he no
     refine itn he ?_;cases ec:x.cu with
     |none=>rw[ec]at hw';exact(hw' (fun _ z=>by cases z;lia) (fun _ z=>nomatch z)).elim
     |some l=>
      rw[ec]at hw';refine itn (by intro z;cases z) ?_;show jk K true (L2.T l) (L2.T r.cu) G _;walk_at "q";by_cases hl:l=r.cu
      ·exact(hw' (fun _ z=>by cases z;lia) (fun _ z=>by cases z;exact hl)).elim
      ·exact itn hl no
  ·rintro σ' G ⟨kp,nG,gs,hr,x6,x7,x8,x9,x10,x11,rfl⟩
   rw[ha.len]at gs hr;have sG:Same H G:=fun q z e=>kp _ _ (s1 _ _ e) fun m=>by rw[zz.mp m,fs]at e;cases e
   walk_at "q";refine Gf ?_;walk_at "q";refine⟨s,_,rfl,rfl,.inl gs,fun o hor=>cmD (·.1) (sk2 r1 r2 2) (fun e=>.int e.2) hor (by have:=yD r1 r2 2;lia) nG (fun e=>decide (e.2≠0)) (fun e=>L2.T e.1) (fun e me F R nF kF rd q=>?_) (fun e me F R kF rd q=>q) (fun D G2 hD s2 N2 g2=>?_)⟩
   ·have dgt:DGet F s (L2.T e.1) (some (.int e.2)):=by
     refine .inl ⟨_,.inr ⟨⟨e.1⟩⟩,rd,rfl,?_⟩;have me':e∈(if r1.cu=r2.cu then [(r1.cu,r1.am+r2.am)] else [(r1.cu,r1.am),(r2.cu,r2.am)]):=me;show some (V.int e.2)=cV (List.map _ (if r1.cu=r2.cu then [(r1.cu,r1.am+r2.am)] else [(r1.cu,r1.am),(r2.cu,r2.am)])) _;by_cases h:r1.cu=r2.cu
     ·rw[if_pos h]at me' |-
      rw[zz.mp me'];simp[cV]
     ·rw[if_neg h]at me' |-
      rcases zO.mp me' with z|z
      ·rw[z];simp[cV]
      ·rw[zz.mp z];simp[cV,h]
    walk_at "q";refine⟨s,_,rfl,dgt,?_⟩;walk_at "q";have q:=q F (Same.refl _) nF;rw[show(!decide (e.2=0))=decide (e.2≠0) by simp];exact q
   ·walk_at "q"
    refine⟨Zv _,fun p hp=>⟨_,on (aA ((aj _ hp) _ _ g2)) (aA af),?_⟩⟩;obtain⟨k1,k0⟩:=k _ (sG.trans (s2.trans (aj (HO.lst []) hp))) (aq N2 rfl);have h10:=h0 r1 (.head _);have h20:=h0 r2 (.tail _ (.head _));have ok:BkR cs t [r1,r2]↔EvR [r1,r2]:=⟨fun z=>z.2,fun z=>⟨fun r m=>CS.acT.mpr (hr r m),z⟩⟩;rw[ok,Jg h10]at k1 k0;have es:(List.map (fun e:List Nat × Int=>L2.T e.1) (List.filter (fun e=>decide (e.2≠0)) (sk2 r1 r2 2))).isEmpty=true↔r1.cu=r2.cu/\r1.am+r2.am=0:=by
     show(List.map _ (List.filter _ (if r1.cu=r2.cu then [(r1.cu,r1.am+r2.am)] else [(r1.cu,r1.am),(r2.cu,r2.am)]))).isEmpty=true↔_;by_cases h:r1.cu=r2.cu
     ·rw[if_pos h]
      by_cases z:r1.am+r2.am=0 <;> simp[h,z]
     ·rw[if_neg h];simp[h,h10]
    cases eb:(List.map (fun e:List Nat × Int=>L2.T e.1) (List.filter (fun e=>decide (e.2≠0)) (sk2 r1 r2 2))).isEmpty with
    |true=>exact k1 ⟨hl,es.mp eb⟩
    |false=>exact k0 fun z=>by have:=es.mpr z.2;rw[eb]at this;cases this
 obtain⟨u1,hu1,c1⟩:=c1;refine⟨_,(fQ (ba (L2.PW.pt (gH (dZ (dQ (fv 1))) (eM (bg fX (fv 3) (fv 1))))) (ah (aF eQ)) aI)
  hu1),?_⟩
 walk_at "q";cases g with
 |none=>exact itp rfl (c1 trivial)
 |some c=>
  refine itn (by intro z;cases z) ?_;show gLe (.int m) (.int c) H _;walk_at "q";by_cases hm:m<=c
  ·exact itp hm ((k H (Same.refl _) hN).2 fun z=>by have:c<MO t:=z.1;lia)
  ·exact itn hm (c1 (by show c<MO t;lia))
structure Lw where
 A:Addr
 O:Addr
 B:Addr
noncomputable def gK(o:Ot):Key × V:=(.inr ⟨⟨o.od.nm⟩⟩,.ref o.lo)
noncomputable abbrev loL(o:Ot)(g:Int):HO:=.lst [.int o.m,.int o.pl,.int o.od.e,.int o.od.n,.int g,L2.T o.tn,.ref o.rl]
structure OB(o:Ot):Prop where
 m:0<=o.m/\o.m<=4799
 pl:1<=o.pl/\o.pl<=lg o.m
 e:1<=o.od.e/\o.od.e<=4
 n:1<=o.od.n/\o.od.n<=8
 f:o.od.f=FD o.m+o.pl-1
 g:0<=o.od.go/\o.od.go<=(dys o.od.f o.od.e o.od.n).length
 ln:o.rw.length=2
 r0:∀r∈o.rw,r.am≠0
noncomputable def lmt(L:Lw)(os:List Ot):List Addr:=L.O::L.B::os.map (·.lo)
structure LP(L:Lw)(F H:Hp)(as:List La)(os:List Ot)(bx:List Bx):Prop where
 A:F L.A=some (.dK (as.map kyL))
 al:∀x∈as,F x.ls=some (laL x)
 O:H L.O=some (.dK (os.map gK))
 lo:∀o∈os,H o.lo=some (loL o o.od.go)
 rl:∀o∈os,∃vs,F o.rl=some (.lst vs)/\A2 (RwAt F) vs o.rw
 ob:∀o∈os,OB o
 B:∃Bs,H L.B=some (.lst Bs)/\A2 (BxAt F) Bs bx
 no:(L.B::os.map (·.lo)).Nodup
 np:(os.map (·.od.nm)).Nodup
 fl:∀c∈lmt L os,F c=none
theorem lD(L:Lw)(os:List Ot)(ts:List Tn):lmt L (os.map (adv ts))=lmt L os:=by unfold lmt;rw[wM];rfl
theorem CG(os:List Ot)(ts:List Tn):(os.map (adv ts)).map gK=os.map gK:=by rw[wM];rfl
section
variable{L:Lw}{F H:Hp}{as:List La}{os:List Ot}{bx:List Bx}
theorem LP.lex(h:LP L F H as os bx){c:Addr}(m:c∈lmt L os):H c≠none:=by
 rcases zO.mp m with rfl|m
 ·rw[h.O];intro z;cases z
 rcases zO.mp m with rfl|m
 ·obtain⟨Bs,e,_⟩:=h.B
  rw[e];intro z;cases z
 ·obtain⟨o,mo,rfl⟩:=xS.mp m
  rw[h.lo o mo];intro z;cases z
theorem LP.keep(h:LP L F H as os bx){H':Hp}{S:List Addr}(k:Keep S H H')(hS:∀c∈S,c∉lmt L os):LP L F H' as os bx:=by
 have km:∀ {c z},H c=some z->c∈lmt L os->H' c=some z:=fun e m=>k _ _ e fun q=>hS _ q m;exact { h with
  O:=km h.O (.head _)
  lo:=fun o m=>km (h.lo o m) (.tail _ (.tail _ (xf (f:=fun o:Ot=>o.lo) m)))
  B:=h.B.imp fun _ e=>⟨km e.1 (.tail _ (.head _)),e.2⟩ }
theorem LP.same(h:LP L F H as os bx){H':Hp}(s:Same H H'):LP L F H' as os bx:=h.keep (S:=[]) (bL s) fun _ m=>nomatch m
theorem LP.grow(h:LP L F H as os bx){F':Hp}(s:Same F F')(n:∀c∈lmt L os,F' c=none):LP L F' H as os bx:=
 { h with
  A:=s _ _ h.A
  al:=fun x m=>s _ _ (h.al x m)
  rl:=fun o m=>(h.rl o m).imp fun _ e=>⟨s _ _ e.1,bD s e.2⟩
  B:=h.B.imp fun _ e=>⟨e.1,c7 s e.2⟩
  fl:=n }
end
def RdQ(L:Lw)(F H:Hp)(as:List La)(cs:List Acc)(g:Option Int)(os:List Ot)(bx:List Bx)(t:Int)(Q:VK):Prop:=∀ts F' H' r,IsT os t ts->Gr F H F'->Same F' H'->NoT H'->LP L F' H' as (os.map (adv ts)) (bkB cs g os bx ts)->Keep (lmt L os) H H'->H r=none->Tld F' r (tlB cs g os bx ts)->Q (.ref r) H'
def sp_Hw(a:Adr):Sp:=sp5 fun x y z u t H Q _=>NoT H/\asR x fun O=>asR y fun A=>asR u fun B=>asI t fun t=>∃F as cs g os bx,z=cl g/\Same F H/\CsR as cs/\LP ⟨A,O,B⟩ F H as os bx/\os.length<=4/\bx.length<=68/\RdQ ⟨A,O,B⟩ F H as cs g os bx t Q
noncomputable def xE(x:Tn):List Key:=[.inl x.1,.inr ⟨⟨x.2⟩⟩,.inl (MO x.1)]
theorem vO{x y:Tn}(h:xE x=xE y):x=y:=by
 unfold xE at h;simp only[Yx,Sum.inl.injEq,Sum.inr.injEq,Str.mk.injEq,Array.mk.injEq]at h;exact Prod.ext h.1 h.2.1
theorem LK{tt:List Tn}(h:zK (tt.map xE)):OrdT tt:=by
 refine Zc.mpr ((Zc.mp h).imp fun {x y} l=>?_);unfold xE at l;unfold xl;simp only[ltK]at l |-
 by_cases h1:x.1=y.1
 ·rw[h1,if_pos rfl]at l |-
  by_cases h2:(Sum.inr ⟨⟨x.2⟩⟩:Key) = .inr ⟨⟨y.2⟩⟩
  ·rw[if_pos h2,if_pos rfl]at l;cases l
  ·rw[if_neg h2]at l |-; exact l
 ·have:(Sum.inl x.1:Key) ≠ .inl y.1:=fun z=>h1 (by injection z)
  rw[if_neg this]at l |-; exact l
def T3At(H:Hp)(v:V)(x:Tn):Prop:=∃q,v = .ref q/\H q=some (.tup [.int x.1,L2.T x.2,.int (MO x.1)])
theorem T3At.mv(G G':Hp)(v:V)(x:Tn)(k:∀t l,G t=some (.tup l)->G' t=some (.tup l))(h:T3At G v x):T3At G' v x:=by
 obtain⟨q,e,h⟩:=h;exact⟨q,e,k _ _ h⟩
theorem HV{o:Ot}(b:OB o)(t:Int):((dl o.m o.pl o.od.e o.od.go.toNat (NN o.m o.od.e o.od.n)).takeWhile fun i=>decide (i<=t))=lft o.od t:=by
 unfold lft dl dys;rw[b.f,yb b.e.1 b.m.1 b.m.2 b.pl.1 b.pl.2];exact(l_ ((yT b.e.1 b.pl.1 _).sublist (List.drop_sublist _ _))).symm
theorem OB.dy{o:Ot}(b:OB o):xJ o.od:=by
 unfold xJ dys;rw[b.f,yb b.e.1 b.m.1 b.m.2 b.pl.1 b.pl.2];exact yT b.e.1 b.pl.1 _
theorem OB.l8{o:Ot}(b:OB o):(dys o.od.f o.od.e o.od.n).length<=8:=by
 have:=b.n;unfold dys;rw[zV];exact Zt (Zj _ _) (by rw[Za];lia)
theorem yP{os:List Ot}(np:(os.map (·.od.nm)).Nodup){o:Ot}(m:o∈os):cV (os.map gK) (.inr ⟨⟨o.od.nm⟩⟩)=some (.ref o.lo):=by
 induction os with
 |nil=>cases m
 |cons y r ih=>
  rw[wV]at np;obtain⟨n1,n2⟩:=Zi.mp np;by_cases c:y.od.nm=o.od.nm
  ·rw[wV,bU (by unfold gK;rw[c])]
   rcases zO.mp m with rfl|m
   ·rfl
   ·exact absurd (c ▸ xf (f:=(·.od.nm)) m) n1
  ·rw[wV,bO (fun z=>c (by simpa [gK] using z))]
   rcases zO.mp m with rfl|m
   ·exact absurd rfl c
   ·exact ih n2 m
theorem He{β:Type}{f:Ot->β}{os:List Ot}(nd:(os.map f).Nodup){i j:Nat}{x y:Ot}(hi:os[i]? = some x)(hj:os[j]? = some y)(e:f x=f y):i=j:=by
 obtain⟨li,ei⟩:=List.getElem?_eq_some_iff.mp hi;obtain⟨lj,ej⟩:=List.getElem?_eq_some_iff.mp hj;have pw:=ZF.mp nd;rcases Nat.lt_trichotomy i j with h|h|h
 ·exact absurd (by rw[Xr,Xr,ei,ej];exact e) (pw i j (by rw[zV];exact li) (by rw[zV];exact lj) h)
 ·exact h
 ·exact absurd (by rw[Xr,Xr,ei,ej];exact e.symm) (pw j i (by rw[zV];exact lj) (by rw[zV];exact li) h)
theorem qj{H:Hp}{O:Addr}{os:List Ot}(np:(os.map (·.od.nm)).Nodup){o:Ot}(m:o∈os)(h:Rd H O (.dK (os.map gK))):DGet H O (L2.T o.od.nm) (some (.ref o.lo)):=.inl ⟨_,.inr ⟨⟨o.od.nm⟩⟩,h,rfl,(yP np m).symm⟩
noncomputable def Lx:Stmt->List Stmt
 | .For _ _ b _ _=>b
 |_=>[]
noncomputable abbrev Gw:List Stmt:=Lx ((bh cg).getD 3 (.Pass ⟨0,0,0,0⟩))
theorem nz(T:Txt K mg a):Fo P w K mg base "_law_run_due" 5 (sp_Hw a):=by
 refine T.oX.hx eB (gX5 fun x0 x1 x2 x3 x4 fA cdv A outer s H Q E ND HU hr h=>?_);obtain⟨hN,h1⟩:=h;obtain⟨O,rfl,h2⟩:=aE h1;obtain⟨Ad,rfl,h3⟩:=aE h2;obtain⟨B,rfl,h4⟩:=aE h3;obtain⟨t,rfl,F,as,cs,g,os,bx,rfl,fh,CS,LL,l4,lbx,k⟩:=aW h4;have sz:=szl
 skip
 have ok8:∀o∈os,xJ o.od/\(dys o.od.f o.od.e o.od.n).length<=8:=fun o m=>⟨(LL.ob o m).dy,(LL.ob o m).l8⟩;have hOl:∀ {q z},H q=some z->(∀l,z ≠ .lst l)->q∉os.map (·.lo):=fun e n m=>by
  obtain⟨o,mo,rfl⟩:=xS.mp m;rw[LL.lo o mo]at e;cases e;exact n _ rfl
 have cT:∃u,PSs (cp (XE P w) P w K mg base eB "_law_run_due" (ay cg) fA cdv A outer s H E) (ZU 2 Gw) u/\∀(D:iu) pw (l:List Nat) x7 p2 (d m:Int) (nv:Option Int) ws' G2,G2 p2=some (.lst ws')->ws'.length<sizeLine->(∀p1,G2 p1=none->D.nx [some (.ref O),some (.ref Ad),some (cl g),some (.ref B),some (.int t),some (.ref pw),some (L2.T l),x7,some (.ref p2),some (.int d),some (.int m),some (cl nv)] (upd (upd G2 p1 (.tup [L2.T l,.int d,cl nv])) p2 (.lst (ws'++[.ref p1])))) ->
  u D [some (.ref O),some (.ref Ad),some (cl g),some (.ref B),some (.int t),some (.ref pw),some (L2.T l),x7,some (.ref p2),some (.int d),some (.int m),some (cl nv)] G2:=by
  refine⟨_,(ah (bt (df K Zk ZP ZQ dX (fv 8) (fa1 (b7 (fa3 (fv 6) (fv 9) (fv 11))))))),fun D pw l x7 p2 d m nv ws' G2 g2 lw q=>?_⟩;walk_at "q";exact⟨.inl ⟨_,aA g2⟩,by walk_at "o",fun p1 fp1=>⟨p2,ws',_,rfl,rfl,(aj _ fp1) _ _ g2,lw,q p1 fp1⟩⟩
 obtain⟨uT,huT,cT⟩:=cT;have cB:∃u,PSs (cp (XE P w) P w K mg base eB "_law_run_due" (ay cg) fA cdv A outer s H E) Gw u/\∀(D:iu) pw x7 p2 (d:Int) x11 o1 vs Bs ws' G,o1∈os->NoT G->Same F G->G O=some (.dK (os.map gK))->G o1.lo=some (loL o1 (o1.od.go+(lft o1.od t).length))->F o1.rl=some (.lst vs)->A2 (RwAt F) vs o1.rw->G B=some (.lst Bs)->Bs.length<=101->G p2=some (.lst ws')->ws'.length<sizeLine->p2≠B ->
  (okT cs g o1 d->∀G2 q tq p1,G q=none->G tq=none->G2 q=some (.tup [.int Bs.length,.int d,L2.T o1.tn,.ref tq,.non])->G2 tq=some (.tup vs)->G2 B=some (.lst (Bs++[.ref q]))->Keep [B] G G2->NoT G2->G2 p1=none->D.nx [some (.ref O),some (.ref Ad),some (cl g),some (.ref B),some (.int t),some (.ref pw),some (L2.T o1.od.nm),x7,some (.ref p2),some (.int d),some (.int (MO d)),some (cl (some (Bs.length:Int)))] (upd (upd G2 p1 (.tup [L2.T o1.od.nm,.int d,cl (some (Bs.length:Int))])) p2 (.lst (ws'++[.ref p1])))) ->
  (¬ okT cs g o1 d->∀G2 p1,Same G G2->NoT G2->G2 p1=none->D.nx [some (.ref O),some (.ref Ad),some (cl g),some (.ref B),some (.int t),some (.ref pw),some (L2.T o1.od.nm),x7,some (.ref p2),some (.int d),some (.int (MO d)),some (cl none)] (upd (upd G2 p1 (.tup [L2.T o1.od.nm,.int d,cl none])) p2 (.lst (ws'++[.ref p1])))) ->
  u D [some (.ref O),some (.ref Ad),some (cl g),some (.ref B),some (.int t),some (.ref pw),some (L2.T o1.od.nm),x7,some (.ref p2),some (.int d),some (.int (MO d)),x11] G:=by
  refine⟨_,(ae (aR 11 ND cY)
   (ae (ba (bA (aH (k7 T) hr av (fa5 (fv 1) (fv 2) (fv 9) (fv 10) (aM K (ck (Zz HU) (fv 0) (fv 6) (fun _ _=>rfl)) aa)))) (ae (aR 11 ND (aC (cG K) rfl T.eR dv (fa1 (fv 3))))
   (ah (bt (df K Zk ZP ZQ dX (fv 3) (fa1 (b7 (fa5 (fv 11) (fv 9) (aM K (ck (Zz HU) (fv 0) (fv 6) (fun _ _=>rfl)) aa) (da (ja K) rfl T.ij fW (fa1 (aM K (ck (Zz HU) (fv 0) (fv 6) (fun _ _=>rfl)) aa))) cY))))))) aI)
   huT)),fun D pw x7 p2 d x11 o1 vs Bs ws' G mo nG FG hO hl1 hrl ars hB lB h2 lw ne2 k1 k0=>?_⟩
  have ob:=LL.ob o1 mo;walk_at "q";refine⟨O,_,rfl,qj LL.np mo (.inl hO),?_⟩;walk_at "q";refine⟨_,_,.inl (aA hl1),aJ (j:=6) rfl,nG,as,cs,g,vs,o1.rw,rfl,CS,FG _ _ LL.A,fun x m=>FG _ _ (LL.al x m),FG _ _ hrl,bD FG ars,ob.ln,ob.r0,fun G1 s1 n1=>⟨fun yes=>?_,fun no=>cT D pw _ x7 p2 d (MO d) none ws' G1 (s1 _ _ h2) lw fun p1 fp1=>k0 no G1 p1 s1 n1 fp1⟩⟩;refine⟨Bs,.inl (aA (s1 _ _ hB)),.inl ⟨_,aA (s1 _ _ hB)⟩,O,_,rfl,qj LL.np mo (.inl (s1 _ _ hO)),?_⟩;walk_at "q";refine⟨_,_,.inl (aA (s1 _ _ hl1)),aJ (j:=5) rfl,O,_,rfl,qj LL.np mo (.inl (s1 _ _ hO)),?_⟩;walk_at "q";refine⟨_,_,.inl (aA (s1 _ _ hl1)),aJ (j:=6) rfl,?_⟩;walk_at "q";refine⟨vs,.inl ⟨aA (s1 _ _ (FG _ _ hrl)),fun tq ft=>⟨by walk_at "o",fun q fq=>?_⟩⟩⟩;refine bW (br (o:=HO.tup vs) ft n1 rfl) fun G2 e2' s2' g2' N2'=>?_;rw[e2']at fq |-
  refine bW (br (o:=HO.tup [V.int ↑Bs.length,V.int d,L2.T o1.tn,V.ref tq,V.non]) fq N2' rfl) fun G3 e3' s3' g3' N3'=>?_;rw[e3'];have s13:=s2'.trans s3';have hB3:=s13 _ _ (s1 _ _ hB);refine⟨B,Bs,_,rfl,rfl,hB3,by lia,?_⟩;refine bW (IP (p:=B) (o:=HO.lst (Bs++[V.ref q])) N3' rfl) fun G4 e4' g4' k4' N4'=>?_;rw[e4'];have nt:∀ {c l},G3 c=some (.tup l)->G4 c=some (.tup l):=fun e=>k4' _ _ e fun m=>aY e hB3 (by intro z;cases z) (zz.mp m);exact cT D pw _ x7 p2 d (MO d) (some Bs.length) ws' G4 (k4' _ _ (s13 _ _ (s1 _ _ h2)) (by simpa using ne2)) lw fun p1 fp1=>k1 yes G4 q tq p1 ((s1.trans s2').free fq) (s1.free ft) (nt g3') (nt (s3' _ _ g2')) g4' ((bL (s1.trans s13)).trans k4') N4' fp1
 obtain⟨ub,hub,cB⟩:=cB;clear huT cT;have c2:∃u,PSs (cp (XE P w) P w K mg base eB "_law_run_due" (ay cg) fA cdv A outer s H E) (ZU 2 (bh cg)) u/\∀pw ws x6 x7 H1,NoT H1->Keep (os.map (·.lo)) H H1->(∀o∈os,H1 o.lo=some (loL o (o.od.go+(lft o.od t).length)))->H1 pw=some (.lst ws)->A2 (T3At H1) ws ((os.map (·.od.nm)).flatMap (trn os t)) ->
  u { nx:=fun _ H'=>Q .non H',rt:=Q } [some (.ref O),some (.ref Ad),some (cl g),some (.ref B),some (.int t),some (.ref pw),x6,x7,none,none,none,none] H1:=by
  refine⟨_,(ae (aR 8 ND (cj (FA.pa cv)))
   (ae (dE (by passes_own) rfl (bQ K (aC (vc K) rfl T.gh eI (fa1 (fv 5)))) (gC K (n:=3) rfl (a_ (aK (i:=9) ND rfl (Or.inl rfl)) (a_ (aK (i:=6) ND rfl (Or.inr rfl)) (a_ (aK (i:=10) ND rfl (Or.inl rfl)) eL)))) hub)
   (ah (aF (fv 8))))),fun pw ws x6 x7 H1 N1 k1 hlo gw aw=>?_⟩
  walk_at "q";refine⟨Zv _,fun p2 f2=>dJ ?_⟩;refine bW (br (o:=HO.lst []) f2 N1 rfl) fun H2 e2 s2 g2 N2=>?_;rw[e2];walk_at "q";refine gb (Bj (kf:=xE) aw) fun ps yy1 ek hps=>?_;subst yy1;obtain⟨nd,l64⟩:=lU (u:=t) LL.np ok8 LL.np fun l m=>m;rw[zV]at l64;refine⟨ps,true,[false,true],aA (s2 _ _ gw),fun e m=>s2 _ _ (hps e m),by have:=congrArg ZO ek;rw[zV,zV]at this;lia,fun e m=>?_,by rw[ek];exact Zc.mpr (nd.imp fun h z=>h (vO z)),fun out po oo l fl=>?_⟩
  ·have m2:e.2∈ps.map (·.2):=xf m
   rw[ek]at m2;obtain⟨x,_,e'⟩:=xS.mp m2;rw[<- e'];rfl
  refine bW (br (o:=HO.lst (out.map fun e=>.ref e.1)) fl N2 rfl) fun H3 e3 s3 g3 N3=>?_;rw[e3];refine gb (CP (kf:=xE) vO ek po) fun tt et mt lt=>?_;have IT:IsT os t tt:=⟨LK (by rw[<- et];exact oo),fun x=>by
   rw[mt,List.mem_flatMap];constructor
   ·rintro⟨l,ml,mx⟩
    obtain⟨o1,mo,rfl⟩:=xS.mp ml;rw[gJ LL.np mo]at mx;obtain⟨d,md,rfl⟩:=xS.mp mx;exact⟨o1,mo,rfl,md⟩
   ·rintro⟨o1,mo,e1,e2⟩
    refine⟨o1.od.nm,xf (f:=fun o:Ot=>o.od.nm) mo,?_⟩;rw[gJ LL.np mo];exact xS.mpr ⟨x.1,e2,by rw[<- e1]⟩⟩
  have s23:=s2.trans s3;have aT:=wO et fun e m=>s23 _ _ (hps e (po.mem_iff.mp m));obtain⟨Bs0,hB0,aB0⟩:=LL.B;have nBl:B∉os.map (·.lo):=(Zi.mp LL.no).1;have hB1:=k1 _ _ hB0 nBl;have p2n:H p2=none:=k1.free f2 fun m=>by
   obtain⟨o1,mo,rfl⟩:=xS.mp m;rw[hlo o1 mo]at f2;cases f2
  have fF:∀ {G},Keep [p2,B] H3 G->Same F G:=fun kp c z e=>by
   have n1:c∉os.map (·.lo):=fun m=>by rw[LL.fl c (.tail _ (.tail _ m))]at e;cases e
   refine kp _ _ (s23 _ _ (k1 _ _ (fh _ _ e) n1)) fun m=>?_;rcases zO.mp m with h|m
   ·rw[h]at e;rw[fh _ _ e]at p2n;cases p2n
   ·rw[zz.mp m,LL.fl _ (.tail _ (.head _))]at e;cases e
  walk_at "q";refine dL (aA g3) (dH (xs:=out.map fun e=>.ref e.1) (fun i σ' G=>∃Bs ws' x6 x9 x10 x11,G B=some (.lst Bs)/\A2 (BxAt (frz F H G)) Bs (bkB cs g os bx (tt.take i))/\G p2=some (.lst ws')/\A2 (ToAt (frz F H G)) ws' (tlB cs g os bx (tt.take i))/\Keep [p2,B] H3 G/\NoT G/\σ'=[some (.ref O),some (.ref Ad),some (cl g),some (.ref B),some (.int t),some (.ref pw),x6,x7,some (.ref p2),x9,x10,x11]) ⟨Bs0,[],x6,none,none,none,s23 _ _ hB1,c7 (dW F H H3).s aB0,s3 _ _ g2,.nil,Keep.refl,N3,rfl⟩ (fun i σ' G _ h=>?_) ?_ ?_)
  ·obtain⟨Bs,ws',x6,x9,x10,x11,hB,aB,h2,aT',kp,nG,rfl⟩:=h
   refine aA (kp _ _ g3 fun m=>?_);rcases zO.mp m with rfl|m
   ·rw[g2]at fl;cases fl
   ·rw[zz.mp m,s2 _ _ hB1]at fl;cases fl
  ·rintro i x σ' G hx ⟨Bs,ws',x6,x9,x10,x11,hB,aB,h2,aT',kp,nG,rfl⟩
   refine ce (aT.at_ hx) fun yy1 ht1 yz=>ce yz fun q1 yy2 hq1=>?_;obtain⟨d,l1⟩:=yy1;subst yy2;refine gb ((IT.2 _).mp (vW ht1)) fun o1 mo e1 hd=>?_;obtain rfl:l1=o1.od.nm:=e1;have ob:=LL.ob o1 mo;have nS:∀ {q z},H3 q=some z->(∀l,z ≠ .lst l)->G q=some z:=fun e n=>kp _ _ e fun m=>by
    rcases zO.mp m with h|m
    ·exact aY e (s3 _ _ g2) (n _) h
    ·exact aY e (s23 _ _ hB1) (n _) (zz.mp m)
   have hq1:=nS hq1 (by intro _ z;cases z);have hO:G O=some (.dK (os.map gK)):=nS (s23 _ _ (k1 _ _ LL.O (hOl LL.O (by intro _ z;cases z)))) (by intro _ z;cases z);have hl1:G o1.lo=some (loL o1 (o1.od.go+(lft o1.od t).length)):=kp _ _ (s23 _ _ (hlo o1 mo)) fun m=>by
    rcases zO.mp m with h|m
    ·rw[<- h,hlo o1 mo]at f2;cases f2
    ·exact nBl (by rw[<- zz.mp m];exact xf (f:=fun o:Ot=>o.lo) mo)
   have FG:=fF kp;refine ce (LL.rl o1 mo) fun vs hrl ars=>?_;have lB:=aB.len;have lbk:=ow (cs:=cs) (g:=g) (os:=os) (tt.take i) bx;have lT:=aT'.len;rw[ot]at lT;rw[Zx]at lbk lT;have ne2:p2≠B:=fun z=>by rw[z,hB1]at f2;cases f2
   have exG:∀ {c},G c=none->H c=none:=fun {c} e=>by
    cases hc:H c with
    |none=>rfl
    |some z=>
     have e3:∃z,H3 c=some z:=by
      by_cases h1:c∈os.map (·.lo)
      ·obtain⟨o2,m2,rfl⟩:=xS.mp h1
       exact⟨_,s23 _ _ (hlo o2 m2)⟩
      ·exact⟨_,s23 _ _ (k1 _ _ hc h1)⟩
     obtain⟨z,e3⟩:=e3;by_cases hm2:c∈[p2,B]
     ·rcases zO.mp hm2 with h|h
      ·rw[h,h2]at e;cases e
      ·rw[zz.mp h,hB]at e;cases e
     ·rw[kp _ _ e3 hm2]at e;cases e
   have key:∀(nv:Option Int) G2 Bs2 p1,G2 B=some (.lst Bs2)->A2 (BxAt (frz F H G2)) Bs2 (bkB cs g os bx (tt.take (i+1)))->nv=nuB cs g os (bkB cs g os bx (tt.take i)) (d,o1.od.nm)->Keep [B] G G2->NoT G2->G2 p1=none->∀G5,upd (upd G2 p1 (.tup [L2.T o1.od.nm,.int d,cl nv])) p2 (.lst (ws'++[.ref p1]))=G5 ->
    ∃Bs ws'' x6 x9 x10 x11,G5 B=some (.lst Bs)/\A2 (BxAt (frz F H G5)) Bs (bkB cs g os bx (tt.take (i+1)))/\G5 p2=some (.lst ws'')/\A2 (ToAt (frz F H G5)) ws'' (tlB cs g os bx (tt.take (i+1)))/\Keep [p2,B] H3 G5/\NoT G5 /\
     [some (.ref O),some (.ref Ad),some (cl g),some (.ref B),some (.int t),some (.ref pw),some (L2.T o1.od.nm),x7,some (.ref p2),some (.int d),some (.int (MO d)),some (cl nv)]=[some (.ref O),some (.ref Ad),some (cl g),some (.ref B),some (.int t),some (.ref pw),x6,x7,some (.ref p2),x9,x10,x11]:=by
    intro nv G2 Bs2 p1 hB2 aB2 en k2 n2 fp1 G5 e5;have tk2:TK G G2:=TK.keep k2 fun c m l e=>by rw[zz.mp m,hB]at e;cases e
    have g22:G2 p2=some (.lst ws'):=k2 _ _ h2 (by simpa using ne2);have tkP:TK G2 G5:=by rw[<- e5];exact(TK.same (aj _ fp1)).trans (TK.put ((aj _ fp1) _ _ g22) (by intro _ z;cases z))
    have kpP:Keep [p2,B] H3 G5:=by rw[<- e5];exact((kp.trans (k2.mono fun c m=>.tail _ m)).trans (bL (aj _ fp1))).put (.head _)
    have fp1H:H p1=none:=exG (k2.free fp1 fun m=>by rw[zz.mp m,hB2]at fp1;cases fp1);have q1:G5 p1=some (.tup [L2.T o1.od.nm,.int d,cl nv]):=by rw[<- e5,ai (fun z=>by rw[z,g22]at fp1;cases fp1),af]
    have q2:G5 B=some (.lst Bs2):=by rw[<- e5,ai (Ne.symm ne2)];exact(aj _ fp1) _ _ hB2
    have q3:G5 p2=some (.lst (ws'++[.ref p1])):=by rw[<- e5];exact af
    have q4:NoT G5:=by rw[<- e5];exact aq (aq n2 rfl) rfl
    clear e5;refine⟨Bs2,ws'++[.ref p1],_,_,_,_,q2,gf tkP.frz aB2,q3,?_,kpP,q4,rfl⟩;rw[bE ht1,qh];exact(CA (tk2.trans tkP).frz aT').snoc ⟨p1,rfl,by rw[fN fh fp1H,q1,<- en]⟩
   walk_at "q";refine⟨_,_,rfl,bR hq1,rfl,_,_,rfl,_,_,rfl,_,_,rfl,rfl,?_⟩;walk_at "q";refine cB _ pw x7 p2 d x11 o1 vs Bs ws' G mo nG FG hO hl1 hrl ars hB (by lia) h2 (by lia) ne2 (fun yes G2 q tq p1 fq ft hq ht hB2 k2 n2 fp1=>key (some Bs.length) G2 _ p1 hB2 ?_ ?_ k2 n2 fp1 _ rfl) fun no G2 p1 s1 n2 fp1=>key none G2 Bs p1 (s1 _ _ hB) ?_ ?_ (bL s1) n2 fp1 _ rfl
   all_goals
    first
    |rw[bE ht1,oN];unfold stB
    |unfold nuB
    rw[qQ LL.np mo];dsimp only
   ·rw[if_pos (show okT cs g o1 d from yes),<- lB]
    have tk2:TK G G2:=TK.keep k2 fun c m l e=>by rw[zz.mp m,hB]at e;cases e
    exact(gf tk2.frz aB).snoc ⟨q,tq,vs,rfl,by rw[fN fh (exG fq)];exact hq,by rw[fN fh (exG ft)];exact ht,bD (dW F H G2).s ars⟩
   ·rw[if_pos (show okT cs g o1 d from yes),<- lB]
   ·rw[if_neg (show ¬ okT cs g o1 d from no)]
    exact gf (TK.same s1).frz aB
   ·rw[if_neg (show ¬ okT cs g o1 d from no)]
  ·rintro σ' G ⟨Bs,ws',x6,x9,x10,x11,hB,aB,h2,aT',kp,nG,rfl⟩
   rw[aT.len,Zl]at aB aT';walk_at "q";have FG:=fF kp;have kH:Keep (lmt ⟨Ad,O,B⟩ os) H G:=fun c z e n=>kp _ _ (s23 _ _ (k1 _ _ e fun m=>n (.tail _ (.tail _ m)))) fun m=>by
    rcases zO.mp m with h|m
    ·rw[h,p2n]at e;cases e
    ·exact n (by rw[zz.mp m];exact .tail _ (.head _))
   have nS:∀ {q z},H3 q=some z->q≠p2->q≠B->G q=some z:=fun e n1 n2=>kp _ _ e (by simpa using⟨n1,n2⟩);have fm:∀c∈lmt ⟨Ad,O,B⟩ os,frz F H G c=none:=fun c m=>(dW F H G).n c (LL.lex m) (LL.fl c m);refine k tt (frz F H G) G p2 IT (dW F H G) (tj FG) nG ⟨(dW F H G).s _ _ LL.A,fun x m=>(dW F H G).s _ _ (LL.al x m),?_,fun o m=>?_,fun o m=>?_,fun o m=>?_,⟨Bs,hB,aB⟩,by rw[wM];exact LL.no,by rw[wM];exact LL.np,fun c m=>fm c (by rw[lD]at m;exact m)⟩ kH p2n ⟨ws',by rw[fN fh p2n];exact h2,aT'⟩
   ·rw[CG]
    have e:=s23 _ _ (k1 _ _ LL.O (hOl LL.O (by intro _ z;cases z)));exact nS e (aY e (s3 _ _ g2)) (aY e (s23 _ _ hB1))
   all_goals obtain⟨o1,mo,rfl⟩:=xS.mp m
   ·have ec:=IT.cnt LL.np mo (ok8 o1 mo).1
    show G o1.lo=some (loL o1 (o1.od.go+(cnt tt o1.od.nm:Nat)));rw[ec];exact nS (s23 _ _ (hlo o1 mo)) (fun h=>by rw[<- h,hlo o1 mo]at f2;cases f2) fun h=>nBl (by rw[<- h];exact xf (f:=fun o:Ot=>o.lo) mo)
   ·obtain⟨vs,e1,e2⟩:=LL.rl o1 mo
    exact⟨vs,(dW F H G).s _ _ e1,bD (dW F H G).s e2⟩
   ·have ob:=LL.ob o1 mo
    have ec:=IT.cnt LL.np mo (ok8 o1 mo).1;have:=j_ o1.od t;have:=ob.g;exact { ob with g:=⟨by show 0<=o1.od.go+_;lia,by show o1.od.go+(cnt tt o1.od.nm:Nat)<=((dys o1.od.f o1.od.e o1.od.n).length:Nat);rw[ec];lia⟩ }
 obtain⟨u2,hu2,c2⟩:=c2;refine⟨_,(ae (aR 5 ND (cj (FA.pa cv)))
  (ae (FY (dE (by passes_own) rfl (tJ (fv 0)) (aK (i:=6) ND rfl (Or.inr rfl)) (ae (aR 7 ND (aH (tZ T) hr av (fa2 (ck (Zz HU) (fv 0) (fv 6) (fun _ _=>rfl)) (fv 4))))
  (ae (aR 5 ND (au A5 (fv 5) (b_ rfl (cl:=_) (x:="_law_day_here") (xs:=["_law_day_here","_law_month"]) (fr:=["_law_name"]) (ks:=[6]) (by walk_at "c") rfl (bQ K (fv 7)) (fun _ _ _ _ _=>(gC K (n:=2) rfl (a_ (aK (i:=0) (eC (l:=["_law_day_here","_law_month","_law_name"]) (by decide)) rfl (Or.inl rfl)) (a_ (aK (i:=1) (eC (l:=["_law_day_here","_law_month","_law_name"]) (by decide)) rfl (Or.inl rfl)) eL)))) (fun _ _ _ _ _=>eO) (fun _ _ _ _ _=>(b7 (fa3 (fv 0) (fv 2) (fv 1)))))))
  (ah (mJ (au aP (aM K (ck (Zz HU) (fv 0) (fv 6) (fun _ _=>rfl)) aa) (aC (cG K) rfl T.eR dv (fa1 (fv 7)))) (xa (ck (Zz HU) (fv 0) (fv 6) (fun _ _=>rfl)) aa pA)))))))
  hu2)),?_⟩
 walk_at "q";refine⟨Zv _,fun p0 f0=>HG ?_⟩;refine bW (br (o:=HO.lst []) f0 hN rfl) fun H1 e1 s1 g1 N1=>?_;rw[e1];walk_at "q";have hO1:=s1 _ _ LL.O;refine⟨O,.dK (os.map gK),rfl,rfl,.inl hO1,fun o hor=>Hj (fun i σ' G=>G O=some (.frz o (.dK (os.map gK)))/\NoT G/\(∀q z,H q=some z->q≠O->q∉os.map (·.lo)->G q=some z)/\(∀j o,os[j]? = some o->G o.lo=some (loL o (o.od.go+if j<i then ((lft o.od t).length:Int) else 0)))/\∃pw ws x6 x7,G pw=some (.lst ws)/\A2 (T3At G) ws (((os.take i).map (·.od.nm)).flatMap (trn os t))/\H pw=none/\σ'=[some (.ref O),some (.ref Ad),some (cl g),some (.ref B),some (.int t),some (.ref pw),x6,x7,none,none,none,none]) ⟨af,aq N1 rfl,fun q z e n _=>(ai n).trans (s1 _ _ e),fun j o ho=>?_,p0,[],none,none,?_,.nil,f0,rfl⟩ (fun i σ' G h=>h.1) ?_ ?_⟩
 ·have e:=LL.lo o (vW ho)
  rw[if_neg (Nat.not_lt_zero _),Int.add_zero,ai (aY e LL.O)];exact s1 _ _ e
 ·rw[ai (aY g1 hO1)];exact g1
 ·rintro i y v σ' G hi en ⟨hf,nG,kG,hlo,pw,ws,x6,x7,gw,aw,fw,rfl⟩
  obtain⟨ke,en,rfl⟩:=en;rw[List.getElem?_map]at en;refine ce (Zg.mp en) fun o1 ex e2=>?_;cases e2;have mo:=vW ex;have ob:=LL.ob o1 mo;have hl1:=hlo i o1 ex;rw[if_neg (ZJ _),Int.add_zero]at hl1;have l8:=ob.l8;have ll:=j_ o1.od t;have lws:=aw.len;have lts:=(lU (u:=t) LL.np ok8 (LL.np.sublist ((List.take_sublist i os).map _)) fun l m=>by
   obtain⟨z,mz,rfl⟩:=xS.mp m;exact xf (f:=fun o:Ot=>o.od.nm) (Xx mz)).2
  rw[zV,Zx]at lts;walk_at "q";have ofr:∀ {q z},G q=some z->(∀l,z ≠ .frz o l)->q≠O:=fun e n h=>by rw[h,hf]at e;cases e;exact n _ rfl
  refine⟨O,_,rfl,qj LL.np mo (.inr ⟨o,hf⟩),nG,o1.m,o1.pl,o1.od.e,o1.od.n,o1.od.go,[L2.T o1.tn,.ref o1.rl],hl1,ob.m,ob.pl.1,⟨ob.e.1,by have:=ob.e;lia⟩,⟨by have:=ob.n;lia,by have:=ob.n;lia⟩,⟨ob.g.1,by have:=ob.g;lia⟩,fun r vs H' s' n' fr gr ar=>?_⟩;rw[HV ob]at ar;have lv:=ar.len;refine ql ?_;walk_at "q";refine⟨⟨_,aA gr⟩,ceA T3At.mv r vs (lft o1.od t) (PrA H') (fun _=>true) (fun d=>(d,o1.od.nm)) gr n' ar (by lia) (fun v b mb rb F1 zs M1 M0 sF nF hz n1 n0=>?_) fun D ws' G2 hD sG nG2 gD aG=>?_⟩
  ·obtain⟨q,rfl,hq⟩:=rb
   have hq:=sF _ _ hq;obtain⟨z1,z2,rfl⟩:=ex2 hz;walk_at "q";refine⟨_,_,rfl,bR hq,rfl,_,_,rfl,_,_,rfl,rfl,?_⟩;walk_at "q";exact⟨⟨[_,_],rfl,rfl⟩,by walk_at "o",fun p1 hp1=>n1 rfl _ _ (aj _ hp1) (aq nF rfl) ⟨p1,rfl,af⟩⟩
  ·rw[ZW.mpr (fun _ _=>rfl)]at aG
   have lw':=aG.len;rw[zV]at lw';have sg:=s'.trans sG;walk_at "q";refine⟨ws,ws',sg _ _ gw,gD,JX lws lw' ll l8 lts rfl l4 sz,fun p3 f3=>?_⟩;refine bW (br (o:=HO.lst (ws++ws')) f3 nG2 rfl) fun G3 e3 s3 g3 N3=>?_;rw[e3];have sg3:=sg.trans s3;refine⟨O,_,rfl,qj LL.np mo (.inr ⟨o,sg3 _ _ hf⟩),?_⟩;walk_at "q";refine⟨_,_,.inl (aA (sg3 _ _ hl1)),aJ (j:=4) rfl,?_⟩;walk_at "q";refine⟨_,.inl (aA (s3 _ _ (sG _ _ gr))),O,_,rfl,qj LL.np mo (.inr ⟨o,sg3 _ _ hf⟩),o1.lo,_,4,4,rfl,rfl,sg3 _ _ hl1,rfl,?_⟩;refine bW (IP (p:=o1.lo) (o:=HO.lst ([V.int o1.m,V.int o1.pl,V.int o1.od.e,V.int o1.od.n,V.int o1.od.go,L2.T o1.tn,V.ref o1.rl].set 4 (V.int (o1.od.go + ↑vs.length)))) N3 rfl) fun G4 e4 g4 k4 N4=>?_;rw[e4];have hl3:=sg3 _ _ hl1;have n4:∀ {q z},G3 q=some z->(∀l,z ≠ .lst l)->G4 q=some z:=fun e n=>k4 _ _ e fun m=>aY e hl3 (n _) (zz.mp m);have p3n:H p3=none:=by
    cases e:H p3 with
    |none=>rfl
    |some z=>
     have f3':=sg.free f3;by_cases h:p3=O
     ·rw[h,hf]at f3';cases f3'
     by_cases h2:p3∈os.map (·.lo)
     ·obtain⟨o2,m2,rfl⟩:=xS.mp h2
      obtain⟨j,hj⟩:=List.getElem?_of_mem m2;rw[hlo j o2 hj]at f3';cases f3'
     ·rw[kG _ _ e h h2]at f3';cases f3'
   refine⟨n4 (sg3 _ _ hf) (by intro _ z;cases z),N4,fun q z e h1 h2=>k4 _ _ (sg3 _ _ (kG q z e h1 h2)) fun m=>h2 (by rw[zz.mp m];exact xf (f:=fun o:Ot=>o.lo) mo),fun j o2 hj=>?_,p3,ws++ws',_,_,k4 _ _ g3 fun m=>?_,?_,p3n,rfl,rfl,rfl⟩
   ·by_cases h:j=i
    ·rw[h,ex]at hj
     cases hj;rw[h,if_pos (Nat.lt_succ_self _),g4,lv];rfl
    ·have ne:o2.lo≠o1.lo:=fun z=>h (He (Zi.mp LL.no).2 hj ex z)
     rw[k4 _ _ (sg3 _ _ (hlo j o2 hj)) (by simpa using ne)];by_cases h2:j<i
     ·rw[if_pos h2,if_pos (by lia)]
     ·rw[if_neg h2,if_neg (by lia)]
   ·have q:=zz.mp m
    rw[q]at f3;rw[sg _ _ hl1]at f3;cases f3
   ·rw[bE ex,vH,Xn]
    have e2:List.flatMap (trn os t) (List.map (fun x=>x.od.nm) [o1])=(lft o1.od t).map fun d=>(d,o1.od.nm):=by
     show trn os t o1.od.nm++[]=_;rw[gJ LL.np mo,Ze]
    rw[e2];have kt:∀t l,G3 t=some (.tup l)->G4 t=some (.tup l):=fun t l e=>n4 e (by intro _ z;cases z);exact(aw.imp fun _ _ _ _ h=>T3At.mv _ _ _ _ (fun t l e=>kt _ _ (sg3 _ _ e)) h).app (aG.imp fun _ _ _ _ h=>T3At.mv _ _ _ _ (fun t l e=>kt _ _ (s3 _ _ e)) h)
 ·rintro σ' G ⟨hf,nG,kG,hlo,pw,ws,x6,x7,gw,aw,fw,rfl⟩
  have ln:g_ (.dK (os.map gK))=os.length:=zV ..;rw[ln,Zl]at aw;refine⟨O,o,_,hf,.inl ⟨hO1,rfl,c2 pw ws x6 x7 _ (aq nG rfl) (fun q z e n=>?_) (fun o1 mo=>?_) ?_ (aw.imp fun _ _ _ _ h=>?_)⟩⟩
  ·by_cases h:q=O
   ·rw[h,af];rw[h,LL.O]at e;exact e
   ·rw[ai h];exact kG q z e h n
  ·obtain⟨j,hj⟩:=List.getElem?_of_mem mo
   have e:=hlo j o1 hj;have jl:=(List.getElem?_eq_some_iff.mp hj).1;rw[ln,if_pos jl]at e;rw[ai (fun h=>by rw[h,hf]at e;cases e)];exact e
  ·rw[ai (fun h=>by rw[h,hf]at gw;cases gw)];exact gw
  ·exact T3At.mv _ _ _ _ (fun q l e=>by rw[ai (fun h=>by rw[h,hf]at e;cases e)];exact e) h
noncomputable def mul(W:Wd)(L:Lw)(os:List Ot):List Addr:=mtb W os++lmt L os
structure Bo(a:Adr)(W:Wd)(L:Lw)(F H:Hp)(as:List La)(cs:List Acc)(g:Option Int)(os:List Ot)(bx:List Bx):Prop where
 rp:∃bs,RP a W F H cs g os bs/\A2 (BxAt F) bs bx
 lp:LP L F H as os bx
 cr:CsR as cs
 dj:∀c∈lmt L os,c∉mtb W os
noncomputable def frx(F H H':Hp)(m:Addr):Hp:=fun c=>if c=m then F c else frz F H H' c
theorem jV(F H H':Hp)(m:Addr):Gr F H (frx F H H' m):=⟨fun c z e=>by
 unfold frx;split
 ·exact e
 ·exact(dW F H H').s _ _ e,fun c n e=>by
 unfold frx;split
 ·exact e
 ·exact(dW F H H').n c n e⟩
theorem yo{F H H':Hp}(h:Same F H')(m:Addr):Same (frx F H H' m) H':=fun c z e=>by
 unfold frx at e;split at e
 ·exact h _ _ e
 ·exact tj h _ _ e
theorem n_{F H H':Hp}{c m:Addr}(fh:Same F H)(h:H c=none)(n:c≠m):frx F H H' m c=H' c:=by unfold frx;rw[if_neg n,fN fh h]
theorem Gp{F H H':Hp}{m:Addr}(h:F m=none):frx F H H' m m=none:=by unfold frx;rw[if_pos rfl];exact h
structure Nx(W:Wd)(L:Lw)(F H:Hp)(os:List Ot)(F' H':Hp)(os':List Ot)(N:List Addr):Prop where
 gr:Gr F H F'
 kp:Keep (mul W L os) H H'
 nw:∀c∈mul W L os',c∈mul W L os\/H c=none\/c∈N
 ex:∀c,H c≠none->H' c≠none
section
variable{W:Wd}{L:Lw}{F H F' H' F'' H'':Hp}{as:List La}{cs:List Acc}{g:Option Int}{os os' os'':List Ot}{bx:List Bx}{N:List Addr}
theorem Bo.ex(h:Bo a W L F H as cs g os bx){c:Addr}(m:c∈mul W L os):H c≠none:=by
 obtain⟨bs,R,_⟩:=h.rp;rcases tT.mp m with m|m
 ·exact R.exm m
 ·exact h.lp.lex m
theorem Bo.fn(h:Bo a W L F H as cs g os bx){c:Addr}(m:c∈mul W L os):F c=none:=by
 obtain⟨bs,R,_⟩:=h.rp;rcases tT.mp m with m|m
 ·exact R.fm c m
 ·exact h.lp.fl c m
theorem Bo.fh(h:Bo a W L F H as cs g os bx):Same F H:=by
 obtain⟨bs,R,_⟩:=h.rp;exact R.fh
theorem Bo.nT(h:Bo a W L F H as cs g os bx):NoT H:=by
 obtain⟨bs,R,_⟩:=h.rp;exact R.nT
theorem Bo.same(h:Bo a W L F H as cs g os bx)(s:Same H H')(n:NoT H'):Bo a W L F H' as cs g os bx:=by
 obtain⟨bs,R,B⟩:=h.rp;exact⟨⟨bs,R.same s n,B⟩,h.lp.same s,h.cr,h.dj⟩
theorem Bo.grow(h:Bo a W L F H as cs g os bx)(s:Same F F')(fh:Same F' H)(n:∀c∈mul W L os,F' c=none):Bo a W L F' H as cs g os bx:=by
 obtain⟨bs,R,B⟩:=h.rp;exact⟨⟨bs,R.grow s fh fun c m=>n c (tW _ m),c7 s B⟩,h.lp.grow s fun c m=>n c (wC _ m),h.cr,h.dj⟩
theorem Bo.frx(h:Bo a W L F H as cs g os bx)(s:Same H H')(n:NoT H')(m:Addr):Bo a W L (frx F H H' m) H' as cs g os bx:=
 (h.same s n).grow (jV F H H' m).s (yo (h.fh.trans s) m) fun c mc=>(jV F H H' m).n c (h.ex mc) (h.fn mc)
theorem Nx.trans(x:Nx W L F H os F' H' os' [])(y:Nx W L F' H' os' F'' H'' os'' []):Nx W L F H os F'' H'' os'' []:=by
 have lk:∀c,H' c=none->H c=none:=fun c e=>by
  cases h:H c with
  |none=>rfl
  |some z=>exact absurd e (x.ex c (by rw[h];intro z;cases z))
 refine⟨x.gr.trans y.gr x.ex,fun c z e n=>y.kp _ _ (x.kp _ _ e n) fun m=>?_,fun c m=>?_,fun c n=>y.ex c (x.ex c n)⟩
 ·rcases x.nw c m with h|h|h
  ·exact n h
  ·rw[h]at e;cases e
  ·cases h
 ·rcases y.nw c m with h|h|h
  ·exact x.nw c h
  ·exact .inr (.inl (lk c h))
  ·cases h
theorem Nx.of(y:Nx W L F' H' os F'' H'' os'' N)(gr:Gr F H F')(s:Same H H')(n:∀c∈N,H c=none):Nx W L F H os F'' H'' os'' []:=by
 have ex:∀c,H c≠none->H' c≠none:=fun c n e=>n (s.free e);refine⟨gr.trans y.gr ex,fun c z e n=>y.kp _ _ (s _ _ e) n,fun c m=>?_,fun c n=>y.ex c (ex c n)⟩;rcases y.nw c m with h|h|h
 ·exact .inl h
 ·exact .inr (.inl (s.free h))
 ·exact .inr (.inl (n c h))
structure Out(W:Wd)(L:Lw)(F H:Hp)(os:List Ot)(c:Addr)(z:HO):Prop where
 h:H c=some z
 f:F c=none
 n:c∉mul W L os
theorem Nx.out(x:Nx W L F H os F' H' os' N){c:Addr}{z:HO}(o:Out W L F H os c z)(n:c∉N):Out W L F' H' os' c z:=
 ⟨x.kp _ _ o.h o.n,x.gr.n c (by rw[o.h];intro z;cases z) o.f,fun m=>(x.nw c m).elim o.n fun q=>q.elim (fun q=>by rw[o.h]at q;cases q) n⟩
end
theorem OB.di{o:Ot}(b:OB o):∀d∈dys o.od.f o.od.e o.od.n,0<=d/\d<=146096:=fun d m=>by
 unfold dys at m;rw[b.f,yb b.e.1 b.m.1 b.m.2 b.pl.1 b.pl.2]at m;obtain⟨j,mj,rfl⟩:=xS.mp m;have hj:=List.mem_range.mp mj;unfold NN at hj;have e1:=b.e;have m1:=b.m;have q0:0<=(4799-o.m) / o.od.e:=Int.ediv_nonneg (by lia) (by lia);have h1:(j:Int)*o.od.e<=4799-o.m:=(Yl (by lia)).mp (by lia);have h0:0<=(j:Int)*o.od.e:=Int.mul_nonneg (by lia) (by lia);have d1:=m_ (m:=o.m+j*o.od.e) b.pl.1;have f0:=de (show 0<=o.m+j*o.od.e by lia);have f1:=de (show o.m+j*o.od.e+1<=4800 by lia);rw[xw]at f0;rw[jW]at f1;lia
structure PtP(W:Wd)(L:Lw)(F H:Hp)(os:List Ot)(l:List Nat)(m pl e n:Int)(tn:List Nat)(rw:List Row)(lo rl:Addr)(vs:List V):Prop where
 od:OrD H (.ref lo) m pl e n tn rw lo rl vs
 rl:F rl=some (.lst vs)
 rs:A2 (RwAt F) vs rw
 fl:F lo=none
 nl:lo∉mul W L os
 nm:nm l=true
 no:∀o∈os,o.od.nm≠l
 l4:os.length<=4
section
variable{W:Wd}{L:Lw}{F H H1 H2:Hp}{as:List La}{cs:List Acc}{g:Option Int}{os:List Ot}{bx:List Bx}{bs:List V}{l:List Nat}{m pl e n:Int}{tn:List Nat}{rw:List Row}{lo rl hd ob ag rt ad:Addr}{vs:List V}{o:Ot}
theorem uo{c:Addr}(m:c∈mtb W (os++[o])):c∈mtb W os\/c=o.od.ob:=by
 simp only[mtb,own,vH,wV,ZX,zO,tT,zJ,or_false]at m |-
 rcases m with m|m|m|m|m|m
 ·exact .inl (.inl m)
 ·exact .inl (.inr (.inl m))
 ·exact .inl (.inr (.inr (.inl m)))
 ·exact .inl (.inr (.inr (.inr (.inl m))))
 ·exact .inl (.inr (.inr (.inr (.inr m))))
 ·exact .inr m
theorem tX{c:Addr}(m:c∈lmt L (os++[o])):c∈lmt L os\/c=o.lo:=by
 simp only[lmt,vH,wV,ZX,zO,tT,zJ,or_false]at m |-
 rcases m with m|m|m|m
 ·exact .inl (.inl m)
 ·exact .inl (.inr (.inl m))
 ·exact .inl (.inr (.inr m))
 ·exact .inr m
noncomputable abbrev pH(L:Lw)(H2:Hp)(hd:Addr)(os:List Ot)(o:Ot):Hp:=upd (upd H2 hd (.lst [])) L.O (.dK ((os++[o]).map gK))
theorem CC(B:Bo a W L F H as cs g os bx)(s1:Same H H1)(fhd:H hd=none)(kp:Keep [W.ds] H1 H2){c:Addr}{z:HO}(e:H c=some z)(n1:c≠W.ds)(n2:c≠L.O):pH L H2 hd os o c=some z:=by
 unfold pH;rw[ai n2,ai (aL e fhd)];exact kp _ _ (s1 _ _ e) (by simpa using n1)
theorem IF(B:Bo a W L F H as cs g os bx)(PP:PtP W L F H os l m pl e n tn rw lo rl vs)(s1:Same H H1)(fhd:H hd=none)(fob:H1 ob=none)(kp:Keep [W.ds] H1 H2)(eo:(⟨⟨l,ob,ag,rt,ad,dy m pl,e,n,L2.T tn,vs,0⟩,tn,rw,lo,rl,m,pl⟩:Ot)=o)(S2:SAt a.aD a.az H2 W.s W.ds (os.map (·.od)++[⟨l,ob,ag,rt,ad,dy m pl,e,n,L2.T tn,vs,0⟩])) :
 Nx W L F H os (frx F H (pH L H2 hd os o) ob) (pH L H2 hd os o) (os++[o]) [lo]:=by
 refine⟨jV F H _ ob,fun c z e nm=>CC B s1 fhd kp e (fun q=>nm (tW _ (by rw[q];exact .tail _ (.head _)))) fun q=>nm (wC _ (by rw[q];exact .head _)),fun c mc=>?_,fun c nc=>?_⟩
 ·rcases tT.mp mc with mc|mc
  ·rcases uo mc with h|h
   ·exact .inl (tW _ h)
   ·rw[h,<- eo];exact .inr (.inl (s1.free fob))
  ·rcases tX mc with h|h
   ·exact .inl (wC _ h)
   ·rw[h,<- eo];exact .inr (.inr (.head _))
 ·intro z
  unfold pH at z;by_cases h1:c=L.O
  ·rw[h1,af]at z;cases z
  rw[ai h1]at z;by_cases h2:c=hd
  ·rw[h2,af]at z;cases z
  rw[ai h2]at z;by_cases h3:c=W.ds
  ·rw[h3,S2.dc]at z;cases z
  cases e:H c with
  |none=>exact nc e
  |some y=>rw[kp _ _ (s1 _ _ e) (by simpa using h3)]at z;cases z
theorem Ii(B:Bo a W L F H as cs g os bx)(R:RP a W F H cs g os bs)(hbx:A2 (BxAt F) bs bx)(PP:PtP W L F H os l m pl e n tn rw lo rl vs)(s1:Same H H1)(fhd:H hd=none)(g1:H1 hd≠none)(fob:H1 ob=none)(fag:H1 ag=none)(frt:H1 rt=none)(fad:H1 ad=none)(kp:Keep [W.ds] H1 H2)(N2:NoT H2)(eo:(⟨⟨l,ob,ag,rt,ad,dy m pl,e,n,L2.T tn,vs,0⟩,tn,rw,lo,rl,m,pl⟩:Ot)=o)(S2:SAt a.aD a.az H2 W.s W.ds (os.map (·.od)++[⟨l,ob,ag,rt,ad,dy m pl,e,n,L2.T tn,vs,0⟩])) :
 Bo a W L (frx F H (pH L H2 hd os o) ob) (pH L H2 hd os o) as cs g (os++[o]) bx:=by
 have OD:=PP.od;have LL:=B.lp;have nO:∀ {c},c∈mtb W os->c≠L.O:=fun m q=>B.dj L.O (.head _) (q ▸ m);have nD:∀ {c},c∈lmt L os->c≠W.ds:=fun m q=>B.dj _ m (by rw[q];exact .tail _ (.head _));have kd:∀ {c z},H c=some z->c≠W.ds->c≠L.O->pH L H2 hd os o c=some z:=fun e n1 n2=>CC B s1 fhd kp e n1 n2;have k2:∀ {c z},H2 c=some z->c≠hd->c≠L.O->pH L H2 hd os o c=some z:=fun e n1 n2=>by unfold pH;rw[ai n2,ai n1];exact e
 have nw:∀ {c},H1 c=none->c≠hd/\c≠L.O:=fun {c} e=>⟨fun q=>g1 (by rw[<- q];exact e),fun q=>by rw[q,s1 _ _ LL.O]at e;cases e⟩;have hob:H ob=none:=s1.free fob;have fh:Same F (pH L H2 hd os o):=fun c z e=>kd (R.fh _ _ e) (fun q=>by rw[q,R.fm W.ds (.tail _ (.head _))]at e;cases e) fun q=>by rw[q,LL.fl L.O (.head _)]at e;cases e
 have gr:=jV F H (pH L H2 hd os o) ob;have eod:o.od=⟨l,ob,ag,rt,ad,dy m pl,e,n,L2.T tn,vs,0⟩:=by rw[<- eo]
 have om:os.map (·.od)++[⟨l,ob,ag,rt,ad,dy m pl,e,n,L2.T tn,vs,0⟩]=(os++[o]).map (·.od):=by rw[vH,<- eod];rfl
 rw[om]at S2;have AO:=S2.od o.od (xf (f:=fun o:Ot=>o.od) (wC _ (.head _)));have ef:dy m pl=FD m+pl-1:=by unfold dy;rw[if_neg (by have:=OD.bp;lia)]
 have OBo:OB o:=by
  rw[<- eo];exact⟨OD.bm,OD.bp,OD.be,OD.bn,ef,⟨ZA _,Int.natCast_nonneg _⟩,OD.ln,fun r m=>(OD.ok r m).2.2⟩
 have fnw:∀ {c z},H1 c=none->c≠ob->H2 c=some z->frx F H (pH L H2 hd os o) ob c=some z:=fun {c z} e n e2=>by
  rw[n_ R.fh (s1.free e) n];exact k2 e2 (nw e).1 (nw e).2
 have OKo:OtOk (frx F H (pH L H2 hd os o) ob) o:=by
  have dy:=OBo.dy;have di:=OBo.di;obtain⟨ga,gt⟩:=AO.ag;have gd:=AO.ad;obtain⟨dq,go⟩:=AO.ob;have rs:=bD gr.s PP.rs;generalize frx F H (pH L H2 hd os o) ob=F' at fnw rs |-
  rw[<- eo]at dy di ga gt gd go |-
  exact⟨⟨fnw fag (aY ga go) ga,fnw frt (aY gt go) gt⟩,rfl,OD.nt,fnw fad (aY gd go) gd,rs,OD.ln,OD.ok,dy,di,OD.bn.2,ZA _,PP.nm⟩
 have elo:o.lo=lo:=by rw[<- eo]
 have eob:o.od.ob=ob:=by rw[eod]
 have lod:lo≠W.ds:=fun q=>PP.nl (tW _ (by rw[q];exact .tail _ (.head _)));have loO:lo≠L.O:=fun q=>PP.nl (wC _ (by rw[q];exact .head _));have ncs:∀ {x},x∈os++[o]->x∈os\/x=o:=fun m=>(tT.mp m).imp_right zz.mp;refine⟨⟨bs,?_,c7 gr.s hbx⟩,?_,B.cr,?_⟩
 ·obtain⟨dc,J⟩:=R.ch
  refine⟨yo fh ob,aq (aq N2 rfl) rfl,⟨dc,J.same gr.s⟩,R.cu,?_,R.j.imp fun _ e=>gr.s _ _ e,kd R.b (aY R.b R.dc) (nO (.tail _ (.tail _ (.tail _ (.head _))))),kd R.u R.ud (nO (.head _)),R.s.imp fun _ e=>gr.s _ _ e,?_,fun x mx=>?_,fun x mx=>?_,?_,?_,fun c mc=>?_,R.ud⟩
  ·obtain⟨d,q⟩:=R.g
   exact⟨d,kd q (aY q R.dc) (nO (.tail _ (.tail _ (.head _))))⟩
  ·have:=S2.dc
   rw[wM]at this;exact k2 this (fun q=>by rw[<- q,R.dc]at fhd;cases fhd) (fun q=>B.dj L.O (.head _) (by rw[<- q];exact .tail _ (.head _)))
  ·obtain⟨d,q⟩:=(S2.od x.od (xf (f:=fun o:Ot=>o.od) mx)).ob
   refine⟨d,k2 q ?_ ?_⟩ <;> rcases ncs mx with h|h
   ·obtain⟨_,q'⟩:=R.ob x h
    exact aL q' fhd
   ·rw[h,eob];exact(nw fob).1
   ·exact nO (.tail _ (.tail _ (.tail _ (.tail _ (xf (f:=fun o:Ot=>o.od.ob) h)))))
   ·rw[h,eob];exact(nw fob).2
  ·rcases ncs mx with h|h
   ·exact(R.ok x h).same gr.s
   ·rw[h];exact OKo
  ·have:=S2.np
   rwa [wM]at this
  ·have:=S2.na
   rwa [wM]at this
  ·rcases uo mc with h|h
   ·exact gr.n c (R.exm h) (R.fm c h)
   ·rw[h,eob]
    exact Gp (R.fh.free hob)
 ·refine⟨gr.s _ _ LL.A,fun x mx=>gr.s _ _ (LL.al x mx),af,fun x mx=>?_,fun x mx=>?_,fun x mx=>?_,?_,?_,?_,fun c mc=>?_⟩
  ·rcases ncs mx with h|h
   ·have e:=LL.lo x h
    exact kd e (nD (.tail _ (.tail _ (xf (f:=fun o:Ot=>o.lo) h)))) (aY e LL.O)
   ·rw[h,<- eo]
    rw[<- eo]at kd;exact kd OD.hl lod loO
  ·rcases ncs mx with h|h
   ·exact(LL.rl x h).imp fun _ e=>⟨gr.s _ _ e.1,bD gr.s e.2⟩
   ·rw[h]
    have e1:=gr.s _ _ PP.rl;have e2:=bD gr.s PP.rs;have:o.rl=rl/\o.rw=rw:=by rw[<- eo];exact⟨rfl,rfl⟩
    rw[this.1,this.2];exact⟨vs,e1,e2⟩
  ·rcases ncs mx with h|h
   ·exact LL.ob x h
   ·rw[h];exact OBo
  ·obtain⟨Bs,e,q⟩:=LL.B
   exact⟨Bs,kd e (nD (.tail _ (.head _))) (aY e LL.O),c7 gr.s q⟩
  ·rw[vH,<- ZV]
   refine dR LL.no fun h=>PP.nl (wC _ ?_);rw[<- elo];exact .tail _ h
  ·rw[vH]
   refine dR LL.np fun h=>?_;obtain⟨x,mx,e⟩:=xS.mp h;exact PP.no x mx (e.trans (congrArg Od.nm eod))
  ·rcases tX mc with h|h
   ·exact gr.n c (LL.lex h) (LL.fl c h)
   ·rw[h,elo]
    exact gr.n lo (by rw[OD.hl];intro z;cases z) PP.fl
 ·intro c mc mq
  rcases tX mc with h|h <;> rcases uo mq with q|q
  ·exact B.dj c h q
  ·rw[q,eob]at h
   exact LL.lex h hob
  ·rw[h,elo]at q
   exact PP.nl (tW _ q)
  ·rw[h,elo,eob]at q
   have:=OD.hl;rw[q,hob]at this;cases this
end
theorem sC{l:List Nat}:∀ {os:List Ot},(∀o∈os,o.od.nm≠l)->cV (os.map gK) (.inr ⟨⟨l⟩⟩)=none
 | [],_=>rfl
 |y::r,no=>by rw[wV,bO (fun z=>no y (.head _) (by simpa [gK] using z)),sC fun z m=>no z (.tail _ m)]
def sp_EB(a:Adr):Sp:=sp4 fun x y z v H Q _=>∃W L F as cs g os bx l m pl e n tn rw lo rl vs,x = .ref W.s/\y = .ref L.O/\z=L2.T l/\v = .ref lo/\Bo a W L F H as cs g os bx/\PtP W L F H os l m pl e n tn rw lo rl vs /\
 ∀F' H' o,Bo a W L F' H' as cs g (os++[o]) bx->o.od.nm=l->Nx W L F H os F' H' (os++[o]) [lo]->Q .non H'
theorem E3(x:V):vL (zS "put") [(zS "by_name",x)]=none:=by rw[aQ (by decide +kernel)];rfl
theorem mT(T:Txt K mg a):Fo P w K mg base "_law_put" 10 (sp_EB a):=by
 refine T.xP.hx ["_law_standing","_law_orders","_law_name","_law_order_here","_law_first","_law_handed"] (gX4 fun x0 x1 x2 x3 fA cdv A outer s H Q E ND HU hr h=>?_);obtain⟨W,L,F,as,cs,g,os,bx,l,m,pl,e,n,tn,rw,lo,rl,vs,rfl,rfl,rfl,rfl,B,PP,k⟩:=h;obtain⟨bs,R,hbx⟩:=B.rp;have sz:=szl;have OD:=PP.od;refine⟨_,(ae (aR 4 ND (aH (dw T) hr av (fa2 (aM K (fv 3) aa) (aM K (fv 3) aa))))
  (ae (aR 5 ND (da (sO K) rfl T.pY kh (fa1 (aM K (fv 3) aa))))
  (ae (bt (ci (fv 0) T.a9 (ny T) hr.mono av (fa6 (fv 2) (fv 4) (aM K (fv 3) aa) (aM K (fv 3) aa) (aM K (fv 3) aa) (fv 5))))
  (ae (bt (Ev K Zk PySem.F.slot_list_clear PySem.F.type_list_clear Cn (fv 5)))
  (ah (fP (Zz HU) (fv 1) (fv 2) (fv 3) rfl)))))),?_⟩
 walk_at "r";have ef:dy m pl=FD m+pl-1:=by unfold dy;rw[if_neg (by have:=OD.bp;lia)]
 have fb:0<=dy m pl/\dy m pl<=146096:=by
  have d1:=m_ (m:=m) OD.bp.1;have bm:=OD.bm;have f0:=de bm.1;have f1:=de (show m+1<=4800 by lia);rw[xw]at f0;rw[jW]at f1;lia
 have bm:=OD.bm;have be:=OD.be;have bn:=OD.bn;have l4:=PP.l4;obtain⟨dS,hs⟩:=R.sat.ob;refine⟨_,_,.inl (aA OD.hl),aJ (j:=0) rfl,_,_,.inl (aA OD.hl),aJ (j:=1) rfl,R.nT,⟨bm.1,by lia⟩,_,_,.inl (aA OD.hl),aJ (j:=6) rfl,?_⟩;walk_at "r";refine⟨vs,.inl (aA OD.hr),fun hd fhd=>?_⟩;refine bW (br (o:=HO.lst vs) fhd R.nT rfl) fun H1 e1 s1 g1 N1=>?_;rw[e1];have hl1:=s1 _ _ OD.hl;refine⟨_,_,s1 _ _ hs,E3 _,_,_,.inl (aA hl1),aJ (j:=2) rfl,_,_,.inl (aA hl1),aJ (j:=3) rfl,_,_,.inl (aA hl1),aJ (j:=5) rfl,N1,?_⟩;walk_at "r";refine⟨PP.nm,fb,⟨by lia,by lia⟩,⟨by lia,by lia⟩,OD.nt,W.ds,os.map (·.od),vs,rw,R.sat.same s1,by rw[zV];lia,List.find?_eq_none.mpr fun o mo=>?_,g1,bD s1 OD.rs,by have:=OD.ln;lia,OD.ok,fun ob ag rt ad H2 fob S2 fag frt fad kp N2=>?_⟩
 ·obtain⟨o,mo2,rfl⟩:=xS.mp mo
  have:=PP.no o mo2
  simpa using this
 have s2d:∀ {c z},H1 c=some z->c≠W.ds->H2 c=some z:=fun e n=>kp _ _ e (by simpa using n);have hdd:hd≠W.ds:=fun q=>by rw[q,R.dc]at fhd;cases fhd
 have hdO:L.O≠hd:=fun q=>by rw[<- q,B.lp.O]at fhd;cases fhd
 have dO:L.O≠W.ds:=fun q=>B.dj L.O (.head _) (by rw[q];exact .tail _ (.head _));have g2:=s2d g1 hdd;refine⟨.inl ⟨_,aA g2⟩,hd,vs,rfl,g2,L.O,_,rfl,DPut.k (k:=.inr ⟨⟨l⟩⟩) ((ai hdO).trans (s2d (s1 _ _ B.lp.O) dO)) (by rw[zV];lia),?_⟩;have ep:dU (os.map gK) (.inr ⟨⟨l⟩⟩) (.ref lo)=(os++[Ot.mk ⟨l,ob,ag,rt,ad,dy m pl,e,n,L2.T tn,vs,0⟩ tn rw lo rl m pl]).map gK:=by
  rw[kl _ (sC PP.no),vH]
  rfl
 rw[ep];generalize eo:Ot.mk ⟨l,ob,ag,rt,ad,dy m pl,e,n,L2.T tn,vs,0⟩ tn rw lo rl m pl=o;have eod:o.od=⟨l,ob,ag,rt,ad,dy m pl,e,n,L2.T tn,vs,0⟩:=by rw[<- eo]
 exact k _ _ o (Ii B R hbx PP s1 fhd (by rw[g1];intro z;cases z) fob fag frt fad kp N2 eo S2) (by rw[eod]) (IF B PP s1 fhd fob kp eo S2)
def sp_Fp(a:Adr):Sp:=sp5 fun x y z s u H Q _=>NoT H/\asR x fun _=>asR y fun _=>asR z fun _=>asR s fun _=>asK H u fun _=>amg u 0 146096=false/\∀H',Same H H'->NoT H'->Q (.bl true) H'
theorem nJ(T:Txt K mg a):Fo P w K mg base "_law_refused" 11 (sp_Fp a):=by
 refine T.pO.hx ["_law_chart_here","_law_gate","_law_journal","_law_standing","_law_thing","e"] (gX5 fun x0 x1 x2 x3 x4 fA cdv A outer s H Q E ND HU hr h=>?_);obtain⟨hN,h1⟩:=h;obtain⟨p,rfl,h2⟩:=aE h1;obtain⟨g,rfl,h3⟩:=aE h2;obtain⟨j,rfl,h4⟩:=aE h3;obtain⟨s,rfl,h5⟩:=aE h4;refine bW (eY h5) fun tk htk hb ha k=>?_;refine⟨_,(ae (I_ (i:=5) ND rfl rfl rfl T.ka rfl rfl rfl (fun pn Ee Ex PX=>(ah (bt (aH (Bn T) hr PX (fa5 (fv 0) (fv 1) (fv 2) (fv 3) (fv 4)))))) (fun e=>(ah (aF (dm (aC (cH K) rfl T.aZ aU (fa2 (fv 5) (jw (v:=.ref a.bN) rfl T.f8 rfl))) (dm (aC (cH K) rfl T.aZ aU (fa2 (fv 5) (cO (v:=.ty "ValueError") rfl T.tE qC rfl))) (d7 (DT (aC (EX K) rfl T.aZ aU (fa2 (fv 5) (b7 (fa3 (jw (v:=.ref a.cL) rfl T.p8 rfl) (jw (v:=.ref a.bP) rfl T.uA rfl) (jw (v:=.ref a.bK) rfl T.rY rfl)))))))))))))
  (ah (aF eQ))),?_⟩
 walk_at "r";refine⟨hN,asK.of htk ⟨fun _=>⟨_,rfl,T.jC,fun e he=>⟨_,_,af,T.oI,T.nZ,itp rfl ?_⟩⟩,fun z=>by rw[ha]at z;cases z⟩⟩;simp only[Ds];refine⟨e,_,_,rfl,af,T.oI,T.jz,itp rfl ⟨by rw[uz];decide,fun p2 hp2=>?_⟩⟩;have ne:e≠p2:=fun z=>by rw[<- z,af]at hp2;cases hp2
 exact⟨_,[a.cL,a.bP,a.bK],false,(ai ne).trans af,T.oI,af,mM T.lz (mM T.nA (mM T.lW rfl)),k _ ((aj _ he).trans (aj _ hp2)) (aq (aq hN rfl) rfl)⟩
theorem y3{H:Hp}{n:Nat}(i:Int):EqH K H n (.int i) (.int i) true:=by
 have:=oj (K:=K) (H:=H) (n:=n) (i:=i) (j:=i)
 rwa [beq_self_eq_true]at this
theorem F8{H:Hp}{n:Nat}(l:List Nat):EqH K H n (L2.T l) (L2.T l) true:=by
 have:=sV (K:=K) (H:=H) (n:=n) (l:=l) (m:=l)
 rwa [beq_self_eq_true]at this
theorem KQ{H:Hp}{n:Nat}(o:Option Int):EqH K H n (cl o) (cl o) true:=by
 cases o with
 |none=>exact EqH.flat (x:=.non) (y:=.non) rfl rfl
 |some i=>exact y3 i
theorem J_{H:Hp}{n:Nat}{p q:Addr}{xs ys:List V}{rs:List Row}(hp:H p=some (.tup xs))(hq:H q=some (.tup ys))(h:A2 (RwAt H) xs rs)(h':A2 (RwAt H) ys rs):EqH K H (n+2) (.ref p) (.ref q) true:=by
 have:=yw (K:=K) (n:=n) hp hq h h'
 rwa [mO]at this
theorem Gv{H:Hp}{n:Nat}{v v':V}{x:Tn × Option Int}(h:ToAt H v x)(h':ToAt H v' x):EqH K H (n+1) v v' true:=by
 obtain⟨q,rfl,h1⟩:=h;obtain⟨q',rfl,g1⟩:=h';by_cases hq:q=q'
 ·subst hq;exact .same
 ·exact EqH.tup (K:=K) (H:=H) (n:=n) (e:=fun _=>true) hq (bR h1) (bR g1) fun j x y gx gy=>by
   match j,gx with
   |0,gx=>cases gx;cases gy;exact F8 _
   |1,gx=>cases gx;cases gy;exact y3 _
   |2,gx=>cases gx;cases gy;exact KQ _
   |j+3,gx=>simp at gx
theorem Ks{H:Hp}{n:Nat}{v v':V}{x:Bx}(h:BxAt H v x)(h':BxAt H v' x):EqH K H (n+3) v v' true:=by
 obtain⟨q,t,vs,rfl,h1,h2,h3⟩:=h;obtain⟨q',t',vs',rfl,g1,g2,g3⟩:=h';by_cases hq:q=q'
 ·subst hq;exact .same
 ·exact EqH.tup (K:=K) (H:=H) (n:=n+2) (e:=fun _=>true) hq (bR h1) (bR g1) fun j x y gx gy=>by
   match j,gx with
   |0,gx=>cases gx;cases gy;exact y3 _
   |1,gx=>cases gx;cases gy;exact y3 _
   |2,gx=>cases gx;cases gy;exact F8 _
   |3,gx=>cases gx;cases gy;exact J_ h2 g2 h3 g3
   |4,gx=>cases gx;cases gy;exact KQ none
   |j+5,gx=>simp at gx
theorem xm{β:Type}{R:V->β->Prop}{H:Hp}{p q:Addr}{xs ys:List V}{zs:List β}(e:∀x y z,R x z->R y z->EqH K H 50 x y true)(hp:H p=some (.lst xs))(hq:H q=some (.lst ys))(h:A2 R xs zs)(h':A2 R ys zs):EqR K H p q true:=by
 have:=EqR.lst (K:=K) (H:=H) (e:=fun _=>true) (aA hp) (aA hq) (h.len.trans h'.len.symm) fun j x y gx gy=>by
  obtain⟨z,g1,r1⟩:=h.at_ gx;obtain⟨z',g2,r2⟩:=h'.at_ gy;rw[g1]at g2;cases g2;exact e x y z r1 r2
 rwa [Zo.mpr fun _ _=>rfl]at this
def sp_Ff:Sp:=sp2 fun x y H Q _=>NoT H/\asR x fun r=>asR y fun r'=>∃tl,Tld H r tl/\Tld H r' tl/\tl.length<=100/\Q (.bl true) H
theorem sP(T:Txt K mg a):Fo P w K mg base "_law_same" 1 sp_Ff:=by
 refine T.wu.hg ["_law_found","_law_due","_law_told"] (gG2 fun x0 x1 fA cdv A outer s H Q E ND HU hr h=>?_);obtain⟨hN,h1⟩:=h;obtain⟨r,rfl,h2⟩:=aE h1;refine ce (aE h2) fun r' yy1 yz=>bW yz fun tl yy2 yy3 ll k=>?_;subst yy1;obtain⟨ws,hr,A⟩:=yy2;obtain⟨ws',hr',A'⟩:=yy3;have sz:=szl;have lw:=A.len;refine⟨hN,_,(ae (ba (L2.PW.pt (fE (bF (bA (aC (cH K) rfl T.aZ aU (fa2 (fv 0) (cO (v:=.ty "list") rfl T.pY kh rfl))))) (d6 (bg (d9 K HU) (fv 0) (fv 1))))) (ah (aF eQ)) aI)
  (ae (dE (by passes_own) rfl (bQ K (fv 0)) (aK (i:=2) ND rfl (Or.inl rfl)) (ah (ba (L2.PW.pt (fE (bF (bA (aC (cH K) rfl T.aZ aU (fa2 (fv 2) (cO (v:=.ty "tuple") rfl T.ij fW rfl))))) (fE (bA (aC (cH K) rfl T.aZ aU (fa2 (aM K (fv 2) aa) (cO (v:=.ty "bool") rfl T.xF um rfl)))) (d6 (bA (aC (cH K) rfl T.aZ aU (fa2 (aM K (fv 2) aa) (cO (v:=.ty "bool") rfl T.xF um rfl)))))))) (ah (aF eQ)) aI)))
  (ah (aF eQ)))),?_⟩
 walk_at "r";rw[show cS H (V.ref r)=some "list" by simp[cS,hr]];refine itn (by decide) ⟨true,xm (R:=ToAt H) (fun _ _ _ r1 r2=>Gv r1 r2) hr hr' A A',itn (by decide) (dJ ?_)⟩;walk_at "r";refine dL (aA hr) (dH (xs:=ws) (fun i σ' G=>G=H/\∃x2,σ'=[some (.ref r),some (.ref r'),x2]) ⟨rfl,none,rfl⟩ (fun i σ' G _ h=>by rw[h.1];exact aA hr) ?_ ?_)
 ·rintro i x σ' G hx ⟨rfl,x2,rfl⟩
  refine ce (A.at_ hx) fun yy1 _ yz=>ce yz fun q yy2 hq=>?_;obtain⟨⟨d,l⟩,o⟩:=yy1;subst yy2;walk_at "r";rw[show cS G (V.ref q)=some "tuple" by simp[cS,hq]];refine itn (by decide) ⟨_,_,.inr (bR hq),aJ (j:=1) rfl,itn (by decide) ⟨_,_,.inr (bR hq),aJ (j:=2) rfl,?_⟩⟩;cases o with
  |none=>exact itn (by decide) ⟨_,rfl⟩
  |some n=>exact itn (by decide) ⟨_,rfl⟩
 ·rintro σ' G ⟨rfl,x2,rfl⟩
  walk_at "r";exact k
def sp_Ey(a:Adr):Sp:=sp4 fun x y z v H Q _=>∃W L F as cs g os bx,x = .ref W.j/\y = .ref W.s/\z = .ref L.O/\v = .ref L.B/\Bo a W L F H as cs g os bx/\os.length<=4/\∀H',Same H H'->NoT H'->Q (.bl true) H'
theorem EC(x:V):vL (zS "done") [(zS "by_name",x)]=none:=by rw[aQ (by decide +kernel)];rfl
theorem CQ(x:V):vL (zS "names") [(zS "by_name",x)]=none:=by rw[aQ (by decide +kernel)];rfl
theorem jX(T:Txt K mg a):Fo P w K mg base "_law_state_good" 3 (sp_Ey a):=by
 refine T.k8.hx ["_law_journal","_law_standing","_law_orders","_law_bookings","_law_turn"] (gX4 fun x0 x1 x2 x3 fA cdv A outer s H Q E ND HU hr h=>?_);obtain⟨W,L,F,as,cs,g,os,bx,rfl,rfl,rfl,rfl,B,l4,k⟩:=h;have hN:=B.nT;have sz:=szl;refine⟨_,(ae (dE (by passes_own) rfl (eF rfl T.eK (fa1 aa)) (aK (i:=4) ND rfl (Or.inl rfl)) (ae (ba (yF (bg (d9 K HU) (yN (b_ rfl (cl:=_) (x:="_law_name") (xs:=["_law_name"]) (fr:=["_law_standing","_law_orders"]) (ks:=[1,2]) (by walk_at "c") rfl (tJ (fv 2)) (fun _ _ _ _ _=>(aK (i:=0) (eC (l:=["_law_name","_law_standing","_law_orders"]) (by decide)) rfl (Or.inl rfl))) (fun _ _ _ _ _=>(iz (bg (d9 K HU) (ci (fv 1) T.a9 (lP T) hr.mono oS (fa1 (fv 0))) (aM K (ck (Zz HU) (fv 2) (fv 0) (fun _ _=>rfl)) aa)))) (fun _ _ _ _ _=>(fv 0)))) (cj (FA.pa cv)))) (ah (aF eQ)) aI)
  (ah (ba (yF (L2.PW.pt (fE (bg (d9 K HU) (tM (fv 0) T.cK (gX T) hr.mono av) (fv 3)) (d6 (bg (d9 K HU) (tM (fv 1) T.a9 (gl T) hr.mono av) (aC (k6 rfl) rfl T.gh eI (fa1 (fv 2)))))))) (ah (aF eQ)) aI))))
  (ah (aF eQ))),?_⟩
 walk_at "q";refine o8 ?_;walk_at "q";refine g8 (lo:=0) (n:=2) (fun i σ' G=>∃x4,Same H G/\NoT G/\σ'=[some (.ref W.j),some (.ref W.s),some (.ref L.O),some (.ref L.B),x4]) ⟨none,Same.refl _,hN,rfl⟩ ?_ ?_
 ·rintro i σ' G hi ⟨x4,sG,nG,rfl⟩
  have BG:=B.same sG nG;walk_at "q";refine⟨nG,Gf ?_⟩;walk_at "q";refine ce BG.rp fun bs R hbx=>?_;have LL:=BG.lp;refine⟨L.O,_,rfl,rfl,.inl LL.O,fun o hor=>cmD (fun o:Ot=>o.od.nm) os (fun o=>.ref o.lo) hor (by lia) nG (fun _=>false) (fun c=>L2.T c.od.nm) (fun c mc F1 R1 nF kF rd q=>?_) (fun c mc F1 R1 kF rd q=>q) (fun D G2 hD s2 N2 g2=>?_)⟩
  ·have R1:=R.keep (S:=[L.O]) (H':=F1) (fun c z e n=>kF c z (by simpa using n) e) nF fun c m=>by rw[zz.mp m];exact⟨LL.fl _ (.head _),BG.dj _ (.head _)⟩
   obtain⟨dx,hs⟩:=R1.sat.ob;have hlo:=LL.lo c mc;walk_at "q";refine⟨_,_,hs,EC _,nF,_,_,R1.sat,?_⟩;show mn _ _ (gT _ c.od.nm) _;rw[R.fnd mc];refine⟨L.O,_,rfl,qj LL.np mc rd,?_⟩;walk_at "q";refine⟨_,_,.inl (aA (kF _ _ (aY hlo LL.O) hlo)),aJ (j:=4) rfl,?_⟩;walk_at "q";exact q F1 (Same.refl _) nF
  ·rw[Z6.mpr fun _ _=>by decide]at g2
   have R2:=R.same s2 N2;have L2':=LL.same s2;walk_at "q";refine⟨Zv _,fun p hp=>⟨true,on (xs:=[]) (aA ((aj _ hp) _ _ g2)) (aA af),G,Gc.none (s2.trans (aj _ hp)),itn (by decide) ?_⟩⟩;obtain⟨dj,hj⟩:=R.jat.ob;obtain⟨dx,hs⟩:=R.sat.ob;refine ce LL.B fun Bs hB aB=>?_;have fG:=BG.fh;refine⟨nG,_,_,hj,wm _ _,nG,_,_,_,_,R.jat,fun q hq=>⟨true,xm (R:=BxAt (upd G q (.lst bs))) (fun _ _ _ r1 r2=>Ks r1 r2) af ((aj _ hq) _ _ hB) (c7 (fG.trans (aj _ hq)) hbx) (c7 (fG.trans (aj _ hq)) aB),itn (by decide) ?_⟩⟩;refine bW (br (o:=HO.lst bs) hq nG rfl) fun H3 e3 s3 g3 N3=>?_;rw[e3];refine⟨_,_,s3 _ _ hs,CQ _,N3,_,_,R.sat.same s3,by rw[zV];lia,fun out po io q2 hq2=>?_⟩;refine bW (br (o:=HO.lst (out.map L2.T)) hq2 N3 rfl) fun H4 e4 s4 g4 N4=>?_;rw[e4];have s34:=s3.trans s4;refine⟨_,os.map (·.od.nm),s34 _ _ LL.O,by rw[wM,wM];rfl,by rw[zV];lia,fun out2 po2 io2 q3 hq3=>?_⟩;refine bW (br (o:=HO.lst (out2.map L2.T)) hq3 N4 rfl) fun H5 e5 s5 g5 N5=>?_;rw[e5];have eout:out=out2:=vP (po.trans ((by rw[wM];exact List.Perm.refl _:(List.map (fun x:Od=>x.nm) (os.map (·.od))).Perm (os.map (·.od.nm))).trans po2.symm)) io io2;subst eout;refine⟨true,EqR.flatL (aA (s5 _ _ g4)) (aA g5) ?_,G,Gc.none (s34.trans s5),?_⟩
   ·rw[Zo]
    intro v mv;obtain⟨l,_,rfl⟩:=xS.mp mv
    rfl
   exact itn (by decide) ⟨_,sG,nG,rfl⟩
 ·rintro σ' G ⟨x4,sG,nG,rfl⟩
  walk_at "q";exact k G sG nG
def sp_C6(K:W.Frag)(a:Adr):Sp:=sp3 fun x y z H Q _=>NoT H/\asR x fun sc=>asI y fun b=>asR z fun g=>∃(ns:List Int) (dx:Addr),SqL K H sc (ns.map V.int)/\(0<=b/\b<=4799)/\H g=some (cq a.bc dx .non)/\Q .non H/\∀c:Int,0<=c->c<=4798->Q (.int c) (upd H g (cq a.bc dx (.int c)))
theorem vm(x:V):vL (zS "shut") [(zS "last_closed",x)]=none:=by rw[aQ (by decide +kernel)];rfl
theorem qJ(T:Txt K mg a):Fo P w K mg base "_law_begun" 6 (sp_C6 K a):=by
 refine T.ue.hx ["_law_script","_law_base","_law_gate","_law_cell"] (gX3 fun x0 x1 x2 fA cdv A outer s H Q E ND HU hr h=>?_);obtain⟨hN,h1⟩:=h;obtain⟨sc,rfl,h2⟩:=aE h1;obtain⟨b,rfl,h3⟩:=aW h2;refine ce (aE h3) fun g yy1 yz=>Cf yz fun ns dx hS hb hg k0 k1=>?_;subst yy1;refine⟨_,(ae (aR 3 ND (aH (bq T) hr av (fa2 (fv 0) aa)))
  (ae (ba (bg (dF K HU) (au bi (fv 3) aa) aa) (ah (aF cY)) aI)
  (ae (bt (ci (fv 2) T.eJ (kq T) hr.mono av (fa1 (aC (eX rfl) rfl T.iF eZ (fa2 aa (au aP (fv 1) (au bi (au bB (fv 3) aa) aa)))))))
  (ah (aF (aC (eX rfl) rfl T.iF eZ (fa2 aa (au aP (fv 1) (au bi (au bB (fv 3) aa) aa))))))))),?_⟩
 walk_at "q";refine⟨ns,hS,?_⟩;generalize ns.getD (Yc 3) 0=c;by_cases h0:c % 3=0
 ·exact itp h0 k0
 ·generalize hm:(if b+c / 3 % 4<4798 then b+c / 3 % 4 else 4798)=m
  have m1:0<=m/\m<=4798:=by rw[<- hm];split <;> lia
  exact itn h0 ⟨_,_,hg,vm _,hN,dx,none,hg,⟨m1.1,by lia⟩,.inl rfl,k1 m m1.1 m1.2⟩
theorem RP.gate{W:Wd}{F H:Hp}{cs:List Acc}{g g':Option Int}{os:List Ot}{bs:List V}{dx:Addr}(h:RP a W F H cs g os bs)(e:H W.g=some (cq a.bc dx (cl g))):RP a W F (upd H W.g (cq a.bc dx (cl g'))) cs g' os bs:=by
 have ne:∀ {c z},H c=some z->(∀x d f,z ≠ .ins x d f)->upd H W.g (cq a.bc dx (cl g')) c=some z:=fun h n=>(ai (aY h e fun z=>n _ _ _ z)).trans h;exact { h with
  fh:=fun c z f=>by rw[ai fun q=>by rw[q,h.fm W.g (.tail _ (.tail _ (.head _)))]at f;cases f];exact h.fh _ _ f
  nT:=aq h.nT rfl
  g:=⟨dx,af⟩
  b:=ne h.b (by intro _ _ _ z;cases z)
  u:=ne h.u (by intro _ _ _ z;cases z)
  dc:=ne h.dc (by intro _ _ _ z;cases z)
  ob:=fun o m=>by
   obtain⟨d,q⟩:=h.ob o m;exact⟨d,(ai (aY q e (by intro z;injection z with _ _ z;unfold dN at z;cases z))).trans q⟩ }
theorem Gr.refl(F H:Hp):Gr F H F:=⟨Same.refl _,fun _ _ e=>e⟩
theorem Nx.upd{W:Wd}{L:Lw}{F H:Hp}{os:List Ot}{c:Addr}{z:HO}(m:c∈mul W L os):Nx W L F H os F (upd H c z) os []:=by
 refine⟨Gr.refl F H,Keep.refl.put m,fun _ m=>.inl m,fun d n=>?_⟩;by_cases e:d=c
 ·rw[e,af];intro z;cases z
 ·rw[ai e];exact n
theorem Bo.gate{W:Wd}{L:Lw}{F H:Hp}{as:List La}{cs:List Acc}{g g':Option Int}{os:List Ot}{bx:List Bx}{dx:Addr}(h:Bo a W L F H as cs g os bx)(e:H W.g=some (cq a.bc dx (cl g))):Bo a W L F (upd H W.g (cq a.bc dx (cl g'))) as cs g' os bx:=by
 obtain⟨bs,R,B⟩:=h.rp;exact⟨⟨bs,R.gate e,B⟩,h.lp.keep (S:=[W.g]) (Keep.refl.put (.head _)) fun c m q=>h.dj c q (by rw[zz.mp m];exact .tail _ (.tail _ (.head _))),h.cr,h.dj⟩
theorem GL{W:Wd}{os:List Ot}{l:List Nat}:∀c∈mtb W (os.filter fun o=>decide (o.od.nm≠l)),c∈mtb W os:=fun c m=>by
 have:os.filter (fun o=>decide (o.od.nm≠l)) |>.map (·.od.ob) |>.Subset (os.map (·.od.ob)):=(List.filter_sublist.map _).subset
 rcases zO.mp m with q|m
 ·exact q ▸ .head _
 rcases zO.mp m with q|m
 ·exact q ▸ .tail _ (.head _)
 rcases zO.mp m with q|m
 ·exact q ▸ .tail _ (.tail _ (.head _))
 rcases zO.mp m with q|m
 ·exact q ▸ .tail _ (.tail _ (.tail _ (.head _)))
 ·exact .tail _ (.tail _ (.tail _ (.tail _ (this m))))
theorem GD{L:Lw}{os:List Ot}{l:List Nat}:∀c∈lmt L (os.filter fun o=>decide (o.od.nm≠l)),c∈lmt L os:=fun c m=>by
 have:os.filter (fun o=>decide (o.od.nm≠l)) |>.map (·.lo) |>.Subset (os.map (·.lo)):=(List.filter_sublist.map _).subset
 rcases zO.mp m with q|m
 ·exact q ▸ .head _
 rcases zO.mp m with q|m
 ·exact q ▸ .tail _ (.head _)
 ·exact .tail _ (.tail _ (this m))
theorem Bo.drop{W:Wd}{L:Lw}{F H H':Hp}{as:List La}{cs:List Acc}{g:Option Int}{os:List Ot}{bx:List Bx}{l:List Nat}(h:Bo a W L F H as cs g os bx)(kp:Keep [W.ds,L.O] H H')(nT:NoT H')
 (hd:H' W.ds=some (.dK ((os.filter fun o=>decide (o.od.nm≠l)).map fun o=>kyO o.od))) (ho:H' L.O=some (.dK ((os.filter fun o=>decide (o.od.nm≠l)).map gK))):Bo a W L F H' as cs g (os.filter fun o=>decide (o.od.nm≠l)) bx:=by
 obtain⟨bs,R,B⟩:=h.rp;have LL:=h.lp;have mo:∀ {o},o∈os.filter (fun o=>decide (o.od.nm≠l))->o∈os:=fun m=>(Z9.mp m).1;have mm:=GL (W:=W) (os:=os) (l:=l);have ml:=GD (L:=L) (os:=os) (l:=l);have kd:∀ {c z},H c=some z->c≠W.ds->c≠L.O->H' c=some z:=fun e n1 n2=>kp _ _ e (by simpa using⟨n1,n2⟩);have nO:∀ {c},c∈mtb W os->c≠L.O:=fun m q=>h.dj L.O (.head _) (q ▸ m);have nD:∀ {c},c∈lmt L os->c≠W.ds:=fun m q=>h.dj _ m (by rw[q];exact .tail _ (.head _));have ob:∀o∈os,∃dx,H' o.od.ob=some (.ins a.az dx (dN (.ref o.od.ag) (.ref o.od.ad) (.int o.od.go))):=fun o m=>by
  obtain⟨d,q⟩:=R.ob o m;exact⟨d,kd q (aY q R.dc) (nO (.tail _ (.tail _ (.tail _ (.tail _ (xf (f:=fun o:Ot=>o.od.ob) m))))))⟩
 have fh:Same F H':=fun c z e=>kd (R.fh _ _ e) (fun q=>by rw[q,R.fm W.ds (.tail _ (.head _))]at e;cases e) fun q=>by rw[q,LL.fl L.O (.head _)]at e;cases e
 refine⟨⟨bs,{ R with fh:=fh,nT:=nT,g:=?_,b:=kd R.b (aY R.b R.dc) (nO (.tail _ (.tail _ (.tail _ (.head _))))),u:=kd R.u R.ud (nO (.head _)),dc:=hd,ob:=fun o m=>ob o (mo m),ok:=fun o m=>R.ok o (mo m),np:=R.np.sublist (List.filter_sublist.map _),na:=R.na.sublist (List.filter_sublist.map _),fm:=fun c m=>R.fm c (mm c m) },B⟩,{ LL with O:=ho,lo:=fun o m=>?_,rl:=fun o m=>LL.rl o (mo m),ob:=fun o m=>LL.ob o (mo m),B:=?_,no:=LL.no.sublist ((List.filter_sublist.map _).cons₂ _),np:=LL.np.sublist (List.filter_sublist.map _),fl:=fun c m=>LL.fl c (ml c m) },h.cr,fun c m q=>h.dj c (ml c m) (mm c q)⟩
 ·obtain⟨d,q⟩:=R.g
  exact⟨d,kd q (aY q R.dc) (nO (.tail _ (.tail _ (.head _))))⟩
 ·have e:=LL.lo o (mo m)
  exact kd e (nD (.tail _ (.tail _ (xf (f:=fun o:Ot=>o.lo) (mo m))))) (aY e LL.O)
 ·obtain⟨Bs,e,q⟩:=LL.B
  exact⟨Bs,kd e (nD (.tail _ (.head _))) (aY e LL.O),q⟩
structure Fz(K:W.Frag)(F:Hp)(sc pn:Addr)(ns:List Int)(n0 n1 n2 n3:List Nat):Prop where
 sc:SqL K F sc (ns.map V.int)
 pn:F pn=some (.lst [L2.T n0,L2.T n1,L2.T n2,L2.T n3])
 nm:Nms [n0,n1,n2,n3]
theorem EQ(x:V):vL (zS "drop") [(zS "by_name",x)]=none:=by rw[aQ (by decide +kernel)];rfl
theorem Bt{W:Wd}{L:Lw}{F H H1:Hp}{as:List La}{cs:List Acc}{g:Option Int}{os:List Ot}{bx:List Bx}{l:List Nat}{m pl e n:Int}{tn:List Nat}{rw:List Row}{lo rl:Addr}{vs:List V}(B:Bo a W L F H as cs g os bx)(OD:OrD H1 (.ref lo) m pl e n tn rw lo rl vs)(flo:H lo=none)(frl:H rl=none)(frs:∀q,.ref q∈vs->H q=none)(hn:nm l=true)(hno:∀o∈os,o.od.nm≠l)(l4:os.length<=4):PtP W L (frx F H H1 lo) H1 os l m pl e n tn rw lo rl vs:=by
 have nlr:rl≠lo:=fun q=>by
  have h1:=OD.hr;have h2:=OD.rs.len;rw[q,OD.hl]at h1;injection h1 with h1
  injection h1 with h1
  rw[<- h1,OD.ln]at h2;cases h2
 refine⟨OD,(n_ B.fh frl nlr).trans OD.hr,OD.rs.imp fun v r mv _ h=>?_,Gp (B.fh.free flo),fun q=>B.ex q flo,hn,hno,l4⟩;obtain⟨q,rfl,hq⟩:=h;exact⟨q,rfl,(n_ B.fh (frs q mv) (aY hq OD.hl)).trans hq⟩
def sp_D6(K:W.Frag)(a:Adr):Sp:=sp8 fun x0 x1 x2 x3 x4 x5 x6 x7 H Q _=>∃W L F as cs g os bx sc pn b ns n0 n1 n2 n3,x0 = .ref sc/\x1 = .ref W.g/\x2 = .ref W.s/\x3 = .ref L.O/\x4 = .ref pn/\x5 = .ref L.A/\x6 = .int b/\x7=cl g/\Bo a W L F H as cs g os bx/\Fz K F sc pn ns n0 n1 n2 n3/\(0<=b/\b<=4799)/\os.length<=4/\(∀c,g=some c->0<=c/\c<=4798)/\(os=[]\/∃o∈os,o.od.nm=n0) /\
 ∀F' H' os',Bo a W L F' H' as cs (g.map (· + 1)) os' bx->os'.length<=4->Nx W L F H os F' H' os' []->Q (cl (g.map (· + 1))) H'
theorem nY(T:Txt K mg a):Fo P w K mg base "_law_between" 11 (sp_D6 K a):=by
 refine T.pd.hx fZ (gX8 fun x0 x1 x2 x3 x4 x5 x6 x7 fA cdv A outer s H Q E ND HU hr h=>?_);obtain⟨W,L,F,as,cs,g,os,bx,sc,pn,b,ns,n0,n1,n2,n3,rfl,rfl,rfl,rfl,rfl,rfl,rfl,rfl,B,Z,hb,l4,hg,h0,k⟩:=h;have sz:=szl
 skip
 have c2:∃u,PSs (cp (XE P w) P w K mg base fZ "_law_between" (ay (top 90)) fA cdv A outer s H E) (ZU 2 (bh (top 90))) u/\∀F' H' os',Bo a W L F' H' as cs (g.map (· + 1)) os' bx->Nx W L F H os F' H' os' []->os'.length<=4->((∀o∈os',o.od.nm≠n0)->os'.length<=3) ->
  u { nx:=fun _ H'=>Q .non H',rt:=Q } [some (.ref sc),some (.ref W.g),some (.ref W.s),some (.ref L.O),some (.ref pn),some (.ref L.A),some (.int b),some (cl (g.map (· + 1)))] H':=by
  refine⟨_,(ae (ba (dZ (lM (Zz HU) (aM K (fv 4) aa) (fv 3)) (by with_unfolding_all rfl)) (ah (bt (aH (mT T) hr av (fa4 (fv 2) (fv 3) (aM K (fv 4) aa) (aH (jH T) hr av (fa4 (fv 0) aa (fv 5) (fv 6))))))) aI)
   (ah (aF (fv 7)))),fun F' H' os' B' N' l4' l3'=>?_⟩
  have hp:=B'.fh _ _ (N'.gr.s _ _ Z.pn);have dg:=DGet.k (k:=.inr ⟨⟨n0⟩⟩) B'.lp.O;walk_at "q";refine⟨_,_,.inl (aA hp),aJ (j:=0) rfl,L.O,_,rfl,dg,?_⟩;by_cases hin:∃o∈os',o.od.nm=n0
  ·refine ce hin fun o mo yy1=>?_;clear hin;subst yy1
   rw[yP B'.lp.np mo];exact itn (by intro z;cases z) (k F' H' os' B' l4' N')
  have hno:∀o∈os',o.od.nm≠n0:=fun o m e=>hin ⟨o,m,e⟩;rw[sC hno];refine itp rfl ⟨_,_,.inl (aA hp),aJ (j:=0) rfl,B'.nT,ns,as,(Z.sc.same N'.gr.s).same B'.fh,B'.cr.ao,B'.fh _ _ B'.lp.A,hb,fun m pl e n tn rw lo rl vs H1 OD flo frl _ frs s1 N1=>?_⟩;refine⟨W,L,frx F' H' H1 lo,as,cs,g.map (· + 1),os',bx,n0,m,pl,e,n,tn,rw,lo,rl,vs,rfl,rfl,rfl,rfl,B'.frx s1 N1 lo,Bt B' OD flo frl frs (Z.nm.nm n0 (.head _)) hno l4',fun F'' H'' o B'' eo N''=>?_⟩;exact k F'' H'' _ B'' (by rw[vx];exact Nat.succ_le_succ (l3' hno)) (N'.trans (N''.of (jV F' H' H1 lo) s1 fun c m=>by rw[zz.mp m];exact flo))
 obtain⟨u2,hu2,c2⟩:=c2;have c1:∃u,PSs (cp (XE P w) P w K mg base fZ "_law_between" (ay (top 90)) fA cdv A outer s H E) (ZU 1 (bh (top 90))) u/\∀H',Bo a W L F H' as cs (g.map (· + 1)) os bx->Nx W L F H os F H' os [] ->
  u { nx:=fun _ H'=>Q .non H',rt:=Q } [some (.ref sc),some (.ref W.g),some (.ref W.s),some (.ref L.O),some (.ref pn),some (.ref L.A),some (.int b),some (cl (g.map (· + 1)))] H':=by
  refine⟨_,(ae (ba (L2.PW.pt (gH (dZ (qg (Zz HU) (aM K (fv 4) aa) (fv 3)) (by with_unfolding_all rfl)) (eM (bg (dF K HU) (au bi (au bB (aH (bq T) hr av (fa2 (fv 0) aa)) aa) aa) aa)))) (ae (bt (ci (fv 2) T.a9 (lX T) hr.mono av (fa1 (aM K (fv 4) aa))))
   (ah (bt (v6 (fv 3) (aM K (fv 4) aa) ⟨rfl,rfl,rfl,rfl⟩)))) aI)
   hu2),fun H' B' N'=>?_⟩
  have hp:=B'.fh _ _ Z.pn;have dg:=DGet.k (k:=.inr ⟨⟨n0⟩⟩) B'.lp.O;walk_at "q";refine⟨_,_,.inl (aA hp),aJ (j:=0) rfl,L.O,_,rfl,dg,?_⟩;rcases h0 with rfl|⟨o,mo,rfl⟩
  ·exact itn (by intro z;cases z) (c2 F H' [] B' N' (Zv _) fun _=>Zv _)
  rw[yP B'.lp.np mo];refine itp rfl ⟨ns,Z.sc.same B'.fh,?_⟩;generalize ns.getD (Yc 14) 0 / 2 % 2=cc;by_cases hc:cc=1
  ·refine ce B'.rp fun bs R hbx=>?_
   obtain⟨dx,hs⟩:=R.sat.ob;refine itp hc ⟨_,_,hs,EQ _,_,_,.inl (aA hp),aJ (j:=0) rfl,R.nT,?_⟩;walk_at "q";refine⟨_,_,R.sat,?_⟩;show mn _ _ (gT _ o.od.nm) _;rw[R.fnd mo];intro H1 S1 kp N1;have dO:L.O≠W.ds:=fun q=>B'.dj L.O (.head _) (by rw[q];exact .tail _ (.head _));have hO1:=kp _ _ B'.lp.O (by simpa using dO);have hp1:=kp _ _ hp fun m=>by
    have:=Z.pn;rw[zz.mp m,R.fm W.ds (.tail _ (.head _))]at this;cases this
   refine⟨.inl ⟨_,.inl hO1⟩,_,_,.inl (aA hp1),aJ (j:=0) rfl,_,.inr ⟨⟨o.od.nm⟩⟩,.ref o.lo,hO1,rfl,yP B'.lp.np mo,?_⟩;have ed:jJ (os.map gK) (.inr ⟨⟨o.od.nm⟩⟩)=(os.filter fun z=>decide (z.od.nm≠o.od.nm)).map gK:=by
    unfold jJ;rw[YD]
    congr 1
    apply List.filter_congr;intro z _;show decide ((Sum.inr ⟨⟨z.od.nm⟩⟩:Key)≠Sum.inr ⟨⟨o.od.nm⟩⟩)=decide (z.od.nm≠o.od.nm);exact decide_eq_decide.mpr ⟨fun h z=>h (by rw[z]),fun h z=>h (by simpa using z)⟩
   rw[ed];have kp2:Keep [W.ds,L.O] H' (upd H1 L.O (.dK ((os.filter fun z=>decide (z.od.nm≠o.od.nm)).map gK))):=(kp.mono fun _ m=>by rw[zz.mp m];exact .head _).put (.tail _ (.head _));have hd:=S1.dc;rw[YD,wM]at hd;have lf:(os.filter fun z=>decide (z.od.nm≠o.od.nm)).length<os.length:=List.length_filter_lt_length_iff_exists.mpr ⟨o,mo,by simp⟩;refine c2 F _ _ (B'.drop (l:=o.od.nm) kp2 (aq N1 rfl) ((ai (Ne.symm dO)).trans hd) af) (N'.trans ⟨Gr.refl F H',kp2.mono fun c m=>?_,fun c m=>.inl ?_,fun c nc z=>?_⟩) (by lia) fun _=>by lia
   ·rcases zO.mp m with h|h
    ·rw[h];exact tW _ (.tail _ (.head _))
    ·rw[zz.mp h];exact wC _ (.head _)
   ·exact(tT.mp m).elim (fun m=>tW _ (GL c m)) fun m=>wC _ (GD c m)
   ·by_cases q1:c=L.O
    ·rw[q1,af]at z;cases z
    rw[ai q1]at z;by_cases q2:c=W.ds
    ·rw[q2,hd]at z;cases z
    cases e:H' c with
    |none=>exact nc e
    |some y=>rw[kp _ _ e (by simpa using q2)]at z;cases z
  ·exact itn hc (c2 F H' os B' N' l4 fun hn=>absurd rfl (hn o mo))
 obtain⟨u1,hu1,c1⟩:=c1;refine⟨_,(ae (ba (dZ (dQ (fv 7))) (ae (aR 7 ND (au aP (fv 7) aa))
  (ah (bt (ci (fv 1) T.eJ (kq T) hr.mono av (fa1 (fv 7)))))) aI)
  hu1),?_⟩
 walk_at "q";cases g with
 |none=>exact itp rfl (c1 H B ⟨Gr.refl F H,Keep.refl,fun _ m=>.inl m,fun _ n=>n⟩)
 |some c=>
  obtain⟨bs,R,hbx⟩:=B.rp;obtain⟨dx,hgt⟩:=R.g;have hc:=hg c rfl;refine itn (by intro z;cases z) ?_;show Ai (.int c) (.int 1) H _;walk_at "q";refine⟨_,_,hgt,vm _,R.nT,dx,some c,hgt,⟨by lia,by lia⟩,.inr (by rw[Int.add_sub_cancel]),?_⟩;exact c1 _ (B.gate (g':=some (c+1)) hgt) (Nx.upd (tW _ (.tail _ (.tail _ (.head _)))))
theorem yL{cs:List Acc}{g:Option Int}{os:List Ot}:∀(ts:List Tn) (bx:List Bx),∃nw,bkB cs g os bx ts=bx++nw/\∀x∈nw,∃y∈ts,∃o∈os,x.d=y.1/\x.rs=o.rw/\lts g y.1
 | [],bx=>⟨[],by simp[bkB],fun _ m=>nomatch m⟩
 |y::r,bx=>by
  obtain⟨nw,e,h⟩:=yL r (stB cs g os bx y);have e':bkB cs g os bx (y::r)=stB cs g os bx y++nw:=e;have hr:∀x∈nw,∃y'∈y::r,∃o∈os,x.d=y'.1/\x.rs=o.rw/\lts g y'.1:=fun x m=>by
   obtain⟨y',m',z⟩:=h x m;exact⟨y',.tail _ m',z⟩
  unfold stB at e';cases ef:fO os y.2 with
  |none=>rw[ef]at e';exact⟨nw,e',hr⟩
  |some o=>
   rw[ef]at e';dsimp only at e';by_cases hk:okT cs g o y.1
   ·rw[if_pos hk,Yr]at e'
    refine⟨_,e',fun x m=>?_⟩;rcases zO.mp m with q|m
    ·rw[q];exact⟨y,.head _,o,List.mem_of_find?_eq_some ef,rfl,rfl,hk.1⟩
    ·exact hr x m
   ·rw[if_neg hk]at e';exact⟨nw,e',hr⟩
theorem IsT.len{os:List Ot}{u:Int}{ts:List Tn}(h:IsT os u ts)(np:(os.map (·.od.nm)).Nodup)(ok:∀o∈os,OB o):ts.length<=8*os.length:=by
 obtain⟨n1,n2⟩:=lU (u:=u) np (fun o m=>⟨(ok o m).dy,(ok o m).l8⟩) np fun l m=>m;have:ts.Perm ((os.map (·.od.nm)).flatMap (trn os u)):=(List.perm_ext_iff_of_nodup h.1.nd n1).mpr fun x=>by
  rw[h.2,List.mem_flatMap];constructor
  ·rintro⟨o1,mo,e1,e2⟩
   refine⟨o1.od.nm,xf (f:=fun o:Ot=>o.od.nm) mo,?_⟩;rw[gJ np mo];exact xS.mpr ⟨x.1,e2,by rw[<- e1]⟩
  ·rintro⟨l,ml,mx⟩
   obtain⟨o1,mo,rfl⟩:=xS.mp ml;rw[gJ np mo]at mx;obtain⟨d,md,rfl⟩:=xS.mp mx;exact⟨o1,mo,rfl,md⟩
 rw[this.length_eq];rw[zV]at n2;exact n2
theorem AL{u:Int}{D:List Int}(h:D.Pairwise (· < ·)):(D.drop (D.filter fun i=>decide (i<=u)).length).filter (fun i=>decide (i<=u))=[]:=by
 have e:=l_ (u:=u) h;have e2:D.filter (fun i=>decide (i<=u))=D.take (D.filter fun i=>decide (i<=u)).length:=by
  rw[e];exact List.prefix_iff_eq_take.mp (List.takeWhile_prefix _)
 generalize hn:(D.filter fun i=>decide (i<=u)).length=n at e2 |-
 have e3:D.filter (fun i=>decide (i<=u))=(D.take n).filter (fun i=>decide (i<=u))++(D.drop n).filter fun i=>decide (i<=u):=by
  rw[<- ZY,List.take_append_drop]
 have e4:(D.take n).filter (fun i=>decide (i<=u))=D.take n:=by
  rw[<- e2];exact ZW.mpr fun x m=>(Z9.mp m).2
 rw[e4,e2]at e3;have:=congrArg ZO e3;rw[vx]at this;exact List.eq_nil_of_length_eq_zero (by lia)
theorem EO{os:List Ot}{u:Int}{ts:List Tn}(h:IsT os u ts)(np:(os.map (·.od.nm)).Nodup){o:Ot}(ho:o∈os)(b:OB o):lft (adv ts o).od u=[]:=by
 have ec:=h.cnt np ho b.dy;have g0:=b.g.1;show((dys o.od.f o.od.e o.od.n).drop (o.od.go+(cnt ts o.od.nm:Nat)).toNat).filter _=[];rw[ec,show(o.od.go+((lft o.od u).length:Nat)).toNat=o.od.go.toNat+(lft o.od u).length by lia,<- List.drop_drop];exact AL (b.dy.sublist (List.drop_sublist _ _))
noncomputable def tb(x:Bx):Bk:=⟨x.k,x.d,x.rs⟩
theorem DS{H:Hp}{vs:List V}{bx:List Bx}(h:A2 (BxAt H) vs bx):A2 (BkAt H) vs (bx.map tb):=by
 induction h with
 |nil=>exact .nil
 |cons r _ ih=>
  obtain⟨q,t,vs,e,h1,h2,h3⟩:=r;exact .cons ⟨q,t,vs,_,none,e,h1,h2,h3⟩ ih
def SlO(F:Hp)(sl:Addr)(c:Int)(bx:List Bx):Prop:=∃out,out.Perm ((dk (rsd (FD (c+1)-1) (bx.map tb))).map (·.1))/\vh out/\SeAt F sl c (mny (FD (c+1)-1) (bx.map tb)) (res (rsd (FD (c+1)-1) (bx.map tb)) out)/\(dk (rsd (FD (c+1)-1) (bx.map tb))).length<64
theorem SlO.same{F F':Hp}{sl:Addr}{c:Int}{bx:List Bx}(h:SlO F sl c bx)(s:Same F F'):SlO F' sl c bx:=by
 obtain⟨out,h1,h2,h3,h4⟩:=h;exact⟨out,h1,h2,h3.same s,h4⟩
theorem SlO.more{F:Hp}{sl:Addr}{c:Int}{bx nw:List Bx}(h:SlO F sl c bx)(n:∀x∈nw,FD (c+1)<=x.d):SlO F sl c (bx++nw):=by
 have e1:rsd (FD (c+1)-1) ((bx++nw).map tb)=rsd (FD (c+1)-1) (bx.map tb):=by
  unfold rsd;have e:List.flatMap (fun b=>if b.d<=FD (c+1)-1 then b.rs else []) (nw.map tb)=[]:=List.flatMap_eq_nil_iff.mpr fun x m=>by
   obtain⟨y,my,rfl⟩:=xS.mp m;have:=n y my;exact if_neg (by show ¬ y.d<=_;lia)
  rw[vH,Xn,e,Ze]
 have e2:mny (FD (c+1)-1) ((bx++nw).map tb)=mny (FD (c+1)-1) (bx.map tb):=by
  unfold mny;have e:List.filter (fun b=>decide (b.d<=FD (c+1)-1)) (nw.map tb)=[]:=Z6.mpr fun x m=>by
   obtain⟨y,my,rfl⟩:=xS.mp m;have:=n y my;rw[decide_eq_true_eq];show ¬ y.d<=_;lia
  rw[vH,ZY,e,Ze]
 unfold SlO;rw[e1,e2];exact h
theorem dyB{m pl:Int}(hm:0<=m/\m<=4799)(hp:1<=pl):0<=dy m pl/\dy m pl<=146096:=by
 have d1:=m_ (m:=m) hp;have f0:=de hm.1;have f1:=de (show m+1<=4800 by lia);rw[xw]at f0;rw[jW]at f1;lia
theorem JD{xs:List V}{H:Hp}{Q:VK}{i:Int}(h0:0<=i)(h1:i<xs.length)(q:∀x∈xs,Q x H)(n:∀x∈xs,∀p,x ≠ .ref p):gz xs H H Q (.int i):=by
 obtain⟨j,rfl⟩:=Int.eq_ofNat_of_zero_le h0;have hj:j<xs.length:=by lia
 have m:=List.getElem_mem hj;have e:atI xs (j:Int)=some xs[j]:=aJ (List.getElem?_eq_getElem hj);generalize xs[j]=v at m e;simp only[gz,e];have hq:=q v m;cases v with
 |ref p=>exact absurd rfl (n _ m p)
 |_=>exact hq
theorem Bo.keep{W:Wd}{L:Lw}{F H H':Hp}{as:List La}{cs:List Acc}{g:Option Int}{os:List Ot}{bx:List Bx}(h:Bo a W L F H as cs g os bx){S:List Addr}(k:Keep S H H')(n:NoT H')(hS:∀c∈S,F c=none/\c∉mul W L os):Bo a W L F H' as cs g os bx:=by
 obtain⟨bs,R,B⟩:=h.rp;exact⟨⟨bs,R.keep k n fun c m=>⟨(hS c m).1,fun q=>(hS c m).2 (tW _ q)⟩,B⟩,h.lp.keep k fun c m q=>(hS c m).2 (wC _ q),h.cr,h.dj⟩
def PrAt(F:Hp)(v:V):Prop:=∃q r r' tl,v = .ref q/\F q=some (.tup [.ref r,.ref r'])/\Tld F r tl/\Tld F r' tl
theorem Tld.same{F F':Hp}{r:Addr}{tl:List (Tn × Option Int)}(h:Tld F r tl)(s:Same F F'):Tld F' r tl:=by
 obtain⟨ws,e,h⟩:=h;exact⟨ws,s _ _ e,h.imp fun _ _ _ _ z=>z.same s⟩
theorem PrAt.same{F F':Hp}{v:V}(h:PrAt F v)(s:Same F F'):PrAt F' v:=by
 obtain⟨q,r,r',tl,e,h1,h2,h3⟩:=h;exact⟨q,r,r',tl,e,s _ _ h1,h2.same s,h3.same s⟩
structure Ct where
 sc:Addr
 pn:Addr
 pa:Addr
 sl:Addr
 b:Int
 ns:List Int
 n0:List Nat
 n1:List Nat
 n2:List Nat
 n3:List Nat
structure LC(K:W.Frag)(a:Adr)(C:Ct)(n:Nat)(W:Wd)(L:Lw)(F G:Hp)(as:List La)(cs:List Acc)(g:Option Int)(os:List Ot)(bx:List Bx)(u:Int):Prop where
 bo:Bo a W L F G as cs g os bx
 fz:Fz K F C.sc C.pn C.ns C.n0 C.n1 C.n2 C.n3
 pa:∃ws,Out W L F G os C.pa (.lst ws)/\ws.length<=n/\∀v∈ws,PrAt F v
 l4:os.length<=4
 lb:bx.length<=1+32*n
 hb:0<=C.b/\C.b<=4799
 hu:0<=u/\u<=146096
 l2:∀x∈bx,x.rs.length<=4
 se:g=none\/∃c c0,g=some c/\0<=c0/\c0<=4798/\c0<=c/\SlO F C.sl c0 bx
theorem Fz.same{F F':Hp}{sc pn:Addr}{ns:List Int}{n0 n1 n2 n3:List Nat}(h:Fz K F sc pn ns n0 n1 n2 n3)(s:Same F F'):Fz K F' sc pn ns n0 n1 n2 n3:=⟨h.sc.same s,s _ _ h.pn,h.nm⟩
theorem Out.same{W:Wd}{L:Lw}{F G G':Hp}{os:List Ot}{c:Addr}{z:HO}(h:Out W L F G os c z)(s:Same G G'):Out W L F G' os c z:=⟨s _ _ h.h,h.f,h.n⟩
section
variable{C:Ct}{n:Nat}{W:Wd}{L:Lw}{F G F' G':Hp}{as:List La}{cs:List Acc}{g:Option Int}{os os':List Ot}{bx:List Bx}{u:Int}
theorem LC.same(h:LC K a C n W L F G as cs g os bx u)(s:Same G G')(nT:NoT G'):LC K a C n W L F G' as cs g os bx u:=
 { h with bo:=h.bo.same s nT,pa:=h.pa.imp fun _ z=>⟨z.1.same s,z.2⟩ }
theorem LC.nx(h:LC K a C n W L F G as cs g os bx u)(B:Bo a W L F' G' as cs (g.map (· + 1)) os' bx)(l4:os'.length<=4)(N:Nx W L F G os F' G' os' []){v:Int}(hv:0<=v/\v<=146096):LC K a C n W L F' G' as cs (g.map (· + 1)) os' bx v:=by
 have s:=N.gr.s;refine⟨B,h.fz.same s,?_,l4,h.lb,h.hb,hv,h.l2,?_⟩
 ·obtain⟨ws,o,l,p⟩:=h.pa
  exact⟨ws,N.out o zJ,l,fun v m=>(p v m).same s⟩
 ·rcases h.se with e|⟨c,c0,rfl,h1,h2,h3,h4⟩
  ·rw[e];exact .inl rfl
  ·exact .inr ⟨c+1,c0,rfl,h1,h2,by lia,h4.same s⟩
end
noncomputable abbrev zf:List Stmt:=Lx ((bh cf).getD 13 (.Pass ⟨0,0,0,0⟩))
noncomputable abbrev sgL(C:Ct)(W:Wd)(L:Lw)(x8:Option V)(g:Option Int)(x13:Option V)(u:Int)(x16 x17 x18:Option V):St:=[some (.ref C.sc),some (.ref C.pn),some (.int C.b),some (.ref L.A),some (.ref W.ch),some (.ref W.g),some (.ref W.j),some (.ref W.s),x8,some (.ref L.B),some (cl g),some (.ref C.sl),some (.ref L.O),x13,some (.ref C.pa),some (.int u),x16,x17,x18]
section
variable(P w base)(T:Txt K mg a)(cdv:Value)(A:Around)(outer:List Env)(s:Shared)(H:Hp){Q:VK}(E:XK)(hr:Room 15 (A.deeper (Xo "law" (ay cf) s.heap.objs.size a.dM cdv)))
include T hr in
theorem b5:∃u,PSs (cp (XE P w) P w K mg base h_ "law" (ay cf) a.dM cdv A outer s H E) (ZU 5 zf) u /\
 ∀(D:iu) C x8 x13 x17 x18 (i:Nat) W L F G as cs g os bx v,i<3->LC K a C (i+1) W L F G as cs g os bx v->(i=0->(∀c,g=some c->0<=c/\c<=4798)/\(os=[]\/∃o∈os,o.od.nm=C.n0))->(i=1->∀o∈os,lft o.od v=[])->(∀F' G' g' os' v',LC K a C (i+1) W L F' G' as cs g' os' bx v'->(i=1->∀o∈os',lft o.od v'=[])->Same F F'->D.nx (sgL C W L x8 g' x13 v' (some (.int (0+i))) x17 x18) G') ->
  u D (sgL C W L x8 g x13 v (some (.int (0+i))) x17 x18) G:=by
 have sz:=szl;have ND:=d4.nd;have HU:=bV hr;refine⟨_,(ah (ba (bg (dF K HU) (fv 16) aa) (ae (aR 10 ND (aH (nY T) hr av (FA.pa (aN (fv 0) (aN (fv 5) (aN (fv 7) (aN (fv 12) (aN (fv 1) (aN (fv 3) (aN (fv 2) (aN (fv 10) cv)))))))))))
  (ah (aR 15 ND (aC (Iu rfl) rfl T.J9 IU (fa2 (fv 15) (aH (dw T) hr av (fa2 (aC (eX rfl) rfl T.iF eZ (fa2 aa (au aP (fv 2) (au bi (aH (bq T) hr av (fa2 (fv 0) aa)) aa)))) aa))))))) aI)),fun D C x8 x13 x17 x18 i W L F G as cs g os bx v i3 LL h0 h1 kk=>?_⟩
 dsimp only[↓iq,rdI,sgL,List.getElem?_cons_zero,List.getElem?_cons_succ];walk_at "q";by_cases hi:i=0
 rotate_left 1
 ·exact itn (by lia) (kk F G g os v LL h1 (Same.refl _))
 have i1:i≠1:=by lia
 obtain⟨g0,o0⟩:=h0 hi;refine itp (by lia) ⟨W,L,F,as,cs,g,os,bx,_,_,_,_,_,_,_,_,rfl,rfl,rfl,rfl,rfl,rfl,rfl,rfl,LL.bo,LL.fz,LL.hb,LL.l4,g0,o0,fun F' G' os' B' l4' N'=>?_⟩;have hb:=LL.hb;refine⟨C.ns,(LL.fz.sc.same N'.gr.s).same B'.fh,?_⟩;have z0:0<=C.ns.getD (Yc 17) 0 % 24:=Yn _ (by decide);generalize C.ns.getD (Yc 17) 0 % 24=z at z0;generalize em:(if C.b+z<4799 then C.b+z else 4799)=m;have bm:0<=m/\m<=4799:=by rw[<- em];split <;> lia
 have bd:=dyB (pl:=28) bm (by decide);have hv:=LL.hu;exact⟨B'.nT,⟨bm.1,by lia⟩,kk F' G' _ os' _ (LL.nx B' l4' N' (by split <;> lia)) (fun z=>absurd z i1) N'.gr.s⟩
include T hr in
theorem b4:∃u,PSs (cp (XE P w) P w K mg base h_ "law" (ay cf) a.dM cdv A outer s H E) (ZU 4 zf) u /\
 ∀(D:iu) C x8 x13 x17 r r' (i:Nat) W L F G as cs g os bx v ws q tl,i<3->LC K a C (i+1) W L F G as cs g os bx v->(i=0->(∀c,g=some c->0<=c/\c<=4798)/\(os=[]\/∃o∈os,o.od.nm=C.n0))->(i=1->∀o∈os,lft o.od v=[])->G C.pa=some (.lst (ws++[.ref q]))->F q=some (.tup [.ref r,.ref r'])->Tld F r tl->Tld F r' tl->tl.length<=100->(∀F' G' g' os' v',LC K a C (i+1) W L F' G' as cs g' os' bx v'->(i=1->∀o∈os',lft o.od v'=[])->Same F F'->D.nx (sgL C W L x8 g' x13 v' (some (.int (0+i))) x17 (some (.ref r'))) G') ->
  u D (sgL C W L x8 g x13 v (some (.int (0+i))) x17 (some (.ref r'))) G:=by
 have sz:=szl;have ND:=d4.nd;have HU:=bV hr;refine ce (b5 P w base T cdv A outer s H E hr) fun u5 hu5 c5=>?_;refine⟨_,(ae (ba (L2.PW.pt (fE (bF (bA (aH (sP T) hr av (fa2 (aM K (aM K (fv 14) (qN lO aa)) aa) (fv 18))))) (d6 (bF (bA (aH (jX T) hr av (fa4 (fv 6) (fv 7) (fv 12) (fv 9)))))))) (ah (aF eQ)) aI)
  hu5),fun D C x8 x13 x17 r r' i W L F G as cs g os bx v ws q tl i3 LL h0 h1 hp hq h2 h3 h4 kk=>?_⟩
 dsimp only[↓iq,rdI,sgL,List.getElem?_cons_zero,List.getElem?_cons_succ];walk_at "q";have fh:=LL.bo.fh;refine⟨_,_,.inl (aA hp),uO _ _,?_⟩;walk_at "q";refine⟨_,_,.inr (bR (fh _ _ hq)),aJ (j:=0) rfl,LL.bo.nT,tl,h2.same fh,h3.same fh,h4,W,L,F,as,cs,g,os,bx,rfl,rfl,rfl,rfl,LL.bo,LL.l4,fun G' sG nG=>?_⟩;exact c5 D C x8 x13 x17 _ i W L F G' as cs g os bx v i3 (LL.same sG nG) h0 h1 kk
theorem LC.ran{C:Ct}{n:Nat}{W:Wd}{L:Lw}{F G F1 G1 F2 G2:Hp}{as:List La}{cs:List Acc}{g:Option Int}{os:List Ot}{bx:List Bx}{u:Int}{ts:List Tn}{bs':List V}(h:LC K a C n W L F G as cs g os bx u)(it:IsT os u ts)(gr1:Gr F G F1)(fh1:Same F1 G1)(k1:Keep (lmt L os) G G1)(P1:LP L F1 G1 as (os.map (adv ts)) (bkB cs g os bx ts))
 (gr2:Gr F1 G1 F2) (R2:RP a W F2 G2 cs g (os.map (adv ts)) bs') (B2:A2 (BxAt F2) bs' (bkB cs g os bx ts)) (k2:Keep (own W os) G1 G2) :
 Bo a W L F2 G2 as cs g (os.map (adv ts)) (bkB cs g os bx ts)/\Nx W L F G os F2 G2 (os.map (adv ts)) []:=by
 obtain⟨bs,R,hbx⟩:=h.bo.rp;have om:∀c∈own W os,c∈mtb W os:=fun c m=>.tail _ (.tail _ (.tail _ m));have ml:mul W L (os.map (adv ts))=mul W L os:=by unfold mul;rw[og,lD]
 have x1:∀c,G c≠none->G1 c≠none:=fun c n z=>by
  by_cases m:c∈lmt L os
  ·exact P1.lex (by rw[lD];exact m) z
  ·cases e:G c with
   |none=>exact n e
   |some y=>rw[k1 _ _ e m]at z;cases z
 have x2:∀c,G1 c≠none->G2 c≠none:=fun c n z=>by
  by_cases m:c∈own W os
  ·exact R2.ex (by rw[kX];exact m) z
  ·cases e:G1 c with
   |none=>exact n e
   |some y=>rw[k2 _ _ e m]at z;cases z
 have dj:∀c∈own W os,c∉lmt L os:=fun c m q=>h.bo.dj c q (om c m);have P2:=(P1.keep k2 fun c m=>by rw[lD];exact dj c m).grow gr2.s fun c m=>gr2.n c (P1.lex m) (P1.fl c m);refine⟨⟨⟨bs',R2,B2⟩,P2,h.bo.cr,fun c m q=>?_⟩,gr1.trans gr2 x1,fun c z e n=>k2 _ _ (k1 _ _ e fun m=>n (wC _ m)) fun m=>n (tW _ (om c m)),fun c m=>.inl (by rw[<- ml];exact m),fun c n=>x2 c (x1 c n)⟩;rw[lD]at m;rw[og]at q;exact h.bo.dj c m q
theorem LC.more{C:Ct}{n:Nat}{W:Wd}{L:Lw}{F G F2 G2:Hp}{as:List La}{cs:List Acc}{g:Option Int}{os:List Ot}{bx:List Bx}{u:Int}{ts:List Tn}(h:LC K a C n W L F G as cs g os bx u)(it:IsT os u ts)(B:Bo a W L F2 G2 as cs g (os.map (adv ts)) (bkB cs g os bx ts))(N:Nx W L F G os F2 G2 (os.map (adv ts)) []){q r r':Addr}{tl:List (Tn × Option Int)}(t1:Tld F2 r tl)(t2:Tld F2 r' tl)(fq:G2 q=none) :
 ∃ws F3,G2 C.pa=some (.lst ws)/\ws.length<=n/\Same F2 F3/\F3 q=some (.tup [.ref r,.ref r'])/\LC K a C (n+1) W L F3 (upd (upd G2 q (.tup [.ref r,.ref r'])) C.pa (.lst (ws++[.ref q]))) as cs g (os.map (adv ts)) (bkB cs g os bx ts) u:=by
 refine gb h.pa fun ws o l p=>?_;have o2:=N.out o zJ;have s3:=aj (HO.tup [.ref r,.ref r']) fq;have N3:=aq (p:=q) (o:=HO.tup [.ref r,.ref r']) B.nT rfl;have qp:q≠C.pa:=fun z=>by rw[z,o2.h]at fq;cases fq
 have B3:=B.frx s3 N3 C.pa;have gr:=jV F2 G2 (upd G2 q (.tup [.ref r,.ref r'])) C.pa;have f3:frx F2 G2 (upd G2 q (.tup [.ref r,.ref r'])) C.pa q=some (.tup [.ref r,.ref r']):=(n_ B.fh fq qp).trans af;have fp:=gr.n C.pa (by rw[o2.h];intro z;cases z) o2.f;obtain⟨nw,enw,hnw⟩:=yL (cs:=cs) (g:=g) (os:=os) ts bx;have lts':=it.len h.bo.lp.np h.bo.lp.ob;have l4:=h.l4;have lb:=h.lb;have lk:=ow (cs:=cs) (g:=g) (os:=os) ts bx;generalize frx F2 G2 (upd G2 q (.tup [.ref r,.ref r'])) C.pa=F3 at B3 gr f3 fp;refine⟨ws,F3,o2.h,l,gr.s,f3,⟨B3.keep (S:=[C.pa]) (Keep.refl.put (.head _)) (aq N3 rfl) fun c m=>?_,(h.fz.same N.gr.s).same gr.s,⟨_,⟨af,fp,o2.n⟩,by rw[vx];exact Nat.succ_le_succ l,fun v m=>?_⟩,by rw[zV];exact l4,by lia,h.hb,h.hu,fun x m=>?_,?_⟩⟩
 ·rw[zz.mp m];exact⟨fp,o2.n⟩
 ·rcases tT.mp m with m|m
  ·exact((p v m).same N.gr.s).same gr.s
  ·rw[zz.mp m]
   exact⟨q,r,r',tl,rfl,f3,t1.same gr.s,t2.same gr.s⟩
 ·rw[enw]at m
  rcases tT.mp m with m|m
  ·exact h.l2 x m
  ·obtain⟨y,_,o,mo,_,e,_⟩:=hnw x m
   rw[e,(h.bo.lp.ob o mo).ln];decide
 ·rcases h.se with e|⟨c,c0,rfl,h1,h2,h3,h4⟩
  ·exact .inl e
  ·refine .inr ⟨c,c0,rfl,h1,h2,h3,?_⟩
   rw[enw];refine((h4.same N.gr.s).same gr.s).more fun x m=>?_;obtain⟨y,my,o,mo,e,_,hl⟩:=hnw x m;have hl:c<MO y.1:=hl;obtain⟨o',mo',_,hd⟩:=(it.2 y).mp my;have di:=(h.bo.lp.ob o' mo').di y.1 (List.mem_of_mem_drop (Z9.mp hd).1);have mi:=Gx di.1 di.2;have fm:=de (show c0+1<=MO y.1 by lia);rw[e];lia
include T hr in
theorem b2:∃u,PSs (cp (XE P w) P w K mg base h_ "law" (ay cf) a.dM cdv A outer s H E) (ZU 2 zf) u /\
 ∀(D:iu) C x8 x13 x17 x18 (i:Nat) W L F G as cs g os bx v,i<3->LC K a C i W L F G as cs g os bx v->(i=0->(∀c,g=some c->0<=c/\c<=4798)/\(os=[]\/∃o∈os,o.od.nm=C.n0))->(i=2->∀o∈os,lft o.od v=[])->(∀F' G' g' os' bx' v' r,LC K a C (i+1) W L F' G' as cs g' os' bx' v'->(i=1->∀o∈os',lft o.od v'=[])->(i=2->F' r=some (.lst []))->D.nx (sgL C W L x8 g' x13 v' (some (.int (0+i))) x17 (some (.ref r))) G') ->
  u D (sgL C W L x8 g x13 v (some (.int (0+i))) x17 x18) G:=by
 have sz:=szl;have ND:=d4.nd;have HU:=bV hr;refine ce (b4 P w base T cdv A outer s H E hr) fun u4 hu4 c4=>?_;refine⟨_,(ae (aR 18 ND (aH (nz T) hr av (fa5 (fv 12) (fv 3) (fv 10) (fv 9) (fv 15))))
  (ae (bt (df K Zk ZP ZQ dX (fv 14) (fa1 (b7 (fa2 (aH (Bn T) hr av (fa5 (fv 4) (fv 5) (fv 6) (fv 7) (fv 15))) (fv 18))))))
  hu4)),fun D C x8 x13 x17 x18 i W L F G as cs g os bx v i3 LL h0 h2 kk=>?_⟩
 dsimp only[↓iq,rdI,sgL,List.getElem?_cons_zero,List.getElem?_cons_succ];walk_at "q";refine ce LL.bo.rp fun bs R hbx=>?_;have l4:=LL.l4;have lb:=LL.lb;refine⟨LL.bo.nT,F,as,cs,g,os,bx,rfl,LL.bo.fh,LL.bo.cr,LL.bo.lp,l4,by lia,fun ts F1 G1 r' it gr1 fh1 N1 P1 k1 fr' t1=>?_⟩;refine gb LL.pa fun ws0 o0 _ _=>?_;have hpa1:=k1 _ _ o0.h fun m=>o0.n (wC _ m);have R1:=(R.keep k1 N1 fun c m=>⟨LL.bo.lp.fl c m,LL.bo.dj c m⟩).grow gr1.s fh1 fun c m=>gr1.n c (R.exm m) (R.fm c m);refine⟨.inl ⟨_,aA hpa1⟩,N1,fun z=>?_,fun _=>⟨W,F1,cs,g,os,bs,bx,rfl,rfl,rfl,rfl,l4,by lia,R1,c7 gr1.s hbx,fun t et=>?_⟩⟩
 ·rw[fJ,decide_eq_true LL.hu.1,decide_eq_true LL.hu.2]at z;cases z
 subst et;intro ts2 F2 G2 r bs' it2 gr2 R2 B2 k2 fr t2;obtain rfl:=it2.uniq it;obtain⟨B2',N2⟩:=LL.ran it gr1 fh1 k1 P1 gr2 R2 B2 k2;refine⟨by walk_at "o",fun q fq=>?_⟩;refine Cf (LL.more it B2' N2 t2 (t1.same gr2.s) fq) fun ws F3 hws lws s3 f3 L3=>?_;have lts':=it.len LL.bo.lp.np LL.bo.lp.ob;refine⟨C.pa,ws,_,rfl,rfl,(aj _ fq) _ _ hws,by lia,?_⟩;refine c4 D C x8 x13 x17 r r' i W L F3 _ as cs g _ _ v ws q _ i3 L3 (fun i0=>?_) (fun _ o m=>?_) af f3 (t2.same s3) ((t1.same gr2.s).same s3) (by rw[ot];lia) fun F' G' g' os' v' L' h1 sF=>kk F' G' g' os' _ v' r' L' h1 fun i2=>?_
 ·obtain⟨h1,h2⟩:=h0 i0
  refine⟨h1,h2.imp (fun e=>by rw[e];rfl) ?_⟩;rintro⟨o,mo,e⟩;exact⟨_,xf mo,e⟩
 ·obtain⟨o,mo,rfl⟩:=xS.mp m
  exact EO it LL.bo.lp.np mo (LL.bo.lp.ob o mo)
 ·have e0:ts2=[]:=List.eq_nil_iff_forall_not_mem.mpr fun x m=>by
   obtain⟨o,mo,_,hd⟩:=(it.2 x).mp m;rw[h2 i2 o mo]at hd;cases hd
  subst e0;obtain⟨ws',e,h⟩:=t1;cases h;exact sF _ _ (s3 _ _ (gr2.s _ _ e))
include T hr in
theorem b0:∃u,PSs (cp (XE P w) P w K mg base h_ "law" (ay cf) a.dM cdv A outer s H E) zf u /\
 ∀(D:iu) C x8 x13 x17 x18 (i:Nat) W L F G as cs g os bx v,i<3->LC K a C i W L F G as cs g os bx v->(i=0->(∀c,g=some c->0<=c/\c<=4798)/\(os=[]\/∃o∈os,o.od.nm=C.n0))->(i=2->∀o∈os,lft o.od v=[])->(∀F' G' g' os' bx' v' r x17,LC K a C (i+1) W L F' G' as cs g' os' bx' v'->(i=1->∀o∈os',lft o.od v'=[])->(i=2->F' r=some (.lst []))->D.nx (sgL C W L x8 g' x13 v' (some (.int (0+i))) x17 (some (.ref r))) G') ->
  u D (sgL C W L x8 g x13 v (some (.int (0+i))) x17 x18) G:=by
 have sz:=szl;have ND:=d4.nd;have HU:=bV hr;refine ce (b2 P w base T cdv A outer s H E hr) fun u2 hu2 c2=>?_;refine⟨_,(ae (aR 17 ND (fV (fa4 (qN lO aa) aa cY eQ) (au aP (fv 16) (au bi (aH (bq T) hr av (fa2 (fv 0) aa)) aa)) (fun _ _=>rfl)))
  (ae (ba (bF (bA (aH (nJ T) hr av (fa5 (fv 4) (fv 5) (fv 6) (fv 7) (fv 17))))) (ah (aF eQ)) aI)
  hu2)),fun D C x8 x13 x17 x18 i W L F G as cs g os bx v i3 LL h0 h2 kk=>?_⟩
 dsimp only[↓iq,rdI,sgL,List.getElem?_cons_zero,List.getElem?_cons_succ];walk_at "q";refine⟨LL.bo.nT,by lia,fun p hp=>⟨C.ns,(LL.fz.sc.same LL.bo.fh).same (aj _ hp),JD (by lia) ?_ (fun x mx=>⟨LL.bo.nT,?_⟩) fun x mx p=>?_⟩⟩
 ·show 0+(i:Int)+_<4
  lia
 ·have q:∃t,cS G x=some t/\amg x 0 146096=false:=by
   simp only[zO,zJ,or_false]at mx;rcases mx with rfl|rfl|rfl|rfl
   ·exact⟨"int",rfl,rfl⟩
   ·exact⟨"int",rfl,rfl⟩
   ·exact⟨"NoneType",rfl,rfl⟩
   ·exact⟨"bool",rfl,rfl⟩
  obtain⟨tt,hk,ha⟩:=q;refine asK.of hk ⟨ha,fun G' sG nG=>?_⟩;exact c2 D C x8 x13 _ x18 i W L F G' as cs g os bx v i3 (LL.same sG nG) h0 h2 fun F' G2 g' os' bx' v' r L' h1 h2=>kk F' G2 g' os' bx' v' r _ L' h1 h2
 ·simp only[zO,zJ,or_false]at mx
  rcases mx with rfl|rfl|rfl|rfl <;> (intro z;cases z)
end
theorem zl{α:Type}{Pt:α->Prop}:∀ts:List α,(∀t∈ts,Pt t)->A2 (fun v b=>v=b/\Pt b) ts ts
 | [],_=>.nil
 |t::ts,h=>.cons ⟨rfl,h t (.head _)⟩ (zl ts fun u m=>h u (.tail _ m))
section
variable(P w base)(T:Txt K mg a)(cdv:Value)(A:Around)(outer:List Env)(s:Shared)(H:Hp){Q:VK}(E:XK)(hr:Room 15 (A.deeper (Xo "law" (ay cf) s.heap.objs.size a.dM cdv)))
include T hr in
theorem e15(k:∀H',Q (.bl true) H'):∃u,PSs (cp (XE P w) P w K mg base h_ "law" (ay cf) a.dM cdv A outer s H E) (ZU 15 (bh cf)) u/\∀C x8 x13 x16 x17 W L F G as cs g os bx v r,LC K a C 3 W L F G as cs g os bx v->F r=some (.lst [])->u { nx:=fun _ H'=>Q .non H',rt:=Q } (sgL C W L x8 g x13 v x16 x17 (some (.ref r))) G:=by
 have sz:=szl;have ND:=d4.nd;have HU:=bV hr;refine⟨_,(ah (aF (dm (d_ (dF K HU) (fv 18) (cj (FA.pa cv)) (fe _)) (d7 (d_ (dF K HU) (b_ rfl (cl:=_) (x:="_law_pair") (xs:=["_law_pair"]) (fr:=[]) (ks:=[]) (by walk_at "c") rfl (bQ K (fv 14)) (fun _ _ _ _ _=>(aK (i:=0) (eC (l:=["_law_pair"]) (by decide)) rfl (Or.inl rfl))) (fun _ _ _ _ _=>(iz (bg (d9 K HU) (aM K (fv 0) aa) (aM K (fv 0) aa)))) (fun _ _ _ _ _=>(fv 0))) (cj (FA.pa cv)) (fe _)))))),fun C x8 x13 x16 x17 W L F G as cs g os bx v r LL hr0=>?_⟩;dsimp only[↓iq,rdI,sgL,List.getElem?_cons_zero,List.getElem?_cons_succ];walk_at "r";have fh:=LL.bo.fh;refine gb LL.pa fun ws o lw pw=>?_;refine⟨Zv _,fun p hp=>⟨true,on (xs:=[]) (aA ((aj _ hp) _ _ (fh _ _ hr0))) (aA af),itp rfl (ql ?_)⟩⟩;refine bW (br (o:=HO.lst []) hp LL.bo.nT rfl) fun G1 e1 s1 g1 N1=>?_;rw[e1];walk_at "r";refine⟨⟨_,aA (s1 _ _ o.h)⟩,ceA (S:=fun _ _ _=>True) (fun _ _ _ _ _ h=>h) C.pa ws ws (fun v b=>v=b/\PrAt F b) (fun _=>false) (fun _=>()) (s1 _ _ o.h) N1 (zl ws pw) (by lia) (fun u b mb rb G3 zs M1 M0 sG nG hz n1 n0=>?_) fun D3 ws' G3 hD sG nG gD aG=>?_⟩
 ·obtain⟨rfl,q,r,r',tl,rfl,hq,⟨v1,g1,t1⟩,⟨v2,g2,t2⟩⟩:=rb
  obtain⟨z1,rfl⟩:=ex1 hz;have n0:=n0 rfl _ (Same.refl _) nG;have fG:=(fh.trans s1).trans sG;walk_at "r";refine⟨⟨[_],rfl,rfl⟩,_,_,.inr (bR (fG _ _ hq)),aJ (j:=0) rfl,_,_,.inr (bR (fG _ _ hq)),aJ (j:=1) rfl,?_⟩;walk_at "r";refine⟨true,xm (R:=ToAt G3) (fun _ _ _ r1 r2=>Gv r1 r2) (fG _ _ g1) (fG _ _ g2) (t1.imp fun _ _ _ _ z=>z.same fG) (t2.imp fun _ _ _ _ z=>z.same fG),?_⟩;walk_at "r";exact n0
 ·walk_at "r"
  rw[Z6.mpr fun _ _=>by decide]at aG;cases aG;exact⟨Zv _,fun p hp=>⟨_,on (xs:=[]) (aA ((aj _ hp) _ _ gD)) (aA af),k _⟩⟩
include T hr in
theorem e14(k:∀H',Q (.bl true) H'):∃u,PSs (cp (XE P w) P w K mg base h_ "law" (ay cf) a.dM cdv A outer s H E) (ZU 14 (bh cf)) u/\∀C x8 x13 x16 x17 W L F G as cs g os bx v r,LC K a C 3 W L F G as cs g os bx v->F r=some (.lst [])->u { nx:=fun _ H'=>Q .non H',rt:=Q } (sgL C W L x8 g x13 v x16 x17 (some (.ref r))) G:=by
 have sz:=szl;have ND:=d4.nd;have HU:=bV hr;obtain⟨u15,hu15,c15⟩:=e15 P w base T cdv A outer s H E hr k;refine⟨_,(ae (ba (L2.PW.pt (gH (dZ (dQ (fv 10))) (eM (bF (bA (aH (DA T) hr av (fa3 (fv 4) (fv 6) (fv 11)))))))) (ah (aF eQ)) aI)
  hu15),fun C x8 x13 x16 x17 W L F G as cs g os bx v r LL hr0=>?_⟩
 dsimp only[↓iq,rdI,sgL,List.getElem?_cons_zero,List.getElem?_cons_succ];walk_at "r";rcases LL.se with rfl|⟨c,c0,rfl,h1,h2,h3,out0,po,oo,hs,l64⟩
 ·exact itp rfl (c15 C x8 x13 x16 x17 W L F G as cs _ os bx v r LL hr0)
 ·refine ce LL.bo.rp fun bs R hbx=>?_
  have lb:=LL.lb;refine itn (by intro z;cases z) ⟨LL.bo.nT,c0,_,_,_,_,_,_,bx.map tb,hs.same LL.bo.fh,⟨h1,by lia⟩,⟨R.jat,DS (c7 LL.bo.fh hbx),by rw[zV];lia,fun b m=>?_,l64⟩,fun out po' oo'=>?_⟩
  ·obtain⟨x,mx,rfl⟩:=xS.mp m
   exact LL.l2 x mx
  ·rw[qR (po'.trans po.symm) oo' oo,Bd]
   exact itn (by decide) (c15 C x8 x13 x16 x17 W L F G as cs _ os bx v r LL hr0)
include T hr in
theorem e13(k:∀H',Q (.bl true) H'):∃u,PSs (cp (XE P w) P w K mg base h_ "law" (ay cf) a.dM cdv A outer s H E) (ZU 13 (bh cf)) u/\∀(C:Ct) x8 x13 W L F G as cs g os bx v,LC K a C 0 W L F G as cs g os bx v->(∀c,g=some c->0<=c/\c<=4798)->(os=[]\/∃o∈os,o.od.nm=C.n0)->u { nx:=fun _ H'=>Q .non H',rt:=Q } (sgL C W L x8 g x13 v none none none) G:=by
 have sz:=szl;have ND:=d4.nd;have HU:=bV hr;obtain⟨ub,hub,cb⟩:=b0 P w base T cdv A outer s H E hr;obtain⟨u14,hu14,c14⟩:=e14 P w base T cdv A outer s H E hr k;refine⟨_,(ae (dE (by passes_own) rfl (eF rfl T.eK (fa1 aa)) (aK (i:=16) ND rfl (Or.inl rfl)) hub)
  hu14),fun C x8 x13 W L F G as cs g os bx v LL hg h0=>?_⟩
 walk_at "r";refine o8 ?_;walk_at "r";refine g8 (lo:=0) (n:=3) (fun i σ' G'=>∃F' g' os' bx' v' x16 x17 x18,LC K a C i W L F' G' as cs g' os' bx' v'/\(i=0->(∀c,g'=some c->0<=c/\c<=4798)/\(os'=[]\/∃o∈os',o.od.nm=C.n0))/\(i=2->∀o∈os',lft o.od v'=[])/\(i=3->∃r,x18=some (.ref r)/\F' r=some (.lst []))/\σ'=sgL C W L x8 g' x13 v' x16 x17 x18) ⟨F,g,os,bx,v,none,none,none,LL,fun _=>⟨hg,h0⟩,(fun z=>absurd z (by decide)),(fun z=>absurd z (by decide)),rfl⟩ ?_ ?_
 ·rintro i σ' G' hi ⟨F',g',os',bx',v',x16,x17,x18,L1,i0,i2,i3,rfl⟩
  walk_at "r";refine cb _ C x8 x13 x17 x18 i W L F' G' as cs g' os' bx' v' hi L1 i0 i2 fun F2 G2 g2 os2 bx2 v2 r x17 L2 h1 h2=>?_;exact⟨F2,g2,os2,bx2,v2,_,x17,_,L2,(fun z=>absurd z (by lia)),(fun z=>h1 (by lia)),(fun z=>⟨r,rfl,h2 (by lia)⟩),rfl⟩
 ·rintro σ' G' ⟨F',g',os',bx',v',x16,x17,x18,L1,i0,i2,i3,rfl⟩
  obtain⟨r,rfl,hr0⟩:=i3 rfl;exact c14 C x8 x13 x16 x17 W L F' G' as cs g' os' bx' v' r L1 hr0
end
theorem K_{x k k':Int}(h0:0<=k)(h1:k<=11)(h2:0<=k')(h3:k'<=11)(h:97+((x+k) % 26).toNat=97+((x+k') % 26).toNat):k=k':=by lia
theorem Hc{c k k':Int}(h0:0<=k)(h1:k<=11)(h2:0<=k')(h3:k'<=11)(h:NB c k=NB c k'):k=k':=by
 unfold NB at h;split at h
 ·have:=congrArg ZO h
  rw[zV,zV,Za,Za]at this;lia
 ·have hs:0<1+c / 3 % 12:=by lia
  have ha:=Yn (c / 36 % 12) (show 1+c / 3 % 12≠0 by lia);have hb:=Yv (c / 36 % 12) hs;generalize c / 36 % 12 % (1+c / 3 % 12)=at_ at h ha hb;have hl:at_.toNat<((Zw (1+c / 3 % 12).toNat).map fun j:Nat=>sg (c / 432 % 26) j).length:=by rw[zV,Za];lia
  have:=congrArg (fun l:List Nat=>l[at_.toNat]?) h;rw[List.getElem?_set_self hl,List.getElem?_set_self hl]at this;injection this with this
  exact K_ h0 h1 h2 h3 this
noncomputable def hid(S:List Addr)(G:Hp):Hp:=fun c=>if c∈S then none else G c
theorem Eh(S:List Addr)(G:Hp):Same (hid S G) G:=fun c z e=>by
 unfold hid at e;split at e
 ·cases e
 ·exact e
theorem y6{S:List Addr}{G:Hp}{c:Addr}(n:c∉S):hid S G c=G c:=by unfold hid;rw[if_neg n]
theorem H_{S:List Addr}{G:Hp}{c:Addr}(m:c∈S):hid S G c=none:=by unfold hid;rw[if_pos m]
structure P0(K:W.Frag)(a:Adr)(H0:Hp)(sc pn Ad ch:Addr)(b:Int)(ns:List Int)(n0 n1 n2 n3:List Nat)(as:List La)(cs:List Acc):Prop where
 fz:Fz K H0 sc pn ns n0 n1 n2 n3
 hb:0<=b/\b<=4799
 A:H0 Ad=some (.dK (as.map kyL))
 al:∀x∈as,H0 x.ls=some (laL x)
 ch:∃d,CAt a.aV a.aO H0 ch d cs
 cr:CsR as cs
structure PG(a:Adr)(H0 G:Hp)(W:Wd)(g:Option Int)(bs:List V):Prop where
 nT:NoT G
 s0:Same H0 G
 g:∃dx,G W.g=some (cq a.bc dx (cl g))
 j:JAt a.aX G W.j W.b W.u bs []
 s:SAt a.aD a.az G W.s W.ds []
 ud:W.u≠W.ds
 fr:∀c∈[W.g,W.b,W.u,W.ds],H0 c=none
section
variable{H0 G G':Hp}{W:Wd}{g g':Option Int}{bs:List V}
theorem PG.same(h:PG a H0 G W g bs)(s:Same G G')(n:NoT G'):PG a H0 G' W g bs:=
 { h with nT:=n,s0:=h.s0.trans s,g:=h.g.imp fun _ e=>s _ _ e,j:=h.j.keep (S:=[]) (bL s) zJ zJ zJ,s:=h.s.same s }
theorem F6{C D dx dy b u:Addr}{x:V}:Cy C dx b u≠cq D dy x:=by
 intro z;injection z with _ _ z
 cases z
theorem GS{x y:V}{C D dx dy:Addr}:HO.ins C dx [("by_name",x)]≠HO.ins D dy [("last_closed",y)]:=by
 intro z;injection z with _ _ z
 injection z with z _
 injection z with z _
 exact absurd z (by decide +kernel)
theorem PG.gate(h:PG a H0 G W g bs){dx:Addr}(e:G W.g=some (cq a.bc dx (cl g))):PG a H0 (upd G W.g (cq a.bc dx (cl g'))) W g' bs:=by
 have ne:∀ {c z},G c=some z->(∀x d f,z ≠ .ins x d f)->upd G W.g (cq a.bc dx (cl g')) c=some z:=fun h n=>(ai (aY h e fun z=>n _ _ _ z)).trans h;obtain⟨dj,hj⟩:=h.j.ob;obtain⟨ds,hs⟩:=h.s.ob;exact { h with
  nT:=aq h.nT rfl
  s0:=fun c z f=>by rw[ai fun q=>by rw[q,h.fr W.g (.head _)]at f;cases f];exact h.s0 _ _ f
  g:=⟨dx,af⟩
  j:=⟨⟨dj,(ai (aY hj e F6)).trans hj⟩,ne h.j.ls (by intro _ _ _ z;cases z),ne h.j.dc (by intro _ _ _ z;cases z)⟩
  s:=⟨⟨ds,(ai (aY hs e GS)).trans hs⟩,ne h.s.dc (by intro _ _ _ z;cases z),(fun _ m=>nomatch m),.nil,.nil⟩ }
end
theorem SeAt.tk{G G':Hp}(k:TK G G'){t:Addr}{m n:Int}{rs:List Row}(h:SeAt G t m n rs):SeAt G' t m n rs:=by
 obtain⟨tr,ws,e1,e2,e3⟩:=h;exact⟨tr,ws,k _ _ e1,k _ _ e2,xO k e3⟩
theorem y_{G:Hp}{bs:List V}{b0:Bx}(h:A2 (BxAt G) bs [b0]):∃q,bs=[.ref q]:=by
 cases h with
 |cons r t=>
  cases t;obtain⟨q,_,_,e,_⟩:=r;exact⟨q,by rw[e]⟩
theorem JV{H0 G:Hp}{sc pn Ad Lb p:Addr}{b:Int}{ns:List Int}{n0 n1 n2 n3:List Nat}{W:Wd}{as:List La}{cs:List Acc}{g:Option Int}{bs Bs:List V}{b0:Bx}(Z:P0 K a H0 sc pn Ad W.ch b ns n0 n1 n2 n3 as cs)(Y:PG a H0 G W g bs)(hx:A2 (BxAt G) bs [b0])(hB:G Lb=some (.lst Bs))(hX:A2 (BxAt G) Bs [b0])(nb:Lb≠W.b)(fl:H0 Lb=none)(fp:G p=none) :
 ∃F,Bo a W ⟨Ad,p,Lb⟩ F (upd G p (.dK [])) as cs g [] [b0]/\Fz K F sc pn ns n0 n1 n2 n3/\TK G F:=by
 have s1:=aj (HO.dK []) fp;obtain⟨G1,e1,_,gp,N1⟩:=br (o:=HO.dK []) fp Y.nT rfl;rw[e1]at s1 |-
 obtain⟨q,rfl⟩:=y_ hx;obtain⟨q',rfl⟩:=y_ hX;obtain⟨dg,hg⟩:=Y.g;obtain⟨dj,hj⟩:=Y.j.ob;obtain⟨dS,hs⟩:=Y.s.ob;have inS:∀c∈[p,Lb,W.u,W.ds,W.g,W.b],H0 c=none/\∃z,G1 c=some z/\(z = .dK []\/(∃q,z = .lst [.ref q])\/z=cq a.bc dg (cl g)):=fun c m=>by
  simp only[zO,zJ,or_false]at m;rcases m with rfl|rfl|rfl|rfl|rfl|rfl
  ·exact⟨Y.s0.free fp,_,gp,.inl rfl⟩
  ·exact⟨fl,_,s1 _ _ hB,.inr (.inl ⟨_,rfl⟩)⟩
  ·exact⟨Y.fr _ (.tail _ (.tail _ (.head _))),_,s1 _ _ Y.j.dc,.inl rfl⟩
  ·exact⟨Y.fr _ (.tail _ (.tail _ (.tail _ (.head _)))),_,s1 _ _ Y.s.dc,.inl rfl⟩
  ·exact⟨Y.fr _ (.head _),_,s1 _ _ hg,.inr (.inr rfl)⟩
  ·exact⟨Y.fr _ (.tail _ (.head _)),_,s1 _ _ Y.j.ls,.inr (.inl ⟨_,rfl⟩)⟩
 have nS:∀ {c z},G c=some z->z ≠ .dK []->(∀q,z ≠ .lst [.ref q])->z≠cq a.bc dg (cl g)->hid [p,Lb,W.u,W.ds,W.g,W.b] G1 c=some z:=fun {c z} e h1 h2 h3=>by
  rw[y6 fun m=>?_]
  ·exact s1 _ _ e
  ·obtain⟨_,y,ey,h⟩:=inS c m
   rw[s1 _ _ e]at ey;cases ey;rcases h with h|⟨q,h⟩|h
   ·exact h1 h
   ·exact h2 q h
   ·exact h3 h
 have s0:Same H0 (hid [p,Lb,W.u,W.ds,W.g,W.b] G1):=fun c z e=>by
  rw[y6 fun m=>by rw[(inS c m).1]at e;cases e];exact s1 _ _ (Y.s0 _ _ e)
 have tk:TK G (hid [p,Lb,W.u,W.ds,W.g,W.b] G1):=fun t l e=>nS e (by intro z;cases z) (by intro _ z;cases z) (by intro z;cases z);have sub:=Eh [p,Lb,W.u,W.ds,W.g,W.b] G1;have fn:∀c∈[p,Lb,W.u,W.ds,W.g,W.b],hid [p,Lb,W.u,W.ds,W.g,W.b] G1 c=none:=fun c m=>H_ m;have hj':=nS hj (by intro z;cases z) (by intro _ z;cases z) F6;have hs':=nS hs (by intro z;cases z) (by intro _ z;cases z) GS;generalize hid [p,Lb,W.u,W.ds,W.g,W.b] G1=F at *;have pw:∀ {c z},G c=some z->p≠c:=fun e=>Ne.symm (aL e fp);obtain⟨d,J⟩:=Z.ch;have LgB:∀ {c z},G c=some z->(∀l,z ≠ .lst l)->Lb≠c:=fun e n=>Ne.symm (aY e hB (n _));refine⟨F,⟨⟨[.ref q],⟨sub,N1,⟨d,J.same s0⟩,fun c m=>?_,⟨dg,s1 _ _ hg⟩,⟨dj,hj'⟩,s1 _ _ Y.j.ls,s1 _ _ Y.j.dc,⟨dS,hs'⟩,s1 _ _ Y.s.dc,(fun _ m=>nomatch m),(fun _ m=>nomatch m),.nil,.nil,fun c m=>?_,Y.ud⟩,gf tk hx⟩,⟨s0 _ _ Z.A,fun x m=>s0 _ _ (Z.al x m),gp,(fun _ m=>nomatch m),(fun _ m=>nomatch m),(fun _ m=>nomatch m),⟨_,s1 _ _ hB,gf tk hX⟩,.cons (fun _ m=>nomatch m) .nil,.nil,fun c m=>?_⟩,Z.cr,fun c m q=>?_⟩,Z.fz.same s0,tk⟩
 ·obtain⟨x,mx,r⟩:=Z.cr.cr c m
  rw[r.cu];cases ec:x.cu with
  |none=>exact .inl rfl
  |some l=>exact .inr ⟨l,rfl⟩
 ·refine fn c ?_
  simp only[mtb,own,ZX,zO,zJ,or_false]at m |-
  rcases m with h|h|h|h
  ·exact .inr (.inr (.inl h))
  ·exact .inr (.inr (.inr (.inl h)))
  ·exact .inr (.inr (.inr (.inr (.inl h))))
  ·exact .inr (.inr (.inr (.inr (.inr h))))
 ·refine fn c ?_
  simp only[lmt,ZX,zO,zJ,or_false]at m |-
  rcases m with h|h
  ·exact .inl h
  ·exact .inr (.inl h)
 ·simp only[lmt,mtb,own,ZX,zO,zJ,or_false]at m q
  rcases m with rfl|rfl
  ·rcases q with h|h|h|h
   ·exact pw Y.j.dc h
   ·exact pw Y.s.dc h
   ·exact pw hg h
   ·exact pw Y.j.ls h
  ·rcases q with h|h|h|h
   ·exact LgB Y.j.dc (by intro _ z;cases z) h
   ·exact LgB Y.s.dc (by intro _ z;cases z) h
   ·exact LgB hg (by intro _ z;cases z) h
   ·exact nb h
section
variable(P w base)(T:Txt K mg a)(cdv:Value)(A:Around)(outer:List Env)(s:Shared)(H:Hp){Q:VK}(E:XK)(hr:Room 15 (A.deeper (Xo "law" (ay cf) s.heap.objs.size a.dM cdv)))
include T hr in
theorem e11(k:∀H',Q (.bl true) H'):∃u,PSs (cp (XE P w) P w K mg base h_ "law" (ay cf) a.dM cdv A outer s H E) (ZU 11 (bh cf)) u/\∀(C:Ct) x8 x13 W L F G as cs g os bx,Bo a W L F G as cs g os bx->Fz K F C.sc C.pn C.ns C.n0 C.n1 C.n2 C.n3->os.length<=4->bx.length<=1->(0<=C.b/\C.b<=4799)->(∀x∈bx,x.rs.length<=4)->(g=none\/∃c,g=some c/\0<=c/\c<=4798/\SlO F C.sl c bx)->(os=[]\/∃o∈os,o.od.nm=C.n0) ->
 u { nx:=fun _ H'=>Q .non H',rt:=Q } [some (.ref C.sc),some (.ref C.pn),some (.int C.b),some (.ref L.A),some (.ref W.ch),some (.ref W.g),some (.ref W.j),some (.ref W.s),x8,some (.ref L.B),some (cl g),some (.ref C.sl),some (.ref L.O),x13,none,none,none,none,none] G:=by
 have sz:=szl;have ND:=d4.nd;have HU:=bV hr;refine ce (e13 P w base T cdv A outer s H E hr k) fun u13 hu13 c13=>?_;refine⟨_,(ae (aR 14 ND (cj (FA.pa cv)))
  (ae (aR 15 ND (aH (dw T) hr av (fa2 (aC (eX rfl) rfl T.iF eZ (fa2 aa (au aP (fv 2) (au bi (aH (bq T) hr av (fa2 (fv 0) aa)) aa)))) (au aP aa (au bi (au bB (aH (bq T) hr av (fa2 (fv 0) aa)) aa) aa)))))
  hu13)),fun C x8 x13 W L F G as cs g os bx B Z l4 lb hb l2 se h0=>?_⟩
 walk_at "q";refine⟨Zv _,fun p fp=>?_⟩;refine bW (br (o:=HO.lst []) fp B.nT rfl) fun G1 e1 s1 gp N1=>?_;rw[e1];have B1:=B.same s1 N1;refine⟨C.ns,Z.sc.same B1.fh,C.ns,Z.sc.same B1.fh,N1,?_⟩;generalize C.ns.getD (Yc 13) 0=c;generalize em:(if C.b+c % 12<4799 then C.b+c % 12 else 4799)=m;have bm:0<=m/\m<=4799:=by rw[<- em];split <;> lia
 refine⟨⟨bm.1,by lia⟩,?_⟩;refine c13 { C with pa:=p } x8 x13 W L F G1 as cs g os bx _ ⟨B1,Z,⟨[],⟨gp,B.fh.free fp,fun q=>B.ex q fp⟩,xU _,(fun _ m=>nomatch m)⟩,l4,by lia,hb,dyB bm (by lia),l2,?_⟩ (fun c e=>?_) h0
 ·exact se.imp_right fun⟨c,e,h1,h2,h3⟩=>⟨c,c,e,h1,h2,ZA _,h3⟩
 ·rcases se with h|⟨c',h,h1,h2,_⟩
  ·rw[h]at e;cases e
  ·rw[h]at e;cases e;exact⟨h1,h2⟩
include T hr in
theorem e10(k:∀H',Q (.bl true) H'):∃u,PSs (cp (XE P w) P w K mg base h_ "law" (ay cf) a.dM cdv A outer s H E) (ZU 10 (bh cf)) u/\∀(C:Ct) x8 W L F G as cs g bx,Bo a W L F G as cs g [] bx->Fz K F C.sc C.pn C.ns C.n0 C.n1 C.n2 C.n3->bx.length<=1->(0<=C.b/\C.b<=4799)->(∀x∈bx,x.rs.length<=4)->(g=none\/∃c,g=some c/\0<=c/\c<=4798/\SlO F C.sl c bx) ->
 u { nx:=fun _ H'=>Q .non H',rt:=Q } [some (.ref C.sc),some (.ref C.pn),some (.int C.b),some (.ref L.A),some (.ref W.ch),some (.ref W.g),some (.ref W.j),some (.ref W.s),x8,some (.ref L.B),some (cl g),some (.ref C.sl),some (.ref L.O),none,none,none,none,none,none] G:=by
 have sz:=szl;have ND:=d4.nd;have HU:=bV hr;refine ce (e11 P w base T cdv A outer s H E hr k) fun u11 hu11 c11=>?_;refine⟨_,(ae (dE (by passes_own) rfl (eF rfl T.eK (fa1 (au bi (aH (bq T) hr av (fa2 (fv 0) aa)) aa))) (aK (i:=13) ND rfl (Or.inl rfl)) (ah (bt (aH (mT T) hr av (fa4 (fv 7) (fv 12) (aM K (fv 1) (fv 13)) (aH (jH T) hr av (fa4 (fv 0) (au aP aa (au fg aa (fv 13))) (fv 3) (fv 2))))))))
  hu11),fun C x8 W L F G as cs g bx B Z lb hb l2 se=>?_⟩
 walk_at "q";refine o8 ?_;walk_at "q";refine⟨C.ns,Z.sc.same B.fh,?_⟩;have c0:0<=C.ns.getD (Yc 4) 0 % 5/\C.ns.getD (Yc 4) 0 % 5<5:=by lia
 generalize C.ns.getD (Yc 4) 0 % 5=c at c0;refine⟨by lia,by lia,?_⟩;refine g8 (lo:=0) (n:=c.toNat) (fun i σ' G'=>∃F' os x13,Bo a W L F' G' as cs g os bx/\Same F F'/\os.map (·.od.nm)=[C.n0,C.n1,C.n2,C.n3].take i/\σ'=[some (.ref C.sc),some (.ref C.pn),some (.int C.b),some (.ref L.A),some (.ref W.ch),some (.ref W.g),some (.ref W.j),some (.ref W.s),x8,some (.ref L.B),some (cl g),some (.ref C.sl),some (.ref L.O),x13,none,none,none,none,none]) ⟨F,[],none,B,Same.refl _,rfl,rfl⟩ ?_ ?_
 ·rintro i σ' G' hi ⟨F',os,x13,B',s',en,rfl⟩
  have i4:i<[C.n0,C.n1,C.n2,C.n3].length:=by show i<4;lia
  have hp:=B'.fh _ _ (s' _ _ Z.pn);have en2:[C.n0,C.n1,C.n2,C.n3][i]? = some [C.n0,C.n1,C.n2,C.n3][i]:=List.getElem?_eq_getElem i4;have mi:=List.getElem_mem i4;have nd:=Z.nm.nd;have Zn:=Z.nm.nm;have hpi:atI [L2.T C.n0,L2.T C.n1,L2.T C.n2,L2.T C.n3] ((i:Nat):Int)=some (L2.T [C.n0,C.n1,C.n2,C.n3][i]):=aJ (by
   show([C.n0,C.n1,C.n2,C.n3].map L2.T)[i]? = _;rw[List.getElem?_map,en2];rfl)
  have l4:os.length=i:=by
   have:=congrArg ZO en;rw[zV,Zx]at this;change i<4 at i4;change os.length=min i 4 at this;lia
  have hno:∀o∈os,o.od.nm≠[C.n0,C.n1,C.n2,C.n3][i]:=fun o m e=>by
   have mt:o.od.nm∈[C.n0,C.n1,C.n2,C.n3].take i:=by rw[<- en];exact xf (f:=fun o:Ot=>o.od.nm) m
   have h1:=nd;rw[<- List.take_append_drop i [C.n0,C.n1,C.n2,C.n3]]at h1;have h2:[C.n0,C.n1,C.n2,C.n3][i]∈[C.n0,C.n1,C.n2,C.n3].drop i:=vW (i:=0) (by rw[List.getElem?_drop];exact en2);exact(Y4.mp h1).2.2 _ mt _ h2 e
  generalize [C.n0,C.n1,C.n2,C.n3][i]=l at en2 mi hpi hno;walk_at "q";refine⟨_,_,.inl (aA hp),by rw[Int.zero_add];exact hpi,B'.nT,C.ns,as,(Z.sc.same s').same B'.fh,by lia,B'.cr.ao,B'.fh _ _ B'.lp.A,hb,fun m pl e n tn rw lo rl vs H1 OD flo frl _ frs s1 N1=>⟨W,L,frx F' G' H1 lo,as,cs,g,os,bx,l,m,pl,e,n,tn,rw,lo,rl,vs,rfl,rfl,rfl,rfl,B'.frx s1 N1 lo,Bt B' OD flo frl frs (Zn l mi) hno (by lia),fun F'' H'' o B'' eo N''=>⟨F'',os++[o],_,B'',s'.trans ((jV F' G' H1 lo).s.trans N''.gr.s),?_,rfl⟩⟩⟩;rw[vH,en,bE en2,<- eo]
  rfl
 ·rintro σ' G' ⟨F',os,x13,B',s',en,rfl⟩
  have ll:=congrArg ZO en;rw[zV,Zx]at ll;change os.length=min c.toNat 4 at ll;refine c11 C x8 x13 W L F' G' as cs g os bx B' (Z.same s') (by lia) lb hb l2 (se.imp_right fun⟨c,e,h1,h2,h3⟩=>⟨c,e,h1,h2,h3.same s'⟩) ?_;cases os with
  |nil=>exact .inl rfl
  |cons o r=>
   refine .inr ⟨o,.head _,?_⟩;have h0:((o::r).map (·.od.nm))[0]? = some o.od.nm:=rfl;rw[en,List.getElem?_take]at h0;split at h0
   ·injection h0 with h0;exact h0.symm
   ·cases h0
include T hr in
theorem e8(k:∀H',Q (.bl true) H'):∃u,PSs (cp (XE P w) P w K mg base h_ "law" (ay cf) a.dM cdv A outer s H E) (ZU 8 (bh cf)) u/\∀sc pn b Ad Lb x8 (W:Wd) G g H0 ns n0 n1 n2 n3 as cs bs Bs b0,P0 K a H0 sc pn Ad W.ch b ns n0 n1 n2 n3 as cs->PG a H0 G W g bs->A2 (BxAt G) bs [b0]->G Lb=some (.lst Bs)->A2 (BxAt G) Bs [b0]->Lb≠W.b->H0 Lb=none->b0.rs.length<=4->(g=none\/∃c,g=some c/\0<=c/\c<=4798) ->
 u { nx:=fun _ H'=>Q .non H',rt:=Q } [some (.ref sc),some (.ref pn),some (.int b),some (.ref Ad),some (.ref W.ch),some (.ref W.g),some (.ref W.j),some (.ref W.s),x8,some (.ref Lb),some (cl g),none,none,none,none,none,none,none,none] G:=by
 have sz:=szl;have ND:=d4.nd;have HU:=bV hr;refine ce (e10 P w base T cdv A outer s H E hr k) fun u10 hu10 c10=>?_;refine⟨_,(ae (aR 11 ND (aH (yx T) hr av (fa3 (fv 4) (fv 6) (uI (dZ (xy (fv 10))) (aC (eX rfl) rfl T.iF eZ (fa2 aa (fv 2))) (fv 10)))))
  (ae (aR 12 ND kc)
  hu10)),fun sc pn b Ad Lb x8 W G g H0 ns n0 n1 n2 n3 as cs bs Bs b0 Z Y hx hB hX nb fl r4 hg=>?_⟩
 have hb:=Z.hb;have key:∀m,0<=m->m<=4799->(g=none\/g=some m/\m<=4798)->∃b_1 u vs kvs bs,JB a.aX G W.j b_1 u vs kvs bs (FD (m+1)-1)/\Gu G (fun x H1=>∀p,H1 p=none->u10 { nx:=fun _ H'=>Q .non H',rt:=Q } [some (.ref sc),some (.ref pn),some (.int b),some (.ref Ad),some (.ref W.ch),some (.ref W.g),some (.ref W.j),some (.ref W.s),x8,some (.ref Lb),some (cl g),some x,some (.ref p),none,none,none,none,none,none] (upd H1 p (.dK []))) m bs:=fun m m0 m1 hm=>by
  have l64:(dk (rsd (FD (m+1)-1) ([b0].map tb))).length<64:=by
   have h1:=(zc (rsd (FD (m+1)-1) ([b0].map tb))).2.2;have h2:=oV (N:=4) (t:=FD (m+1)-1) (bs:=[b0].map tb) fun x m=>by rw[zz.mp m];exact r4
   rw[zV]at h2;change _<=4*1 at h2;lia
  refine⟨_,_,_,_,[b0].map tb,⟨Y.j,DS hx,(by show 1<=100;decide),fun x m=>by rw[zz.mp m];exact r4,l64⟩,fun out t G2 po oo ft hs s2 N2 p fp=>?_⟩;have Y2:=Y.same s2 N2;obtain⟨F,B,Zf,tk⟩:=JV (K:=K) Z Y2 (c7 s2 hx) (s2 _ _ hB) (c7 s2 hX) nb fl fp;exact c10 ⟨sc,pn,sc,t,b,ns,n0,n1,n2,n3⟩ x8 W ⟨Ad,p,Lb⟩ F _ as cs g [b0] B Zf (xU _) hb (fun x m=>by rw[zz.mp m];exact r4) (hm.imp_right fun⟨e,h⟩=>⟨m,e,m0,h,out,po,oo,hs.tk tk,l64⟩)
 walk_at "q";rcases hg with rfl|⟨c,rfl,h0,h1⟩
 ·refine itp rfl ?_
  generalize em:(if b<4798 then b else 4798)=m;have bm:0<=m/\m<=4799:=by rw[<- em];split <;> lia
  exact⟨Y.nT,bm,key m bm.1 bm.2 (.inl rfl)⟩
 ·exact itn (by intro z;cases z) ⟨Y.nT,⟨h0,by lia⟩,key c h0 (by lia) (.inr ⟨rfl,h1⟩)⟩
end
noncomputable def AHE:List Nat:=[97,104,101,97,100]
theorem FV(x y:V):vL (zS "put") [(zS "bookings",x),(zS "undoings",y)]=none:=by rw[aQ (by decide +kernel),aQ (by decide +kernel)];rfl
section
variable(P w base)(T:Txt K mg a)(cdv:Value)(A:Around)(outer:List Env)(s:Shared)(H:Hp){Q:VK}(E:XK)(hr:Room 15 (A.deeper (Xo "law" (ay cf) s.heap.objs.size a.dM cdv)))
include T hr in
theorem e6(k:∀H',Q (.bl true) H'):∃u,PSs (cp (XE P w) P w K mg base h_ "law" (ay cf) a.dM cdv A outer s H E) (ZU 6 (bh cf)) u/\∀sc pn b Ad Lb (W:Wd) G H0 ns n0 n1 n2 n3 as cs pr vs rs q',P0 K a H0 sc pn Ad W.ch b ns n0 n1 n2 n3 as cs->PG a H0 G W none []->G pr=some (.lst vs)->A2 (RwAt G) vs rs->rs.length<=4->G Lb=some (.lst [.ref q'])->BxAt G (.ref q') ⟨0,dy b 1,AHE,rs⟩->Lb≠W.b->H0 Lb=none ->
 u { nx:=fun _ H'=>Q .non H',rt:=Q } [some (.ref sc),some (.ref pn),some (.int b),some (.ref Ad),some (.ref W.ch),some (.ref W.g),some (.ref W.j),some (.ref W.s),some (.ref pr),some (.ref Lb),none,none,none,none,none,none,none,none,none] G:=by
 have sz:=szl;have ND:=d4.nd;have HU:=bV hr;refine ce (e8 P w base T cdv A outer s H E hr k) fun u8 hu8 c8=>?_;refine⟨_,(ae (bt (ci (fv 6) T.cK (iV T) hr.mono av (fa4 (aH (dw T) hr av (fa2 (fv 2) aa)) (bv [97,104,101,97,100]) (fv 8) cY)))
  (ae (aR 10 ND (aH (qJ T) hr av (fa3 (fv 0) (fv 2) (fv 5))))
  hu8)),fun sc pn b Ad Lb W G H0 ns n0 n1 n2 n3 as cs pr vs rs q' Z Y hp hv r4 hB hb0 nb fl=>?_⟩
 have hb:=Z.hb;obtain⟨dj,hj⟩:=Y.j.ob;walk_at "q";refine⟨_,_,hj,FV _ _,Y.nT,⟨hb.1,by lia⟩,Y.nT,W.b,W.u,[],[],vs,Y.j,(by decide),(by decide),aA hp,fun t q G1 ft ht fq hq J1 k1 N1=>?_⟩;obtain⟨dg,hg⟩:=Y.g;obtain⟨dS,hs⟩:=Y.s.ob;have nk:∀ {c z},G c=some z->(∀l,z ≠ .lst l)->c≠W.u->G1 c=some z:=fun {c z} e n1 n2=>k1 _ _ e fun m=>by
  rcases zO.mp m with h|h
  ·exact aY e Y.j.ls (n1 _) h
  ·exact n2 (zz.mp h)
 have tk:TK G G1:=fun t l e=>nk e (by intro _ z;cases z) (aY e Y.j.dc);have s0:Same H0 G1:=fun c z e=>k1 _ _ (Y.s0 _ _ e) fun m=>by
  rcases zO.mp m with h|h
  ·rw[h,Y.fr W.b (.tail _ (.head _))]at e;cases e
  ·rw[zz.mp h,Y.fr W.u (.tail _ (.tail _ (.head _)))]at e;cases e
 have hg1:=nk hg (by intro _ z;cases z) (aY hg Y.j.dc);have Y1:PG a H0 G1 W none [.ref q]:=⟨N1,s0,⟨dg,hg1⟩,J1,⟨⟨dS,nk hs (by intro _ z;cases z) (aY hs Y.j.dc)⟩,nk Y.s.dc (by intro _ z;cases z) (Ne.symm Y.ud),(fun _ m=>nomatch m),.nil,.nil⟩,Y.ud,Y.fr⟩;have hB1:G1 Lb=some (.lst [.ref q']):=k1 _ _ hB fun m=>by
  rcases zO.mp m with h|h
  ·exact nb h
  ·exact aY hB Y.j.dc (by intro z;cases z) (zz.mp h)
 have x1:A2 (BxAt G1) [.ref q] [⟨0,dy b 1,AHE,rs⟩]:=.cons ⟨q,t,vs,rfl,hq,ht,xO tk hv⟩ .nil;have x2:A2 (BxAt G1) [.ref q'] [⟨0,dy b 1,AHE,rs⟩]:=gf tk (.cons hb0 .nil);refine⟨N1,ns,dg,Z.fz.sc.same s0,hb,hg1,?_,fun c c0 c1=>?_⟩
 ·exact c8 sc pn b Ad Lb _ W G1 none H0 ns n0 n1 n2 n3 as cs _ _ _ Z Y1 x1 hB1 x2 nb fl r4 (.inl rfl)
 ·have Y2:=Y1.gate (g':=some c) hg1
  have tk2:TK G1 (upd G1 W.g (cq a.bc dg (cl (some c)))):=TK.put hg1 (by intro _ z;cases z);exact c8 sc pn b Ad Lb _ W _ (some c) H0 ns n0 n1 n2 n3 as cs _ _ _ Z Y2 (gf tk2 x1) ((ai (aY hB1 hg1)).trans hB1) (gf tk2 x2) nb fl r4 (.inr ⟨c,rfl,c0,c1⟩)
include T hr in
theorem e4(k:∀H',Q (.bl true) H'):∃u,PSs (cp (XE P w) P w K mg base h_ "law" (ay cf) a.dM cdv A outer s H E) (ZU 4 (bh cf)) u/\∀sc pn b Ad (W:Wd) G H0 ns n0 n1 n2 n3 as cs,P0 K a H0 sc pn Ad W.ch b ns n0 n1 n2 n3 as cs->PG a H0 G W none [] ->
 u { nx:=fun _ H'=>Q .non H',rt:=Q } [some (.ref sc),some (.ref pn),some (.int b),some (.ref Ad),some (.ref W.ch),some (.ref W.g),some (.ref W.j),some (.ref W.s),none,none,none,none,none,none,none,none,none,none,none] G:=by
 have sz:=szl;have ND:=d4.nd;have HU:=bV hr;obtain⟨u6,hu6,c6⟩:=e6 P w base T cdv A outer s H E hr k;refine⟨_,(ae (aR 8 ND (cj (fa2 (b7 (fa3 (aM K (fv 1) aa) (bv [69,85,82]) aa)) (b7 (fa3 (aM K (fv 1) aa) (bv [69,85,82]) (qN lO aa))))))
  (ae (aR 9 ND (cj (fa1 (b7 (fa5 aa (aH (dw T) hr av (fa2 (fv 2) aa)) (bv [97,104,101,97,100]) (da (ja K) rfl T.ij fW (fa1 (fv 8))) cY)))))
  hu6)),fun sc pn b Ad W G H0 ns n0 n1 n2 n3 as cs Z Y=>?_⟩
 have hb:=Z.hb;walk_at "q";refine⟨_,_,.inl (aA (Y.s0 _ _ Z.fz.pn)),aJ (j:=0) rfl,by walk_at "o",fun q1 f1=>?_⟩;refine bW (br (o:=HO.tup [L2.T n0,L2.T EUR,V.int 5]) f1 Y.nT rfl) fun G1 e1 s1 g1 N1=>?_;unfold EUR at e1;rw[e1];refine⟨_,_,.inl (aA (s1 _ _ (Y.s0 _ _ Z.fz.pn))),aJ (j:=1) rfl,by walk_at "o",fun q2 f2=>?_⟩;refine bW (br (o:=HO.tup [L2.T n1,L2.T EUR,V.int (-5)]) f2 N1 rfl) fun G2 e2 s2 g2 N2=>?_;unfold EUR at e2;rw[e2];refine⟨by walk_at "o",fun pr fr=>?_⟩;refine bW (br (o:=HO.lst [V.ref q1,V.ref q2]) fr N2 rfl) fun G3 e3 s3 g3 N3=>?_;rw[e3];refine⟨N3,⟨hb.1,by lia⟩,_,.inl ⟨aA g3,fun t ft=>⟨by walk_at "o",fun q fq=>?_⟩⟩⟩;refine bW (br (o:=HO.tup [V.ref q1,V.ref q2]) ft N3 rfl) fun G4 e4 s4 g4 N4=>?_;rw[e4]at fq |-
 refine bW (br (o:=HO.tup [V.int 0,V.int (dy b 1),L2.T AHE,V.ref t,V.non]) fq N4 rfl) fun G5 e5 s5 g5 N5=>?_;unfold AHE at e5;rw[e5];refine⟨by walk_at "o",fun Lb fL=>?_⟩;refine bW (br (o:=HO.lst [V.ref q]) fL N5 rfl) fun G6 e6 s6 g6 N6=>?_;rw[e6];have s46:=(s4.trans s5).trans s6;have s26:=s3.trans s46;have s0:=((s1.trans s2).trans s26);have rws:A2 (RwAt G6) [.ref q1,.ref q2] [⟨n0,EUR,5⟩,⟨n1,EUR,-5⟩]:=.cons ⟨q1,rfl,(s2.trans s26) _ _ g1⟩ (.cons ⟨q2,rfl,s26 _ _ g2⟩ .nil);have s05:=(((s1.trans s2).trans s3).trans s4).trans s5;exact c6 sc pn b Ad Lb W G6 H0 ns n0 n1 n2 n3 as cs pr _ _ q Z (Y.same s0 N6) (s46 _ _ g3) rws (Nat.le_of_ble_eq_true rfl) g6 ⟨q,t,_,rfl,s6 _ _ g5,(s5.trans s6) _ _ g4,rws⟩ (fun z=>by rw[z,s05 _ _ Y.j.ls]at fL;cases fL) (Y.s0.free (s05.free fL))
end
def sp_law(K:W.Frag):Sp:=sp1 fun x H Q _=>asR x fun p=>NoT H/\∃ns:List Int,SqL K H p (ns.map V.int)/\ns.length<=63/\∀H',Q (.bl true) H'
theorem HI(T:Txt K mg a){fd:FuncData}(FL:Fun K "law" "law" cf a.dM fd):ig P w K mg base (XE P w) 16 a.dM fd ["_law_script"] (sp_law K):=by
 refine FL.okX d4 (fun vs H Q E h=>sp1.len h) (fun cdv A outer s H vs Q E hr h=>?_);obtain⟨x0,rfl,h⟩:=sp1.inv h
 try dsimp only[sp_law,sp1]at h
 have ND:=d4.nd;have HU:=bV hr;refine gb (aE h) fun sc yy1 hN yz=>gb yz fun ns hS hl k=>?_;subst yy1;have sz:=szl;obtain⟨u4,hu4,c4⟩:=e4 P w base T cdv A outer s H E hr k;have c2:∃u,PSs (cp (XE P w) P w K mg base h_ "law" (ay cf) a.dM cdv A outer s H E) (ZU 2 (bh cf)) u/\∀pn b n0 n1 n2 n3 G,Same H G->NoT G->G pn=some (.lst [L2.T n0,L2.T n1,L2.T n2,L2.T n3])->Nms [n0,n1,n2,n3]->(0<=b/\b<=4799) ->
  u { nx:=fun _ H'=>Q .non H',rt:=Q } [some (.ref sc),some (.ref pn),some (.int b),none,none,none,none,none,none,none,none,none,none,none,none,none,none,none,none] G:=by
  refine⟨_,(ae (aR 3 ND (aH (mL T) hr av (fa3 (fv 0) (fv 1) (fv 2))))
   (ae (mJ (b7 (fa4 (aH (qv T) hr av (fa1 (fv 3))) (sT T.E0 (mD T) hr.mono rfl T.HE av) (sT T.xX (jy T) hr.mono rfl T.zL av) (sT T.vv (i5 T) hr.mono rfl T.xG av))) (gC K (n:=4) rfl (a_ (aK (i:=4) ND rfl (Or.inl rfl)) (a_ (aK (i:=5) ND rfl (Or.inl rfl)) (a_ (aK (i:=6) ND rfl (Or.inl rfl)) (a_ (aK (i:=7) ND rfl (Or.inl rfl)) eL))))))
   hu4)),fun pn b n0 n1 n2 n3 G sG nG gp N hb=>?_⟩
  walk_at "q";refine⟨nG,ns,n0,n1,n2,n3,hS.same sG,gp,N,hb,fun d as G1 hA hd hls fd s1 N1=>?_⟩;walk_at "q";refine⟨N1,as,AsO.of N hA,hd,hls,fun ch cd cs G2 J cr al fch fcd fob s2 N2=>?_⟩;have s12:=s1.trans s2;have Z:P0 K a G2 sc pn d ch b ns n0 n1 n2 n3 as cs:=⟨⟨hS.same (sG.trans s12),s12 _ _ gp,N⟩,hb,s2 _ _ hd,fun x m=>s2 _ _ (hls x m),⟨cd,J⟩,⟨AsO.of N hA,J.np,cr,al⟩⟩;intro g dg hg hdg ng;refine⟨dg,af,?_⟩;have s3:Same G2 (upd (upd (upd G2 dg (.own g)) g (.ins a.bc dg [])) g (cq a.bc dg .non)):=fun c z e=>eE hg hdg (Keep.refl.put (.head _)) c z e zJ;have g3:upd (upd (upd G2 dg (.own g)) g (.ins a.bc dg [])) g (cq a.bc dg .non) g=some (cq a.bc dg .non):=af;have N3:NoT (upd (upd (upd G2 dg (.own g)) g (.ins a.bc dg [])) g (cq a.bc dg .non)):=aq (aq (aq N2 rfl) rfl) rfl;generalize upd (upd (upd G2 dg (.own g)) g (.ins a.bc dg [])) g (cq a.bc dg .non)=G3 at s3 g3 N3;intro j dj hj hdj nj;refine⟨aq (aq N3 rfl) rfl,dj,af,fun bl u G4 fb fu J4 k4 N4=>?_⟩;have s4:Same G3 G4:=fun c z e=>eE hj hdj k4 c z e zJ;intro st dS hst hdS nst;refine⟨aq (aq N4 rfl) rfl,dS,af,fun ds G5 fds S5 k5 N5=>?_⟩;have s5:Same G4 G5:=fun c z e=>eE hst hdS k5 c z e zJ;have fds':=cU fds;refine⟨by walk_at "o",fun p fp=>?_⟩;refine bW (br (o:=HO.tup [V.ref ch,V.ref g,V.ref j,V.ref st]) fp N5 rfl) fun G6 e6 s6 g6 N6=>?_;rw[e6];have s46:=s5.trans s6;have s36:=s4.trans s46;refine⟨p,_,rfl,bR g6,rfl,_,_,rfl,_,_,rfl,_,_,rfl,_,_,rfl,rfl,?_⟩;walk_at "q";refine c4 sc pn b d ⟨ch,g,j,bl,u,st,ds⟩ G6 G2 ns n0 n1 n2 n3 as cs Z ⟨N6,s3.trans s36,⟨dg,s36 _ _ g3⟩,J4.keep (S:=[]) (bL s46) zJ zJ zJ,S5.same s6,fun z=>?_,fun c m=>?_⟩
  ·have:=J4.dc
   rw[show u=ds from z,fds']at this;cases this
  ·simp only[zO,zJ,or_false]at m
   rcases m with rfl|rfl|rfl|rfl
   ·exact hg
   ·exact s3.free (cU fb)
   ·exact s3.free (cU fu)
   ·exact(s3.trans s4).free fds'
 obtain⟨u2,hu2,c2⟩:=c2;refine⟨_,(ae (v8 (i0:=1) ND rfl (Or.inl rfl) rfl (cl:=_) (x:="_law_k") (xs:=["_law_k"]) (fr:=["_law_script"]) (ks:=[0]) (by walk_at "c") rfl (eF rfl T.eK (fa1 aa)) (fun _ _ _ _ _=>(aK (i:=0) (eC (l:=["_law_k","_law_script"]) (by decide)) rfl (Or.inl rfl))) (fun _ _ _ _ _=>eO) (fun _ _ _ _ _=>(aH (nI T) hr oS (fa2 (aH (bq T) hr oS (fa2 (fv 1) aa)) (fv 0)))))
  (ae (aR 2 ND (au bi (aH (bq T) hr av (fa2 (fv 0) aa)) aa))
  hu2)),?_⟩
 walk_at "q";refine cmR (fun G=>NoT G/\SqL K G sc (ns.map V.int)) (fun D ys hD=>⟨aq hN rfl,hS.same (aj _ hD)⟩) 4 (fun _=>true) (fun i=>.str ⟨⟨NB (ns.getD (Yc 0) 0) i⟩⟩) (fun R r=>?_) (by lia) (fun j hj H R _ r=>r) (fun j hj _ G R hG r=>?_) (fun D hD=>?_)
 ·walk_at "q"
  exact r
 ·walk_at "q"
  exact⟨ns,hG.2,hG.1,⟨by lia,by lia⟩,r⟩
 ·walk_at "q"
  generalize ns.getD (Yc 0) 0=c;refine⟨ns,hS.same (aj _ hD),c2 D _ (NB c (0:Nat)) (NB c (1:Nat)) (NB c (2:Nat)) (NB c (3:Nat)) _ (aj _ hD) (aq hN rfl) af ⟨rfl,fun l m=>?_,?_⟩ (by lia)⟩
  ·rcases z_ m with rfl|rfl|rfl|rfl
   ·exact zq (by decide) (by decide)
   ·exact zq (by decide) (by decide)
   ·exact zq (by decide) (by decide)
   ·exact zq (by decide) (by decide)
  ·have ne:∀i j:Nat,i<=3->j<=3->i≠j->NB c i≠NB c j:=fun i j h1 h2 n e=>n (by have:=Hc (by lia) (by lia) (by lia) (by lia) e;lia)
   simp only[Zi,zO,zJ,or_false,not_or,List.nodup_nil,and_true,not_false_eq_true];exact⟨⟨ne 0 1 (by decide) (by decide) (by decide),ne 0 2 (by decide) (by decide) (by decide),ne 0 3 (by decide) (by decide) (by decide)⟩,⟨ne 1 2 (by decide) (by decide) (by decide),ne 1 3 (by decide) (by decide) (by decide)⟩,ne 2 3 (by decide) (by decide) (by decide)⟩
theorem law_starts{H:Hp}{p:Addr}{ns:List Int}(hO:An H)(hS:SqL K H p (ns.map V.int))(hl:ns.length<=63):sp_law K [.ref p] H (fun v _=>v = .bl true) fun _ _ _=>False:=⟨C1 hO,ns,hS,hl,fun _=>rfl⟩
end
noncomputable abbrev Lj(x q:Str)(s:Stmt)(kV dc pm:Value)(an:Option Addr)(cd ct:Value):FuncData:=YX x q (iD s) (bh s) (ay s) .none kV dc pm an cd ct
section
variable{K:W.Frag}{h:Heap}{mg:Str->Option Value}{x qual:Str}{st:Stmt}{f g C:Addr}{oc:Value}{od an:Option Addr}{osl:Array (Option Value)}{kV doc pm cdv ct:Value}{cl:ClassData}
theorem nf_of(X:K.In h)(G:h.Ns ZL mg)(a:PySem.W.nsIn K ZL x=some (some (.ref f)))(l:K.lookup f=some ⟨oc,od,.func (Lj x x st kV doc pm an cdv ct),osl⟩)(c:PySem.W.codeIn K cdv x=true)(k:Z4 K (.ref f)=true):DfN K mg x st:=⟨_,_,PySem.W.mg_of X G a,xQ l c k⟩
theorem mf_of(a:Zu K (.ref C) x=some (some (.ref f)))(i:PySem.W.isFn K (.ref f)=true)(l:K.lookup f=some ⟨oc,od,.func (Lj x qual st kV doc pm an cdv ct),osl⟩)(c:PySem.W.codeIn K cdv qual=true)(k:Z4 K (.ref f)=true):DfM K C x qual st:=⟨_,_,⟨a,i,k⟩,xQ l c k⟩
theorem exI_of(a:Zu K (.ref C) "__init__" = some (some (.ref g)))(q:jU K C g=true)(f:Addr)(b:Zu K (.ref C) "__init__" = some (some (.ref f))):jU K C f=true:=by rw[a]at b;cases b;exact q
theorem exc_of(u:Zu K (.ref C) "__getattribute__" = some (some (.builtin "BaseException.__getattribute__")))(w:Zu K (.ref C) "__getattr__" = some none)(y:Zu K (.ref C) "__class__" = some (some (.builtin "object.__class__")))(o:PySem.W.clsIn K C=some cl)(g:Z1 K C (.type "object")=some true)(b:Z1 K C (.type "BaseException")=some true):dt K C:=⟨u,w,y,(by rw[o];rfl),g,b⟩
theorem cst_of{its:Array Value}{n:Nat}{vs:List V}{d:Option Addr}{sl:Array (Option Value)}(l:K.lookup f=some ⟨.type "tuple",d,.seq its n,sl⟩)(z:its.size<=sizeLine)(v:Vals vs its.toList):∃(o:Obj) (its:Array Value) (n:Nat),K.lookup f=some o/\o.cls = .type "tuple" /\ o.data = .seq its n/\its.size<=sizeLine/\Vals vs its.toList:=⟨_,_,_,l,rfl,rfl,z,v⟩
theorem fin_of{l:PySem.W.OpenLaw}{w:World}{fa:Addr}{a:Adr}(hfa:mg "law" = some (.ref fa))(T:Txt K mg a)(e:mg "law" = some (.ref a.dM)):∃fd:FuncData,(∀(s:Shared) (v:Value),BindsTo s fd ⟨[v],[]⟩ [("_law_script",v)])/\∀base:Heap,K.In base->base.Ns ZL mg->ig l.prog w K mg base (XE l.prog w) 16 fa fd ["_law_script"] (sp_law K):=by
 cases hfa.symm.trans e;obtain⟨fd,F⟩:=T.Ku;refine⟨fd,fun s v=>?_,fun base _ _=>HI T F⟩;obtain⟨oc,od,kV,doc,pm,an,cdv,ct,osl,e,lk,hcd⟩:=F.ex;rw[e];exact .of_eq rfl
end
end K28
open PySem PySem.W PyProof.Rows
theorem PySem.Challenge.cw_evenhall_k28_whole_run_goes_through_once_holds : PySem.Challenge.rw_evenhall_k28_whole_run_goes_through_once.Holds := by
 w_on
 refine PySem.W.holds_law K28.ws fun said=>?_;refine PySem.W.holds_open (q:=K28.vw) (loose:=[]) (Xt:=fun s=>PySem.W.xlAt K28.vw [] s&&PySem.W.recOk (PySem.W.RowW.records (PySem.W.OpenRow.toRowW (PySem.W.OpenLaw.row Qj))) s) (XP:=PySem.W.XL K28.vw []) (Yf:=PySem.W.Hook.obs (YB K28.frag K28.adrs K28.adrs_eq)) (Ya:=PySem.W.Hook.val (YB K28.frag K28.adrs K28.adrs_eq)) (YP:=PySem.W.Hook.says (YB K28.frag K28.adrs K28.adrs_eq)) (N:=17374) K28.left (PySem.W.Hook.of (YB K28.frag K28.adrs K28.adrs_eq)) (PySem.W.Hook.keeps (YB K28.frag K28.adrs K28.adrs_eq))
  (fun s e=>PySem.W.xl_of s (Bool.and_eq_true_iff.mp e).1) PySem.W.XL.keeps (by rfl) (by rfl) (by rfl) (fun s e=>PySem.W.recFacts_of (Bool.and_eq_true_iff.mp e).2) (by rfl) (by assumption) (by decide +kernel) ⟨rfl,rfl,rfl,rfl,rfl,by decide +kernel⟩ ?hw ?hc
 (case hw=>w_witness2)
 k_fill
 refine L2.Bb (l:=Qj) (n:=63) (k:=16) (x:="_law_script") (sp:=K28.sp_law) rfl (by decide) rfl ⟨rfl,by decide,by decide⟩ (fun w h Y=>PySem.W.kIn_of Y) ?F ?S
 case F=>
  intro w mg fa h KX G hmg;refine' K28.fin_of (a:=⟨1048,31,51,70,89,108,127,146,165,184,203,222,241,260,279,305,324,343,362,381,600,696,745,801,860,935,417,569⟩) hmg ?T (PySem.W.mg_of KX G (by k_is))
  case T=>
  constructor
  all_goals try dsimp only
  all_goals first|exact PySem.W.mg_of KX G (by k_is)|exact PySem.W.mg_none_of KX G (by k_is)|exact K28.nf_of KX G (by k_is) (by k_is) (by k_is) (by k_is)|exact K28.mf_of (by k_is) (by k_is) (by k_is) (by k_is) (by k_is)|exact⟨_,L2.xQ (by k_is) (by k_is) (by k_is)⟩|exact⟨by k_is,by k_is,by k_is,by k_is⟩|(unfold L2.NoAttr;k_is)|exact⟨by k_is,by k_is⟩|(unfold K28.zzX;k_exc)|exact K28.exc_of (by k_is) (by k_is) (by k_is) (by k_is) (by k_is) (by k_is)|exact L2.zD (by k_is) (by k_is) (by k_is) (by k_is)|exact L2.zt (by k_is)|exact L2.zP (by k_is) (by k_is) (by k_is) (by k_is)|exact K28.exI_of (by k_is) (by kernel_rfl)|exact⟨by k_is,by kernel_rfl,by k_is,by k_is⟩|exact K28.cst_of (by k_is) (by show _<=sizeLine;decide) (by repeat first|exact .nil|refine .cons ⟨_,rfl⟩ ?_)
 case S=>exact fun K H a ns hl hO hS=>K28.law_starts hO hS hl
