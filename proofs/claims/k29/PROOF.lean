import PyProof.Rows.All
import KE.KUnpack
import PyProof.DictTruth
import PyProof.DictWalks
import PyProof.Rows.SortKeyStr
import KE.KItem
import KE.KTupSum
import KE.KEqDict
import KE.KFromBytes
import KE.KIntText
import KE.KRevIter
import KE.KDictOf
import KE.LcSums
import KE.KDictSum
import KE.KTryMore
import OpenK.KLine
import OpenK.KOwn
import Wide.Line
import Wide.FinOn
import PyProof.MaxThree
import KE.KSortTup
import KE.KPairComp
import KE.KListMore
import PyProof.ZipIter
import Lean
import PySem.Challenge.RW_evenhall_k29_orders_in_lines
set_option genInjectivity false
set_option genSizeOf false
set_option Elab.async false
set_option linter.all false
set_option maxRecDepth 100000
set_option maxHeartbeats 0
open PySem.Challenge renaming pw_evenhall_k29_orders_in_lines -> jQ, rw_evenhall_k29_orders_in_lines -> jJ
open And renaming intro -> xp
open Array renaming length_toList -> YR
open Bool renaming false_ne_true -> vy, and_eq_true -> mx, eq_iff_iff -> ZO
open False renaming elim -> qT
open Int renaming emod_lt_of_pos -> vb, toNat_natCast -> qa, emod_nonneg -> qX, ofNat -> Ym
open List renaming length_append -> zx, mem_cons -> zv, length_map -> yV, size_toArray -> xV, length_cons -> xR, mem_cons_of_mem -> xM, mem_of_mem_drop -> vv, mem_append -> vY, take_of_length_le -> vL, length_drop -> vJ, mem_append_right -> uj, mem_singleton -> uH, map_cons -> rS, range -> rL, length_take -> r0, mem_append_left -> qQ, mem_of_mem_take -> oX, not_mem_nil -> oO, mem_of_getElem? -> oH, replicate -> nY, cons_append -> nN, map_append -> ms, length -> mF, mem_map -> kJ, length_range -> iZ, length_eq_zero_iff -> Zy, all_eq_true -> Zt, filter_eq_self -> Zs, append_assoc -> Zp, drop -> Zn, dropLast_concat_getLast -> Zg, getElem_mem -> Ze, drop_of_length_le -> Za, cons_ne_nil -> ZX, mem_cons_self -> ZV, take_append_of_le_length -> ZS, map_map -> ZM, sum_cons -> ZJ, map_drop -> ZI, mem_range -> ZE, drop_eq_getElem_cons -> ZB, append_nil -> Z3, length_zipWith -> Z9, drop_succ_cons -> Yz, nodup_cons -> Yr, forIn_cons -> Yq, foldl_cons -> Yp, map_take -> Yj, take_succ -> Ye, drop_zero -> Yd, map_nil -> YX, any_eq_true -> YV, getElem_of_mem -> YS, length_nil -> YM, mem_filterMap -> YI, filter_cons_of_neg -> YH
open Nat renaming le_refl -> xi, le_trans -> wx, zero_le -> uG, lt_of_lt_of_le -> rz, ne_of_lt -> o6, lt_irrefl -> Zv, le_add_right -> Zu, le_of_lt -> Zh, min_eq_right -> Yx, min_eq_left -> Ys, lt_or_ge -> YY, not_lt -> YK
open Option renaming map_eq_some_iff -> fS, eq_none_or_eq_some -> ZY, map -> Z6, getD_some -> YW
open Option.some renaming inj -> wj
open PyProof.Rows renaming callWith_type1 -> Zo
open PySem renaming wpAny_bind -> zz, wpAny_pure -> xJ, sizeLine_eq -> wz, wpAny_mono -> tu, compareOp -> pU, wpAny_field -> oi, bootBuiltins -> kc, wpAny_setField_rec -> Zx, wpAny_truthy_bool -> Zq, mainGlobals -> Zm, wpAny_seqItems -> Zl, wpAny_newObj_type -> Zi, mem_of_lookup -> ZZ, wpAny_standAt -> ZU, foldedSetIterable -> ZR, typeIs_str -> ZQ, behindInMarks -> ZL, wpAny_call_entry -> ZH, call_meets -> ZG, wpAny_Call_Name_kw -> ZD, DictEntry -> Z0, wpAny_passesOwn -> Z2, wpAny_holding -> Z7, wpAny_getItem_str_slice -> Yw, wpAny_execs_nil -> Yu, importedModules -> Yt, noteFrame -> Yo, Str -> Yn, wpAny_updateSeq_pair -> Yc, bltViewBooted -> YT, wpAny_onRaise -> YQ, letOwnedTupleGo -> YN, assignEach -> YL, wpAny_pyIter_tuple -> YJ
open PySem.Builtin.List renaming listTooLong -> YO
open PySem.Builtin.Range renaming rangeSize -> YG
open PySem.Builtin.Slice renaming slicePlaces -> ZA, sliceAdjust -> YU
open PySem.Builtin.SmallTypes renaming nextOf -> o8, ownedTupleHandOut -> Zj
open PySem.Builtin.Str renaming subAt -> Z5, strSliceIndices -> Yg
open PySem.Builtin.Tuple renaming tupleExact -> Z8
open PySem.Calls renaming spliced_cons -> Zf, evalArgs_plain -> Yb
open PySem.F renaming plainAttrs_str -> xn, type_str_join -> qC, slot_str_join -> pV, plainAttrs_list -> mw, type_str_split -> mK, slot_str_split -> mG, type_list_append -> lh, slot_list_append -> lI, slot_zip_next -> ZP, slot_tuple_iterator_next -> ZC, type_str_startswith -> Yi, slot_str_startswith -> Yh
open PySem.Heap renaming lt_size -> xQ, size_push -> jw
open PySem.NumText renaming digitsVal -> Yv
open PySem.Obj renaming isFreed_of_fields -> Zr, data_mapFields -> ZW
open PySem.Str renaming ofString -> ka, length -> Zk
open PySem.Value renaming ref -> qr, none -> Zz, str -> YZ
open PySem.W renaming kitOne -> nK, kia_one -> Zw, exmOne -> Zd, boot_heap -> Zc, mroIn -> ZK, keepIn -> ZF, fnOf -> Z4, findIn -> Yy, kHook -> Yl, excIn -> Yk
open PySem.W.OpenLaw renaming row -> ZN
open PySem.W.OpenRow renaming toRowW -> Zb
open PySem.W.RowW renaming records -> ZT
namespace L2
open PySem
noncomputable def eP(s:Stmt):Arguments:=match s with
 | .FunctionDef _ a _ _ _ _ _ _ _ _=>a
 |_=>{ posonlyargs:=[],args:=[],vararg:=none,kwonlyargs:=[],kw_defaults:=[],kwarg:=none,defaults:=[] }
noncomputable def aQ(s:Stmt):List Stmt:=match s with
 | .FunctionDef _ _ b _ _ _ _ _ _ _=>b
 |_=>[]
noncomputable def au(s:Stmt):Scope:=match s with
 | .FunctionDef _ _ _ _ _ _ sc _ _ _=>sc
 |_=>{ kind:=.function,names:=[],isGenerator:=false,isCoroutine:=false }
end L2
namespace K29
open PySem L2
noncomputable def top(i:Nat):Stmt:=jQ.main.body.getD i (.Pass ⟨0,0,0,0⟩)
noncomputable abbrev bT:Stmt:=top 40
noncomputable abbrev bH:Stmt:=top 64
noncomputable abbrev bi:Stmt:=top 74
noncomputable abbrev jC:Stmt:=top 78
end K29
namespace TR
open PySem PySem.W PyProof PyProof.Rows
noncomputable def go(p:Program)(w:World)(lo:Nat)(an:Option Value):Nat->SharedT->Thread->Option SharedT
 |0,_,_=>none
 |k+1,x,th=>match through th with
  |true=>some x
  |false=>match stepOk lo an th with
   |false=>none
   |true=>match stepT (denote treeTable) p w x th with
    |none=>none
    |some y=>go p w lo an k y.1 y.2
theorem k_{p:Program}{w:World}{lo:Nat}{an:Option Value}(k:Nat):∀ {x y:SharedT} {th:Thread},go p w lo an k x th=some y->topRun treeTable p w lo an k x.abs th=some y.abs:=by
 induction k with
 |zero=>intro x y th e;cases e
 |succ k ih=>
  intro x y th e;unfold go at e;unfold topRun
  revert e
  cases through th with
  |true=>intro e;cases e;rfl
  |false=>
   cases stepOk lo an th with
   |false=>intro e;cases e
   |true=>
    dsimp only;cases z:stepT (denote treeTable) p w x th with
    |none=>intro e;cases e
    |some v=>
     intro e;obtain⟨v1,v2⟩:=v;rw[stepT_spec z];exact ih e
noncomputable def lookB(p:Program)(b:Heap)(s:Shared):Bool:=staticsOk (Yt p.main.body) b s.heap&&namesBound p s.heap&&gensDone s&&laidKept b s.heap
noncomputable def look(p:Program)(P:Params)(s:Shared):Bool:=lookB p (boot_heap P) s
theorem left{p q:Program}{ls:List Str}{Xt:Shared->Bool}{β:Type}{Yf:Shared->β}{Ya:World->β}{N lo:Nat}{an:Option Value}{tr:Params->BT}
 (ho:∀w:World,(fencedOpening treeTable p w N).map (fun s=>(s.heap,s.gens,s.drawn,s.toks))=some (boot_heap w.params,Array.mk [],boot_drawn,boot_toks))
 (hz:∀P:Params,((boot_heap P).isNs Zm,(boot_heap P).objs.size,(boot_heap P).nsMap Zm "__annotations__")=(true,lo,an))
 (ht:∀P:Params,absHeap (tr P) lo (boot_heap P).life=boot_heap P)
 (hr:∀w:World,(fun os=>(go p w lo an N ⟨tr w.params,lo,(boot_heap w.params).life,Array.mk [],boot_drawn,boot_toks,os⟩ (topStub p)).map fun x=>(look p w.params x.abs,openSeen q ls (Yt p.main.body) Xt true x.abs,Yf x.abs))=fun _=>some (true,openGood q ls,Ya w)) :
 LeftO p q ls Xt Yf Ya N:=by
 intro w;obtain⟨⟨h,g,d,k,os⟩,e1,e2⟩:=fS.mp (ho w);simp only[Prod.mk.injEq]at e2;obtain⟨rfl,rfl,rfl,rfl⟩:=e2;have z:=hz w.params;simp only[Prod.mk.injEq]at z;obtain⟨z1,z2,z3⟩:=z;obtain⟨x,r1,r2⟩:=fS.mp (congrFun (hr w) os);simp only[Prod.mk.injEq]at r2;obtain⟨l1,l2,l3⟩:=r2;have t:=k_ _ r1;have ab:SharedT.abs ⟨tr w.params,lo,(boot_heap w.params).life,Array.mk [],boot_drawn,boot_toks,os⟩=⟨boot_heap w.params,Array.mk [],boot_drawn,boot_toks,os⟩:=by
  show Shared.mk (absHeap (tr w.params) lo (boot_heap w.params).life) _ _ _ _=_;rw[ht]
 rw[ab]at t;have f:topFrom treeTable p w N ⟨boot_heap w.params,Array.mk [],boot_drawn,boot_toks,os⟩=some x.abs:=by
  unfold topFrom;dsimp only;rw[z1,z2,z3,t];show(match look p w.params x.abs with|true=>some x.abs|false=>none)=_;rw[l1]
 unfold openEnds;rw[e1];show(topFrom treeTable p w N _).map _=_;rw[f];show some (_,_)=_;rw[l2,l3]
noncomputable def s1(q:Program)(s:Shared):=seen ((recsOf q).map (·.name)) (ownsOf q) [] { s with gens:=#[] }
noncomputable def s2(p q:Program)(c:WRecords)(s:Shared):=(s.heap.bltView,s.heap.keysOk (looseW q []) ((recsOf q).map (·.name)) ((litsOf q).map (·.1)) ((clssOf q (looseW q [])).map (·.name))&&s.heap.accountedOkI (Yt p.main.body)&&s.heap.isNs Zm&&s.heap.isNs builtinsNs&&tablesOk q s.heap&&(xlAt q [] s&&recOk c s)&&(s.gens.size==0),tabsOk q s)
noncomputable def s3(q:Program)(s:Shared):=(pinSeenD q (drecsOf q) s,plainSeenE q (looseW q []) s,plainSeenD q [] s,wideSeen q s,clsSeenW q [] s)
noncomputable def d3(q:Program):=(pinGoodD (drecsOf q),plainGoodE q (looseW q []),plainGoodD q [],wideGood q,clsGoodW q [])
theorem EL{p q:Program}{c:WRecords}{o:Option SharedT}(e1:o.map (fun x=>s1 q x.abs)=some (expectedOf q))(e2:o.map (fun x=>s2 p q c x.abs)=some (bltViewBooted,true,true))(e3:o.map (fun x=>s3 q x.abs)=some (d3 q)):o.map (fun x=>openSeen q [] (Yt p.main.body) (fun s=>xlAt q [] s&&recOk c s) true x.abs)=some (openGood q []):=by
 cases o with
 |none=>cases e1
 |some x=>
  have f1:s1 q x.abs=_:=wj e1;have f2:s2 p q c x.abs=_:=wj e2;have f3:s3 q x.abs=_:=wj e3;show some (s1 q x.abs,(s2 p q c x.abs).1,(s2 p q c x.abs).2.1,(s2 p q c x.abs).2.2,s3 q x.abs)=_;rw[f1,f2,f3];rfl
theorem three{α β γ δ:Type}{o:Option α}{f:α->β}{g:α->γ}{h:α->δ}{a:β}{b:γ}{c:δ}(e1:o.map f=some a)(e2:o.map g=some b)(e3:o.map h=some c):o.map (fun x=>(f x,g x,h x))=some (a,b,c):=by
 cases o with
 |none=>cases e1
 |some x=>cases e1;cases e2;cases e3;rfl
noncomputable def atT(x:SharedT)(a:Nat):Option Obj:=match Nat.blt a x.n with
 |true=>match x.tree.get a with
  |some o=>alive o
  |none=>none
 |false=>none
theorem CB{x:SharedT}{a:Nat}{o:Obj}(h:atT x a=some o):x.abs.heap.get? a=some o:=by
 revert h;unfold atT
 cases b:Nat.blt a x.n with
 |false=>intro h;cases h
 |true=>
  dsimp only;cases g:x.tree.get a with
  |none=>intro h;cases h
  |some o'=>intro h;exact(abs_get (Nat.le_of_ble_eq_true b) g).trans h
theorem atTs{β:Type}{o:Option SharedT}{l:List Nat}{fr:List (β × Obj)}(e:o.map (fun x=>l.map (atT x))=some (fr.map fun p=>some p.2)):o.map (fun x=>l.map x.abs.heap.get?)=some (fr.map fun p=>some p.2):=by
 cases o with
 |none=>cases e
 |some x=>
  have f:l.map (atT x)=_:=wj e;refine congrArg some (?_:l.map x.abs.heap.get? = _);clear e
  induction l generalizing fr with
  |nil=>cases fr with
   |nil=>rfl
   |cons y ys=>cases f
  |cons a l ih=>cases fr with
   |nil=>cases f
   |cons y ys=>
    injection f with f1 f2
    exact(congrArg (· :: _) (CB f1)).trans (congrArg (_ :: ·) (ih f2))
noncomputable def s2L(p q:Program)(ls:List Str)(c:WRecords)(s:Shared):=(s.heap.bltView,s.heap.keysOk (looseW q ls) ((recsOf q).map (·.name)) ((litsOf q).map (·.1)) ((clssOf q (looseW q ls)).map (·.name))&&s.heap.accountedOkI (Yt p.main.body)&&s.heap.isNs Zm&&s.heap.isNs builtinsNs&&tablesOk q s.heap&&(xlAt q [] s&&recOk c s)&&(s.gens.size==0),tabsOk q s)
noncomputable def s3L(q:Program)(ls:List Str)(s:Shared):=(pinSeenD q (drecsOf q) s,plainSeenE q (looseW q ls) s,plainSeenD q ls s,wideSeen q s,clsSeenW q ls s)
noncomputable def d3L(q:Program)(ls:List Str):=(pinGoodD (drecsOf q),plainGoodE q (looseW q ls),plainGoodD q ls,wideGood q,clsGoodW q ls)
theorem seen3L{p q:Program}{ls:List Str}{c:WRecords}{o:Option SharedT}(e1:o.map (fun x=>s1 q x.abs)=some (expectedOf q))(e2:o.map (fun x=>s2L p q ls c x.abs)=some (bltViewBooted,true,true))(e3:o.map (fun x=>s3L q ls x.abs)=some (d3L q ls)):o.map (fun x=>openSeen q ls (Yt p.main.body) (fun s=>xlAt q [] s&&recOk c s) true x.abs)=some (openGood q ls):=by
 cases o with
 |none=>cases e1
 |some x=>
  have f1:s1 q x.abs=_:=wj e1;have f2:s2L p q ls c x.abs=_:=wj e2;have f3:s3L q ls x.abs=_:=wj e3;show some (s1 q x.abs,(s2L p q ls c x.abs).1,(s2L p q ls c x.abs).2.1,(s2L p q ls c x.abs).2.2,s3L q ls x.abs)=_;rw[f1,f2,f3];rfl
end TR
namespace K29
open PySem L2
noncomputable abbrev kS(s:String):Str:=ka s
noncomputable abbrev kR(a:Addr):Value:=.ref a
noncomputable abbrev kY(s:String):Value:=.type s
noncomputable abbrev kB(s:String):Value:=.builtin s
noncomputable abbrev kZ(s:Str)(t:Tok):Value:=.str s t
noncomputable abbrev kN:Value:=.none
noncomputable abbrev kD(h:Int)(k v:Value):Z0:=⟨h,k,v⟩
noncomputable abbrev kO(c:Value)(d:Option Addr)(t:Data)(s:Array (Option Value)):Obj:=⟨c,d,t,s⟩
noncomputable abbrev keyHash:=PyData.keyHash
noncomputable abbrev kE(P:Params)(s:String)(t:Tok)(v:Value):Z0:=⟨keyHash P (kS s),kZ (kS s) t,v⟩
noncomputable abbrev kI(i:Int)(t:Tok):Value:=.int i t
noncomputable abbrev kz(s:String)(t:Tok):Value:=kZ (kS s) t
noncomputable abbrev kC(t:Tok):Value:=kz "/claim/cut.py" t
noncomputable abbrev kT(x:Array Value):Obj:=kO (kY "tuple") none (.seq x 0) #[]
noncomputable abbrev kU:Value:=.bool true
noncomputable def frP:Nat->List Str->List Value
 |_,[]=>[]
 |t,s::r=>kZ s t::frP (t+1) r
noncomputable def frL(s:Stmt):List Str:=(au s).names.filterMap fun p=>match p.2 with | .local=>some p.1|_=>none
noncomputable def frM(P:Params):List (String × Nat × Nat)->List Z0->List Z0
 | [],r=>r
 |(s,t,a)::l,r=>kE P s t (kR a)::frM P l r
noncomputable abbrev frQ(n q:String)(t l g a m:Nat):Obj:=kO (kY "code") none (Data.fields #[kz n t,kz q (t+1),kC (t+2),kI (Ym l) 0,kI (Ym g) 0,kI 0 0,kI 0 0,kI 3 0,kR a,kU,kI 181 0,kR (a+1),kN,kR (a+2),kR (a+3),kR (a+4),kI (Ym m) 0,kI (Ym l) 0,kC (m+1)]) #[]
noncomputable abbrev frG(n q:String)(t l g a:Nat):Obj:=kO (kY "code") none (Data.fields #[kz n t,kz q (t+1),kC (t+2),kI (Ym l) 0,kI (Ym g) 0,kI 0 0,kI 0 0,kI 3 0,kR a,kU,kI 181 0,kR (a+1),kN,kN,kN,kR (a+2),kI (Ym (t+3)) 0,kI (Ym l) 0,kC (t+4)]) #[]
noncomputable abbrev frZ(m:String)(k:Nat)(n q:String)(s:Stmt)(r:Nat):Obj:=kO (kY "function") none (Data.func (Z4 (kS n) (kS q) (eP s) (aQ s) (au s) kN kN kN (kz m k) none (kR r) kN)) #[]
noncomputable def frA(a:Nat)(n q:String)(t l g h:Nat)(ps:List Str)(o:Obj)(r:W.Frag):W.Frag:=(a,kT #[])::(a+2,kT (frP (t+3) ps).toArray)::(a+3,kT #[])::(a+5,frQ n q t l g a (t+h+3))::(a+6,o)::r
noncomputable def frB(Z:String->String->Stmt->Nat->Obj)(a:Nat)(n q:String)(s:Stmt)(t l g h:Nat)(r:W.Frag):W.Frag:=frA a n q t l g h (frL s) (Z n q s (a+5)) r
noncomputable def frC(Z:String->String->Stmt->Nat->Obj)(a:Nat)(n:String)(s:Stmt)(t l g h:Nat)(r:W.Frag):W.Frag:=frB Z a n n s t l g h r
noncomputable def frD(Z:String->String->Stmt->Nat->Obj)(a:Nat)(n q:String)(s:Stmt)(t l g:Nat)(r:W.Frag):W.Frag:=(a,kT #[])::(a+3,frG n q t l g a)::(a+4,Z n q s (a+3))::r
noncomputable abbrev frW(q:String)(l m i c r:Nat):Obj:=kO (kY "function") none (Data.func (FuncData.mk (kS "small_words") (kS q) (Arguments.mk [] [(Arg.mk (kS "self") none (Pos.mk l 20 l 24))] none [] [] none []) (FuncBody.stmts [(Stmt.Expr (Expr.Call (Expr.Name (kS "_wall") (Pos.mk m 8 m 13)) [(Expr.Constant (Const.int (Ym i)) 0 (Pos.mk m 14 m c))] [] (Pos.mk m 8 m (c+1))) (Pos.mk m 8 m (c+1)))]) (Scope.mk ScopeKind.function [((kS "self"),NameKind.local),((kS "_wall"),NameKind.globalImplicit)] false false []) 3 [] kN kN kN (kz "evenhall.errors" 194) none (kR r) kN 0)) #[]
noncomputable abbrev frE(P:Params)(e l f g:Nat):Obj:=kO (kY "dict") none (Data.dict #[kE P "__module__" (e+7) (kz "evenhall.errors" 194),kE P "__firstlineno__" (e+11) (kI (Ym l) (e+10)),kE P "small_words" (e+18) (kR f),kE P "__static_attributes__" (e+19) (kR g),kE P "__doc__" (e+20) kN] 2) #[]
noncomputable abbrev frT(x:String)(b c d e:Nat):Obj:=kO (kY "type") none (Data.cls (ClassData.mk (kS x) [kR 31] [kR b,kR 31,kY "ValueError",kY "Exception",kY "BaseException",kY "object"] c (kS x) true [] [] false none false)) #[some (kR d),none,some (kz x e),some (kz x (e+8)),some (kB "ValueError.__new__"),some kU]
noncomputable def frX(P:Params)(a:Nat)(x q:String)(e l i c:Nat)(r:W.Frag):W.Frag:=(a,kT #[kR 31])::frA (a+7) "small_words" q (e+12) (l+2) 1 1 [kS "self"] (frW q (l+2) (l+3) i c (a+12)) ((a+14,kT #[])::(a+15,frE P e l (a+13) (a+14))::(a+16,frT x (a+16) (a+15) a e)::r)
noncomputable abbrev qJ:=frZ "evenhall.words" 306
noncomputable abbrev pI:=frZ "evenhall.days" 370
noncomputable abbrev dI:=frZ "evenhall.orders" 450
noncomputable abbrev dw:=frZ "law_evenhall_k29_orders_in_lines" 761
noncomputable def Ad(P:Params):W.Frag:=
(2,(kO kN none (Data.dict #[] 0) #[]))::
(3,(kO (kY "dict") none (Data.dict ((kE P "__name__" 165 (kz "law_evenhall_k29_orders_in_lines" 761))::(kE P "__doc__" 166 kN)::(kE P "__package__" 167 kN)::(kE P "__loader__" 168 (kB "__main__.__loader__#opaque"))::(kE P "__spec__" 169 kN)::(kE P "__annotations__" 170 (kR 6))::(kE P "__builtins__" 171 (kR 4))::(kE P "__file__" 173 (kC 172))::(kE P "__cached__" 174 kN)::frM P [("_wall",193,21),("HouseError",213,31),("BadNote",236,51),("BadDay",259,70),("BadRow",282,89),("BadOrder",305,108),("is_whole",314,117),("is_among",323,124),("signs_lie",329,129),("is_note",336,136),("figures_of",345,143),("number_text",352,150),("number_in",361,157),("number_of",369,164),("LENGTHS",384,165),("leap_days",391,172),("first_day",401,179),("last_day",408,186),("month_of",416,193),("day_at",427,200),("parts_of",435,207),("day_text",441,212),("day_of",449,219),("FORMS",544,220),("month_text",551,248),("read_word",558,255),("read_currency",565,262),("read_keeper",572,269),("read_shelf",579,276),("read_number",587,283),("read_day",594,290),("read_month",601,297),("read_weights",607,302),("read_rows",613,307),("read_note",621,314),("READERS",642,315),("pieces_of",653,322),("order_of",667,329),("write_word",674,336),("write_currency",681,343),("write_keeper",688,350),("write_weights",694,355),("write_row",701,362),("write_rows",707,367),("write_note",714,374),("write_number",721,381),("write_day",728,388),("WRITERS",749,389),("line_of",760,396),("_law_at",770,403),("_law_words",777,410),("_law_form",785,417),("_law_signs",792,424),("_law_mixed",800,431),("_law_text",806,436),("_law_note",812,441),("_law_number",821,448),("_law_rows",833,455),("_law_part",839,460),("_law_order",845,465),("_law_part_text",851,470),("_law_line",861,477),("_law_bent",877,484),("_law_read_number",883,489),("_law_read_day",889,494),("_law_read_text",895,499),("_law_read_part",901,504),("_law_read_rows",913,511),("_law_read_parts",925,518),("_law_read",931,523),("_law_told",939,530),("_law_kinds",945,535),("_law_is_read",954,542),("law",966,549)] ([])).toArray 83) #[]))::
frA 15 "_wall" "_wall" 187 1 1 1 [kS "k"] (kO (kY "function") none (Data.func (FuncData.mk (kS "_wall") (kS "_wall") (Arguments.mk [] [(Arg.mk (kS "k") none (Pos.mk 1 10 1 11))] none [] [] none []) (FuncBody.stmts [(Stmt.While (Expr.Constant (Const.bool true) 0 (Pos.mk 2 10 2 14)) [(Stmt.Pass (Pos.mk 3 8 3 12))] [] (Pos.mk 2 4 3 12))]) (Scope.mk ScopeKind.function [((kS "k"),NameKind.local)] false false []) 3 [] kN kN kN (kz "__main__" 164) none (kR 20) kN 0)) #[]) (
(22,(kT #[(kY "ValueError")]))::
(29,(kT #[]))::
(30,(kO (kY "dict") none (Data.dict ((kE P "__module__" 203 (kz "evenhall.errors" 194))::(kE P "__firstlineno__" 207 (kI 5 206))::(kE P "__static_attributes__" 208 (kR 29))::(kE P "__weakref__" 210 (kR 32))::(kE P "__doc__" 211 kN)::[]).toArray 3) #[]))::
(31,(kO (kY "type") none (Data.cls (ClassData.mk (kS "HouseError") [(kY "ValueError")] [(kR 31),(kY "ValueError"),(kY "Exception"),(kY "BaseException"),(kY "object")] 30 (kS "HouseError") true [] [(kR 51),(kR 70),(kR 89),(kR 108)] false none false)) #[(some (kR 22)),none,(some (kz "HouseError" 196)),(some (kz "HouseError" 204)),(some (kB "ValueError.__new__")),(some kU)]))::
(32,(kO (kY "getset_descriptor") none (Data.fields #[(kz "__weakref__" 209),(kR 31),(kB "ExceptionGroup.__weakref__"),kN]) #[]))::
frX P 35 "BadNote" "BadNote.small_words" 214 7 0 15 (
frX P 54 "BadDay" "BadDay.small_words" 237 11 1 15 (
frX P 73 "BadRow" "BadRow.small_words" 260 15 2 15 (
frX P 92 "BadOrder" "BadOrder.small_words" 283 19 3 15 (
frC qJ 111 "is_whole" (top 8) 308 24 1 1 (
frC qJ 118 "is_among" (top 9) 315 26 3 3 (
frD qJ 125 "signs_lie" "signs_lie" (top 10) 324 28 3 (
frC qJ 130 "is_note" (top 11) 330 30 1 1 (
frC qJ 137 "figures_of" (top 12) 337 36 1 3 (
frC qJ 144 "number_text" (top 13) 346 44 1 1 (
frC qJ 151 "number_in" (top 14) 353 48 1 3 (
frC qJ 158 "number_of" (top 15) 362 56 1 2 (
(165,(kT #[(kI 31 372),(kI 28 373),(kI 31 374),(kI 30 375),(kI 31 376),(kI 30 377),(kI 31 378),(kI 31 379),(kI 30 380),(kI 31 381),(kI 30 382),(kI 31 383)]))::
frC pI 166 "leap_days" (top 18) 385 64 1 1 (
frC pI 173 "first_day" (top 19) 392 66 1 4 (
frC pI 180 "last_day" (top 20) 402 71 1 1 (
frC pI 187 "month_of" (top 21) 409 73 1 2 (
frC pI 194 "day_at" (top 22) 417 80 3 5 (
frC pI 201 "parts_of" (top 23) 428 87 1 2 (
frD pI 208 "day_text" "day_text" (top 24) 436 90 1 (
frC pI 213 "day_of" (top 25) 442 92 1 2 (
(220,(kO (kY "dict") none (Data.dict (frM P [("top",452,221),("add",456,222),("shut",461,223),("quote",465,224),("book",472,225),("undo",477,226),("close",482,227),("budget",486,228),("standing",495,229),("drop",503,230),("run",507,231),("accounts",510,232),("report",512,233),("balances",516,234),("statement",519,235),("months",525,236),("worth",531,237),("left",535,239),("over",538,240),("seals",540,241)] ([])).toArray 20) #[]))::
(221,(kT #[(kz "word" 453),(kz "word" 454)]))::
(222,(kT #[(kz "word" 457),(kz "currency" 458),(kz "day" 459)]))::
(223,(kT #[(kz "word" 462),(kz "day" 463)]))::
(224,(kT #[(kz "day" 466),(kz "word" 467),(kz "number" 468),(kz "word" 469),(kz "number" 470)]))::
(225,(kT #[(kz "day" 473),(kz "rows" 474),(kz "note" 475)]))::
(226,(kT #[(kz "number" 478),(kz "day" 479),(kz "note" 480)]))::
(227,(kT #[(kz "month" 483),(kz "keeper" 484)]))::
(228,(kT #[(kz "word" 487),(kz "word" 488),(kz "word" 489),(kz "month" 490),(kz "month" 491),(kz "number" 492),(kz "weights" 493)]))::
(229,(kT #[(kz "word" 496),(kz "day" 497),(kz "number" 498),(kz "number" 499),(kz "rows" 500),(kz "note" 501)]))::
(230,(kT #[(kz "shelf" 504),(kz "word" 505)]))::
(231,(kT #[(kz "day" 508)]))::
(232,(kT #[]))::
(233,(kT #[(kz "day" 513),(kz "day" 514)]))::
(234,(kT #[(kz "day" 517)]))::
(235,(kT #[(kz "word" 520),(kz "word" 521),(kz "day" 522),(kz "day" 523)]))::
(236,(kT #[(kz "word" 526),(kz "word" 527),(kz "month" 528),(kz "month" 529)]))::
(237,(kT #[(kz "word" 532),(kz "day" 533)]))::
(239,(kT #[(kz "word" 536),(kz "month" 537)]))::
(240,(kT #[(kz "month" 539)]))::
(241,(kT #[]))::
frC dI 242 "month_text" (top 28) 545 100 1 1 (
frC dI 249 "read_word" (top 29) 552 102 1 1 (
frC dI 256 "read_currency" (top 30) 559 106 1 1 (
frC dI 263 "read_keeper" (top 31) 566 108 1 1 (
frC dI 270 "read_shelf" (top 32) 573 110 1 1 (
frC dI 277 "read_number" (top 33) 580 114 1 2 (
frC dI 284 "read_day" (top 34) 588 119 1 1 (
frC dI 291 "read_month" (top 35) 595 124 1 1 (
frD dI 298 "read_weights" "read_weights" (top 36) 602 126 1 (
frD dI 303 "read_rows" "read_rows" (top 37) 608 128 1 (
frC dI 308 "read_note" (top 38) 614 133 1 2 (
(315,(kO (kY "dict") none (Data.dict (frM P [("word",622,255),("currency",623,262),("keeper",624,269),("shelf",625,276),("number",626,283),("day",627,290),("month",628,297),("weights",629,302),("rows",630,307),("note",631,314)] ([])).toArray 10) #[]))::
frC dI 316 "pieces_of" bT 643 141 2 5 (
frC dI 323 "order_of" (top 41) 654 150 1 8 (
frC dI 330 "write_word" (top 42) 668 165 1 1 (
frC dI 337 "write_currency" (top 43) 675 167 1 1 (
frC dI 344 "write_keeper" (top 44) 682 169 1 1 (
frD dI 351 "write_weights" "write_weights" (top 45) 689 171 1 (
frC dI 356 "write_row" (top 46) 695 173 1 1 (
frD dI 363 "write_rows" "write_rows" (top 47) 702 175 1 (
frC dI 368 "write_note" (top 48) 708 177 1 1 (
frC dI 375 "write_number" (top 49) 715 179 1 1 (
frC dI 382 "write_day" (top 50) 722 181 1 1 (
(389,(kO (kY "dict") none (Data.dict (frM P [("word",729,336),("currency",730,343),("keeper",731,350),("shelf",732,336),("number",733,381),("day",734,388),("month",735,248),("weights",736,355),("rows",737,367),("note",738,374)] ([])).toArray 10) #[]))::
frC dI 390 "line_of" (top 52) 750 184 1 5 (
frC dw 397 "_law_at" (top 54) 763 191 2 2 (
frC dw 404 "_law_words" (top 55) 771 195 0 1 (
frC dw 411 "_law_form" (top 56) 778 198 1 2 (
frC dw 418 "_law_signs" (top 57) 786 204 0 1 (
frC dw 425 "_law_mixed" (top 58) 793 207 2 2 (
frD dw 432 "_law_text" "_law_text" (top 59) 801 209 1 (
frD dw 437 "_law_note" "_law_note" (top 60) 807 213 1 (
frC dw 442 "_law_number" (top 61) 813 220 2 3 (
frC dw 449 "_law_rows" (top 62) 822 225 2 6 (
frD dw 456 "_law_part" "_law_part" (top 63) 834 232 3 (
frD dw 461 "_law_order" "_law_order" bH 840 250 1 (
frD dw 466 "_law_part_text" "_law_part_text" (top 65) 846 259 2 (
frC dw 471 "_law_line" (top 66) 852 273 1 4 (
frC dw 478 "_law_bent" (top 67) 862 283 3 10 (
frD dw 485 "_law_read_number" "_law_read_number" (top 68) 878 310 1 (
frD dw 490 "_law_read_day" "_law_read_day" (top 69) 884 317 1 (
frD dw 495 "_law_read_text" "_law_read_text" (top 70) 890 328 1 (
frD dw 500 "_law_read_part" "_law_read_part" (top 71) 896 332 2 (
frC dw 505 "_law_read_rows" (top 72) 902 346 1 6 (
frC dw 512 "_law_read_parts" (top 73) 914 358 2 6 (
frD dw 519 "_law_read" "_law_read" bi 926 373 1 (
frC dw 524 "_law_told" (top 75) 932 398 1 2 (
frD dw 531 "_law_kinds" "_law_kinds" (top 76) 940 407 2 (
frC dw 536 "_law_is_read" (top 77) 946 417 1 3 (
frC dw 543 "law" jC 955 423 1 6 ( [])))))))))))))))))))))))))))))))))))))))))))))))))))))))))))))))))))))
noncomputable def frag(P:Params):W.Frag:=by
 refine(fun(x:W.Frag) (_:x=Ad P)=>x) ?l ?h
 case h=>
  dsimp only[Ad,frB,frC,frD,frA,frX,frP,frM,Nat.reduceAdd];dsimp only[OfNat.ofNat,instOfNatNat];exact rfl
noncomputable def adrs:List Addr:=(frag { strHash:=fun _=>0,shareClass:=fun _=>0,mergeTok:=id,idOf:=fun _=>0,idOfShared:=fun _ _=>0,followText:=fun _=>true,idOfImm:=fun _=>0 }).map (·.1)
theorem adrs_eq(P:Params):adrs=(frag P).map (·.1):=by kernel_rfl
noncomputable def lss:List Str:=["FORMS","READERS","WRITERS"]
noncomputable def vw:Program:=PySem.W.view jQ [0,2,3,4,5,6,8,9,10,11,12,13,14,15,17,18,19,20,21,22,23,24,25,27,28,29,30,31,32,33,34,35,36,37,38,39,40,41,42,43,44,45,46,47,48,49,50,51,52,54,55,56,57,58,59,60,61,62,63,64,65,66,67,68,69,70,71,72,73,74,75,76,77,78]
open PySem.W in
noncomputable def tree0(P:Params):BT:=(.node (boot_o_0 P) (.node (boot_o_1 P) (.node (boot_o_3 P) (.node (boot_o_7 P) .nil .nil) .nil) (.node (boot_o_5 P) (.node (boot_o_9 P) .nil .nil) .nil)) (.node (boot_o_2 P) (.node (boot_o_4 P) (.node (boot_o_8 P) .nil .nil) .nil) (.node (boot_o_6 P) (.node (boot_o_10 P) .nil .nil) .nil)))
open PySem.W PyProof.Rows in
noncomputable def ran(p:Program)(t:BT)(b:Heap)(w:World)(os:OsState):Option SharedT:=TR.go p w 11 (some (.ref 6)) 7886 ⟨t,11,b.life,Array.mk [],boot_drawn,boot_toks,os⟩ (topStub p)
theorem zy{α β γ:Type}{o:Option α}{f:α->β}{g:α->γ}{a:β}{b:γ}(e:o.map (fun x=>(f x,g x))=some (a,b)):o.map f=some a:=by
 cases o with
 |none=>cases e
 |some x=>cases e;rfl
theorem xE{α β γ:Type}{o:Option α}{f:α->β}{g:α->γ}{a:β}{b:γ}(e:o.map (fun x=>(f x,g x))=some (a,b)):o.map g=some b:=by
 cases o with
 |none=>cases e
 |some x=>cases e;rfl
theorem byF{C:World->Prop}(ht:(w:World)->C (w.withFollow "special-get-raises" true))(hf:(w:World)->C (w.withFollow "special-get-raises" false))(w:World):C w:=by
 rw[<- PySem.World.withFollow_self w "special-get-raises"];cases w.params.followText "special-get-raises" with
 |true=>exact ht w
 |false=>exact hf w
noncomputable def runP(p v:Program)(t:PySem.W.BT)(b:Heap)(l:List Addr)(w:World)(os:OsState):=(ran p t b w os).map fun x=>(TR.lookB p b x.abs,((TR.s1 v x.abs,TR.s3L v lss x.abs),l.map (TR.atT x)))
noncomputable def runQ(p v:Program)(c:PySem.W.WRecords)(t:PySem.W.BT)(b:Heap)(w:World)(os:OsState):=(ran p t b w os).map fun x=>TR.s2L p v lss c x.abs
open PyProof PyProof.Rows PySem.W in
noncomputable def goodP(v:Program)(r:List (Option Obj))(_:OsState):=some (true,((expectedOf v,TR.d3L v lss),r))
lay_quick K29.runP
lay_quick K29.runQ
lay_quick K29.goodP
theorem gPt(u:World):PySem.W.Fast.tw16592146717828320787 jQ vw (tree0 (u.withFollow "special-get-raises" true).params) (Zc (u.withFollow "special-get-raises" true).params) adrs (u.withFollow "special-get-raises" true)=PySem.W.Fast.tw605755159293302637 vw ((frag (u.withFollow "special-get-raises" true).params).map fun p=>some p.2):=by kernel_rfl
theorem gPf(u:World):PySem.W.Fast.tw16592146717828320787 jQ vw (tree0 (u.withFollow "special-get-raises" false).params) (Zc (u.withFollow "special-get-raises" false).params) adrs (u.withFollow "special-get-raises" false)=PySem.W.Fast.tw605755159293302637 vw ((frag (u.withFollow "special-get-raises" false).params).map fun p=>some p.2):=by kernel_rfl
theorem gP(w:World):PySem.W.Fast.tw16592146717828320787 jQ vw (tree0 w.params) (Zc w.params) adrs w=PySem.W.Fast.tw605755159293302637 vw ((frag w.params).map fun p=>some p.2):=byF (C:=fun w=>PySem.W.Fast.tw16592146717828320787 jQ vw (tree0 w.params) (Zc w.params) adrs w=PySem.W.Fast.tw605755159293302637 vw ((frag w.params).map fun p=>some p.2)) gPt gPf w
open PyProof PyProof.Rows in
theorem gQt(u:World):PySem.W.Fast.tw1100608669274187920 jQ vw (ZT (Zb (ZN jJ))) (tree0 (u.withFollow "special-get-raises" true).params) (Zc (u.withFollow "special-get-raises" true).params) (u.withFollow "special-get-raises" true)=fun _=>some (YT,true,true):=by kernel_rfl
open PyProof PyProof.Rows in
theorem gQf(u:World):PySem.W.Fast.tw1100608669274187920 jQ vw (ZT (Zb (ZN jJ))) (tree0 (u.withFollow "special-get-raises" false).params) (Zc (u.withFollow "special-get-raises" false).params) (u.withFollow "special-get-raises" false)=fun _=>some (YT,true,true):=by kernel_rfl
open PyProof PyProof.Rows in
theorem gQ(w:World):PySem.W.Fast.tw1100608669274187920 jQ vw (ZT (Zb (ZN jJ))) (tree0 w.params) (Zc w.params) w=fun _=>some (YT,true,true):=byF (C:=fun w=>PySem.W.Fast.tw1100608669274187920 jQ vw (ZT (Zb (ZN jJ))) (tree0 w.params) (Zc w.params) w=fun _=>some (YT,true,true)) gQt gQf w
theorem left:PySem.W.LeftO jQ vw lss (fun s=>PySem.W.xlAt vw [] s&&PySem.W.recOk (ZT (Zb (ZN jJ))) s) (Yl frag adrs adrs_eq).obs (Yl frag adrs adrs_eq).val 7886:=
 TR.left (lo:=11) (an:=some (.ref 6)) (tr:=tree0) (PySem.W.boot_open (by kernel_rfl) (by decide) (fun s=>by kernel_rfl)) (fun P=>by kernel_rfl) (fun P=>by kernel_rfl) fun w=>funext fun os=>
  have a:=congrFun ((congrFun (congrFun (congrFun (congrFun (congrFun (congrFun PySem.W.Fast.te16592146717828320787 _) _) _) _) _) w).trans ((gP w).trans (congrFun (congrFun PySem.W.Fast.te605755159293302637 _) _).symm)) os;have b:=congrFun ((congrFun (congrFun (congrFun (congrFun (congrFun (congrFun PySem.W.Fast.te1100608669274187920 _) _) _) _) _) w).trans (gQ w)) os
  TR.three (zy a) (TR.seen3L (zy (zy (xE a))) b (xE (zy (xE a)))) (TR.atTs (xE (xE a)))
noncomputable def wsaid(l:PySem.W.OpenLaw):Bool:=PySem.W.OpenLaw.wellSaid l
lay_quick K29.wsaid
theorem ws:wsaid jJ=true:=(congrFun PySem.W.Fast.te5738924106642230189 _).trans (by kernel_rfl)
end K29
namespace L2
open PySem PySem.Spec PyProof.Rows
abbrev Key:=Sum Int Str
noncomputable def m4:Key->Value->Bool
 | .inl k,v=>Value.isInt k v
 | .inr x,v=>Value.isStrOf x v
noncomputable def Ew(w:World):Key->Int
 | .inl k=>hashInt k
 | .inr x=>hashStr w x
theorem bF:∀ {k:Key} {v:Value},m4 k v=true->(∃i t,k=Sum.inl i/\v=Value.int i t)\/(∃x t,k=Sum.inr x/\v=YZ x t)
 | .inl i,v,h=>by
  obtain⟨t,e⟩:=Value.isInt_shape (k:=i) (v:=v) h;exact .inl ⟨i,t,rfl,e⟩
 | .inr x,v,h=>by
  obtain⟨t,e⟩:=Value.isStrOf_shape (x:=x) (v:=v) h;exact .inr ⟨x,t,rfl,e⟩
theorem vA(i:Int)(t:Tok):m4 (.inl i) (.int i t)=true:=by simp[m4,Value.isInt]
theorem vd(x:Str)(t:Tok):m4 (.inr x) (.str x t)=true:=by simp[m4,Value.isStrOf]
theorem AU(a b:Int):decide ((Sum.inl a:Key)=Sum.inl b)=(a==b):=by
 by_cases e:a=b
 ·subst e;simp
 ·have h:¬ (Sum.inl a:Key)=Sum.inl b:=fun q=>e (Sum.inl.inj q)
  rw[decide_eq_false h];exact(beq_eq_false_iff_ne.mpr e).symm
theorem BV(a b:Str):decide ((Sum.inr a:Key)=Sum.inr b)=decide (a=b):=by
 by_cases e:a=b
 ·subst e;simp
 ·have h:¬ (Sum.inr a:Key)=Sum.inr b:=fun q=>e (Sum.inr.inj q)
  rw[decide_eq_false h,decide_eq_false e]
theorem AX(a:Int)(b:Str):decide ((Sum.inl a:Key)=Sum.inr b)=false:=decide_eq_false (fun q=>nomatch q)
theorem BE(a:Str)(b:Int):decide ((Sum.inr a:Key)=Sum.inl b)=false:=decide_eq_false (fun q=>nomatch q)
noncomputable def di(prog:Program)(w:World):PySem.KeyKind prog w Key where
 is:=m4
 hash:=Ew w
 inj:=fun v a b ha hb=>by
  rcases bF ha with ⟨i,t,rfl,rfl⟩|⟨x,t,rfl,rfl⟩
  ·rcases bF hb with ⟨j,u,rfl,e⟩|⟨y,u,rfl,e⟩
   ·injection e with e1 _;rw[e1]
   ·exact nomatch e
  ·rcases bF hb with ⟨j,u,rfl,e⟩|⟨y,u,rfl,e⟩
   ·exact nomatch e
   ·injection e with e1 _;rw[e1]
 byValue:=fun k v h=>by
  rcases bF h with ⟨i,t,rfl,rfl⟩|⟨x,t,rfl,rfl⟩ <;> rfl
 pyHash:=fun hv h=>by
  rcases bF hv with ⟨i,t,rfl,rfl⟩|⟨x,t,rfl,rfl⟩
  ·exact wpAny_pyHash_int h
  ·exact wpAny_pyHash_str h
 eqBool:=fun hu hv h=>by
  rcases bF hu with ⟨i,t,rfl,rfl⟩|⟨x,t,rfl,rfl⟩
  ·rcases bF hv with ⟨j,u,rfl,rfl⟩|⟨y,u,rfl,rfl⟩
   ·rw[AU]at h;exact wpAny_eqBool_int h
   ·rw[AX]at h;exact SeqAt.EqAt.int_str i t y u _ _ _ _ h
  ·rcases bF hv with ⟨j,u,rfl,rfl⟩|⟨y,u,rfl,rfl⟩
   ·rw[BE]at h;exact SeqAt.EqAt.str_int x t j u _ _ _ _ h
   ·rw[BV]at h;exact wpAny_eqBool_str h
 «strs»:=fun k x t v h=>by
  rcases bF h with ⟨i,u,rfl,e⟩|⟨y,u,rfl,e⟩
  ·exact nomatch e
  ·injection e with e1 _
   subst e1;cases v <;> rfl
theorem qg(prog:Program)(w:World)(i:Int)(t:Tok):(di prog w).is (.inl i) (.int i t)=true:=vA i t
theorem fJ(prog:Program)(w:World)(x:Str)(t:Tok):(di prog w).is (.inr x) (.str x t)=true:=vd x t
set_option genInjectivity true in
inductive V where
 |non|bl (b:Bool)|int (i:Int)|str (x:Str)|byt (b:Array UInt8)|flt (b:UInt64)|ref (a:Addr)|ty (n:String)
 deriving DecidableEq
def RelV:V->Value->Prop
 | .non,u=>u=Zz
 | .bl b,u=>u=Value.bool b
 | .int i,u=>∃t,u=Value.int i t
 | .str x,u=>∃t,u=YZ x t
 | .byt b,u=>∃t,u=Value.bytes b t
 | .flt b,u=>∃t,u=Value.float b t
 | .ref a,u=>u=qr a
 | .ty n,u=>u=Value.type n
abbrev Vals:List V->List Value->Prop:=Paired RelV
theorem Vals.length{xs:List V}{us:List Value}(r:Vals xs us):xs.length=us.length:=Paired.length r
theorem Vals.get:∀ {xs:List V} {us:List Value} {i:Nat} {x:V},Vals xs us->xs[i]? = some x->∃u,us[i]? = some u/\RelV x u
 |_,_,_,_,.nil,e=>by simp at e
 |_,_,0,_,.cons r _,e=>by simp at e;subst e;exact⟨_,rfl,r⟩
 |_,_,i+1,x,.cons _ t,e=>by
  obtain⟨u,h1,h2⟩:=Vals.get (i:=i) (x:=x) t (by simpa using e);exact⟨u,by simpa using h1,h2⟩
theorem Vals.set{x:V}{u:Value}(r:RelV x u):∀ {xs:List V} {us:List Value} (i:Nat),Vals xs us->Vals (xs.set i x) (us.set i u)
 |_,_,_,.nil=>.nil
 |_,_,0,.cons _ t=>.cons r t
 |_,_,i+1,.cons q t=>.cons q (Vals.set r i t)
theorem Vals.append:∀ {xs ys:List V} {us ws:List Value},Vals xs us->Vals ys ws->Vals (xs++ys) (us++ws)
 |_,_,_,_,.nil,s=>s
 |_,_,_,_,.cons r t,s=>.cons r (Vals.append t s)
theorem Vals.take:∀ {xs:List V} {us:List Value} (n:Nat),Vals xs us->Vals (xs.take n) (us.take n)
 |_,_,0,_=>.nil
 |_,_,_+1,.nil=>.nil
 |_,_,n+1,.cons r t=>.cons r (Vals.take n t)
theorem Vals.drop:∀ {xs:List V} {us:List Value} (n:Nat),Vals xs us->Vals (xs.drop n) (us.drop n)
 |_,_,0,r=>r
 |_,_,_+1,.nil=>.nil
 |_,_,n+1,.cons _ t=>Vals.drop n t
def BD:Option V->Option Value->Prop
 |some v,some u=>RelV v u
 |none,none=>True
 |_,_=>False
def KV{κ:Type}:List (κ × V)->List (κ × Value)->Prop:=Paired fun(p:κ × V) (q:κ × Value)=>p.1=q.1/\RelV p.2 q.2
noncomputable def kV:Key->V
 | .inl i=>.int i
 | .inr x=>.str x
set_option genInjectivity true in
inductive HO where
 |lst (xs:List V)
 |tup (xs:List V)
 |dK (kvs:List (Key × V))|dT (kvs:List (List Key × V))
 |set (S:Int->Bool) (n:Nat)
 |ins (C dx:Addr) (fs:List (Str × V))
 |own (x:Addr)
 |xd (fs:List (Str × V))
 |met (f x:Addr)
 |rng (lo hi:Int)
 |frz (o:Obj) (u:HO)
 |tbl (ps:Array Value)
 |ext (φ:Heap->Prop)
abbrev Hp:=Addr->Option HO
noncomputable def upd(H:Hp)(a:Addr)(o:HO):Hp:=fun b=>if b=a then some o else H b
theorem ad:upd H a o a=some o:=by unfold upd;rw[if_pos rfl]
theorem aw(h:b≠a):upd H a o b=H b:=by unfold upd;rw[if_neg h]
theorem ur:upd (upd H a o) a u=upd H a u:=by
 funext b;unfold upd;split <;> rfl
theorem aq{H:Hp}{a b:Addr}{o:HO}(h:H a=some o)(h':H b=none):a≠b:=by
 intro e;subst e;rw[h]at h';cases h'
section
variable(P:Program)(w:World)
def ObjOk(H:Hp)(h:Heap)(a:Addr):HO->Prop
 | .lst xs=>xs.length<=sizeLine/\∃(its:List Value) (n:Nat),Vals xs its/\h.get? a=some { cls:=.type "list",data:=.seq its.toArray n }
 | .tup xs=>xs.length<=sizeLine/\∃its:List Value,Vals xs its/\IsTup h a its.toArray
 | .dK kvs=>kvs.length<=sizeLine/\(a==sysModules)=false/\∃vs,KV kvs vs/\h.DictOf (di P w) a vs
 | .dT kvs=>kvs.length<=sizeLine/\(a==sysModules)=false/\∃xs:List (List Key × Addr × Value),
  Paired (fun(p:List Key × V) (q:List Key × Addr × Value)=>p.1=q.1/\H q.2.1=some (.tup (p.1.map kV))/\RelV p.2 q.2.2) kvs xs /\
  ∃o es ep,h.get? a=some o/\o.ExactDict/\o.data = .dict es ep/\es.toList=xs.map (entryOfKey (tupleKind (di P w)))/\(xs.map (·.1)).Nodup
 | .set S n=>h.SetOf (intKind P w) a S n
 | .ins C dx fs=>H dx=some (.own a)/\fs.length<=1000/\dx≠a/\h.get? a=some (PySem.W.instObj C dx) /\
  ∃mA,h.Ns1 dx mA/\(∀f,BD (fs.lookup f) (mA f))/\PySem.Within mA (fs.map (·.1))
 | .own _=>∃o,h.get? a=some o
 | .xd fs=>∃mA,h.Ns1 a mA/\∀f,BD (fs.lookup f) (mA f)
 | .rng lo hi=>∃t u v,h.get? a=some { cls:=.type "range",data:=.fields #[.int lo t,.int hi u,.int 1 v] }
 | .frz o u=>h.get? a=some o/\ObjOk H h a u
 | .tbl ps=>h.get? a=some { cls:=.none,data:=.fields ps }
 | .met f x=>h.get? a=some (PySem.W.methodObj (.ref f) (.ref x))
 | .ext φ=>φ h/\(∃o,h.get? a=some o)/\∀h1 h2:Heap,φ h1->(∀o,h1.get? a=some o->h2.get? a=some o)->φ h2
def HOk(H:Hp)(h:Heap):Prop:=∀a o,H a=some o->ObjOk P w H h a o
end
section
variable{P:Program}{w:World}{H H':Hp}{h h':Heap}{a:Addr}{o:HO}
theorem ObjOk.lt(x:ObjOk P w H h a o):a<h.objs.size:=by
 cases o with
 |lst xs=>obtain⟨_,_,_,_,e⟩:=x;exact xQ e
 |tup xs=>obtain⟨_,_,_,p⟩:=x;exact p.lt
 |dK kvs=>obtain⟨_,_,_,_,o,_,_,e,_⟩:=x;exact xQ e
 |dT kvs=>obtain⟨_,_,_,_,o,_,_,e,_⟩:=x;exact xQ e
 |set S n=>obtain⟨o,_,_,_,e,_⟩:=x;exact xQ e
 |ins C dx fs=>obtain⟨_,_,_,e,_⟩:=x;exact xQ e
 |own y=>obtain⟨_,e⟩:=x;exact xQ e
 |xd fs=>obtain⟨_,⟨_,_,_,e,_⟩,_⟩:=x;exact xQ e
 |rng lo hi=>obtain⟨_,_,_,e⟩:=x;exact xQ e
 |frz ob u=>obtain⟨e,_⟩:=x;exact xQ e
 |tbl ps=>exact xQ (show h.get? a=some _ from x)
 |met f y=>exact xQ (show h.get? a=some _ from x)
 |ext φ=>obtain⟨_,⟨_,e⟩,_⟩:=x;exact xQ e
theorem Paired.mapP{α β:Type}{F G:α->β->Prop}:∀ {l₁:List α} {l₂:List β},Paired F l₁ l₂->(∀a b,F a b->G a b)->Paired G l₁ l₂
 |_,_,.nil,_=>.nil
 |_,_,.cons r t,f=>.cons (f _ _ r) (Paired.mapP t f)
theorem ObjOk.stay(x:ObjOk P w H h a o)(k:∀b u,(b=a\/H b=some (.own a))->h.get? b=some u->h'.get? b=some u)
 (ho:∀b,H b=some (.own a)->H' b=some (.own a)) (ht:∀b xs,H b=some (.tup xs)->H' b=some (.tup xs)):ObjOk P w H' h' a o:=by
 induction o with
 |lst xs=>obtain⟨z,its,n,r,e⟩:=x;exact⟨z,its,n,r,k _ _ (.inl rfl) e⟩
 |tup xs=>obtain⟨z,its,r,ob,e,c⟩:=x;exact⟨z,its,r,ob,k _ _ (.inl rfl) e,c⟩
 |dK kvs=>obtain⟨z,y,vs,r,ob,es,ep,e,c⟩:=x;exact⟨z,y,vs,r,ob,es,ep,k _ _ (.inl rfl) e,c⟩
 |dT kvs=>
  obtain⟨z,y,xs,r,ob,es,ep,e,c⟩:=x;exact⟨z,y,xs,Paired.mapP r fun p q z=>⟨z.1,ht _ _ z.2.1,z.2.2⟩,ob,es,ep,k _ _ (.inl rfl) e,c⟩
 |set S n=>obtain⟨ob,es,ep,t,e,c⟩:=x;exact⟨ob,es,ep,t,k _ _ (.inl rfl) e,c⟩
 |ins C dx fs=>
  obtain⟨d,z,ne,e,mA,⟨od,es,ep,e2,c⟩,r⟩:=x;exact⟨ho _ d,z,ne,k _ _ (.inl rfl) e,mA,⟨od,es,ep,k _ _ (.inr d) e2,c⟩,r⟩
 |own y=>obtain⟨ob,e⟩:=x;exact⟨ob,k _ _ (.inl rfl) e⟩
 |xd fs=>obtain⟨mA,⟨od,es,ep,e,c⟩,r⟩:=x;exact⟨mA,⟨od,es,ep,k _ _ (.inl rfl) e,c⟩,r⟩
 |rng lo hi=>obtain⟨t,u,v,e⟩:=x;exact⟨t,u,v,k _ _ (.inl rfl) e⟩
 |frz ob u ih=>obtain⟨e,q⟩:=x;exact⟨k _ _ (.inl rfl) e,ih q⟩
 |tbl ps=>
  have e:h.get? a=some { cls:=.none,data:=.fields ps }:=x;show h'.get? a=some { cls:=.none,data:=.fields ps };exact k a _ (.inl rfl) e
 |met f y=>
  have e:h.get? a=some (PySem.W.methodObj (.ref f) (.ref y)):=x;show h'.get? a=some (PySem.W.methodObj (.ref f) (.ref y));exact k a _ (.inl rfl) e
 |ext φ=>obtain⟨p,⟨o,e⟩,st⟩:=x;exact⟨st _ _ p fun o q=>k _ _ (.inl rfl) q,⟨o,k _ _ (.inl rfl) e⟩,st⟩
theorem HOk.lt(x:HOk P w H h)(e:H a=some o):a<h.objs.size:=(x a o e).lt
theorem HOk.fresh(x:HOk P w H h)(e:h.objs.size<=a):H a=none:=by
 cases q:H a with
 |none=>rfl
 |some u=>exact absurd (rz (x.lt q) e) (Zv _)
theorem HOk.kept(x:HOk P w H h)(k:∀b u,h.get? b=some u->h'.get? b=some u):HOk P w H h':=fun a o e=>
 (x a o e).stay (fun b u _ q=>k b u q) (fun _ q=>q) fun _ _ q=>q
theorem HOk.laid(x:HOk P w H h)(k:∀b u,h.get? b=some u->h'.get? b=some u)(hp:h.objs.size<=a)(new:ObjOk P w (upd H a o) h' a o):HOk P w (upd H a o) h':=fun b u e=>by
 have hn:=x.fresh hp;by_cases hb:b=a
 ·subst hb;rw[ad]at e;cases e;exact new
 ·rw[aw hb]at e
  exact(x b u e).stay (fun c v _ q=>k c v q) (fun c q=>by rw[aw (aq q hn)];exact q) fun c xs q=>by rw[aw (aq q hn)];exact q
end
def Rd(H:Hp)(a:Addr)(u:HO):Prop:=H a=some u\/∃o,H a=some (.frz o u)
theorem Rd.ok{P:Program}{w:World}{H:Hp}{h:Heap}{a:Addr}{u:HO}(r:Rd H a u)(x:HOk P w H h):ObjOk P w H h a u:=by
 rcases r with r|⟨o,r⟩
 ·exact x a u r
 ·obtain⟨_,q⟩:=x a _ r
  exact q
def Mut:Option HO->Prop
 |some (.lst _)=>True
 |some (.dK _)=>True
 |some (.dT _)=>True
 |some (.set _ _)=>True
 |some (.ins _ _ _)=>True
 |some (.ext _)=>True
 |_=>False
section
variable{P:Program}{w:World}{H:Hp}{h h':Heap}{x e:Addr}{o':HO}
theorem HOk.write(ok:HOk P w H h)(mu:Mut (H x))(he:e=x\/H e=some (.own x))(k:∀b u,b≠e->h.get? b=some u->h'.get? b=some u)(heo:∃u,h'.get? e=some u)
 (new:ObjOk P w (upd H x o') h' x o'):HOk P w (upd H x o') h':=fun b u q=>by
 have nown:∀c y,H c=some (.own y)->c≠x:=fun c y r z=>by subst z;rw[r]at mu;exact mu
 have ntup:∀c xs,H c=some (.tup xs)->c≠x:=fun c xs r z=>by subst z;rw[r]at mu;exact mu
 by_cases hb:b=x
 ·subst hb;rw[ad]at q;cases q;exact new
 ·rw[aw hb]at q
  by_cases hbe:b=e
  ·have q':H b=some (.own x):=by
    rcases he with z|z
    ·exact absurd (hbe.trans z) hb
    ·rw[hbe];exact z
   rw[q]at q';cases q';obtain⟨v,hv⟩:=heo;exact⟨v,by rw[hbe];exact hv⟩
  ·refine(ok b u q).stay (fun c v hc r=>k c v ?_ r) (fun c r=>by rw[aw (nown c b r)];exact r) fun c xs r=>by rw[aw (ntup c xs r)];exact r
   rcases hc with rfl|hc
   ·exact hbe
   ·rintro rfl
    rcases he with z|z
    ·exact nown c b hc z
    ·rw[hc]at z;cases z;exact hb rfl
end
structure Un(fs ex:List Addr)(H H':Hp)(h h':Heap):Prop where
 keep:∀b o,h.get? b=some o->H b=none->b∉fs->b∉ex->h'.get? b=some o
 slot:∀b o,h.get? b=some o->H b=none->b∈fs->b∉ex->∃sl,h'.get? b=some { o with slots:=sl }
 free:∀b o,h.get? b=some o->H b=none->b∉ex->H' b=none
 there:∀b o,h.get? b=some o->b∉ex->∃o',h'.get? b=some o'
 tups:∀b xs,H b=some (.tup xs)->H' b=some (.tup xs)
 frzs:∀b o u,H b=some (.frz o u)->H' b=some (.frz o u)
 tbls:∀b ps,H b=some (.tbl ps)->∃more,H' b=some (.tbl (ps++more))
section
variable{fs fs' ex ex':List Addr}{H H1 H2:Hp}{h h1 h2 h':Heap}{a x e:Addr}{o:HO}
theorem Un.any(u:Un fs ex H H1 h h1){b:Addr}{ob:Obj}(q:h.get? b=some ob)(n:H b=none)(hx:b∉ex):∃sl,h1.get? b=some { ob with slots:=sl }:=by
 by_cases hb:b∈fs
 ·exact u.slot b ob q n hb hx
 ·exact⟨ob.slots,u.keep b ob q n hb hx⟩
theorem Un.kept(k:∀b u,h.get? b=some u->h'.get? b=some u):Un fs ex H H h h':=
 ⟨fun b ob q _ _ _=>k b ob q,fun b ob q _ _ _=>⟨ob.slots,k b ob q⟩,fun _ _ _ n _=>n,fun b ob q _=>⟨ob,k b ob q⟩,fun _ _ q=>q,fun _ _ _ q=>q,fun _ ps q=>⟨#[],by rw[q];simp⟩⟩
theorem Un.refl:Un fs ex H H h h:=Un.kept fun _ _ q=>q
theorem Un.laid(k:∀b u,h.get? b=some u->h'.get? b=some u)(hp:h.objs.size<=a)(hn:H a=none):Un fs ex H (upd H a o) h h' where
 keep:=fun b u q _ _ _=>k b u q
 slot:=fun b u q _ _ _=>⟨u.slots,k b u q⟩
 free:=fun b u q n _=>by rw[aw (o6 (rz (xQ q) hp))];exact n
 there:=fun b u q _=>⟨u,k b u q⟩
 tups:=fun b xs q=>by rw[aw (aq q hn)];exact q
 frzs:=fun b u xs q=>by rw[aw (aq q hn)];exact q
 tbls:=fun b ps q=>⟨#[],by rw[aw (aq q hn),q];simp⟩
theorem Un.write(mu:Mut (H x))(he:e=x\/H e=some (.own x))(k:∀b u,b≠e->h.get? b=some u->h'.get? b=some u)(heo:∃u,h'.get? e=some u):Un fs ex H (upd H x o) h h':=by
 have hx:∀b,H b=none->b≠x:=fun b n z=>by subst z;rw[n]at mu;exact mu
 have hb:∀b,H b=none->b≠e:=fun b n z=>by
  subst z;rcases he with r|r
  ·exact hx b n r
  ·rw[n]at r;cases r
 have hm:∀b u,H b=some u -> ¬ Mut (some u)->b≠x:=fun b u q nm z=>by subst z;rw[q]at mu;exact nm mu
 refine⟨fun b u q n _ _=>k b u (hb b n) q,fun b u q n _ _=>⟨u.slots,k b u (hb b n) q⟩,fun b u q n _=>by rw[aw (hx b n)];exact n,fun b u q _=>?_,
  fun b xs q=>by rw[aw (hm b _ q fun z=>z)];exact q,fun b u xs q=>by rw[aw (hm b _ q fun z=>z)];exact q,fun b ps q=>⟨#[],by rw[aw (hm b _ q fun z=>z),q];simp⟩⟩
 by_cases hbe:b=e
 ·subst hbe;exact heo
 ·exact⟨u,k b u hbe q⟩
end
noncomputable def trk(h:Heap)(H:Hp):List Addr:=(rL h.objs.size).filter fun a=>(H a).isSome
noncomputable def pB(h:Heap)(H:Hp):Heap:=PySem.W.hideAll h (trk h H)
theorem uX(h:Heap)(H:Hp):(pB h H).objs.size=h.objs.size:=PySem.W.hideAll_size _ _
theorem yg{h:Heap}(e:h.get? b=some o)(n:H b=none):(pB h H).get? b=some o:=
 PySem.W.hideAll_get _ e fun hm=>by
  have q:(H b).isSome=true:=(List.mem_filter.mp hm).2;rw[n]at q;simp at q
theorem yC{h:Heap}(e:(pB h H).get? b=some o):h.get? b=some o/\H b=none:=by
 have e':h.get? b=some o:=PySem.W.of_hideAll (trk h H) e;refine⟨e',?_⟩;cases q:H b with
 |none=>rfl
 |some x=>
  have hm:b∈trk h H:=List.mem_filter.mpr ⟨ZE.mpr (xQ e'),by simp[q]⟩;have z:(pB h H).get? b=none:=PySem.W.hideAll_none (trk h H) hm;rw[z]at e;cases e
noncomputable def y3(g h:Heap)(L:Addr):List (Addr × Obj):=(rL h.objs.size).filterMap fun a=>if a=L\/(g.get? a).isSome=true then none else (h.get? a).map fun o=>(a,o)
noncomputable def rest(g h:Heap)(L d:Addr):List (Addr × Obj):=(y3 g h L).filter fun p=>decide (p.1≠d)
structure Mod(K:W.Frag)(mg:Str->Option Value)(base:Heap):Prop where
 kin:K.In base
 glob:base.Ns Zm mg
 blt:∃mb,base.Ns builtinsNs mb/\∀x:Str,x ≠ "__name__" -> mb x=kc x
 nolimit:base.NoLimit
structure Cx where
 prog:Program
 w:World
 K:W.Frag
 mg:Str->Option Value
 base:Heap
 A:Around
 N:List Str
 s₀:Shared
 H₀:Hp
 env:Env
 outer:List Env
 stack:List Env
 ex:List Addr
 fn:Str->Bool
 calm:Bool
 pn:List (Addr × Obj)
 xe:Value->Shared->Prop
noncomputable def frs(l:List Env):List Addr:=l.filterMap (·.frame)
noncomputable abbrev Cx.fs(X:Cx):List Addr:=frs X.outer
def Vis(sc:Scope)(x:Str):Prop:=sc.names.lookup x=some .local\/sc.names.lookup x=some .cell\/sc.names.lookup x=some .free
def Loc(sc:Scope)(x:Str):Prop:=sc.names.lookup x=some .local\/sc.names.lookup x=some .cell
def EF(env:Env)(h:Heap)(m:Str->Option Value)(x:Str)(u:Value):Prop:=
 (env.kindOf x=some .local/\m x=some u)\/((env.kindOf x=some .cell\/env.kindOf x=some .free)/\∃c,env.cells.lookup x=some c/\h.IsCell c (some u))
structure Cx.Ok(X:Cx):Prop where
 mod:Mod X.K X.mg X.base
 kind:X.env.scope.kind = .function
 glob:X.env.globals=Zm
 blt:X.env.builtins=builtinsNs
 above:X.s₀.heap.objs.size<=X.env.locals
 inj:∀x y c,X.env.cells.lookup x=some c->X.env.cells.lookup y=some c->x=y
 has:∀x,(X.env.kindOf x=some .cell\/X.env.kindOf x=some .free)->∃c,X.env.cells.lookup x=some c
 cab:∀x c,X.fn x=true->X.env.cells.lookup x=some c->X.s₀.heap.objs.size<=c
 hd:X.calm=true->X.A.handled=none
 frames:X.A.frames=some X.stack
 stk:X.stack=X.outer\/(X.stack=X.env::X.outer/\X.env.frame=some X.env.locals)
 exf:∀b∈X.ex,b≠X.env.locals/\∀x c,X.env.cells.lookup x=some c->c≠b
 bs:∀b o,X.base.get? b=some o->X.s₀.heap.get? b=some o/\X.H₀ b=none
 bsz:X.base.objs.size<=X.s₀.heap.objs.size
 noex:∀b o,X.base.get? b=some o->b∉X.ex
 exfs:∀b∈X.ex,b∉X.fs
 funs:X.s₀.heap.FunFrames X.base X.outer
 frf:∀b∈X.fs,X.H₀ b=none
structure Inv(X:Cx)(pins:List (Addr × Obj))(σ:List (Option V))(H:Hp)(s:Shared):Prop where
 ok:X.Ok
 os:s.os=X.s₀.os
 bare:AllBare s.gens
 base:Un X.fs X.ex X.H₀ H X.s₀.heap s.heap
 loc:∃m,s.heap.Ns X.env.locals m/\∀(i:Nat) (x:Str) (v:V),X.N[i]? = some x->σ[i]? = some (some v)->Vis X.env.scope x->∃u,RelV v u/\EF X.env s.heap m x u
 cell:∀x c,X.env.cells.lookup x=some c->∃v,s.heap.IsCell c v
 free:H X.env.locals=none
 freeC:∀x c,X.env.cells.lookup x=some c->H c=none
 pin:∀p∈X.pn++pins,s.heap.get? p.1=some p.2/\H p.1=none/\p.1≠X.env.locals/\p.1∉X.fs/\∀v,p.2.data ≠ .cell v
 hok:HOk X.prog X.w H s.heap
 len:σ.length=X.N.length
section
variable{X:Cx}{pins:List (Addr × Obj)}{σ:List (Option V)}{H H':Hp}{s:Shared}{h':Heap}
theorem Cx.Ok.nofr(ok:X.Ok)(e:X.base.get? b=some o):b∉X.fs:=fun hb=>by
 have:=(ok.funs.mem hb).1;rw[e]at this;cases this
theorem Inv.bs(I:Inv X pins σ H s):∀b o,X.base.get? b=some o->s.heap.get? b=some o/\H b=none:=fun b o e=>
 ⟨I.base.keep b o (I.ok.bs b o e).1 (I.ok.bs b o e).2 (I.ok.nofr e) (I.ok.noex b o e),I.base.free b o (I.ok.bs b o e).1 (I.ok.bs b o e).2 (I.ok.noex b o e)⟩
theorem Inv.bk(I:Inv X pins σ H s):∀b o,X.base.get? b=some o->s.heap.get? b=some o:=fun b o e=>(I.bs b o e).1
theorem Inv.mod(I:Inv X pins σ H s):Mod X.K X.mg X.base:=I.ok.mod
theorem Inv.kIn(I:Inv X pins σ H s):X.K.In s.heap:=I.ok.mod.kin.keeps I.bk
theorem Inv.lt(I:Inv X pins σ H s):X.env.locals<s.heap.objs.size:=let ⟨_,hn,_⟩:=I.loc;hn.lt
theorem Inv.sz(I:Inv X pins σ H s):X.s₀.heap.objs.size<=s.heap.objs.size:=wx I.ok.above (Zh I.lt)
theorem Inv.nofs(I:Inv X pins σ H s)(h:s.heap.objs.size<=a):a∉X.fs:=fun hb=>by
 obtain⟨_,o,ho,_⟩:=I.ok.funs.mem hb;exact absurd (rz (xQ ho) (wx I.sz h)) (Zv _)
theorem Inv.cne(I:Inv X pins σ H s):∀x c,X.env.cells.lookup x=some c->c≠X.env.locals:=fun x c e z=>by
 obtain⟨v,o,ho,hd⟩:=I.cell x c e;obtain⟨m,⟨o',es,ep,ho',hd',_⟩,_⟩:=I.loc;rw[z,ho']at ho;cases ho;rw[hd']at hd;cases hd
theorem Inv.funs(I:Inv X pins σ H s):s.heap.FunFrames X.base X.outer:=by
 have all:∀(l:List Env),(∀b∈frs l,b∈X.fs)->X.s₀.heap.FunFrames X.base l->s.heap.FunFrames X.base l:=by
  intro l
  induction l with
  |nil=>intro _ _;trivial
  |cons env r ih=>
   intro hs hl;obtain⟨hk,⟨L,o,hf,hn,ho,hd⟩,hr⟩:=hl;have hL:L∈X.fs:=hs L (by unfold frs;rw[List.filterMap_cons,hf];exact ZV);obtain⟨sl,e⟩:=I.base.slot L o ho (I.ok.frf L hL) hL fun z=>I.ok.exfs L z hL;exact⟨hk,⟨L,_,hf,hn,e,hd⟩,ih (fun b hb=>hs b (by unfold frs;rw[List.filterMap_cons,hf];exact xM _ hb)) hr⟩
 exact all X.outer (fun _ hb=>hb) I.ok.funs
theorem Inv.stack(I:Inv X pins σ H s):s.heap.FunFrames X.base X.stack:=by
 rcases I.ok.stk with e|⟨e,hf⟩
 ·rw[e];exact I.funs
 ·rw[e]
  obtain⟨m,hn,_⟩:=I.loc;refine .cons (by rw[I.ok.kind];decide) hf hn ?_ I.funs;exact Heap.get?_none_of_le (wx I.ok.bsz I.ok.above)
theorem Inv.stkSub(I:Inv X pins σ H s):∀b∈frs X.stack,b∈X.env.locals::X.fs:=fun b hb=>by
 rcases I.ok.stk with e|⟨e,hf⟩
 ·rw[e]at hb;exact xM _ hb
 ·rw[e]at hb
  unfold frs at hb;rw[List.filterMap_cons,hf]at hb;exact hb
theorem Inv.stkFree(I:Inv X pins σ H s):∀b∈frs X.stack,H b=none:=fun b hb=>by
 rcases zv.mp (I.stkSub b hb) with e|hb
 ·rw[e];exact I.free
 ·obtain⟨_,o,ho,_⟩:=I.ok.funs.mem hb
  exact I.base.free b o ho (I.ok.frf b hb) fun z=>I.ok.exfs b z hb
theorem Inv.step{g':Array GenState}{t':Nat}{d':Drawn}{ch:List Addr}(I:Inv X pins σ H s)
 (hch:∀b∈ch,(b∈X.ex\/X.s₀.heap.objs.size<=b)/\b≠X.env.locals/\(∀x c,X.env.cells.lookup x=some c->c≠b)/\∀p∈X.pn++pins,p.1≠b)
 (keep:∀b o,b≠X.env.locals->b∉X.fs->b∉ch->s.heap.get? b=some o->H b=none->h'.get? b=some o)
 (slot:∀b o,b≠X.env.locals->b∈X.fs->b∉ch->s.heap.get? b=some o->H b=none->∃sl,h'.get? b=some { o with slots:=sl }) (free:∀b o,b∉ch->s.heap.get? b=some o->H b=none->H' b=none)
 (there:∀b o,b∉ch->s.heap.get? b=some o->∃o',h'.get? b=some o')
 (tups:∀b xs,H b=some (.tup xs)->H' b=some (.tup xs)) (frzs:∀b o u,H b=some (.frz o u)->H' b=some (.frz o u)) (tbls:∀b ps,H b=some (.tbl ps)->∃more,H' b=some (.tbl (ps++more)))
 (ns:∀m,s.heap.Ns X.env.locals m->h'.Ns X.env.locals m) (hok:HOk X.prog X.w H' h') (hg:AllBare g') :
 Inv X pins σ H' { s with heap:=h',gens:=g',drawn:=d',toks:=t' }:=by
 have neL:∀b o,X.s₀.heap.get? b=some o->b≠X.env.locals:=fun b o e=>o6 (rz (xQ e) I.ok.above);have neC:∀b o,X.s₀.heap.get? b=some o->b∉X.ex->b∉ch:=fun b o e hx hb=>by
  rcases(hch b hb).1 with z|z
  ·exact hx z
  ·exact absurd (rz (xQ e) z) (Zv _)
 have cellK:∀x c,X.env.cells.lookup x=some c->∀v,s.heap.IsCell c v->h'.IsCell c v:=fun x c e v hq_=>by
  obtain⟨o,ho,hd⟩:=hq_;have nch:c∉ch:=fun z=>(hch c z).2.2.1 x c e rfl;by_cases hc:c∈X.fs
  ·obtain⟨sl,q⟩:=slot c o (I.cne x c e) hc nch ho (I.freeC x c e)
   exact⟨_,q,hd⟩
  ·exact⟨o,keep c o (I.cne x c e) hc nch ho (I.freeC x c e),hd⟩
 refine⟨I.ok,I.os,hg,⟨fun b o e n hb hx=>?_,fun b o e n hb hx=>?_,fun b o e n hx=>?_,fun b o e hx=>?_,fun b xs e=>tups b xs (I.base.tups b xs e),fun b o xs e=>frzs b o xs (I.base.frzs b o xs e),fun b ps e=>?_⟩,?_,fun x c e=>?_,?_,fun x c e=>?_,fun p hp=>?_,hok,I.len⟩
 ·exact keep b o (neL b o e) hb (neC b o e hx) (I.base.keep b o e n hb hx) (I.base.free b o e n hx)
 ·obtain⟨sl,e1⟩:=I.base.slot b o e n hb hx
  obtain⟨sl',e2⟩:=slot b _ (neL b o e) hb (neC b o e hx) e1 (I.base.free b o e n hx);exact⟨sl',e2⟩
 ·obtain⟨o',e1⟩:=I.base.there b o e hx
  exact free b o' (neC b o e hx) e1 (I.base.free b o e n hx)
 ·obtain⟨o',e1⟩:=I.base.there b o e hx
  exact there b o' (neC b o e hx) e1
 ·obtain⟨m1,e1⟩:=I.base.tbls b ps e
  obtain⟨m2,e2⟩:=tbls b _ e1;exact⟨m1++m2,by rw[e2,Array.append_assoc]⟩
 ·obtain⟨m,hn,hl⟩:=I.loc
  refine⟨m,ns m hn,fun i x v e1 e2 e3=>?_⟩;obtain⟨u,r,l⟩:=hl i x v e1 e2 e3;refine⟨u,r,?_⟩;rcases l with l|⟨k,c,e,z⟩
  ·exact .inl l
  ·exact .inr ⟨k,c,e,cellK x c e _ z⟩
 ·obtain⟨v,z⟩:=I.cell x c e
  exact⟨v,cellK x c e v z⟩
 ·obtain⟨m,⟨o,_,_,ho,_⟩,_⟩:=I.loc
  exact free _ o (fun z=>(hch _ z).2.1 rfl) ho I.free
 ·obtain⟨v,o,ho,hd⟩:=I.cell x c e
  exact free c o (fun z=>(hch c z).2.2.1 x c e rfl) ho (I.freeC x c e)
 ·obtain⟨e,n,ne,nf,d⟩:=I.pin p hp
  have nch:p.1∉ch:=fun z=>(hch p.1 z).2.2.2 p hp rfl;exact⟨keep p.1 p.2 ne nf nch e n,free p.1 p.2 nch e n,ne,nf,d⟩
theorem Inv.un{t':Nat}(I:Inv X pins σ H s)(u:Un X.fs [] H H' s.heap h')(hok:HOk X.prog X.w H' h'):Inv X pins σ H' { s with heap:=h',toks:=t' }:=by
 obtain⟨m,⟨o,es,ep,ho,r⟩,_⟩:=id I.loc;obtain⟨sl,hL⟩:=u.any ho I.free (by simp);exact I.step (g':=s.gens) (d':=s.drawn) (ch:=[]) (fun _ z=>nomatch z) (fun b o _ hb _ e n=>u.keep b o e n hb (by simp)) (fun b o _ hb _ e n=>u.slot b o e n hb (by simp)) (fun b o _ e n=>u.free b o e n (by simp)) (fun b o _ e=>u.there b o e (by simp)) u.tups u.frzs u.tbls (fun m' hm=>by
  obtain⟨o',es',ep',ho',r'⟩:=hm;rw[ho]at ho';cases ho';exact⟨_,es',ep',hL,r'⟩) hok I.bare
theorem Inv.call{g':Array GenState}{t':Nat}{d':Drawn}{ch:List Addr}(I:Inv X pins σ H s)(u:Un (frs X.stack) ch H H' s.heap h')(hok:HOk X.prog X.w H' h')(hg:AllBare g')
 (hch:∀b∈ch,(b∈X.ex\/X.s₀.heap.objs.size<=b)/\b≠X.env.locals/\(∀x c,X.env.cells.lookup x=some c->c≠b)/\∀p∈X.pn++pins,p.1≠b) :
 Inv X pins σ H' { s with heap:=h',gens:=g',drawn:=d',toks:=t' }:=by
 obtain⟨m,⟨o,es,ep,ho,r⟩,_⟩:=id I.loc;obtain⟨sl,hL⟩:=u.any ho I.free fun z=>(hch _ z).2.1 rfl;exact I.step (ch:=ch) hch (fun b o hL hb hc e n=>u.keep b o e n (fun z=>(zv.mp (I.stkSub b z)).elim hL hb) hc) (fun b o _ _ hc e n=>u.any e n hc) (fun b o hc e n=>u.free b o e n hc) (fun b o hc e=>u.there b o e hc) u.tups u.frzs u.tbls (fun m' hm=>by
  obtain⟨o',es',ep',ho',r'⟩:=hm;rw[ho]at ho';cases ho';exact⟨_,es',ep',hL,r'⟩) hok hg
theorem Inv.turned{t':Nat}{it:Addr}(I:Inv X pins σ H s)(k:∀b o,b≠it->s.heap.get? b=some o->h'.get? b=some o)(hn:H it=none)(hL:it≠X.env.locals)
 (h1:it∈X.ex\/X.s₀.heap.objs.size<=it) (h2:∀x c,X.env.cells.lookup x=some c->c≠it) (h3:∀p∈X.pn++pins,p.1≠it):Inv X pins σ H { s with heap:=h',toks:=t' }:=by
 have nit:∀b u,H b=some u->b≠it:=fun b u e z=>by rw[z,hn]at e;cases e
 refine I.step (g':=s.gens) (d':=s.drawn) (ch:=[it]) (fun b hb=>?_) (fun b o _ _ hc e _=>k b o (fun z=>hc (by simp[z])) e) (fun b o _ _ hc e _=>⟨o.slots,k b o (fun z=>hc (by simp[z])) e⟩) (fun _ _ _ _ n=>n)
  (fun b o hc e=>⟨o,k b o (fun z=>hc (by simp[z])) e⟩) (fun _ _ e=>e) (fun _ _ _ e=>e) (fun b ps e=>⟨#[],by rw[e];simp⟩) (fun m hm=>?_) (fun b u e=>?_) I.bare
 ·have e:b=it:=by simpa using hb
  subst e;exact⟨h1,hL,h2,h3⟩
 ·obtain⟨o,es,ep,ho,r⟩:=hm
  exact⟨o,es,ep,k _ o (Ne.symm hL) ho,r⟩
 ·refine(I.hok b u e).stay (fun c v hc q=>k c v ?_ q) (fun _ q=>q) fun _ _ q=>q
  rcases hc with z|z
  ·rw[z];exact nit b u e
  ·exact nit c _ z
theorem Inv.tok(I:Inv X pins σ H s)(t:Nat):Inv X pins σ H { s with toks:=t }:=I.un (h':=s.heap) (t':=t) Un.refl I.hok
theorem Inv.kept{t':Nat}(I:Inv X pins σ H s)(k:∀b u,s.heap.get? b=some u->h'.get? b=some u):Inv X pins σ H { s with heap:=h',toks:=t' }:=I.un (Un.kept k) (I.hok.kept k)
theorem Inv.laid{a:Addr}{o:HO}{t':Nat}(I:Inv X pins σ H s)(k:∀b u,s.heap.get? b=some u->h'.get? b=some u)(hp:s.heap.objs.size<=a)(new:ObjOk X.prog X.w (upd H a o) h' a o) :
 Inv X pins σ (upd H a o) { s with heap:=h',toks:=t' }:=I.un (Un.laid k hp (I.hok.fresh hp)) (I.hok.laid k hp new)
theorem Inv.write(I:Inv X pins σ H s)(mu:Mut (H x))(he:e=x\/H e=some (.own x))(k:∀b u,b≠e->s.heap.get? b=some u->h'.get? b=some u)(heo:∃u,h'.get? e=some u)
 (new:ObjOk X.prog X.w (upd H x o) h' x o):Inv X pins σ (upd H x o) { s with heap:=h',toks:=t' }:=I.un (Un.write mu he k heo) (I.hok.write mu he k heo new)
theorem Inv.pins_of(I:Inv X pins σ H s)(h:∀p∈pins',s.heap.get? p.1=some p.2/\H p.1=none/\p.1≠X.env.locals/\p.1∉X.fs/\∀v,p.2.data ≠ .cell v):Inv X pins' σ H s:=
 ⟨I.ok,I.os,I.bare,I.base,I.loc,I.cell,I.free,I.freeC,fun p hp=>(vY.mp hp).elim (fun z=>I.pin p (qQ _ z)) (h p),I.hok,I.len⟩
theorem lV{N:List Str}(hN:N.Nodup){i j:Nat}{x:Str}(a:N[i]? = some x)(b:N[j]? = some x):i=j:=by
 obtain⟨h1,e1⟩:=List.getElem?_eq_some_iff.mp a;obtain⟨h2,e2⟩:=List.getElem?_eq_some_iff.mp b;exact(List.getElem_inj hN).mp (e1.trans e2.symm)
theorem ng{M:Model}{A:Around}{E:Value->Shared->Prop}{i:Nat}{x:Str}{v:V}{u:Value}{Q:Unit->Shared->Prop}(I:Inv X pins σ H s)(hN:X.N.Nodup)(hi:X.N[i]? = some x)(hx:Loc X.env.scope x)(r:RelV v u)
 (h:∀s',Inv X pins (σ.set i (some v)) H s'->(∃a,Heap.SameBut a s.heap s'.heap/\(a=X.env.locals\/X.env.cells.lookup x=some a))->Q () s') (hf:X.fn x=true\/X.env.scope.names.lookup x=some .local:=by first|exact .inl rfl|exact .inr rfl|assumption):wpAny M A (storeName X.env x u) Q E s:=by
 obtain⟨m,hn,hl⟩:=id I.loc;have hcls:(X.env.scope.kind == .class || (X.env.scope.kind == .module&&X.env.locals != X.env.globals))=false:=by rw[I.ok.kind];rfl
 have hiσ:i<σ.length:=by rw[I.len];exact(List.getElem?_eq_some_iff.mp hi).1
 have cne:=I.cne;have tracked:∀ {a:Addr} {h':Heap},(∃o,s.heap.get? a=some o/\H a=none)->Heap.SameBut a s.heap h'->HOk X.prog X.w H h':=fun {a h'} ha hs b ob e=>by
  obtain⟨_,_,hfree⟩:=ha;refine(I.hok b ob e).stay (fun c w' hc q=>(hs.2 c ?_).trans q) (fun _ q=>q) fun _ _ q=>q;rintro rfl;rcases hc with rfl|hc
  ·rw[hfree]at e;cases e
  ·rw[hfree]at hc;cases hc
 rcases hx with hk|hk
 ·refine wpAny_storeName_local hk hn (fun h' hn' hs=>?_) hcls
  obtain⟨oL,_,_,hoL,_⟩:=id hn;refine h _ ⟨I.ok,I.os,I.bare,⟨fun b o e n hb hx=>?_,fun b o e n hb hx=>?_,I.base.free,fun b o e hx=>?_,I.base.tups,I.base.frzs,I.base.tbls⟩,⟨_,hn',fun j y v' e1 e2 e3=>?_⟩,fun y c e=>?_,I.free,I.freeC,fun p hp=>?_,tracked ⟨oL,hoL,I.free⟩ hs,by simpa using I.len⟩ ⟨_,hs,.inl rfl⟩
  ·exact(hs.2 b (o6 (rz (xQ e) I.ok.above))).trans (I.base.keep b o e n hb hx)
  ·obtain⟨sl,e1⟩:=I.base.slot b o e n hb hx
   exact⟨sl,(hs.2 b (o6 (rz (xQ e) I.ok.above))).trans e1⟩
  ·obtain⟨o',e1⟩:=I.base.there b o e hx
   exact⟨o',(hs.2 b (o6 (rz (xQ e) I.ok.above))).trans e1⟩
  ·by_cases hj:j=i
   ·subst hj
    rw[hi]at e1;cases e1;rw[List.getElem?_set_self hiσ]at e2;cases e2;exact⟨u,r,.inl ⟨hk,by simp⟩⟩
   ·rw[List.getElem?_set_ne (Ne.symm hj)]at e2
    obtain⟨u',r',q⟩:=hl j y v' e1 e2 e3;refine⟨u',r',?_⟩;rcases q with ⟨k,e⟩|⟨k,c,e,z⟩
    ·refine .inl ⟨k,?_⟩
     have:y≠x:=fun e=>hj (lV hN e1 (e ▸ hi));simp[this,e]
    ·exact .inr ⟨k,c,e,z.sameBut hs (cne y c e)⟩
  ·obtain⟨w',z⟩:=I.cell y c e
   exact⟨w',z.sameBut hs (cne y c e)⟩
  ·obtain⟨e,n,ne,nf,d⟩:=I.pin p hp
   exact⟨(hs.2 p.1 ne).trans e,n,ne,nf,d⟩
 ·have hfn:X.fn x=true:=by
   rcases hf with z|z
   ·exact z
   ·rw[z]at hk;cases hk
  obtain⟨c,hc⟩:=I.ok.has x (.inl hk);obtain⟨w',z⟩:=I.cell x c hc;refine wpAny_storeName_cell I.ok.kind hk hc z (fun h' hc' hs=>?_);obtain⟨oc,hoc,hocd⟩:=id z;refine h { s with heap:=h' } ⟨I.ok,I.os,I.bare,⟨fun b o e n hb hx=>?_,fun b o e n hb hx=>?_,I.base.free,fun b o e hx=>?_,I.base.tups,I.base.frzs,I.base.tbls⟩,⟨m,hn.sameBut hs (Ne.symm (cne x c hc)),fun j y v' e1 e2 e3=>?_⟩,fun y c' e=>?_,I.free,I.freeC,fun p hp=>?_,tracked ⟨oc,hoc,I.freeC x c hc⟩ hs,by simpa using I.len⟩ ⟨c,hs,.inr hc⟩
  ·exact(hs.2 b (o6 (rz (xQ e) (I.ok.cab x c hfn hc)))).trans (I.base.keep b o e n hb hx)
  ·obtain⟨sl,e1⟩:=I.base.slot b o e n hb hx
   exact⟨sl,(hs.2 b (o6 (rz (xQ e) (I.ok.cab x c hfn hc)))).trans e1⟩
  ·obtain⟨o',e1⟩:=I.base.there b o e hx
   exact⟨o',(hs.2 b (o6 (rz (xQ e) (I.ok.cab x c hfn hc)))).trans e1⟩
  ·by_cases hj:j=i
   ·subst hj
    rw[hi]at e1;cases e1;rw[List.getElem?_set_self hiσ]at e2;cases e2;exact⟨u,r,.inr ⟨.inl hk,c,hc,hc'⟩⟩
   ·rw[List.getElem?_set_ne (Ne.symm hj)]at e2
    obtain⟨u',r',q⟩:=hl j y v' e1 e2 e3;refine⟨u',r',?_⟩;rcases q with q|⟨k,c',e,z'⟩
    ·exact .inl q
    ·refine .inr ⟨k,c',e,z'.sameBut hs ?_⟩
     rintro rfl;exact hj (lV hN e1 (I.ok.inj _ _ _ e hc ▸ hi))
  ·by_cases hcc:c'=c
   ·subst hcc;exact⟨_,hc'⟩
   ·obtain⟨w2,z2⟩:=I.cell y c' e
    exact⟨w2,z2.sameBut hs hcc⟩
  ·obtain⟨e,n,ne,nf,d⟩:=I.pin p hp
   refine⟨(hs.2 p.1 ?_).trans e,n,ne,nf,d⟩;intro q;rw[q,hoc]at e;have q':oc=p.2:=wj e;exact d w' (by rw[<- q'];exact hocd)
theorem lj{M:Model}{A:Around}{E:Value->Shared->Prop}{i:Nat}{x:Str}{v:V}{u:Value}{Q:Unit->Shared->Prop}(I:Inv X pins σ H s)(hN:X.N.Nodup)(hi:X.N[i]? = some x)(hx:Loc X.env.scope x)(r:RelV v u)
 (h:∀s',Inv X pins (σ.set i (some v)) H s'->Q () s') (hf:X.fn x=true\/X.env.scope.names.lookup x=some .local:=by first|exact .inl rfl|exact .inr rfl|assumption):wpAny M A (storeName X.env x u) Q E s:=
 ng I hN hi hx r (fun s' I' _=>h s' I') hf
theorem Inv.call'{s':Shared}(I:Inv X pins σ H s)(ho:s'.os=s.os)(u:Un (frs X.stack) ch H H' s.heap s'.heap)(hok:HOk X.prog X.w H' s'.heap)(hg:AllBare s'.gens)
 (hch:∀b∈ch,(b∈X.ex\/X.s₀.heap.objs.size<=b)/\b≠X.env.locals/\(∀x c,X.env.cells.lookup x=some c->c≠b)/\∀p∈X.pn++pins,p.1≠b):Inv X pins σ H' s':=by
 obtain⟨h',g',d',t',o'⟩:=s';have e:o'=s.os:=ho;subst e;exact I.call (g':=g') (t':=t') (d':=d') u hok hg hch
end
abbrev XK:=Value->Option Addr->Hp->Prop
abbrev St:=List (Option V)
abbrev VK:=V->Hp->Prop
abbrev TE:=St->Hp->VK->Prop
abbrev TT:=St->Hp->(Bool->Hp->Prop)->Prop
abbrev TA:=St->Hp->(List V->Hp->Prop)->Prop
structure fi where
 nx:St->Hp->Prop
 rt:VK
 bk:St->Hp->Prop:=fun _ _=>False
 ct:St->Hp->Prop:=fun _ _=>False
abbrev TS:=fi->St->Hp->Prop
def EP(X:Cx)(pins:List (Addr × Obj))(σ:St)(Q:VK)(u:Value)(s':Shared):Prop:=∃v H',Inv X pins σ H' s'/\RelV v u/\Q v H'
def TP(X:Cx)(pins:List (Addr × Obj))(σ:St)(Q:Bool->Hp->Prop)(b:Bool)(s':Shared):Prop:=∃H',Inv X pins σ H' s'/\Q b H'
def AP(X:Cx)(pins:List (Addr × Obj))(σ:St)(Q:List V->Hp->Prop)(us:List Value)(s':Shared):Prop:=∃vs H',Inv X pins σ H' s'/\Vals vs us/\Q vs H'
def SP(X:Cx)(pins:List (Addr × Obj))(D:fi)(f:Flow)(s':Shared):Prop:=
 match f with
 | .next=>∃σ' H',Inv X pins σ' H' s'/\D.nx σ' H'
 | .brk=>∃σ' H',Inv X pins σ' H' s'/\D.bk σ' H'
 | .cont=>∃σ' H',Inv X pins σ' H' s'/\D.ct σ' H'
 | .ret u=>∃v σ' H',Inv X pins σ' H' s'/\RelV v u/\D.rt v H'
def PE(X:Cx)(e:Expr)(t:TE):Prop:=
 ∀(pins:List (Addr × Obj)) (s:Shared) (σ:St) (H:Hp) (Q:VK),Inv X pins σ H s->t σ H Q->wpAny (model X.prog X.w) X.A (eval e X.env) (EP X pins σ Q) X.xe s
def PT(X:Cx)(e:Expr)(t:TT):Prop:=
 ∀(pins:List (Addr × Obj)) (s:Shared) (σ:St) (H:Hp) (Q:Bool->Hp->Prop),Inv X pins σ H s->t σ H Q->wpAny (model X.prog X.w) X.A (isTrue e X.env (eval e X.env)) (TP X pins σ Q) X.xe s
def PW(X:Cx)(e:Expr)(t:TT):Prop:=
 ∀(whole:Sem Value) (pins:List (Addr × Obj)) (s:Shared) (σ:St) (H:Hp) (Q:Bool->Hp->Prop),Inv X pins σ H s->t σ H Q->wpAny (model X.prog X.w) X.A (isTrue e X.env whole) (TP X pins σ Q) X.xe s
theorem PW.pt{X:Cx}{e:Expr}{t:TT}(h:PW X e t):PT X e t:=h _
def PA(X:Cx)(es:List Expr)(t:TA):Prop:=
 ∀(pos:Pos) (pins:List (Addr × Obj)) (s:Shared) (σ:St) (H:Hp) (Q:List V->Hp->Prop),Inv X pins σ H s->t σ H Q->wpAny (model X.prog X.w) X.A (spliced (backTo pos (starEach es X.env))) (AP X pins σ Q) X.xe s
def PS(X:Cx)(st:Stmt)(t:TS):Prop:=
 ∀(pins:List (Addr × Obj)) (s:Shared) (σ:St) (H:Hp) (D:fi),Inv X pins σ H s->t D σ H->wpAny (model X.prog X.w) X.A (exec st X.env) (SP X pins D) X.xe s
def PSs(X:Cx)(st:List Stmt)(t:TS):Prop:=
 ∀(pins:List (Addr × Obj)) (s:Shared) (σ:St) (H:Hp) (D:fi),Inv X pins σ H s->t D σ H->wpAny (model X.prog X.w) X.A (execs st X.env) (SP X pins D) X.xe s
theorem thn{α:Type}{t:Sem α}{Q Q':α->Shared->Prop}{M:Model}{A:Around}{E:Value->Shared->Prop}{s:Shared}(h:wpAny M A t Q E s)(hQ:∀a s,Q a s->Q' a s):wpAny M A t Q' E s:=tu h hQ fun _ _ x=>x
section
variable{X:Cx}
def Eh(i:Nat):TE:=fun σ H Q=>∃v,σ[i]? = some (some v)/\Q v H
def tC(v:V):TE:=fun _ H Q=>Q v H
theorem BZ(hN:X.N[i]? = some x)(hv:Vis X.env.scope x)(hd:(x==("__debug__":Str))=false:=by decide)(hcd:(x==("__classdict__":Str))=false:=by decide):PE X (.Name x pos) (Eh i):=by
 intro pins s σ H Q I h;obtain⟨v,e,h⟩:=h;obtain⟨m,hn,hl⟩:=I.loc;obtain⟨u,r,l⟩:=hl i x v hN e hv;have fin:EP X pins σ Q u s:=⟨v,H,I,r,h⟩;rcases l with ⟨hk,hm⟩|⟨hk,c,hc,hcell⟩
 ·exact wpAny_Name (wpAny_loadName_local I.ok.kind hk hn hm fin) hd
 ·rcases hk with hk|hk
  ·exact wpAny_Name (wpAny_loadName_cell I.ok.kind hk hc hcell fin) hd
  ·exact wpAny_Name (wpAny_loadName_free I.ok.kind hk hc hcell fin hcd) hd
theorem ae{i j pos}:PE X (.Constant (.int i) j pos) (tC (.int i)):=fun _ _ _ H _ I h=>wpAny_Constant_int ⟨.int i,H,I.tok _,⟨_,rfl⟩,h⟩
theorem jH{b j pos}:PE X (.Constant (.bool b) j pos) (tC (.bl b)):=fun _ _ _ H _ I h=>Constant_bool ⟨.bl b,H,I,rfl,h⟩
theorem bb{j pos}:PE X (.Constant .none j pos) (tC .non):=fun _ _ _ H _ I h=>Constant_none ⟨.non,H,I,rfl,h⟩
theorem wN{x j pos}:PE X (.Constant (.str x) j pos) (tC (.str x)):=fun _ _ _ H _ I h=>Calls.Constant_str ⟨.str x,H,I.tok _,⟨_,rfl⟩,h⟩
def Gl(X:Cx)(x:Str):Prop:=X.env.kindOf x=some .globalImplicit
theorem eX{E:Value->Shared->Prop}{pins:List (Addr × Obj)}{s:Shared}{σ:St}{H:Hp}{x:Str}{u:Value}{pos:Pos}{Q:Value->Shared->Prop}(I:Inv X pins σ H s)(hg:Gl X x)(hm:X.mg x=some u)(h:Q u s)
 (hd:(x==("__debug__":Str))=false:=by decide):wpAny (model X.prog X.w) X.A (eval (.Name x pos) X.env) Q E s:=
 Calls.Name_function_global I.ok.kind hg (Calls.loadGlobal_global (by rw[I.ok.glob];exact I.mod.glob.keeps I.bk) hm h) hd
theorem fK{E:Value->Shared->Prop}{pins:List (Addr × Obj)}{s:Shared}{σ:St}{H:Hp}{x:Str}{u:Value}{pos:Pos}{Q:Value->Shared->Prop}(I:Inv X pins σ H s)(hg:Gl X x)(hm:X.mg x=none)(hv:kc x=some u)(h:Q u s)
 (hn:x ≠ "__name__":=by decide) (hd:(x==("__debug__":Str))=false:=by decide):wpAny (model X.prog X.w) X.A (eval (.Name x pos) X.env) Q E s:=by
 obtain⟨mb,h1,h2⟩:=I.mod.blt;exact Calls.Name_function_global I.ok.kind hg (Calls.loadGlobal_builtin (by rw[I.ok.glob];exact I.mod.glob.keeps I.bk) hm (by rw[I.ok.blt];exact h1.keeps I.bk) ((h2 x hn).trans hv) h) hd
theorem cp(hg:Gl X x)(hm:X.mg x=some u)(r:RelV v u)(hd:(x==("__debug__":Str))=false:=by decide):PE X (.Name x pos) (tC v):=
 fun _ _ _ H _ I h=>eX I hg hm ⟨v,H,I,r,h⟩ hd
theorem bM(hg:Gl X x)(hm:X.mg x=none)(hv:kc x=some u)(r:RelV v u)(hn:x ≠ "__name__":=by decide)(hd:(x==("__debug__":Str))=false:=by decide):PE X (.Name x pos) (tC v):=
 fun _ _ _ H _ I h=>fK I hg hm hv ⟨v,H,I,r,h⟩ hn hd
variable{a b:Expr}{ta tb:TE}{pos:Pos}
def PC(X:Cx)(op:CmpOp)(a b:Expr)(t:TE):Prop:=
 ∀(pins:List (Addr × Obj)) (s:Shared) (σ:St) (H:Hp) (Q:VK),Inv X pins σ H s->t σ H Q ->
  wpAny (model X.prog X.w) X.A (eval a X.env) (fun v s₁=>wpAny (model X.prog X.w) X.A (eval b X.env) (fun u s₂=>wpAny (model X.prog X.w) X.A (pU op v u) (EP X pins σ Q) X.xe s₂) X.xe s₁) X.xe s
theorem p5(b:Expr){op:CmpOp}(h:op ≠ .In)(h2:op ≠ .NotIn):ZL op b=false:=by
 have e1:(op==CmpOp.In)=false:=by cases op <;> first|rfl|exact absurd rfl h
 have e2:(op==CmpOp.NotIn)=false:=by cases op <;> first|rfl|exact absurd rfl h2
 cases b <;> simp[ZL,e1,e2]
def Dg(ta:TE):TE:=fun σ H Q=>ta σ H fun x H1=>Q (.bl (decide (x = .non))) H1
theorem RelV.none_iff{x:V}{v:Value}(r:RelV x v):(v==Zz)=decide (x = .non):=by
 cases x with
 |non=>cases r;rfl
 |bl _=>cases r;rfl
 |int _=>obtain⟨t,rfl⟩:=r;rfl
 |str _=>obtain⟨t,rfl⟩:=r;rfl
 |byt _=>obtain⟨t,rfl⟩:=r;rfl
 |flt _=>obtain⟨t,rfl⟩:=r;rfl
 |ref _=>cases r;rfl
 |ty _=>cases r;rfl
theorem du{j pos'}(ha:PE X a ta):PC X .Is a (.Constant .none j pos') (Dg ta):=by
 intro pins s σ H Q I h;refine thn (ha pins s σ H _ I h) fun v s1 hq_=>?_;obtain⟨x,H1,I1,r1,q1⟩:=hq_;exact Constant_none (is_none_gen ⟨.bl _,H1,I1,by rw[r1.none_iff];rfl,q1⟩)
theorem Cf(h:PC X op a b t)(h1:ZL op b=false:=by first|exact p5 _ (by decide) (by decide)|rfl):PE X (.Compare a [op] [b] pos) t:=fun pins s σ H Q I hw=>wpAny_Compare1 (h pins s σ H Q I hw) h1
variable{tA tB':TT}{rest:List Expr}
def CW(t u:TT):TT:=fun σ H Q=>t σ H fun c H1=>if c=true then u σ H1 Q else Q false H1
def tOr(t u:TT):TT:=fun σ H Q=>t σ H fun c H1=>if c=true then Q true H1 else u σ H1 Q
def D7(t:TT):TT:=fun σ H Q=>t σ H fun c H1=>Q (!c) H1
theorem b8(ha:PT X a tA):PW X (.BoolOp .And [a] pos) tA:=by
 intro wh pins s σ H Q I h;refine isTrue_and (thn (ha pins s σ H Q I h) fun c s1 e=>?_);cases c with
 |true=>exact isTrue_and_nil e
 |false=>exact e
theorem bK(ha:PT X a tA):PW X (.BoolOp .Or [a] pos) tA:=by
 intro wh pins s σ H Q I h;refine isTrue_or (thn (ha pins s σ H Q I h) fun c s1 e=>?_);cases c with
 |false=>exact isTrue_or_nil e
 |true=>exact e
theorem cU(ha:PT X a tA)(hb:PW X (.BoolOp .And (b::rest) pos) tB'):PW X (.BoolOp .And (a::b::rest) pos) (CW tA tB'):=by
 intro wh pins s σ H Q I h;refine isTrue_and (thn (ha pins s σ H _ I h) fun c s1 hq_=>?_);obtain⟨H1,I1,q1⟩:=hq_;cases c with
 |true=>exact hb wh pins s1 σ H1 Q I1 q1
 |false=>exact⟨H1,I1,q1⟩
theorem bS(ha:PT X a tA)(hb:PW X (.BoolOp .Or (b::rest) pos) tB'):PW X (.BoolOp .Or (a::b::rest) pos) (tOr tA tB'):=by
 intro wh pins s σ H Q I h;refine isTrue_or (thn (ha pins s σ H _ I h) fun c s1 hq_=>?_);obtain⟨H1,I1,q1⟩:=hq_;cases c with
 |true=>exact⟨H1,I1,q1⟩
 |false=>exact hb wh pins s1 σ H1 Q I1 q1
theorem cP(ha:PT X a tA):PT X (.UnaryOp .Not a pos) (D7 tA):=by
 intro pins s σ H Q I h;exact isTrue_not (ha pins s σ H (fun c H1=>Q (!c) H1) I h)
theorem lC{op}(h:PE X a t):PE X (.BoolOp op [a] pos) t:=fun pins s σ H Q I hw=>BoolOp_one (h pins s σ H Q I hw)
def tIf(t:TT)(ta tb:TE):TE:=fun σ H Q=>t σ H fun c H1=>if c=true then ta σ H1 Q else tb σ H1 Q
theorem cg{c:Expr}(hc:PT X c tA)(ha:PE X a ta)(hb:PE X b tb):PE X (.IfExp c a b pos) (tIf tA ta tb):=by
 intro pins s σ H Q I h;refine wpAny_IfExp (thn (hc pins s σ H _ I h) fun d s1 hq_=>?_);obtain⟨H1,I1,q1⟩:=hq_;cases d with
 |true=>exact ha pins s1 σ H1 Q I1 q1
 |false=>exact hb pins s1 σ H1 Q I1 q1
end
def SqL(K:W.Frag)(H:Hp)(a:Addr)(xs:List V):Prop:=
 Rd H a (.lst xs) \/
  ∃(o:Obj) (its:Array Value) (n:Nat),K.lookup a=some o/\o.cls = .type "list" /\ o.dict=none/\o.data = .seq its n/\its.size<=sizeLine/\Vals xs its.toList
def SqT(K:W.Frag)(H:Hp)(a:Addr)(xs:List V):Prop:=
 Rd H a (.tup xs) \/
  ∃(o:Obj) (its:Array Value) (n:Nat),K.lookup a=some o/\o.cls = .type "tuple" /\ o.data = .seq its n/\its.size<=sizeLine/\Vals xs its.toList
noncomputable def Et:Value->Option V
 | .none=>some .non
 | .bool b=>some (.bl b)
 | .int i _=>some (.int i)
 | .str x _=>some (.str x)
 | .bytes b _=>some (.byt b)
 | .float b _=>some (.flt b)
 | .ref a=>some (.ref a)
 | .type n=>some (.ty n)
 |_=>none
theorem RelV.abs(r:RelV x u):Et u=some x:=by
 cases x with
 |non=>cases r;rfl
 |bl _=>cases r;rfl
 |int _=>obtain⟨t,rfl⟩:=r;rfl
 |str _=>obtain⟨t,rfl⟩:=r;rfl
 |byt _=>obtain⟨t,rfl⟩:=r;rfl
 |flt _=>obtain⟨t,rfl⟩:=r;rfl
 |ref _=>cases r;rfl
 |ty _=>cases r;rfl
theorem RelV.inj(r:RelV x u)(q:RelV y u):x=y:=wj (r.abs.symm.trans q.abs)
theorem Vals.inj:∀ {xs ys:List V} {us:List Value},Vals xs us->Vals ys us->xs=ys
 |_,_,_,.nil,.nil=>rfl
 |_,_,_,.cons r t,.cons r' t'=>by rw[r.inj r',Vals.inj t t']
section
variable{X:Cx}{pins:List (Addr × Obj)}{σ:St}{H:Hp}{s:Shared}{a:Addr}{xs ys:List V}
theorem aL{K:W.Frag}(h:H a=some (.lst xs)):SqL K H a xs:=.inl (.inl h)
theorem bc{K:W.Frag}(h:H a=some (.tup xs)):SqT K H a xs:=.inl (.inl h)
theorem Inv.list(I:Inv X pins σ H s)(h:SqL X.K H a xs):∃its:List Value,Vals xs its/\PlainL s.heap a its.toArray/\xs.length<=sizeLine:=by
 rcases h with h|⟨o,its,n,hk,hc,hd,hs,hz,r⟩
 ·obtain⟨z,its,n,r,e⟩:=h.ok I.hok
  exact⟨its,r,⟨_,n,e,rfl,rfl,rfl⟩,z⟩
 ·refine⟨its.toList,r,⟨o,n,I.kIn a o hk,hc,hd,by simpa using hs⟩,?_⟩
  have e:=r.length;simp only[YR]at e;lia
theorem Inv.tuple(I:Inv X pins σ H s)(h:SqT X.K H a xs):∃its:List Value,Vals xs its/\IsTup s.heap a its.toArray/\xs.length<=sizeLine:=by
 rcases h with h|⟨o,its,n,hk,hc,hs,hz,r⟩
 ·obtain⟨z,its,r,p⟩:=h.ok I.hok
  exact⟨its,r,p,z⟩
 ·refine⟨its.toList,r,⟨o,I.kIn a o hk,hc,n,by simpa using hs⟩,?_⟩
  have e:=r.length;simp only[YR]at e;lia
theorem Inv.list_inj(I:Inv X pins σ H s)(h:SqL X.K H a xs)(h':SqL X.K H a ys):xs=ys:=by
 obtain⟨its,r,⟨o,n,e,_,_,d⟩,_⟩:=I.list h;obtain⟨its',r',⟨o',n',e',_,_,d'⟩,_⟩:=I.list h';rw[e]at e';cases e';rw[d]at d';injection d' with d1 _
 have:its=its':=by simpa using congrArg Array.toList d1
 subst this;exact r.inj r'
theorem Inv.tuple_inj(I:Inv X pins σ H s)(h:SqT X.K H a xs)(h':SqT X.K H a ys):xs=ys:=by
 obtain⟨its,r,⟨o,e,_,n,d⟩,_⟩:=I.tuple h;obtain⟨its',r',⟨o',e',_,n',d'⟩,_⟩:=I.tuple h';rw[e]at e';cases e';rw[d]at d';injection d' with d1 _
 have:its=its':=by simpa using congrArg Array.toList d1
 subst this;exact r.inj r'
end
noncomputable abbrev Cx.wish(X:Cx)(E:Value->Shared->Prop):Cx:={ X with xe:=E }
noncomputable abbrev Cx.nox(X:Cx):Cx:=X.wish fun _ _=>False
section
variable{X:Cx}{st:Stmt}{rest:List Stmt}{t u:TS}{e:Expr}{te:TE}{pos:Pos}
def Ae:TS:=fun D σ H=>D.nx σ H
def DV(t u:TS):TS:=fun D σ H=>t { D with nx:=u D } σ H
theorem ao:PSs X [] Ae:=fun _ _ σ H _ I h=>Yu ⟨σ,H,I,h⟩
theorem aa(h1:PS X st t)(h2:PSs X rest u):PSs X (st::rest) (DV t u):=by
 intro pins s σ H D I h;refine wpAny_execs_cons (thn (h1 pins s σ H { D with nx:=u D } I h) fun f s1 q=>?_);cases f with
 |next=>
  obtain⟨σ',H',I',q⟩:=q;exact h2 pins s1 σ' H' D I' q
 |ret v=>exact q
 |brk=>exact q
 |cont=>exact q
theorem af(h1:PS X st t):PSs X [st] t:=by
 intro pins s σ H D I h;refine wpAny_execs_cons (thn (h1 pins s σ H D I h) fun f s1 q=>?_);cases f with
 |next=>exact Yu q
 |ret v=>exact q
 |brk=>exact q
 |cont=>exact q
theorem Inv.quiet{pins:List (Addr × Obj)}{σ:St}{H:Hp}{s:Shared}(I:Inv X pins σ H s):interactive X.env=false:=by simp[interactive,I.ok.kind]
def Ao(te:TE):TS:=fun D σ H=>te σ H fun _ H1=>D.nx σ H1
theorem dy(he:PE X e te)(hs:swapsWith e none pos.line X.env=pure false:=by rfl):PS X (.Expr e pos) (Ao te):=by
 intro pins s σ H D I h;exact wpAny_Expr_any (thn (he pins s σ H _ I h) fun v s1 hq_=>(by obtain⟨x,H1,I1,r1,q1⟩:=hq_;exact⟨σ,H1,I1,q1⟩)) I.quiet hs
def DC(te:TE):TS:=fun D σ H=>te σ H D.rt
theorem ai(he:PE X e te):PS X (.Return (some e) pos) (DC te):=by
 intro pins s σ H D I h;exact wpAny_Return_some (thn (he pins s σ H _ I h) fun v s1 hq_=>(by obtain⟨x,H1,I1,r1,q1⟩:=hq_;exact⟨x,σ,H1,I1,r1,q1⟩))
def Du(c:TT)(t u:TS):TS:=fun D σ H=>c σ H fun b H1=>if b=true then t D σ H1 else u D σ H1
theorem aE{c:Expr}{a b:List Stmt}{tc:TT}(hc:PT X c tc)(ha:PSs X a t)(hb:PSs X b u):PS X (.If c a b pos) (Du tc t u):=by
 intro pins s σ H D I h;refine wpAny_If (thn (hc pins s σ H _ I h) fun d s1 hq_=>?_);obtain⟨H1,I1,q1⟩:=hq_;cases d with
 |true=>exact ha pins s1 σ H1 D I1 q1
 |false=>exact hb pins s1 σ H1 D I1 q1
end
abbrev TG:=V->St->Hp->(St->Hp->Prop)->Prop
abbrev TGs:=List V->St->Hp->(St->Hp->Prop)->Prop
def PG(X:Cx)(target:Expr)(t:TG):Prop:=
 ∀(pins:List (Addr × Obj)) (s:Shared) (σ:St) (H:Hp) (v:V) (u:Value) (Q:St->Hp->Prop),Inv X pins σ H s->RelV v u->t v σ H Q ->
  wpAny (model X.prog X.w) X.A (assign target X.env u) (fun _ s'=>∃σ' H',Inv X pins σ' H' s'/\Q σ' H') X.xe s
def PGs(X:Cx)(ts:List Expr)(t:TGs):Prop:=
 ∀(pins:List (Addr × Obj)) (s:Shared) (σ:St) (H:Hp) (vs:List V) (us:List Value) (Q:St->Hp->Prop),Inv X pins σ H s->Vals vs us->t vs σ H Q ->
  wpAny (model X.prog X.w) X.A (assignInOrder ((YL ts X.env).map (·.2)) us) (fun _ s'=>∃σ' H',Inv X pins σ' H' s'/\Q σ' H') X.xe s
abbrev BR:=V->V->V->Hp->(Hp->Prop)->Prop
def Dw(X:Cx)(t:BR):Prop:=
 ∀(pins:List (Addr × Obj)) (s:Shared) (σ:St) (H:Hp) (o i v:V) (ov iv u:Value) (Q:Hp->Prop),Inv X pins σ H s->RelV o ov->RelV i iv->RelV v u->t o i v H Q ->
  wpAny (model X.prog X.w) X.A (setItem ov iv u) (fun _ s'=>∃H',Inv X pins σ H' s'/\Q H') X.xe s
section
variable{X:Cx}{pos:Pos}
def dU(i:Nat):TG:=fun v σ H Q=>Q (σ.set i (some v)) H
theorem aR(hN:X.N.Nodup)(hi:X.N[i]? = some x)(hx:Loc X.env.scope x)(hf:X.fn x=true\/X.env.scope.names.lookup x=some .local:=by first|exact .inl rfl|exact .inr rfl|assumption):PG X (.Name x pos) (dU i):=by
 intro pins s σ H v u Q I r h;exact wpAny_assign_Name (lj I hN hi hx r (fun s' I'=>⟨_,H,I',h⟩) hf)
def Bn:TGs:=fun vs σ H Q=>vs=[]/\Q σ H
def ua(t:TG)(u:TGs):TGs:=fun vs σ H Q=>∃v r,vs=v::r/\t v σ H fun σ' H'=>u r σ' H' Q
theorem ki:PGs X [] Bn:=by
 intro pins s σ H vs us Q I r h;obtain⟨e,h⟩:=h;subst e;cases r;exact assignInOrder_nil ⟨σ,H,I,h⟩
theorem dm{e:Expr}{es:List Expr}{t:TG}{u:TGs}(h1:PG X e t)(h2:PGs X es u)
 (hs:(YL (e::es) X.env).map (·.2)=assign e X.env::(YL es X.env).map (·.2):=by rfl):PGs X (e::es) (ua t u):=by
 intro pins s σ H vs us Q I r h;obtain⟨v,vr,e1,h⟩:=h;subst e1;cases r with
 |cons r rr=>
  rw[hs];refine assignInOrder_cons (thn (h1 pins s σ H _ _ _ I r h) fun _ s1 hq_=>?_);obtain⟨σ1,H1,I1,q1⟩:=hq_;exact h2 pins s1 σ1 H1 _ _ Q I1 rr q1
def zt(K:W.Frag)(n:Nat)(t:TGs):TG:=fun v σ H Q=>∃a xs,v = .ref a/\SqT K H a xs/\xs.length=n/\t xs σ H Q
theorem Ci(hc:X.calm=true)(h:PGs X es t)
 (hn:(YL es X.env).length=n:=by rfl) (hst:(YL es X.env).findIdx? (·.1)=none:=by rfl):PG X (.Tuple es k pos) (zt X.K n t):=by
 intro pins s σ H v u Q I r hw;obtain⟨a,xs,e1,hq,hl,hw⟩:=hw;subst e1;cases r;obtain⟨its,rv,ht,hz⟩:=I.tuple hq;refine assign_Tuple_tuple (I.ok.hd hc) ht (by simp[hn,<- hl,rv.length]) hst fun h' hx=>?_;have I1:Inv X pins σ H { s with heap:=h' }:=I.kept (t':=s.toks) fun b o e=>hx b o (o6 (xQ e)) e;exact h pins _ σ H xs _ Q I1 (by simpa using rv) hw
def Dm(to ti:TE)(t:BR):TG:=fun v σ H Q=>to σ H fun o H1=>ti σ H1 fun i H2=>t o i v H2 fun H3=>Q σ H3
theorem BU{o i:Expr}{to ti:TE}{t:BR}(ho:PE X o to)(hi:PE X i ti)(hs:Dw X t)
 (ha:∀v,assign (.Subscript o i pos) X.env v=(do
  let ov <- holding [v] (eval o X.env)
  let iv <- holding [v,ov] (eval i X.env)
  standAt pos
  holding [v,ov,iv] (setItem ov iv v)
  release [v,ov,iv] []):=by intro _;rfl):PG X (.Subscript o i pos) (Dm to ti t):=by
 intro pins s σ H v u Q I r h;rw[ha];refine zz (Z7 (thn (ho pins s σ H _ I h) fun ov s1 hq_=>?_));obtain⟨x,H1,I1,r1,q1⟩:=hq_;refine zz (Z7 (thn (hi pins s1 σ H1 _ I1 q1) fun iv s2 hq_=>?_));obtain⟨y,H2,I2,r2,q2⟩:=hq_;refine zz (ZU (zz (Z7 (thn (hs pins s2 σ H2 x y v ov iv u _ I2 r1 r2 r q2) fun _ s3 hq_=>?_))));obtain⟨H3,I3,q3⟩:=hq_;exact wpAny_release ⟨σ,H3,I3,q3⟩
def vm(te:TE)(g:TG):TS:=fun D σ H=>te σ H fun x H1=>g x σ H1 D.nx
theorem Cr{tg e:Expr}{te:TE}{g:TG}(he:PE X e te)(hg:PG X tg g)(hs:swapsWithSole [tg] e pos.line X.env=pure false:=by rfl)(hw:swappedStores [tg] e X.env=pure none:=by rfl)
 (h1:(YL [tg] X.env).map (·.2)=[assign tg X.env]:=by rfl):PS X (.Assign [tg] e pos) (vm te g):=by
 intro pins s σ H D I h;refine wpAny_Assign_stores (thn (he pins s σ H _ I h) fun v s1 hq_=>?_) hs hw;obtain⟨x,H1,I1,r1,q1⟩:=hq_;rw[h1];exact thn (hg pins s1 σ H1 x v _ I1 r1 q1) fun _ s2 q=>q
theorem B3{i:Nat}{x:Str}{e:Expr}{te:TE}{pos':Pos}(hN:X.N.Nodup)(hi:X.N[i]? = some x)(hx:Loc X.env.scope x)(he:PE X e te)(hs:swapsWith e (some (.Name x pos')) pos.line X.env=pure false:=by rfl)(hf:X.fn x=true\/X.env.scope.names.lookup x=some .local:=by first|exact .inl rfl|exact .inr rfl|assumption) :
 PS X (.Assign [.Name x pos'] e pos) (vm te (dU i)):=by
 intro pins s σ H D I h;refine wpAny_Assign_Name (thn (he pins s σ H _ I h) fun v s1 hq_=>?_) hs;obtain⟨y,H1,I1,r1,q1⟩:=hq_;exact lj I1 hN hi hx r1 (fun s2 I2=>⟨_,H1,I2,q1⟩) hf
def CA(c:TT)(tb:TS):TS:=fun D σ H=>∃W:Nat->St->Hp->Prop,(∃m,W m σ H)/\∀m σ H,W m σ H ->
 c σ H fun b H1=>if b=true then ∃N:St->Hp->Prop,(∀σ' H',N σ' H'->∃m',m'<m/\W m' σ' H')/\tb { D with nx:=N,ct:=N,bk:=D.nx } σ H1 else D.nx σ H1
theorem lF{c:Expr}{body:List Stmt}{tc:TT}{tb:TS}(hp:PassesOwn (model X.prog X.w) X.A X.env X.xe)(hc:PT X c tc)(hb:PSs X body tb):PS X (.While c body [] pos) (CA tc tb):=by
 intro pins s σ H D I h;obtain⟨W,⟨m0,w0⟩,turn⟩:=h;refine wpAny_While (codeAny_whileLoop (fun n s'=>∃σ' H',Inv X pins σ' H' s'/\W n σ' H') ?_ m0 ⟨σ,H,I,w0⟩);rintro n s1 ⟨σ1,H1,I1,w1⟩;refine Z2 hp (thn (hc pins s1 σ1 H1 _ I1 (turn n σ1 H1 w1)) fun b s2 hq_=>?_);obtain⟨H2,I2,q2⟩:=hq_;cases b with
 |true=>
  obtain⟨N,hN,q2⟩:=q2;rw[if_pos rfl];refine Z2 hp (thn (hb pins s2 σ1 H2 _ I2 q2) fun f s3 q3=>?_);cases f with
  |next=>
   obtain⟨σ3,H3,I3,n3⟩:=q3;obtain⟨m',hm,w3⟩:=hN σ3 H3 n3;exact⟨m',hm,σ3,H3,I3,w3⟩
  |cont=>
   obtain⟨σ3,H3,I3,n3⟩:=q3;obtain⟨m',hm,w3⟩:=hN σ3 H3 n3;exact⟨m',hm,σ3,H3,I3,w3⟩
  |brk=>exact q3
  |ret v=>exact q3
 |false=>
  rw[if_neg vy];exact Yu ⟨σ1,H2,I2,q2⟩
end
structure It where
 go:Nat->Hp->Prop
 yld:Nat->Hp->V->Hp->Prop
 stop:Nat->Hp->Prop
def gb(X:Cx)(pins:List (Addr × Obj))(H:Hp)(b:Addr):Prop:=
 H b=none/\b≠X.env.locals/\b∉X.fs/\(b∈X.ex\/X.s₀.heap.objs.size<=b)/\(∀x c,X.env.cells.lookup x=some c->c≠b)/\∀p∈X.pn++pins,p.1≠b
theorem Inv.fpOk{X:Cx}{pins:List (Addr × Obj)}{σ:St}{H H':Hp}{s:Shared}{b:Addr}(I:Inv X pins σ H s)(hb:s.heap.objs.size<=b)(hn:H' b=none):gb X pins H' b:=by
 refine⟨hn,Nat.ne_of_gt (rz I.lt hb),I.nofs hb,.inr (wx I.sz hb),fun x c e z=>?_,fun p hp z=>?_⟩
 ·obtain⟨v,q⟩:=I.cell x c e
  exact absurd (rz q.lt (by rw[z];exact hb)) (Zv _)
 ·exact absurd (rz (xQ (I.pin p hp).1) (by rw[z];exact hb)) (Zv _)
structure ra(P:Program)(w:World)(K:W.Frag)(tg:Expr)(J:It)(fp:List Addr)(it:Addr)(tn:Nat->Heap->Prop):Prop where
 mem:it∈fp
 obj:∀i h,tn i h->∀b∈fp,∃o,h.get? b=some o/\∀v,o.data ≠ .cell v
 keep:∀i h h',tn i h->(∀b∈fp,∀o,h.get? b=some o->h'.get? b=some o)->tn i h'
 item:∀(X:Cx),X.prog=P->X.w=w->X.K=K->X.calm=true->∀(i:Nat) (pins:List (Addr × Obj)) (s:Shared) (σ:St) (H:Hp) (E:Value->Shared->Prop),Inv X pins σ H s->(∀b∈fp,gb X pins H b)->tn i s.heap->J.go i H ->
  wpAny (model P w) X.A (pyNext (.ref it)) (fun r s1=>∃u,r=some u /\
   wpAny (model P w) X.A (YN tg (.ref it) u) (fun _ s2=>∃x H',Inv X pins σ H' s2/\RelV x u/\J.yld i H x H'/\tn (i+1) s2.heap/\∀b∈fp,H' b=none) E s1) E s
 done:∀(X:Cx),X.prog=P->X.w=w->X.K=K->X.calm=true->∀(i:Nat) (pins:List (Addr × Obj)) (s:Shared) (σ:St) (H:Hp) (E:Value->Shared->Prop),Inv X pins σ H s->(∀b∈fp,gb X pins H b)->tn i s.heap->J.stop i H ->
  wpAny (model P w) X.A (pyNext (.ref it)) (fun r s1=>r=none/\Inv X pins σ H s1) E s
 self:∀(A:Around) (i:Nat) (s:Shared) (Q:Value->Shared->Prop) (E:Value->Shared->Prop),tn i s.heap->Q (.ref it) s->wpAny (model P w) A (pyIter (.ref it)) Q E s
abbrev TI:=St->Hp->(It->Hp->Prop)->Prop
def PIE(X:Cx)(pins:List (Addr × Obj))(σ:St)(tg:Expr)(R:It->Hp->Prop)(itv:Value)(s2:Shared):Prop:=
 ∃(it:Addr) (fp:List Addr) (tn:Nat->Heap->Prop) (J:It) (H':Hp),itv = .ref it/\Inv X pins σ H' s2/\ra X.prog X.w X.K tg J fp it tn/\tn 0 s2.heap/\(∀b∈fp,gb X pins H' b)/\R J H'
def PI(X:Cx)(tg iter:Expr)(wi:TI):Prop:=
 ∀(pins:List (Addr × Obj)) (s:Shared) (σ:St) (H:Hp) (R:It->Hp->Prop),Inv X pins σ H s->wi σ H R ->
  wpAny (model X.prog X.w) X.A (eval iter X.env) (fun v s1=>wpAny (model X.prog X.w) X.A (pyIter v) (PIE X pins σ tg R) X.xe s1) X.xe s
theorem k_{s:Shared}{o:Obj}(ho:s.heap.get? it=some o)(hc:o.cls = .type n)(hd:o.data = .fields vs)
 (hn:["enumerate","zip","dict_itemiterator","dict_reverseitemiterator","odict_iterator","itertools.zip_longest","itertools.pairwise"].contains n=false) (hQ:Q () s):wpAny M A (YN tg (.ref it) u) Q E s:=by
 unfold YN;cases tg <;> first
  |exact xJ hQ
  |(cases u <;> first
   |exact xJ hQ
   |(refine zz (wpAny_load ho ?_);rw[hc,hd];show wpAny M A (if (["enumerate","zip","dict_itemiterator","dict_reverseitemiterator","odict_iterator","itertools.zip_longest","itertools.pairwise"].contains n&&vs[0]? == some (rawInt _))=true then _ else _) Q E s;rw[if_neg (by intro h;rw[hn,Bool.false_and]at h;cases h)];exact xJ hQ))
noncomputable def Itl(K:W.Frag)(a:Addr):It:=
 ⟨fun i H=>∃xs x,SqL K H a xs/\xs[i]? = some x,fun i H x H'=>H'=H/\∀xs,SqL K H a xs->xs[i]? = some x,fun i H=>∃xs,SqL K H a xs/\xs.length<=i⟩
noncomputable def Itt(K:W.Frag)(a:Addr):It:=
 ⟨fun i H=>∃xs x,SqT K H a xs/\xs[i]? = some x,fun i H x H'=>H'=H/\∀xs,SqT K H a xs->xs[i]? = some x,fun i H=>∃xs,SqT K H a xs/\xs.length<=i⟩
noncomputable def Itr(lo:Int)(n:Nat):It:=⟨fun i _=>i<n,fun i H x H'=>H'=H/\x = .int (lo+i),fun i _=>n<=i⟩
theorem uK{P:Program}{w:World}{K:W.Frag}{tg:Expr}(a it:Addr):ra P w K tg (Itl K a) [it] it (fun i h=>h.IsListIter it a i) where
 mem:=by simp
 obj:=fun i h st b hb=>by
  have e:b=it:=by simpa using hb
  subst e;obtain⟨o,e,c,d⟩:=st;exact⟨o,e,fun v z=>by rw[d]at z;cases z⟩
 keep:=fun i h h' st k=>st.at fun o e=>k it (by simp) o e
 item:=by
  intro X hP hw hK hc i pins s σ H E I hf st hg;subst hP hw hK;obtain⟨xs,x,hq,hx⟩:=hg;obtain⟨its,rv,p,hz⟩:=I.list hq;obtain⟨u,hu,ru⟩:=rv.get hx;obtain⟨f0,f1,f2,f3,f4,f5⟩:=hf it (by simp);refine wpAny_pyNext_list_item st p.isList (x:=u) (by simpa using hu) fun h' st' sb=>?_;have I1:Inv X pins σ H { s with heap:=h' }:=I.turned (t':=s.toks) (fun b o hb e=>(sb.2 b hb).trans e) f0 f1 f3 f4 f5;obtain⟨o,e,c,d⟩:=id st';exact⟨u,rfl,k_ (s:={ s with heap:=h' }) e c d (by decide) ⟨x,H,I1,ru,⟨rfl,fun ys hy=>by rw[I.list_inj hy hq];exact hx⟩,st',fun b hb=>(hf b hb).1⟩⟩
 done:=by
  intro X hP hw hK hc i pins s σ H E I hf st hg;subst hP hw hK;obtain⟨xs,hq,hx⟩:=hg;obtain⟨its,rv,p,hz⟩:=I.list hq;obtain⟨f0,f1,f2,f3,f4,f5⟩:=hf it (by simp);have hl:=rv.length;exact wpAny_pyNext_list_end (I.ok.hd hc) st p.isList (by simp;lia) fun h' eb=>⟨rfl,I.turned (t':=s.toks) (fun b o hb e=>eb b o hb e) f0 f1 f3 f4 f5⟩
 self:=fun _ _ _ _ _ st h=>wpAny_pyIter_listiter st h
theorem se{P:Program}{w:World}{K:W.Frag}{tg:Expr}(a it:Addr):ra P w K tg (Itt K a) [it] it (fun i h=>h.IsTupleIter it a i) where
 mem:=by simp
 obj:=fun i h st b hb=>by
  have e:b=it:=by simpa using hb
  subst e;obtain⟨o,e,c,d⟩:=st;exact⟨o,e,fun v z=>by rw[d]at z;cases z⟩
 keep:=fun i h h' st k=>st.at fun o e=>k it (by simp) o e
 item:=by
  intro X hP hw hK hc i pins s σ H E I hf st hg;subst hP hw hK;obtain⟨xs,x,hq,hx⟩:=hg;obtain⟨its,rv,p,hz⟩:=I.tuple hq;obtain⟨u,hu,ru⟩:=rv.get hx;obtain⟨f0,f1,f2,f3,f4,f5⟩:=hf it (by simp);refine wpAny_pyNext_tuple_item st (show s.heap.IsTuple a its.toArray from p) (x:=u) (by simpa using hu) fun h' st' sb=>?_;have I1:Inv X pins σ H { s with heap:=h' }:=I.turned (t':=s.toks) (fun b o hb e=>(sb.2 b hb).trans e) f0 f1 f3 f4 f5;obtain⟨o,e,c,d⟩:=id st';exact⟨u,rfl,k_ (s:={ s with heap:=h' }) e c d (by decide) ⟨x,H,I1,ru,⟨rfl,fun ys hy=>by rw[I.tuple_inj hy hq];exact hx⟩,st',fun b hb=>(hf b hb).1⟩⟩
 done:=by
  intro X hP hw hK hc i pins s σ H E I hf st hg;subst hP hw hK;obtain⟨xs,hq,hx⟩:=hg;obtain⟨its,rv,p,hz⟩:=I.tuple hq;obtain⟨f0,f1,f2,f3,f4,f5⟩:=hf it (by simp);have hl:=rv.length;exact wpAny_pyNext_tuple_end (I.ok.hd hc) st (show s.heap.IsTuple a its.toArray from p) (by simp;lia) fun h' eb=>⟨rfl,I.turned (t':=s.toks) (fun b o hb e=>eb b o hb e) f0 f1 f3 f4 f5⟩
 self:=fun _ _ _ _ _ st h=>wpAny_pyIter_tupleiter st h
theorem sO{P:Program}{w:World}{K:W.Frag}{tg:Expr}(it:Addr)(lo:Int)(n:Nat):ra P w K tg (Itr lo n) [it] it (fun i h=>IsRangeIter h it (lo+(i:Nat)*1) ((n:Int)-(i:Nat)) 1) where
 mem:=by simp
 obj:=fun i h st b hb=>by
  have e:b=it:=by simpa using hb
  subst e;exact⟨_,st,fun v z=>by
   have z':Data.fields _=Data.cell v:=z;cases z'⟩
 keep:=fun i h h' st k=>k it (by simp) _ st
 item:=by
  intro X hP hw hK hc i pins s σ H E I hf st hg;subst hP hw hK;obtain⟨f0,f1,f2,f3,f4,f5⟩:=hf it (by simp);have W:=Walks.range (prog:=X.prog) (w:=X.w) (I.ok.hd hc) it lo 1 n;refine W.item i s _ _ hg st fun v h' tk hv st' kk=>?_;obtain⟨t,rfl⟩:=hv;have I1:Inv X pins σ H { s with heap:=h',toks:=tk }:=I.turned (fun b o hb e=>kk b o (by simpa using hb) e) f0 f1 f3 f4 f5;refine⟨_,rfl,k_ (s:={ s with heap:=h',toks:=tk }) (n:="range_iterator") st' rfl rfl (by decide) ⟨.int (lo+i),H,I1,⟨t,?_⟩,⟨rfl,rfl⟩,st',fun b hb=>(hf b hb).1⟩⟩;rw[Int.mul_one]
 done:=by
  intro X hP hw hK hc i pins s σ H E I hf st hg;subst hP hw hK;obtain⟨f0,f1,f2,f3,f4,f5⟩:=hf it (by simp);exact wpAny_pyNext_range_end (I.ok.hd hc) st (by have:n<=i:=hg;lia) fun h' eb=>⟨rfl,I.turned (t':=s.toks) (fun b o hb e=>eb b o hb e) f0 f1 f3 f4 f5⟩
 self:=fun _ _ _ _ _ st h=>wpAny_pyIter_rangeiter st h
section
variable{X:Cx}{tg:Expr}
def v9(K:W.Frag)(tl:TE):TI:=fun σ H R=>tl σ H fun x H1=>∃a,x = .ref a/\(∃xs,SqL K H1 a xs)/\R (Itl K a) H1
def A_(K:W.Frag)(tl:TE):TI:=fun σ H R=>tl σ H fun x H1=>∃a,x = .ref a/\(∃xs,SqT K H1 a xs)/\R (Itt K a) H1
theorem yr{l:Expr}{tl:TE}(hl:PE X l tl):PI X tg l (v9 X.K tl):=by
 intro pins s σ H R I h;refine thn (hl pins s σ H _ I h) fun v s1 hq_=>?_;obtain⟨x,H1,I1,r1,q1⟩:=hq_;obtain⟨a,e,⟨xs,hq⟩,q⟩:=q1;subst e;cases r1;obtain⟨its,rv,p,hz⟩:=I1.list hq;refine wpAny_pyIter_list p.isList ?_;refine⟨s1.heap.objs.size,[s1.heap.objs.size],_,_,H1,rfl,I1.kept (t':=s1.toks) fun b o e=>Heap.get?_push_of_some _ e,uK a _,⟨_,Heap.get?_push_size _ rfl,rfl,rfl⟩,fun b hb=>?_,q⟩;have e:b=s1.heap.objs.size:=by simpa using hb
 subst e;exact I1.fpOk (xi _) (I1.hok.fresh (xi _))
theorem Bp{l:Expr}{tl:TE}(hl:PE X l tl):PI X tg l (A_ X.K tl):=by
 intro pins s σ H R I h;refine thn (hl pins s σ H _ I h) fun v s1 hq_=>?_;obtain⟨x,H1,I1,r1,q1⟩:=hq_;obtain⟨a,e,⟨xs,hq⟩,q⟩:=q1;subst e;cases r1;obtain⟨its,rv,p,hz⟩:=I1.tuple hq;refine YJ (show s1.heap.IsTuple a its.toArray from p) ?_;refine⟨s1.heap.objs.size,[s1.heap.objs.size],_,_,H1,rfl,I1.kept (t':=s1.toks) fun b o e=>Heap.get?_push_of_some _ e,se a _,⟨_,Heap.get?_push_size _ rfl,rfl,rfl⟩,fun b hb=>?_,q⟩;have e:b=s1.heap.objs.size:=by simpa using hb
 subst e;exact I1.fpOk (xi _) (I1.hok.fresh (xi _))
theorem wC{pins:List (Addr × Obj)}{σ:St}{H:Hp}{s:Shared}{R:It->Hp->Prop}{E:Value->Shared->Prop}{lo hi:Int}{t u v:Tok}{tk:Nat}(I:Inv X pins σ H s)(h1:-(2 ^ 62)<=lo)(h2:lo<2 ^ 62)(h3:-(2 ^ 62)<=hi)(h4:hi<2 ^ 62)
 (q:R (Itr lo (hi-lo).toNat) H):wpAny (model X.prog X.w) X.A (pyIter (.ref s.heap.objs.size)) (PIE X pins σ tg R) E { s with heap:=s.heap.push { cls:=.type "range",data:=.fields #[.int lo t,.int hi u,.int 1 v] },toks:=tk }:=by
 refine wpAny_pyIter_range (IsRange.new ..) (small_one h1 h2 h3 h4) ?_;have I1:Inv X pins σ H { s with heap:=s.heap.push { cls:=.type "range",data:=.fields #[.int lo t,.int hi u,.int 1 v] },toks:=tk }:=I.kept fun b o e=>Heap.get?_push_of_some _ e;refine⟨(s.heap.push { cls:=.type "range",data:=.fields #[.int lo t,.int hi u,.int 1 v] }).objs.size,[(s.heap.push { cls:=.type "range",data:=.fields #[.int lo t,.int hi u,.int 1 v] }).objs.size],_,_,H,rfl,
  I1.kept (t':=tk) fun b o e=>Heap.get?_push_of_some _ e,sO _ lo (hi-lo).toNat,?_,fun b hb=>?_,q⟩
 ·have e1:lo+((0:Nat):Int)*1=lo:=by simp
  have e2:(((hi-lo).toNat:Nat):Int)-((0:Nat):Int)=YG lo hi 1:=by rw[rangeSize_one];split <;> lia
  show IsRangeIter _ _ (lo+((0:Nat):Int)*1) ((((hi-lo).toNat:Nat):Int)-((0:Nat):Int)) 1;rw[e1,e2];exact Heap.get?_push_size _ rfl
 ·have e:b=(s.heap.push { cls:=.type "range",data:=.fields #[.int lo t,.int hi u,.int 1 v] }).objs.size:=by simpa using hb
  subst e;exact I1.fpOk (xi _) (I1.hok.fresh (xi _))
def t8(ta:TA):TI:=fun σ H R=>ta σ H fun vs H1=>∃j:Int,vs=[.int j] /\ -(2 ^ 62)<=j/\j<2 ^ 62/\R (Itr 0 j.toNat) H1
theorem cn{a:Expr}{ta:TA}{p pos:Pos}(hg:Gl X "range")(hm:X.mg "range" = none)(ha:PA X [a] ta)(hs:starEach [a] X.env=[(false,eval a X.env)]:=by rfl):PI X tg (.Call (.Name "range" p) [a] [] pos) (t8 ta):=by
 intro pins s σ H R I h;refine Call_ (fK I hg hm boot_range (Zo (thn (ha pos pins s σ H _ I h) fun us s1 hq_=>?_) hs rfl));obtain⟨vs,H1,I1,r1,q1⟩:=hq_;obtain⟨j,e,q1,q2,q⟩:=q1;subst e;cases r1 with
 |cons r rr=>
  cases rr;obtain⟨t,rfl⟩:=r;exact call_range_1 (wC I1 (by lia) (by lia) q1 q2 (by simpa using q))
def y6(wi:TI)(g:TG)(tb:TS):TS:=fun D σ H=>wi σ H fun J H1=>∃W:Nat->Nat->St->Hp->Prop,(∃m,W 0 m σ H1)/\∀i m σ H,W i m σ H ->
 (J.stop i H/\D.nx σ H)\/(J.go i H/\∃N:St->Hp->Prop,(∀σ' H',N σ' H'->∃m',m'<m/\W (i+1) m' σ' H')/\∀x H',J.yld i H x H'->g x σ H' fun σ2 H2=>tb { D with nx:=N,ct:=N,bk:=D.nx } σ2 H2)
noncomputable def iW(fp:List Addr)(h:Heap):List (Addr × Obj):=fp.filterMap fun b=>(h.get? b).map fun o=>(b,o)
theorem cZ{fp:List Addr}{h:Heap}{b:Addr}{o:Obj}(hb:b∈fp)(e:h.get? b=some o):(b,o)∈iW fp h:=YI.mpr ⟨b,hb,by rw[e];rfl⟩
theorem vp{h:Heap}(hp:p∈iW fp h):p.1∈fp/\h.get? p.1=some p.2:=by
 obtain⟨b,hb,e⟩:=YI.mp hp;cases q:h.get? b with
 |none=>rw[q]at e;cases e
 |some o=>
  rw[q]at e;have e':(b,o)=p:=wj e;subst e';exact⟨hb,q⟩
theorem Inv.pinned{pins:List (Addr × Obj)}{σ:St}{H:Hp}{s:Shared}{fp:List Addr}(I:Inv X pins σ H s)(hf:∀b∈fp,gb X pins H b)(ho:∀b∈fp,∃o,s.heap.get? b=some o/\∀v,o.data ≠ .cell v):Inv X (pins++iW fp s.heap) σ H s:=
 I.pins_of fun p hp=>(vY.mp hp).elim (fun z=>I.pin p (uj _ z)) fun z=>by
  obtain⟨hb,e⟩:=vp z;obtain⟨f0,f1,f2,_⟩:=hf p.1 hb;obtain⟨o,e',d⟩:=ho p.1 hb;rw[e]at e';cases e';exact⟨e,f0,f1,f2,d⟩
theorem Inv.unpinned{pins pl:List (Addr × Obj)}{σ:St}{H:Hp}{s:Shared}(I:Inv X (pins++pl) σ H s):Inv X pins σ H s:=I.pins_of fun p hp=>I.pin p (uj _ (qQ _ hp))
theorem eW{iter:Expr}{body:List Stmt}{wi:TI}{g:TG}{tb:TS}{pos:Pos}(hp:PassesOwn (model X.prog X.w) X.A X.env X.xe)(hc:X.calm=true)(hi:PI X tg iter wi)(hg:PG X tg g)(hb:PSs X body tb)
 (hs:∀x,ZR iter X.env x=pure x:=by intro _;rfl):PS X (.For tg iter body [] pos) (y6 wi g tb):=by
 intro pins s σ H D I h;refine wpAny_For (thn (hi pins s σ H _ I h) fun v s1 h1=>thn h1 fun itv s2 h2=>?_) hs;obtain⟨it,fp,tn,J,H2,e,I2,T,st2,f2,W,⟨m0,w0⟩,turn⟩:=h2;subst e;have stat:∀ {H':Hp},(∀b∈fp,H' b=none)->∀b∈fp,gb X pins H' b:=fun hn b hb=>⟨hn b hb,(f2 b hb).2⟩;refine codeAny_forLoop_any (fun n s'=>∃i σ' H',Inv X pins σ' H' s'/\tn i s'.heap/\(∀b∈fp,H' b=none)/\W i n σ' H') ?_ m0 ⟨0,σ,H2,I2,st2,fun b hb=>(f2 b hb).1,w0⟩;rintro n s3 ⟨i,σ3,H3,I3,st3,fr3,w3⟩;rcases turn i n σ3 H3 w3 with ⟨stop,qn⟩|⟨go,N,hN,step⟩
 ·refine Z2 hp (thn (T.done X rfl rfl rfl hc i pins s3 σ3 H3 X.xe I3 (stat fr3) st3 stop) fun r s4 hq_=>?_)
  obtain⟨hr,I4⟩:=hq_;subst hr;exact Yu ⟨σ3,H3,I4,qn⟩
 ·refine Z2 hp (thn (T.item X rfl rfl rfl hc i pins s3 σ3 H3 X.xe I3 (stat fr3) st3 go) fun r s4 hq_=>?_)
  obtain⟨u,hr,h4⟩:=hq_;subst hr;refine Z2 hp (thn h4 fun _ s5 hq_=>?_);obtain⟨x,H5,I5,r5,y5,st5,fr5⟩:=hq_;have I5':=I5.pinned (stat fr5) (T.obj _ _ st5);refine Z2 hp (thn (hg _ s5 σ3 H5 x u _ I5' r5 (step x H5 y5)) fun _ s6 hq_=>?_);obtain⟨σ6,H6,I6,q6⟩:=hq_;refine Z2 hp (thn (hb _ s6 σ6 H6 _ I6 q6) fun f s7 q7=>?_);have again:∀ {σ7:St} {H7:Hp},Inv X (pins++iW fp s5.heap) σ7 H7 s7->N σ7 H7->∃m,m<n/\∃i σ' H',Inv X pins σ' H' s7/\tn i s7.heap/\(∀b∈fp,H' b=none)/\W i m σ' H':=fun {σ7 H7} I7 n7=>by
   obtain⟨m',hm,w7⟩:=hN σ7 H7 n7;refine⟨m',hm,i+1,σ7,H7,I7.unpinned,T.keep _ _ _ st5 fun b hb o e=>(I7.pin (b,o) (uj _ (uj _ (cZ hb e)))).1,fun b hb=>?_,w7⟩;obtain⟨o,e,d⟩:=T.obj _ _ st5 b hb;exact(I7.pin (b,o) (uj _ (uj _ (cZ hb e)))).2.1
  cases f with
  |next=>obtain⟨σ7,H7,I7,n7⟩:=q7;exact again I7 n7
  |cont=>obtain⟨σ7,H7,I7,n7⟩:=q7;exact again I7 n7
  |brk=>obtain⟨σ7,H7,I7,q7⟩:=q7;exact⟨σ7,H7,I7.unpinned,q7⟩
  |ret v=>obtain⟨x7,σ7,H7,I7,r7,q7⟩:=q7;exact⟨x7,σ7,H7,I7.unpinned,r7,q7⟩
end
theorem eG{lo:Int}{n:Nat}{g:TG}{tb:TS}{D:fi}{σ:St}{H:Hp}(Pv:Nat->St->Hp->Prop)(h0:Pv 0 σ H)
 (hs:∀i σ H,i<n->Pv i σ H->g (.int (lo+i)) σ H fun σ2 H2=>tb { D with nx:=Pv (i+1),ct:=Pv (i+1),bk:=D.nx } σ2 H2) (hd:∀σ H,Pv n σ H->D.nx σ H) :
 ∃W:Nat->Nat->St->Hp->Prop,(∃m,W 0 m σ H)/\∀i m σ H,W i m σ H ->
  ((Itr lo n).stop i H/\D.nx σ H)\/((Itr lo n).go i H/\∃N:St->Hp->Prop,(∀σ' H',N σ' H'->∃m',m'<m/\W (i+1) m' σ' H')/\∀x H',(Itr lo n).yld i H x H'->g x σ H' fun σ2 H2=>tb { D with nx:=N,ct:=N,bk:=D.nx } σ2 H2):=by
 refine⟨fun i m σ H=>m=n-i/\i<=n/\Pv i σ H,⟨n,by simp,uG _,h0⟩,?_⟩;rintro i m σ H ⟨rfl,hi,p⟩;by_cases hlt:i<n
 ·refine .inr ⟨hlt,Pv (i+1),fun σ' H' p'=>⟨n-(i+1),by lia,rfl,hlt,p'⟩,fun x H' y=>?_⟩
  obtain⟨e,y⟩:=y;subst e y;exact hs i σ _ hlt p
 ·have e:i=n:=by lia
  subst e;exact .inl ⟨xi _,hd σ H p⟩
abbrev R2:=V->V->Hp->VK->Prop
def OpR(X:Cx)(f:Value->Value->Sem Value)(r:R2):Prop:=
 ∀(pins:List (Addr × Obj)) (s:Shared) (σ:St) (H:Hp) (x y:V) (v u:Value) (Q:VK),Inv X pins σ H s->RelV x v->RelV y u->r x y H Q ->
  wpAny (model X.prog X.w) X.A (f v u) (EP X pins σ Q) X.xe s
def UnR(X:Cx)(f:Value->Sem Value)(r:V->Hp->VK->Prop):Prop:=
 ∀(pins:List (Addr × Obj)) (s:Shared) (σ:St) (H:Hp) (x:V) (v:Value) (Q:VK),Inv X pins σ H s->RelV x v->r x H Q ->
  wpAny (model X.prog X.w) X.A (f v) (EP X pins σ Q) X.xe s
def CallR(X:Cx)(f:Value)(r:List V->Hp->VK->Prop):Prop:=
 ∀(pins:List (Addr × Obj)) (s:Shared) (σ:St) (H:Hp) (xs:List V) (us:List Value) (Q:VK),Inv X pins σ H s->Vals xs us->r xs H Q ->
  wpAny (model X.prog X.w) X.A (call f us) (EP X pins σ Q) X.xe s
def EB(X:Cx)(r:V->Hp->(Bool->Hp->Prop)->Prop):Prop:=
 ∀(pins:List (Addr × Obj)) (s:Shared) (σ:St) (H:Hp) (x:V) (v:Value) (Q:Bool->Hp->Prop),Inv X pins σ H s->RelV x v->r x H Q ->
  wpAny (model X.prog X.w) X.A (truthy v) (TP X pins σ Q) X.xe s
def tOp(r:R2)(ta tb:TE):TE:=fun σ H Q=>ta σ H fun x H1=>tb σ H1 fun y H2=>r x y H2 Q
def tUn(r:V->Hp->VK->Prop)(ta:TE):TE:=fun σ H Q=>ta σ H fun x H1=>r x H1 Q
def rI(C:Int->Int->Prop)(g:Int->Int->V):R2:=fun x y H Q=>∃i j,x = .int i/\y = .int j/\C i j/\Q (g i j) H
def rI0(g:Int->Int->V):R2:=fun x y H Q=>∃i j,x = .int i/\y = .int j/\Q (g i j) H
def rU(g:Int->V):V->Hp->VK->Prop:=fun x H Q=>∃i,x = .int i/\Q (g i) H
section
variable{X:Cx}{a b c:Expr}{ta tb tc:TE}{pos:Pos}
theorem Cb(ha:PE X a ta)(hb:PE X b tb){pins:List (Addr × Obj)}{s:Shared}{σ:St}{H:Hp}{R:V->V->Hp->Prop}(I:Inv X pins σ H s)
 (h:ta σ H fun x H1=>tb σ H1 fun y H2=>R x y H2) {Q:Value->Shared->Prop} {f:Value->Value->Sem Value}
 (hf:∀v u s2 x y H2,Inv X pins σ H2 s2->RelV x v->RelV y u->R x y H2->wpAny (model X.prog X.w) X.A (f v u) Q X.xe s2) :
 wpAny (model X.prog X.w) X.A (eval a X.env) (fun v s₁=>wpAny (model X.prog X.w) X.A (eval b X.env) (fun u s₂=>wpAny (model X.prog X.w) X.A (f v u) Q X.xe s₂) X.xe s₁) X.xe s:=by
 refine thn (ha pins s σ H _ I h) fun v s1 hq_=>?_;obtain⟨x,H1,I1,r1,q1⟩:=hq_;refine thn (hb pins s1 σ H1 _ I1 q1) fun u s2 hq_=>?_;obtain⟨y,H2,I2,r2,q2⟩:=hq_;exact hf v u s2 x y H2 I2 r1 r2 q2
theorem ah{op:Operator}{r:R2}(ho:OpR X (binaryOp op) r)(ha:PE X a ta)(hb:PE X b tb):PE X (.BinOp a op b pos) (tOp r ta tb):=by
 intro pins s σ H Q I h;exact wpAny_BinOp (Cb ha hb I h fun v u s2 x y H2 I2 rx ry q=>ho pins s2 σ H2 x y v u Q I2 rx ry q)
theorem jV{op:UnaryOp}{r:V->Hp->VK->Prop}(ho:UnR X (unaryOp op) r)(ha:PE X a ta):PE X (.UnaryOp op a pos) (tUn r ta):=by
 intro pins s σ H Q I h;exact UnaryOp_ (thn (ha pins s σ H _ I h) fun v s1 hq_=>(by obtain⟨x,H1,I1,r1,q1⟩:=hq_;exact ho pins s1 σ H1 x v Q I1 r1 q1))
theorem opI{f:Value->Value->Sem Value}{C:Int->Int->Prop}{g:Int->Int->Int}
 (rule:∀(i j:Int) (t u:Tok) (s:Shared) (Q:Value->Shared->Prop) (E:Value->Shared->Prop),C i j->Q (.int (g i j) s.toks) { s with toks:=s.toks+1 }->wpAny (model X.prog X.w) X.A (f (.int i t) (.int j u)) Q E s) :
 OpR X f (rI C fun i j=>.int (g i j)):=by
 intro pins s σ H x y v u Q I rx ry h;obtain⟨i,j,rfl,rfl,hc,q⟩:=h;obtain⟨t,rfl⟩:=rx;obtain⟨t',rfl⟩:=ry;exact rule i j t t' s _ _ hc ⟨.int (g i j),H,I.tok _,⟨_,rfl⟩,q⟩
theorem Db{f:Value->Value->Sem Value}{g:Int->Int->Int}
 (rule:∀(i j:Int) (t u:Tok) (s:Shared) (Q:Value->Shared->Prop) (E:Value->Shared->Prop),Q (.int (g i j) s.toks) { s with toks:=s.toks+1 }->wpAny (model X.prog X.w) X.A (f (.int i t) (.int j u)) Q E s) :
 OpR X f (rI0 fun i j=>.int (g i j)):=by
 intro pins s σ H x y v u Q I rx ry h;obtain⟨i,j,rfl,rfl,q⟩:=h;obtain⟨t,rfl⟩:=rx;obtain⟨t',rfl⟩:=ry;exact rule i j t t' s _ _ ⟨.int (g i j),H,I.tok _,⟨_,rfl⟩,q⟩
theorem yp{f:Value->Value->Sem Value}{g:Int->Int->Bool}
 (rule:∀(i j:Int) (t u:Tok) (s:Shared) (Q:Value->Shared->Prop) (E:Value->Shared->Prop),Q (.bool (g i j)) s->wpAny (model X.prog X.w) X.A (f (.int i t) (.int j u)) Q E s) :
 OpR X f (rI0 fun i j=>.bl (g i j)):=by
 intro pins s σ H x y v u Q I rx ry h;obtain⟨i,j,rfl,rfl,q⟩:=h;obtain⟨t,rfl⟩:=rx;obtain⟨t',rfl⟩:=ry;exact rule i j t t' s _ _ ⟨.bl (g i j),H,I,rfl,q⟩
def BK(i j:Int):Prop:=0<j/\j<1073741824
def Co(i j:Int):Prop:=0<=j/\j<=1000000/\i.natAbs<2 ^ 64
def CMul(i j:Int):Prop:=(-(2 ^ 64)<i/\i<2 ^ 64)\/(-(2 ^ 64)<j/\j<2 ^ 64)
theorem CMul.ok{i j:Int}(h:CMul i j):IntMulOk i j:=by
 rcases h with ⟨h1,h2⟩|⟨h1,h2⟩
 ·exact .of_left (intBits_le_64 h1 h2)
 ·exact .of_right (intBits_le_64 h1 h2)
theorem Be:OpR X (binaryOp .Add) (rI0 fun i j=>.int (i+j)):=Db fun _ _ _ _ _ _ _ q=>add_int q
theorem A5:OpR X (binaryOp .Sub) (rI0 fun i j=>.int (i-j)):=Db fun _ _ _ _ _ _ _ q=>sub_int q
theorem Bg:OpR X (binaryOp .Mult) (rI CMul fun i j=>.int (i*j)):=opI fun _ _ _ _ _ _ _ hc q=>mul_int q hc.ok
theorem yq:OpR X (binaryOp .FloorDiv) (rI BK fun i j=>.int (i / j)):=opI fun i j _ _ _ _ _ hc q=>by
 have h1:(0:Int)<j:=hc.1;have h2:j<1073741824:=hc.2;exact floordiv_int (by lia) (by rw[Int.fdiv_eq_ediv_of_nonneg i (by lia)];exact q) (.inl (PyProof.noPylong_small (by lia)))
theorem CC:OpR X (binaryOp .Mod) (rI (fun _ j=>0<j) fun i j=>.int (i % j)):=opI fun i j _ _ _ _ _ hc q=>by
 have h1:(0:Int)<j:=hc;exact mod_int' (by lia) (by rw[Int.fmod_eq_emod_of_nonneg i (by lia)];exact q)
theorem Bm:OpR X (binaryOp .Pow) (rI Co fun i j=>.int (i ^ j.toNat)):=opI fun _ _ _ _ _ _ _ hc q=>pow_int_small hc.1 hc.2.1 hc.2.2 q
theorem unI{f:Value->Sem Value}{g:Int->Int}
 (rule:∀(i:Int) (t:Tok) (s:Shared) (Q:Value->Shared->Prop) (E:Value->Shared->Prop),Q (.int (g i) s.toks) { s with toks:=s.toks+1 }->wpAny (model X.prog X.w) X.A (f (.int i t)) Q E s) :
 UnR X f (rU fun i=>.int (g i)):=by
 intro pins s σ H x v Q I rx h;obtain⟨i,rfl,q⟩:=h;obtain⟨t,rfl⟩:=rx;exact rule i t s _ _ ⟨.int (g i),H,I.tok _,⟨_,rfl⟩,q⟩
theorem CK:UnR X (unaryOp .USub) (rU fun i=>.int (-i)):=unI fun _ _ _ _ _ q=>neg_int q
end
noncomputable def BA:V->V->Bool
 | .non,.non=>true | .non,.int _=>true | .int _,.non=>true | .non,.bl _=>true | .bl _,.non=>true | .non,.str _=>true | .str _,.non=>true
 | .int _,.int _=>true | .bl _,.bl _=>true | .str _,.str _=>true | .byt _,.byt _=>true
 | .int _,.str _=>true | .str _,.int _=>true | .bl _,.str _=>true | .str _,.bl _=>true
 |_,_=>false
def rEq:R2:=fun x y H Q=>BA x y=true/\Q (.bl (decide (x=y))) H
def rNe:R2:=fun x y H Q=>BA x y=true/\Q (.bl (!decide (x=y))) H
theorem tN:decide (V.int i=V.int j)=(i==j):=by
 rw[ZO];simp
theorem yh:decide (V.bl i=V.bl j)=(i==j):=by
 rw[ZO];simp
theorem t_:decide (V.str i=V.str j)=(i==j):=by
 rw[ZO];simp
theorem tI{i j:Array UInt8}:decide (V.byt i=V.byt j)=(i.toList==j.toList):=by
 rw[ZO];cases i;cases j;simp
section
variable{X:Cx}{a b c:Expr}{ta tb tc:TE}{pos:Pos}
theorem aW(I:Inv X pins σ H s)(q:Q (.bl k) H)(e:k=k'):EP X pins σ Q (.bool k') s:=by
 subst e;exact⟨.bl k,H,I,rfl,q⟩
theorem Dz:OpR X (pU .Eq) rEq:=by
 intro pins s σ H x y v u Q I rx ry h;obtain⟨hs,q⟩:=h;cases x with
 |non=>
  cases rx;cases y with
  |non=>cases ry;exact PySem.EqNone.eq_none_none (aW I q (by simp))
  |bl j=>cases ry;exact PySem.EqNone.eq_none_bool (aW I q (by simp))
  |int j=>obtain⟨t',rfl⟩:=ry;exact PySem.EqNone.eq_none_int (aW I q (by simp))
  |str j=>obtain⟨t',rfl⟩:=ry;exact PySem.EqNone.eq_none_str (aW I q (by simp))
  |_=>exact absurd (show false=true from hs) vy
 |bl i=>
  cases rx;cases y with
  |non=>cases ry;exact PySem.EqNone.eq_bool_none (aW I q (by simp))
  |bl j=>cases ry;exact eq_bool (aW I q yh)
  |str j=>obtain⟨t',rfl⟩:=ry;exact PySem.EqMixed.eq_bool_str (aW I q (by simp))
  |_=>exact absurd (show false=true from hs) vy
 |int i=>
  obtain⟨t,rfl⟩:=rx;cases y with
  |non=>cases ry;exact PySem.EqNone.eq_int_none (aW I q (by simp))
  |int j=>obtain⟨t',rfl⟩:=ry;exact eq_int (aW I q tN)
  |str j=>obtain⟨t',rfl⟩:=ry;exact PySem.EqMixed.eq_int_str (aW I q (by simp))
  |_=>exact absurd (show false=true from hs) vy
 |str i=>
  obtain⟨t,rfl⟩:=rx;cases y with
  |non=>cases ry;exact PySem.EqNone.eq_str_none (aW I q (by simp))
  |bl j=>cases ry;exact PySem.EqMixed.eq_str_bool (aW I q (by simp))
  |int j=>obtain⟨t',rfl⟩:=ry;exact PySem.EqMixed.eq_str_int (aW I q (by simp))
  |str j=>obtain⟨t',rfl⟩:=ry;exact eq_str (aW I q t_)
  |_=>exact absurd (show false=true from hs) vy
 |byt i=>
  obtain⟨t,rfl⟩:=rx;cases y with
  |byt j=>obtain⟨t',rfl⟩:=ry;exact PySem.W.eq_bytes (aW I q tI)
  |_=>exact absurd (show false=true from hs) vy
 |_=>cases y <;> exact absurd (show false=true from hs) vy
theorem DF:OpR X (pU .NotEq) rNe:=by
 intro pins s σ H x y v u Q I rx ry h;obtain⟨hs,q⟩:=h;cases x with
 |non=>
  cases rx;cases y with
  |non=>cases ry;exact PySem.EqNone.ne_none_none (aW I q (by simp))
  |bl j=>cases ry;exact PySem.EqNone.ne_none_bool (aW I q (by simp))
  |int j=>obtain⟨t',rfl⟩:=ry;exact PySem.EqNone.ne_none_int (aW I q (by simp))
  |str j=>obtain⟨t',rfl⟩:=ry;exact PySem.EqNone.ne_none_str (aW I q (by simp))
  |_=>exact absurd (show false=true from hs) vy
 |bl i=>
  cases rx;cases y with
  |non=>cases ry;exact PySem.EqNone.ne_bool_none (aW I q (by simp))
  |bl j=>cases ry;exact ne_bool (aW I q (congrArg not yh))
  |str j=>obtain⟨t',rfl⟩:=ry;exact PySem.EqMixed.ne_bool_str (aW I q (by simp))
  |_=>exact absurd (show false=true from hs) vy
 |int i=>
  obtain⟨t,rfl⟩:=rx;cases y with
  |non=>cases ry;exact PySem.EqNone.ne_int_none (aW I q (by simp))
  |int j=>obtain⟨t',rfl⟩:=ry;exact ne_int (aW I q (congrArg not tN))
  |str j=>obtain⟨t',rfl⟩:=ry;exact PySem.EqMixed.ne_int_str (aW I q (by simp))
  |_=>exact absurd (show false=true from hs) vy
 |str i=>
  obtain⟨t,rfl⟩:=rx;cases y with
  |non=>cases ry;exact PySem.EqNone.ne_str_none (aW I q (by simp))
  |bl j=>cases ry;exact PySem.EqMixed.ne_str_bool (aW I q (by simp))
  |int j=>obtain⟨t',rfl⟩:=ry;exact PySem.EqMixed.ne_str_int (aW I q (by simp))
  |str j=>obtain⟨t',rfl⟩:=ry;exact ne_str (aW I q (congrArg not t_))
  |_=>exact absurd (show false=true from hs) vy
 |byt i=>
  obtain⟨t,rfl⟩:=rx;cases y with
  |byt j=>obtain⟨t',rfl⟩:=ry;exact PySem.W.ne_bytes (aW I q (congrArg not tI))
  |_=>exact absurd (show false=true from hs) vy
 |_=>cases y <;> exact absurd (show false=true from hs) vy
theorem DD:OpR X (pU .Lt) (rI0 fun i j=>.bl (decide (i<j))):=yp fun _ _ _ _ _ _ _ q=>lt_int q
theorem Di:OpR X (pU .LtE) (rI0 fun i j=>.bl (decide (i<=j))):=yp fun _ _ _ _ _ _ _ q=>le_int q
theorem Ef:OpR X (pU .Gt) (rI0 fun i j=>.bl (decide (j<i))):=yp fun _ _ _ _ _ _ _ q=>gt_int q
theorem CS:OpR X (pU .GtE) (rI0 fun i j=>.bl (decide (j<=i))):=yp fun _ _ _ _ _ _ _ q=>ge_int q
theorem uU:OpR X (pU .Lt) (fun x y H Q=>∃i j,x = .str i/\y = .str j/\Q (.bl (decide (i.cps.toList<j.cps.toList))) H):=by
 intro pins s σ H x y v u Q I rx ry h;obtain⟨i,j,rfl,rfl,q⟩:=h;obtain⟨t,rfl⟩:=rx;obtain⟨t',rfl⟩:=ry;exact lt_str (aW I q rfl)
theorem vx:OpR X (pU .In) (fun x y H Q=>∃i j,x = .str i/\y = .str j/\Q (.bl (!(Builtin.Str.occurrences j i 0 j.length 1).isEmpty)) H):=by
 intro pins s σ H x y v u Q I rx ry h;obtain⟨i,j,rfl,rfl,q⟩:=h;obtain⟨t,rfl⟩:=rx;obtain⟨t',rfl⟩:=ry;exact in_str (aW I q rfl)
theorem om:OpR X (pU .NotIn) (fun x y H Q=>∃i j,x = .str i/\y = .str j/\Q (.bl (!(!(Builtin.Str.occurrences j i 0 j.length 1).isEmpty))) H):=by
 intro pins s σ H x y v u Q I rx ry h;obtain⟨i,j,rfl,rfl,q⟩:=h;obtain⟨t,rfl⟩:=rx;obtain⟨t',rfl⟩:=ry;exact notIn_str (aW I q rfl)
theorem OpR.or{f:Value->Value->Sem Value}{r r':R2}(h:OpR X f r)(h':OpR X f r'):OpR X f (fun x y H Q=>r x y H Q\/r' x y H Q):=by
 intro pins s σ H x y v u Q I rx ry q;rcases q with q|q
 ·exact h pins s σ H x y v u Q I rx ry q
 ·exact h' pins s σ H x y v u Q I rx ry q
theorem fo(b:Expr)(h:op ≠ .In:=by decide)(h2:op ≠ .NotIn:=by decide):ZL op b=false:=by
 have e1:(op==CmpOp.In)=false:=by cases op <;> first|rfl|exact absurd rfl h
 have e2:(op==CmpOp.NotIn)=false:=by cases op <;> first|rfl|exact absurd rfl h2
 cases b <;> simp[ZL,e1,e2]
theorem eO{op:CmpOp}{r:R2}(ho:OpR X (pU op) r)(ha:PE X a ta)(hb:PE X b tb)(hm:ZL op b=false):PE X (.Compare a [op] [b] pos) (tOp r ta tb):=by
 intro pins s σ H Q I h;exact wpAny_Compare1 (Cb ha hb I h fun v u s2 x y H2 I2 rx ry q=>ho pins s2 σ H2 x y v u Q I2 rx ry q) hm
def EC(K:W.Frag)(x:V)(H:Hp)(k:Bool):Prop:=
 match x with
 | .non=>k=false
 | .bl b=>k=b
 | .int i=>k=(i != 0)
 | .str y=>y.length<=sizeLine/\k=((y.length:Int) != 0)
 | .byt y=>y.size<=sizeLine/\k=((y.size:Int) != 0)
 | .ref p=>(∃xs,SqL K H p xs/\k = !xs.isEmpty)\/(∃xs,SqT K H p xs/\k = !xs.isEmpty)\/∃kvs,H p=some (.dK kvs)/\k = !kvs.isEmpty
 |_=>False
theorem sx{κ:Type}{kvs:List (κ × V)}{vs:List (κ × Value)}(r:KV kvs vs):(!vs.isEmpty) = !kvs.isEmpty:=by
 cases r <;> rfl
theorem lx{xs:List V}{its:List Value}(r:Vals xs its):(!its.toArray.isEmpty) = !xs.isEmpty:=by
 cases r <;> simp
theorem i_:(sizeLine:Nat)<2 ^ 63:=by rw[wz];decide
theorem EG:EB X (fun x H Q=>∃k,EC X.K x H k/\Q k H):=by
 intro pins s σ H x v Q I rx h;obtain⟨k,e,q⟩:=h;have hl:=i_;have hs:sizeLine=16777216:=wz;cases x with
 |non=>
  cases rx;have e':k=false:=e;subst e';exact truthy_none ⟨H,I,q⟩
 |bl b=>
  cases rx;have e':k=b:=e;subst e';exact Zq ⟨H,I,q⟩
 |int i=>
  obtain⟨t,rfl⟩:=rx;have e':k=(i != 0):=e;subst e';exact PySem.P.truthy_int ⟨H,I,q⟩
 |str y=>
  obtain⟨t,rfl⟩:=rx;obtain⟨hy,e'⟩:y.length<=sizeLine/\k=((y.length:Int) != 0):=e;subst e';exact PySem.P.truthy_str (by lia) ⟨H,I.tok _,q⟩
 |byt y=>
  obtain⟨t,rfl⟩:=rx;obtain⟨hy,e'⟩:y.size<=sizeLine/\k=((y.size:Int) != 0):=e;subst e';exact PySem.W.truthy_bytes (by lia) ⟨H,I.tok _,q⟩
 |ref p=>
  cases rx;have e':(∃xs,SqL X.K H p xs/\k = !xs.isEmpty)\/(∃xs,SqT X.K H p xs/\k = !xs.isEmpty)\/∃kvs,H p=some (.dK kvs)/\k = !kvs.isEmpty:=e;rcases e' with ⟨xs,hx,e'⟩|⟨xs,hx,e'⟩|⟨kvs,hx,e'⟩
  ·subst e'
   obtain⟨its,r,pl,hz⟩:=I.list hx;have hlen:=r.length;exact wpAny_truthy_list pl.isList (by simp only[xV];lia) ⟨H,I.tok _,by rw[lx r];exact q⟩
  ·subst e'
   obtain⟨its,r,pl,hz⟩:=I.tuple hx;have hlen:=r.length;exact truthy_tuple pl (by simp only[xV];lia) ⟨H,I.tok _,by rw[lx r];exact q⟩
  ·subst e'
   obtain⟨hz,hS,vs,r,m⟩:kvs.length<=sizeLine/\(p==sysModules)=false/\∃vs,KV kvs vs/\s.heap.DictOf (di X.prog X.w) p vs:=I.hok p _ hx;have hlen:kvs.length=vs.length:=Paired.length r;exact wpAny_truthy_dict hS m (by lia) ⟨H,I.tok _,by rw[sx r];exact q⟩
 |_=>exact(show False from e).elim
theorem r8:OpR X (binaryOp .Add) (fun x y H Q=>∃i j,x = .str i/\y = .str j/\i.length+j.length<=sizeLine/\Q (.str (i++j)) H):=by
 intro pins s σ H x y v u Q I rx ry h;obtain⟨i,j,rfl,rfl,hz,q⟩:=h;obtain⟨t,rfl⟩:=rx;obtain⟨t',rfl⟩:=ry;exact add_str (fun t' tk=>⟨.str (i++j),H,I.tok _,⟨_,rfl⟩,q⟩) hz
theorem dq(r:Vals [x] us):∃u,us=[u]/\RelV x u:=by
 cases r with
 |cons r1 r2=>cases r2;exact⟨_,rfl,r1⟩
theorem wk(r:Vals [x,y] us):∃u w',us=[u,w']/\RelV x u/\RelV y w':=by
 cases r with
 |cons r1 r2=>
  cases r2 with
  |cons r3 r4=>cases r4;exact⟨_,_,rfl,r1,r3⟩
theorem vn:CallR X (.type "int") (fun xs H Q=>(∃i,xs=[.int i]/\Q (.int i) H)\/∃k,xs=[.bl k]/\Q (.int (if k then 1 else 0)) H):=by
 intro pins s σ H xs us Q I r h;rcases h with ⟨i,rfl,q⟩|⟨k,rfl,q⟩
 ·obtain⟨u,rfl,t,rfl⟩:=dq r
  exact call_int_int ⟨.int i,H,I,⟨_,rfl⟩,q⟩
 ·obtain⟨u,rfl,r1⟩:=dq r
  cases r1;exact call_int_bool ⟨.int (if k then 1 else 0),H,I.tok _,⟨_,rfl⟩,q⟩
theorem pA:CallR X (.type "str") (fun xs H Q=>∃i,xs=[.int i]/\i.natAbs.log2<1920/\Q (.str (toString i)) H):=by
 intro pins s σ H xs us Q I r h;obtain⟨i,rfl,hz,q⟩:=h;obtain⟨u,rfl,t,rfl⟩:=dq r;exact PySem.P.str_of_int hz ⟨.str _,H,I.tok _,⟨_,rfl⟩,q⟩
def EE(K:W.Frag)(x:V)(H:Hp)(n:Nat):Prop:=
 match x with
 | .str y=>y.length<=sizeLine/\n=y.length
 | .byt y=>y.size<=sizeLine/\n=y.size
 | .ref p=>(∃xs,SqL K H p xs/\n=xs.length)\/∃xs,SqT K H p xs/\n=xs.length
 |_=>False
theorem xb:CallR X (.builtin "len") (fun xs H Q=>∃x n,xs=[x]/\EE X.K x H n/\Q (.int n) H):=by
 intro pins s σ H xs us Q I r h;obtain⟨x,n,rfl,e,q⟩:=h;obtain⟨u,rfl,rx⟩:=dq r;have hl:=i_;have hs:sizeLine=16777216:=wz;cases x with
 |str y=>
  obtain⟨t,rfl⟩:=rx;obtain⟨hy,e'⟩:y.length<=sizeLine/\n=y.length:=e;subst e';exact len_str (by lia) ⟨.int _,H,I.tok _,⟨_,rfl⟩,q⟩
 |byt y=>
  obtain⟨t,rfl⟩:=rx;obtain⟨hy,e'⟩:y.size<=sizeLine/\n=y.size:=e;subst e';exact PySem.W.len_bytes (by lia) ⟨.int _,H,I.tok _,⟨_,rfl⟩,q⟩
 |ref p=>
  cases rx;have e':(∃xs,SqL X.K H p xs/\n=xs.length)\/∃xs,SqT X.K H p xs/\n=xs.length:=e;rcases e' with ⟨xs,hx,e'⟩|⟨xs,hx,e'⟩
  ·subst e'
   obtain⟨its,r',pl,hz⟩:=I.list hx;have hlen:=r'.length;exact Calls.call_len_list pl.isList (by simp only[xV];lia) ⟨.int xs.length,H,I.tok _,⟨_,by simp only[xV];rw[hlen]⟩,q⟩
  ·subst e'
   obtain⟨its,r',pl,hz⟩:=I.tuple hx;have hlen:=r'.length;exact len_tuple pl (by simp only[xV];lia) ⟨.int xs.length,H,I.tok _,⟨_,by simp only[xV];rw[hlen]⟩,q⟩
 |_=>exact(show False from e).elim
end
structure ObjM(h:Heap)(x dx C:Addr)(mA:Str->Option Value):Prop where
 obj:h.get? x=some (PySem.W.instObj C dx)
 ns:h.Ns1 dx mA
 ne:dx≠x
theorem vM{h:Heap}(n:h.Ns1 dx mA):∃od,h.get? dx=some od/\∀name,PySem.W.lookIn name od=some (mA name):=by
 obtain⟨o,es,ep,ho,hd,hk,_,hm⟩:=n;refine⟨o,ho,fun name=>?_⟩;have e:=hm name;unfold nsFind findBy at e;rw[<- Array.find?_toList]at e;unfold PySem.W.lookIn;rw[hd];dsimp only;split
 ·rename_i y q
  rw[q]at e;exact congrArg some e
 ·rename_i q
  rw[q]at e;have a:es.toList.any (·.refKey)=false:=by
   rw[List.any_eq_false];intro y hy;obtain⟨z,t,hkey⟩:=hk y (Array.mem_toList_iff.mp hy);simp[Z0.refKey,hkey]
  have a':¬ es.toList.any (·.refKey)=true:=by rw[a];exact vy
  rw[if_neg a'];exact congrArg some e
theorem ObjM.look(I:ObjM h x dx C mA):∃od,PySem.W.InstAt h x (PySem.W.instObj C dx) C (some od)/\∀name,PySem.W.lookIn name od=some (mA name):=
 let ⟨od,ho,hl⟩:=vM I.ns
 ⟨od,⟨I.obj,rfl,rfl,ho⟩,hl⟩
noncomputable def DW(f:Str)(v:V):List (Str × V)->List (Str × V)
 | []=>[(f,v)]
 |(g,x)::r=>if g=f then (g,v)::r else (g,x)::DW f v r
section
variable{P:Program}{w:World}{H H':Hp}{h h':Heap}{a C dx:Addr}{fs fs':List (Str × V)}
theorem zN(hok:HOk P w H h)(e:H a=some (.ins C dx fs)):∃mA,ObjM h a dx C mA/\(∀f,BD (fs.lookup f) (mA f))/\PySem.Within mA (fs.map (·.1))/\fs.length<=1000/\H dx=some (.own a):=by
 obtain⟨d,z,ne,ob,mA,n,r,q⟩:=(show ObjOk P w H h a (.ins C dx fs) from hok a _ e);exact⟨mA,⟨ob,n,ne⟩,r,q,z,d⟩
end
structure Cls(K:W.Frag)(C:Addr):Prop where
 pg:PySem.W.plainGet K C Str.empty=true
 hd:PySem.W.hasDictIn K C=true
 po:PySem.W.plainOver K C=true
 sa:Yy K (.ref C) "__setattr__" = some (some (.builtin "object.__setattr__"))
theorem Cls.get{K:W.Frag}{C:Addr}(c:Cls K C)(f:Str):PySem.W.plainGet K C f=true:=c.pg
def r_(K:W.Frag)(C:Addr)(f:Str):Prop:=Yy K (.ref C) f=some none
structure Dl(K:W.Frag)(C:Addr)(m:Str)(f:Addr):Prop where
 at_:Yy K (.ref C) m=some (some (.ref f))
 fn:PySem.W.isFn K (.ref f)=true
 kp:ZF K (.ref f)=true
section
variable{X:Cx}{pins:List (Addr × Obj)}{σ:St}{H:Hp}{s:Shared}{A:Around}{E:Value->Shared->Prop}{Q:Value->Shared->Prop}{c:Value}{b:Bool}
inductive gK (K:W.Frag) (H:Hp):V->Value->Prop where
 |non:gK K H .non (.type "NoneType")
 |bl (x:Bool):gK K H (.bl x) (.type "bool")
 |int (i:Int):gK K H (.int i) (.type "int")
 |str (x:Str):gK K H (.str x) (.type "str")
 |flt (x:UInt64):gK K H (.flt x) (.type "float")
 |lst {a:Addr} {xs:List V} (e:H a=some (.lst xs)):gK K H (.ref a) (.type "list")
 |frz {a:Addr} {o:Obj} {xs:List V} (e:H a=some (.frz o (.lst xs))):gK K H (.ref a) (.type "list")
 |tup {a:Addr} {xs:List V} (e:H a=some (.tup xs)):gK K H (.ref a) (.type "tuple")
 |dK {a:Addr} {kvs:List (Key × V)} (e:H a=some (.dK kvs)):gK K H (.ref a) (.type "dict")
 |dT {a:Addr} {kvs:List (List Key × V)} (e:H a=some (.dT kvs)):gK K H (.ref a) (.type "dict")
 |ins {a C dx:Addr} {fs:List (Str × V)} (e:H a=some (.ins C dx fs)) (cl:Cls K C) (ha:Yy K (.ref C) "__class__" = some (some (.builtin "object.__class__")))
  (hn:PySem.W.specialIn K (.builtin "object.__class__") "__get__" = some (some (.builtin "getset_descriptor.__get__"))) (htk:PySem.W.takesIn K (.builtin "object.__class__")=some true)
  (hm:ZK K C (.type "object")=some true):gK K H (.ref a) (.ref C)
theorem uR(I:Inv X pins σ H s)(rx:RelV x u)(ty:gK X.K H x t)(e:nK X.K t c=some b)(h:∀tk,Q (.bool b) { s with toks:=tk }) :
 wpAny (model X.prog X.w) A (call (.builtin "isinstance") [u,c]) Q E s:=by
 cases ty with
 |non=>cases (show u=Zz from rx);exact Zw PySem.W.kitx_none I.kIn True.intro e (fun z=>nomatch z) h
 |bl y=>cases (show u=Value.bool y from rx);exact Zw PySem.W.kitx_bool I.kIn True.intro e (fun z=>nomatch z) h
 |int i=>obtain⟨t,q⟩:=(show ∃t,u=Value.int i t from rx);cases q;exact Zw PySem.W.kitx_int I.kIn True.intro e (fun z=>nomatch z) h
 |str y=>obtain⟨t,q⟩:=(show ∃t,u=YZ y t from rx);cases q;exact Zw PySem.W.kitx_str I.kIn True.intro e (fun z=>nomatch z) h
 |flt y=>obtain⟨t,q⟩:=(show ∃t,u=Value.float y t from rx);cases q;exact Zw PySem.W.kitx_float I.kIn True.intro e (fun z=>nomatch z) h
 | @lst a xs ea=>
  cases (show u=qr a from rx);obtain⟨_,_,n,_,h1⟩:=(show ObjOk X.prog X.w H s.heap a (.lst xs) from I.hok a _ ea);exact Zw PySem.W.kitx_list I.kIn ⟨_,h1,rfl⟩ e (fun z=>nomatch z) h
 | @frz a ob xs ea=>
  cases (show u=qr a from rx);obtain⟨_,_,_,n,_,h1⟩:=(show ObjOk X.prog X.w H s.heap a (.frz ob (.lst xs)) from I.hok a _ ea);exact Zw PySem.W.kitx_list I.kIn ⟨_,h1,rfl⟩ e (fun z=>nomatch z) h
 | @tup a xs ea=>
  cases (show u=qr a from rx);obtain⟨_,_,_,p⟩:=(show ObjOk X.prog X.w H s.heap a (.tup xs) from I.hok a _ ea);obtain⟨o,h1,h2,_⟩:=p;exact Zw PySem.W.kitx_tuple I.kIn ⟨o,h1,h2⟩ e (fun z=>nomatch z) h
 | @dK a kvs ea=>
  cases (show u=qr a from rx);obtain⟨_,_,vs,_,p⟩:=(show ObjOk X.prog X.w H s.heap a (.dK kvs) from I.hok a _ ea);obtain⟨o,es,ep,h1,h2,_⟩:=p;exact Zw PySem.W.kitx_dict I.kIn ⟨o,h1,h2.1⟩ e (fun z=>nomatch z) h
 | @dT a kvs ea=>
  cases (show u=qr a from rx);obtain⟨_,_,xs,_,o,es,ep,h1,h2,_⟩:=(show ObjOk X.prog X.w H s.heap a (.dT kvs) from I.hok a _ ea);exact Zw PySem.W.kitx_dict I.kIn ⟨o,h1,h2.1⟩ e (fun z=>nomatch z) h
 | @ins a C dx fs ea cl ha hn htk hm=>
  cases (show u=qr a from rx);obtain⟨mA,O,_⟩:=zN I.hok ea;obtain⟨od,J,_⟩:=O.look;exact Zw (PySem.W.kitx_own (cl.get _) cl.hd ha hn htk hm) I.kIn J e (fun z=>nomatch z) h
end
structure Room(k:Nat)(A:Around):Prop where
 hd:A.handled=none
 dp:A.depth+3*k+5<recursionLimit
 un:A.units+16*k+200<cLine
theorem Room.mono(r:Room k A)(h:j<=k:=by decide):Room j A:=⟨r.hd,by have:=r.dp;lia,by have:=r.un;lia⟩
theorem Room.deeper{A:Around}(r:Room (k+1) A)(env:Env):Room k (A.deeper env):=
 ⟨r.hd,by have:=r.dp;show A.depth+1+3*k+5<_;lia,by have:=r.un;show A.units+3+16*k+200<_;lia⟩
theorem Room.depth{A:Around}(r:Room k A):A.depth<recursionLimit:=by have:=r.dp;lia
def lG:TA:=fun _ H Q=>Q [] H
def cS(ta:TE)(tr:TA):TA:=fun σ H Q=>ta σ H fun x H1=>tr σ H1 fun xs H2=>Q (x::xs) H2
section
variable{X:Cx}{e:Expr}{es:List Expr}{te:TE}{t:TA}{pos:Pos}
theorem Bt:PA X [] lG:=fun _ _ _ _ H Q I h=>Calls.spliced_nil ⟨[],H,I,.nil,h⟩
theorem zc(ha:PE X e te)(hr:PA X es t)(hs:starEach (e::es) X.env=(false,eval e X.env)::starEach es X.env:=by rfl):PA X (e::es) (cS te t):=by
 intro pos pins s σ H Q I h;rw[hs];show wpAny _ _ (spliced ((false,eval e X.env)::backTo pos (starEach es X.env))) _ _ s;refine Zf (thn (ha pins s σ H _ I h) fun u s1 hq_=>?_);obtain⟨x,H1,I1,r1,q1⟩:=hq_;exact thn (hr pos pins s1 σ H1 _ I1 q1) fun us s2 hq_=>(by obtain⟨xs,H2,I2,r2,q2⟩:=hq_;exact⟨x::xs,H2,I2,.cons r1 r2,q2⟩)
def C6(t:TA):TE:=fun σ H Q=>t σ H fun xs H1=>xs.length<=sizeLine/\∀p,H1 p=none->Q (.ref p) (upd H1 p (.tup xs))
def D6(t:TA):TE:=fun σ H Q=>t σ H fun xs H1=>xs.length<=sizeLine/\∀p,H1 p=none->Q (.ref p) (upd H1 p (.lst xs))
theorem eS{x1}(h:PA X es t):PE X (.Tuple es x1 pos) (C6 t):=by
 intro pins s σ H Q I hq;refine wpAny_Tuple_spliced (thn (h pos pins s σ H _ I hq) fun us s1 ⟨xs,H1,I1,r,z,q⟩=>⟨by rw[<- r.length];exact z,?_⟩);have hf:H1 s1.heap.objs.size=none:=I1.hok.fresh (xi _);refine⟨.ref s1.heap.objs.size,upd H1 s1.heap.objs.size (.tup xs),I1.laid (t':=s1.toks) (fun b u e=>Heap.get?_push_of_some _ e) (xi _) ?_,rfl,q _ hf⟩;exact⟨z,us,r,⟨_,Heap.get?_push_size _ rfl,rfl,_,rfl⟩⟩
theorem aX(h:PA X es t):PE X (.List es pos) (D6 t):=by
 intro pins s σ H Q I hq;refine wpAny_List_spliced (thn (h pos pins s σ H _ I hq) fun us s1 ⟨xs,H1,I1,r,z,q⟩=>⟨by rw[<- r.length];exact z,?_⟩);have hf:H1 s1.heap.objs.size=none:=I1.hok.fresh (xi _);refine⟨.ref s1.heap.objs.size,upd H1 s1.heap.objs.size (.lst xs),I1.laid (t':=s1.toks) (fun b u e=>Heap.get?_push_of_some _ e) (xi _) ?_,rfl,q _ hf⟩;exact⟨z,us,0,r,Heap.get?_push_size _ rfl⟩
end
abbrev Sp:=List V->Hp->VK->XK->Prop
abbrev CXT:=List Env->Hp->Shared->XK->Value->Shared->Prop
structure zB(P:Program)(w:World)(K:W.Frag)(mg:Str->Option Value)(base:Heap)(A:Around)(outer:List Env)(s:Shared)(H:Hp):Prop where
 frames:A.frames=some outer
 mod:Mod K mg base
 bs:∀b o,base.get? b=some o->s.heap.get? b=some o/\H b=none
 bsz:base.objs.size<=s.heap.objs.size
 funs:s.heap.FunFrames base outer
 frf:∀b∈frs outer,H b=none
 hok:HOk P w H s.heap
 bare:AllBare s.gens
def CE(outer:List Env)(P:Program)(w:World)(H:Hp)(s:Shared)(Q:VK)(u:Value)(s':Shared):Prop:=
 ∃v H',s'.os=s.os/\AllBare s'.gens/\Un (frs outer) [] H H' s.heap s'.heap/\HOk P w H' s'.heap/\RelV v u/\Q v H'
def CR(CX:CXT)(outer:List Env)(P:Program)(w:World)(H:Hp)(s:Shared)(Q:VK)(E:XK)(r:Result)(s':Shared):Prop:=
 match r with
 | .ok (.ret u)=>CE outer P w H s Q u s'
 | .ok _=>False
 | .error e=>CX outer H s E e s'
structure FnOk(P:Program)(w:World)(K:W.Frag)(mg:Str->Option Value)(base:Heap)(CX:CXT)(k:Nat)(f:Addr)(fd:FuncData)(ps:List Str)(sp:Sp):Prop where
 len:∀vs H Q E,sp vs H Q E->vs.length=ps.length
 run:∀(A:Around) (outer:List Env) (s:Shared) (H:Hp) (args:Args) (us:List Value) (vs:List V) (Q:VK) (E:XK),Room k A->zB P w K mg base A outer s H->BindsTo s fd args (ps.zip us)->Vals vs us->sp vs H Q E ->
  codeAny (model P w) A (.call (.ref f) args) (CR CX outer P w H s Q E) s
theorem FnOk.imp{P:Program}{w:World}{K:W.Frag}{mg:Str->Option Value}{base:Heap}{CX:CXT}{k:Nat}{f:Addr}{fd:FuncData}{ps:List Str}{sp sp':Sp}(F:FnOk P w K mg base CX k f fd ps sp)
 (h:∀vs H Q E,sp' vs H Q E->sp vs H Q E):FnOk P w K mg base CX k f fd ps sp':=
 ⟨fun vs H Q E q=>F.len vs H Q E (h _ _ _ _ q),fun A outer s H args us vs Q E hr he hb hv hs=>F.run A outer s H args us vs Q E hr he hb hv (h _ _ _ _ hs)⟩
section
variable{X:Cx}{pins:List (Addr × Obj)}{σ:St}{H:Hp}{s s':Shared}
theorem Inv.env0(I:Inv X pins σ H s):zB X.prog X.w X.K X.mg X.base X.A X.stack s H:=
 ⟨I.ok.frames,I.ok.mod,I.bs,wx I.ok.bsz I.sz,I.stack,I.stkFree,I.hok,I.bare⟩
theorem Inv.after(I:Inv X pins σ H s)(h:CE X.stack X.prog X.w H s Q u s'):EP X pins σ Q u s':=by
 obtain⟨v,H',os,bare,un,hok,r,q⟩:=h;obtain⟨hh,g,d,t,os'⟩:=s';obtain rfl:os'=s.os:=os;exact⟨v,H',I.call (h':=hh) (g':=g) (d':=d) (t':=t) (ch:=[]) un hok bare (fun b z=>absurd z (by simp)),r,q⟩
end
def Binds(K:W.Frag)(fd:FuncData)(ps:List Str)(ds:List Value):Prop:=
 ∀(s:Shared) (us:List Value),K.In s.heap->(us++ds).length=ps.length->BindsTo s fd ⟨us,[]⟩ (ps.zip (us++ds))
theorem Binds.all{K:W.Frag}{fd:FuncData}{ps:List Str}(h:∀us:List Value,us.length=ps.length->bindArgs fd ⟨us,[]⟩=pure (ps.zip us)):Binds K fd ps []:=fun s us _ hl=>by
 rw[Z3]at hl |-
 exact .of_eq (h us hl)
structure dz(N P:List Str)(sc:Scope):Prop where
 kind:sc.kind = .function
 co:sc.isCoroutine=false
 gen:sc.isGenerator=false
 nd:N.Nodup
 pre:N.take P.length=P
 par:∀x∈P,sc.names.lookup x=some .local\/sc.names.lookup x=some .cell
 nofree:∀y∈sc.names,y.2 ≠ .free
theorem nk{kindOf:Str->Option NameKind}{x:Str}:∀ {binds:List (Str × Value)} {m:Str->Option Value},(∀v,(x,v)∉binds)->bindL kindOf binds m x=m x
 | [],_,_=>rfl
 |(n,v)::r,m,h=>by
  unfold bindL;rw[nk fun w hw=>h w (xM _ hw)];split
  ·have:x≠n:=by rintro rfl;exact h v ZV
   simp[this]
  ·rfl
theorem mS{kindOf:Str->Option NameKind}{x:Str}:∀ {binds:List (Str × Value)} {m:Str->Option Value},(∀v,(x,v)∉binds)->bindC kindOf binds m x=m x
 | [],_,_=>rfl
 |(n,v)::r,m,h=>by
  unfold bindC;rw[mS fun w hw=>h w (xM _ hw)];split
  ·rfl
  ·have:x≠n:=by rintro rfl;exact h v ZV
   simp[this]
theorem m8{kindOf:Str->Option NameKind}{x:Str}{v:Value}:∀ {P:List Str} {vs:List Value} {i:Nat} {m:Str->Option Value},P.Nodup->P[i]? = some x->vs[i]? = some v->kindOf x=some .local ->
 bindL kindOf (P.zip vs) m x=some v
 | [],_,_,_,_,h,_,_=>by simp at h
 |_::_,[],_,_,_,_,h,_=>by simp at h
 |p::P,w::vs,0,m,nd,h1,h2,hk=>by
  simp at h1 h2;subst h1;subst h2;show bindL kindOf ((p,w)::P.zip vs) m p=_;unfold bindL;rw[nk fun v hv=>(Yr.mp nd).1 (List.of_mem_zip hv).1,if_pos hk];simp
 |p::P,w::vs,i+1,m,nd,h1,h2,hk=>by
  show bindL kindOf ((p,w)::P.zip vs) m x=_;unfold bindL;exact m8 (i:=i) (Yr.mp nd).2 (by simpa using h1) (by simpa using h2) hk
theorem mT{kindOf:Str->Option NameKind}{x:Str}{v:Value}:∀ {P:List Str} {vs:List Value} {i:Nat} {m:Str->Option Value},P.Nodup->P[i]? = some x->vs[i]? = some v->kindOf x≠some .local ->
 bindC kindOf (P.zip vs) m x=some v
 | [],_,_,_,_,h,_,_=>by simp at h
 |_::_,[],_,_,_,_,h,_=>by simp at h
 |p::P,w::vs,0,m,nd,h1,h2,hk=>by
  simp at h1 h2;subst h1;subst h2;show bindC kindOf ((p,w)::P.zip vs) m p=_;unfold bindC;rw[mS fun v hv=>(Yr.mp nd).1 (List.of_mem_zip hv).1,if_neg hk];simp
 |p::P,w::vs,i+1,m,nd,h1,h2,hk=>by
  show bindC kindOf ((p,w)::P.zip vs) m x=_;unfold bindC;exact mT (i:=i) (Yr.mp nd).2 (by simpa using h1) (by simpa using h2) hk
noncomputable def dC(N:List Str)(vs:List V):St:=vs.map some++nY (N.length-vs.length) none
noncomputable def bE(CX:CXT)(P:Program)(w:World)(K:W.Frag)(mg:Str->Option Value)(base:Heap)(N:List Str)(qual:Str)(scope:Scope)(f:Addr)(cd:Value)(A:Around)(outer:List Env)(s:Shared)(H:Hp)(E:XK):Cx where
 prog:=P
 w:=w
 K:=K
 mg:=mg
 base:=base
 A:=A.deeper (envOfC qual scope s.heap.objs.size f cd)
 N:=N
 s₀:=s
 H₀:=H
 env:=envOfC qual scope s.heap.objs.size f cd
 outer:=outer
 stack:=envOfC qual scope s.heap.objs.size f cd::outer
 ex:=[]
 calm:=true
 fn:=fun _=>true
 pn:=[]
 xe:=fun e s'=>wpAny (model P w) (A.deeper (envOfC qual scope s.heap.objs.size f cd)) (leaving (envOfC qual scope s.heap.objs.size f cd) e) (fun _ s''=>CX outer H s E e s'') (fun e' s''=>CX outer H s E e' s'') s'
theorem rG{sc:Scope}(h:sc.names.lookup x=some .cell):∃c,(cellsFrom n sc.names []).lookup x=some c:=by
 have q:=PySem.W.cellsFrom_some sc.names n [] (.inl h);exact Option.isSome_iff_exists.mp q
theorem vK{CX:CXT}{P:Program}{w:World}{K:W.Frag}{mg:Str->Option Value}{base:Heap}{N ps:List Str}{qual:Str}{scope:Scope}{f:Addr}{cd:Value}{A:Around}{outer:List Env}{s s1:Shared}{H:Hp}{E:XK}{us:List Value}{vs:List V}
 (S:dz N ps scope) (hd:A.handled=none) (e0:zB P w K mg base A outer s H) (hl:vs.length=ps.length) (r:Vals vs us)
 (x:InCallC s s.heap.objs.size (bindL (envOfC qual scope s.heap.objs.size f cd).kindOf (ps.zip us) fun _=>none) (cellsFrom (s.heap.objs.size+1) scope.names []) (bindC (envOfC qual scope s.heap.objs.size f cd).kindOf (ps.zip us) fun _=>none) s1) :
 Inv (bE CX P w K mg base N qual scope f cd A outer s H E) [] (dC N vs) H s1:=by
 have hpl:ps.length<=N.length:=by have:=congrArg mF S.pre;rw[r0]at this;lia
 obtain⟨h1,tk,rfl,hk⟩:=x.done;have noA:∀b:Addr,b∉(bE CX P w K mg base N qual scope f cd A outer s H E).ex:=fun b z=>absurd (show b∈([]:List Addr) from z) (by simp);refine⟨⟨e0.mod,S.kind,rfl,rfl,xi _,fun y z c h1 h2=>?_,fun y hy=>?_,fun y c _ h=>?_,fun _=>hd,Around.frames_deeper e0.frames,.inr ⟨rfl,rfl⟩,fun b z=>absurd z (noA b),e0.bs,e0.bsz,fun b _ _=>noA b,fun b z=>absurd z (noA b),e0.funs,e0.frf⟩,
  rfl,e0.bare,Un.kept hk,⟨_,x.toInCall.ns,fun i y v h1 h2 h3=>?_⟩,fun y c h=>⟨_,x.cell y c h⟩,e0.hok.fresh (xi _),fun y c h=>?_,fun p hp=>absurd (show p∈([]:List (Addr × Obj)) from hp) (by simp),e0.hok.kept hk,?_⟩
 ·exact name_of_addr x.apart (ZZ h1) (ZZ h2)
 ·have hy:scope.names.lookup y=some .cell\/scope.names.lookup y=some .free:=hy
  rcases hy with hy|hy
  ·exact rG hy
  ·exact absurd rfl (S.nofree _ (ZZ hy))
 ·exact Zh (x.above y c (ZZ h))
 ·have hi:i<vs.length:=by
   unfold dC at h2;by_cases hi:i<vs.length
   ·exact hi
   ·rw[List.getElem?_append_right (by simpa using hi)]at h2
    rw[List.getElem?_replicate]at h2;split at h2 <;> cases h2
  have ha:vs[i]? = some v:=by
   unfold dC at h2;rw[List.getElem?_append_left (by simpa using hi),List.getElem?_map]at h2;cases e:vs[i]? with
   |none=>rw[e]at h2;cases h2
   |some a=>rw[e]at h2;cases h2;rfl
  obtain⟨u,hu,rv⟩:=r.get ha;have hp:ps[i]? = some y:=by
   rw[<- S.pre,List.getElem?_take_of_lt (by lia)];exact h1
  have ndP:ps.Nodup:=by rw[<- S.pre];exact S.nd.sublist (List.take_sublist _ _)
  refine⟨u,rv,?_⟩;rcases S.par y (oH hp) with k|k
  ·exact .inl ⟨k,m8 ndP hp hu k⟩
  ·obtain⟨c,e⟩:=rG (n:=s.heap.objs.size+1) k
   refine .inr ⟨.inl k,c,e,?_⟩;have q:=x.cell y c e;rw[mT ndP hp hu (by show scope.names.lookup y≠_;rw[k];decide)]at q;exact q
 ·exact e0.hok.fresh (Zh (x.above y c (ZZ h)))
 ·unfold dC
  show _=N.length;rw[zx,yV,List.length_replicate];lia
theorem CY{CX:CXT}{P:Program}{w:World}{K:W.Frag}{mg:Str->Option Value}{base:Heap}{k:Nat}{f:Addr}{name qual:Str}{params:Arguments}{body:List Stmt}{scope:Scope}{dV kV doc pm cdv ct oc:Value}{an od:Option Addr}
 {osl:Array (Option Value)} {N ps:List Str} {sp:Sp} (lk:K.lookup f=some ⟨oc,od,.func (Z4 name qual params body scope dV kV doc pm an cdv ct),osl⟩) (hcd:PySem.W.codeIn K cdv qual=true) (S:dz N ps scope)
 (len:∀vs H Q E,sp vs H Q E->vs.length=ps.length)
 (hbody:∀(A:Around) (outer:List Env) (s:Shared) (H:Hp) (vs:List V) (Q:VK) (E:XK),Room k (A.deeper (envOfC qual scope s.heap.objs.size f cdv))->sp vs H Q E ->
  ∃t,PSs (bE CX P w K mg base N qual scope f cdv A outer s H E) body t/\t { nx:=fun _ H'=>Q .non H',rt:=Q } (dC N vs) H) :
 FnOk P w K mg base CX (k+1) f (Z4 name qual params body scope dV kV doc pm an cdv ct) ps sp:=by
 refine⟨len,fun A outer s H args us vs Q E hr e0 hb r hsp=>?_⟩;have hl:=len _ _ _ _ hsp;have KX:K.In s.heap:=e0.mod.kin.keeps fun b o e=>(e0.bs b o e).1;have lim:s.heap.NoLimit:=e0.mod.nolimit.keeps fun b o e=>(e0.bs b o e).1;have hkind:∀y∈ps.zip us,scope.names.lookup y.1=some .local\/(scope.names.lookup y.1=some .cell/\((cellsFrom (s.heap.objs.size+1) scope.names []).lookup y.1).isSome=true):=fun hq_ hy=>by
  obtain⟨n,v⟩:=hq_;rcases S.par n (List.of_mem_zip hy).1 with q|q
  ·exact .inl q
  ·exact .inr ⟨q,PySem.W.cellsFrom_some _ _ _ (.inl q)⟩
 refine codeAny_call_function hr.depth (KX _ _ lk) rfl S.co S.gen rfl (PySem.W.codeRec_of KX hcd) (hb _ _ _ _ ?_);refine wpAny_newFunctionEnv_cells S.kind hkind fun env he s1 x=>?_;subst he;refine⟨lim.keeps x.toInCall.keep,codeAny_func ?_⟩;obtain⟨t,ht,hq⟩:=hbody A outer s H vs Q E (hr.deeper _) hsp;have I:Inv (bE CX P w K mg base N qual scope f cdv A outer s H E) [] (dC N vs) H s1:=vK S hr.hd e0 hl r x;refine tu (ht [] s1 (dC N vs) H _ I hq) (fun fl s' hs=>?_) fun e s' hs=>hs;have fin:∀ {σ':St} {H':Hp} {v:V} {u:Value},Inv (bE CX P w K mg base N qual scope f cdv A outer s H E) [] σ' H' s'->RelV v u->Q v H'->CE outer P w H s Q u s':=
  fun {σ' H' v u} J rv q=>⟨v,H',J.os,J.bare,J.base,J.hok,rv,q⟩
 cases fl with
 |ret u=>
  obtain⟨v,σ',H',J,rv,q⟩:=hs;exact fin J rv q
 |next=>
  obtain⟨σ',H',J,q⟩:=hs;exact fin (v:=V.non) (u:=Zz) J rfl q
 |brk=>
  obtain⟨_,_,_,q⟩:=hs;exact qT q
 |cont=>
  obtain⟨_,_,_,q⟩:=hs;exact qT q
section
variable{X:Cx}{x:Str}{p pos:Pos}{e:Expr}{es:List Expr}{t:TA}{id T:String}{r:List V->Hp->VK->Prop}
def tCB(r:List V->Hp->VK->Prop)(t:TA):TE:=fun σ H Q=>t σ H fun vs H1=>r vs H1 Q
theorem ay(hc:CallR X (.builtin id) r)(hg:Gl X x)(hm:X.mg x=none)(hv:kc x=some (.builtin id))(ha:PA X (e::es) t)(hn:x ≠ "__name__":=by decide)(hdb:(x==("__debug__":Str))=false:=by decide)
 (he:starEach (e::es) X.env=(false,eval e X.env)::starEach es X.env:=by rfl) (hpl:(backTo pos (starEach es X.env)).any (·.1)=false:=by rfl):PE X (.Call (.Name x p) (e::es) [] pos) (tCB r t):=by
 intro pins s σ H Q I h;refine ZD (fK I hg hm hv ?_ hn hdb);exact PyProof.Rows.callWith_builtin1 (thn (ha pos pins s σ H _ I h) fun us s1 hq_=>(by obtain⟨vs,H1,I1,r1,q1⟩:=hq_;exact hc pins s1 σ H1 vs us Q I1 r1 q1)) he hpl
theorem aM(hc:CallR X (.type T) r)(hg:Gl X x)(hm:X.mg x=none)(hv:kc x=some (.type T))(ha:PA X (e::es) t)(hn:x ≠ "__name__":=by decide)(hdb:(x==("__debug__":Str))=false:=by decide)
 (he:starEach (e::es) X.env=(false,eval e X.env)::starEach es X.env:=by rfl) (hpl:(backTo pos (starEach es X.env)).any (·.1)=false:=by rfl):PE X (.Call (.Name x p) (e::es) [] pos) (tCB r t):=by
 intro pins s σ H Q I h;refine ZD (fK I hg hm hv ?_ hn hdb);exact Zo (thn (ha pos pins s σ H _ I h) fun us s1 hq_=>(by obtain⟨vs,H1,I1,r1,q1⟩:=hq_;exact hc pins s1 σ H1 vs us Q I1 r1 q1)) he hpl
end
end L2
namespace HT
open PySem PyProof.Rows
section
variable{prog:Program}{w:World}{A:Around}{E:Value->Shared->Prop}{s:Shared}
noncomputable def sIx(n d:Nat):Option Int->Nat
 |none=>d
 |some v=>if v<0 then (v+(n:Int)).toNat else min v.toNat n
theorem sIx_none(n d:Nat):sIx n d none=d:=rfl
theorem sIx_nat(n d k:Nat):sIx n d (some (k:Int))=min k n:=by
 show(if (k:Int)<0 then ((k:Int)+(n:Int)).toNat else min (k:Int).toNat n)=min k n;rw[if_neg (by lia),qa]
theorem sIx_le(n d:Nat)(hd:d<=n)(o:Option Int):sIx n d o<=n:=by
 cases o with
 |none=>exact hd
 |some v=>
  show(if v<0 then (v+(n:Int)).toNat else min v.toNat n)<=n;by_cases hv:v<0
  ·rw[if_pos hv];lia
  ·rw[if_neg hv];exact Nat.min_le_right _ _
theorem C8(a b:Nat):((min a b:Nat):Int)=min (a:Int) (b:Int):=by
 rcases Nat.le_total a b with h|h
 ·rw[Ys h,Int.min_eq_left (Int.ofNat_le.mpr h)]
 ·rw[Yx h,Int.min_eq_right (Int.ofNat_le.mpr h)]
theorem tF(v:Int)(n d:Nat):(if v<0 then max (v+(n:Int)) 0 else min v (n:Int))=((sIx n d (some v):Nat):Int):=by
 show(if v<0 then max (v+(n:Int)) 0 else min v (n:Int))=(((if v<0 then (v+(n:Int)).toNat else min v.toNat n):Nat):Int);by_cases hv:v<0
 ·rw[if_pos hv,if_pos hv,Int.ofNat_toNat]
 ·rw[if_neg hv,if_neg hv,C8,Int.toNat_of_nonneg (Int.not_lt.mp hv)]
theorem clip_max(v:Int)(n d:Nat):max 0 (min (if v<0 then v+(n:Int) else v) (n:Int))=((sIx n d (some v):Nat):Int):=by
 show _=(((if v<0 then (v+(n:Int)).toNat else min v.toNat n):Nat):Int);by_cases hv:v<0
 ·rw[if_pos hv,if_pos hv,Int.ofNat_toNat,Int.min_eq_left (Int.add_le_of_le_sub_right (by rw[Int.sub_self];exact Int.le_of_lt hv)),Int.max_comm]
 ·rw[if_neg hv,if_neg hv,C8,Int.toNat_of_nonneg (Int.not_lt.mp hv),Int.max_eq_right]
  exact Int.le_min.mpr ⟨Int.not_lt.mp hv,Int.natCast_nonneg n⟩
theorem sH(lo hi:Option Int)(n:Nat):YU lo hi 1 (n:Int)=(((sIx n 0 lo:Nat):Int),((sIx n n hi:Nat):Int)):=by
 have h1:¬ ((1:Int)<0):=by lia
 unfold YU;simp only[h1,if_false];refine Prod.ext ?_ ?_
 ·cases lo with
  |none=>rfl
  |some v=>exact tF v n 0
 ·cases hi with
  |none=>rfl
  |some v=>exact tF v n n
theorem sj(i j:Nat):ZA (i:Int) (j:Int) 1=j-i:=by
 unfold ZA;have h1:(1:Int) > 0:=by lia
 simp only[h1,if_true,Int.ediv_one];split <;> lia
theorem lr{Q:Option Int->Shared->Prop}(p:IsPart v o)(h:Q o s):wpAny (model prog w) A (Builtin.Slice.slicePartIndex v) Q E s:=by
 cases p with
 |none=>exact slicePart_none h
 |int i t=>exact slicePart_int h
theorem ji{sl:Addr}{vl vu:Value}{lo hi:Option Int}{n:Nat}{Q:Int × Int × Nat->Shared->Prop}(hs:s.heap.IsSliceOf sl vl vu .none)(pl:IsPart vl lo)(pu:IsPart vu hi)
 (h:Q (((sIx n 0 lo:Nat):Int),1,sIx n n hi-sIx n 0 lo) s):wpAny (model prog w) A (Builtin.Slice.sliceApplied (.ref sl) (pure (n:Int))) Q E s:=by
 obtain⟨os,hos,hcs,hds⟩:=id hs;unfold Builtin.Slice.sliceApplied Builtin.Slice.sliceFields;refine zz (zz (oi hos hds (x:=vl) rfl (zz (oi hos hds (x:=vu) rfl (zz (oi hos hds (x:=.none) rfl (xJ ?_)))))));refine zz (slicePart_none ?_);show wpAny _ _ (if ((1:Int)==0)=true then _ else _) _ _ s;rw[if_neg (by decide)];refine zz (lr pl (zz (lr pu (zz (xJ ?_)))));show wpAny _ _ (match YU lo hi 1 (n:Int) with|(lo,hi)=>pure (lo,(1:Int),ZA lo hi 1)) _ _ s;rw[sH lo hi n];show wpAny _ _ (pure (((sIx n 0 lo:Nat):Int),(1:Int),ZA ((sIx n 0 lo:Nat):Int) ((sIx n n hi:Nat):Int) 1)) _ _ s;rw[sj];exact xJ h
theorem wX(xs:Array Value)(i k:Nat):((rL k).filterMap fun(m:Nat)=>xs[((i:Int)+(m:Int)*1).toNat]?).toArray=((xs.toList.drop i).take k).toArray:=by
 have e:(fun(m:Nat)=>xs[((i:Int)+(m:Int)*1).toNat]?)=fun m=>xs[i+m]?:=by
  funext m;have:((i:Int)+(m:Int)*1).toNat=i+m:=by lia
  rw[this]
 rw[e];have:=pick_run xs i k;rw[List.filterMap_map]at this;have e2:((fun x=>xs[x]?) ∘ fun x=>i+x)=fun m=>xs[i+m]?:=rfl;rw[e2]at this;rw[this]
theorem getItem_tuple_cut{t sl:Addr}{items:Array Value}{vl vu:Value}{lo hi:Option Int}{Q:Value->Shared->Prop}(ht:IsTup s.heap t items)(hs:s.heap.IsSliceOf sl vl vu .none)(pl:IsPart vl lo)(pu:IsPart vu hi)
 (hw:¬ (sIx items.size 0 lo=0/\sIx items.size items.size hi=items.size))
 (h:Q (.ref s.heap.objs.size) { s with heap:=s.heap.push { cls:=.type "tuple",data:=.seq ((items.toList.drop (sIx items.size 0 lo)).take (sIx items.size items.size hi-sIx items.size 0 lo)).toArray } })
 (hsz:items.size<=sizeLine):wpAny (model prog w) A (getItem (.ref t) (.ref sl)) Q E s:=by
 have htake:sizeOk (.seq ((items.toList.drop (sIx items.size 0 lo)).take (sIx items.size items.size hi-sIx items.size 0 lo)).toArray):=by
  show((items.toList.drop (sIx items.size 0 lo)).take (sIx items.size items.size hi-sIx items.size 0 lo)).toArray.size<=sizeLine;rw[xV,r0,vJ,YR];exact wx (Nat.min_le_right _ _) (wx (Nat.sub_le _ _) hsz)
 have hj:sIx items.size items.size hi<=items.size:=sIx_le _ _ (xi _) hi;obtain⟨os,hos,hcs,hds⟩:=id hs;have hTs:s.TypeIs (.ref sl) "slice":=⟨os,hos,hcs⟩;unfold getItem
 try with_reducible refine Z7 ?_
 first|refine zz (xJ ?_)|skip
 refine zz (wpAny_sequenceKey ht.typeIs (by decide) ?_);refine zz (wpAny_callSpecial?_slot (name:=ka "__getitem__") ht.typeIs PyProof.Rows.slot_tuple_getitem
  (ZH PyProof.Rows.slot_tuple_getitem ht.typeIs entry_tuple_getitem ?_ (args_tuple_getitem _ _)))
 show wpAny _ _ (Builtin.Tuple.tupleItemsOf (.ref t) >>= _) _ _ s;refine zz (tupleItemsOf_ ht ?_);refine zz (wpAny_typeOf hTs ?_);rw[if_pos (by decide)];refine zz (ji hs pl pu ?_);have hno:¬ ((((sIx items.size 0 lo:Nat):Int)==0&&(1:Int)==1&&(sIx items.size items.size hi-sIx items.size 0 lo)==items.size)=true):=by
  intro q;rw[mx,mx]at q;have q1:((sIx items.size 0 lo:Nat):Int)=0:=eq_of_beq q.1.1;have q2:sIx items.size items.size hi-sIx items.size 0 lo=items.size:=eq_of_beq q.2;exact hw ⟨by lia,by lia⟩
 show wpAny _ _ (if (((sIx items.size 0 lo:Nat):Int)==0&&(1:Int)==1&&(sIx items.size items.size hi-sIx items.size 0 lo)==items.size)=true then _ else _) _ _ s;rw[if_neg hno,wX]
 first
  |exact zz (m:=Z8 _) (Zi (xJ ⟨_,rfl,xJ h⟩) htake)
  |exact zz (m:=Z8 _) (Zi (zz (xJ (xJ ⟨_,rfl,xJ h⟩))) htake)
  |exact zz (zz (m:=Z8 _) (Zi (xJ (xJ ⟨_,rfl,xJ h⟩)) htake))
  |exact zz (zz (m:=Z8 _) (Zi (xJ ⟨_,rfl,xJ h⟩) htake))
end
end HT
namespace L2
open PySem PySem.Spec PyProof.Rows
abbrev TO:=St->Hp->(Option Int->Hp->Prop)->Prop
def PO(X:Cx)(e:Option Expr)(t:TO):Prop:=
 ∀(pins:List (Addr × Obj)) (s:Shared) (σ:St) (H:Hp) (Q:Option Int->Hp->Prop),Inv X pins σ H s->t σ H Q ->
  wpAny (model X.prog X.w) X.A (evalPart e X.env) (fun u s'=>∃o H',Inv X pins σ H' s'/\IsPart u o/\Q o H') X.xe s
def tS:TO:=fun _ H Q=>Q none H
def AC(t:TE):TO:=fun σ H Q=>t σ H fun x H1=>∃i,x = .int i/\Q (some i) H1
theorem lD{ns:List Int}:∀ {us:List Value},Vals (ns.map V.int) us->IntsAre us ns:=by
 induction ns with
 |nil=>intro us r;rw[YX]at r;cases r;exact .nil
 |cons n ns ih=>
  intro us r;rw[rS]at r;cases r with
  |cons r1 r2=>
   obtain⟨t,e⟩:=r1;subst e;exact .cons n t (ih r2)
section
variable{X:Cx}{e:Expr}{te:TE}{lo hi:Option Expr}{tl th:TO}{pos p2:Pos}
theorem aJ:PO X none tS:=by
 intro pins s σ H Q I h;rw[evalPart_none];exact xJ ⟨none,H,I,.none,h⟩
theorem aD(h:PE X e te):PO X (some e) (AC te):=by
 intro pins s σ H Q I hw;rw[evalPart_some];refine thn (h pins s σ H _ I hw) fun u s1 hq_=>?_;obtain⟨x,H1,I1,r1,q1⟩:=hq_;obtain⟨i,rfl,q⟩:=q1;obtain⟨t,rfl⟩:=r1;exact⟨some i,H1,I1,.int i t,q⟩
def SlR(X:Cx)(r:V->Option Int->Option Int->Hp->VK->Prop):Prop:=
 ∀(pins:List (Addr × Obj)) (s:Shared) (σ:St) (H:Hp) (x:V) (v vl vu:Value) (lo hi:Option Int) (sl:Addr) (Q:VK),Inv X pins σ H s->RelV x v->s.heap.IsSliceOf sl vl vu .none->IsPart vl lo->IsPart vu hi->r x lo hi H Q ->
  ∃T id,typeLookup (.type T) "__getitem__" = pure (some (.builtin id))/\s.TypeIs v T/\wpAny (model X.prog X.w) X.A (getItem v (.ref sl)) (EP X pins σ Q) X.xe s
def tSl(r:V->Option Int->Option Int->Hp->VK->Prop)(te:TE)(tl th:TO):TE:=fun σ H Q=>te σ H fun x H1=>tl σ H1 fun l H2=>th σ H2 fun u H3=>r x l u H3 Q
theorem aA{r:V->Option Int->Option Int->Hp->VK->Prop}(hr:SlR X r)(he:PE X e te)(hl:PO X lo tl)(hu:PO X hi th):PE X (.Subscript e (.Slice lo hi none p2) pos) (tSl r te tl th):=by
 intro pins s σ H Q I h;refine Subscript_ (thn (he pins s σ H _ I h) fun v s1 hq_=>?_);obtain⟨x,H1,I1,r1,q1⟩:=hq_;refine wpAny_Slice (thn (hl pins s1 σ H1 _ I1 q1) fun vl s2 ⟨l,H2,I2,pl,q2⟩=>thn (hu pins s2 σ H2 _ I2 q2) fun vu s3 hq_=>?_);obtain⟨u,H3,I3,pu,q3⟩:=hq_;rw[evalPart_none];refine xJ ?_;have I4:Inv X pins σ H3 { s3 with heap:=s3.heap.push { cls:=.type "slice",data:=.fields #[vl,vu,.none] } }:=I3.kept (t':=s3.toks) fun b ob q=>Heap.get?_push_of_some _ q;obtain⟨T,id,hT,ht,hg⟩:=hr pins { s3 with heap:=s3.heap.push { cls:=.type "slice",data:=.fields #[vl,vu,.none] } } σ H3 x v vl vu l u s3.heap.objs.size Q I4 r1 (Heap.IsSliceOf.new ..) pl pu q3;show wpAny (model X.prog X.w) X.A (subscriptTail e (.Slice lo hi none p2) v (.ref s3.heap.objs.size)) (EP X pins σ Q) X.xe { s3 with heap:=s3.heap.push { cls:=.type "slice",data:=.fields #[vl,vu,.none] } };exact tail_any (ops:=[.ref s3.heap.objs.size,v]) ht hT hg (by with_unfolding_all rfl)
noncomputable def bX(xs:List V)(lo hi:Option Int):List V:=(xs.drop (HT.sIx xs.length 0 lo)).take (HT.sIx xs.length xs.length hi-HT.sIx xs.length 0 lo)
theorem jG(xs:List V)(lo hi:Option Int):(bX xs lo hi).length<=xs.length:=by
 unfold bX;rw[r0,vJ];exact wx (Nat.min_le_right _ _) (Nat.sub_le _ _)
def D9(K:W.Frag):V->Option Int->Option Int->Hp->VK->Prop:=fun x lo hi H Q=>∃a xs,x = .ref a/\SqT K H a xs /\
 ¬ (HT.sIx xs.length 0 lo=0/\HT.sIx xs.length xs.length hi=xs.length)/\∀p,H p=none->Q (.ref p) (upd H p (.tup (bX xs lo hi)))
theorem BW:SlR X (D9 X.K):=by
 intro pins s σ H x v vl vu lo hi sl Q I rx hs pl pu h;obtain⟨a,xs,rfl,hx,hw,q⟩:=h;cases rx;obtain⟨its,r,ht,hz⟩:=I.tuple hx;have hlen:its.toArray.size=xs.length:=by rw[xV];exact r.length.symm
 refine⟨"tuple",_,PyProof.Rows.slot_tuple_getitem.lookup,ht.typeIs,?_⟩;refine HT.getItem_tuple_cut ht hs pl pu (by rw[hlen];exact hw) ?_ (by rw[hlen];exact hz);rw[hlen];refine⟨.ref s.heap.objs.size,_,I.laid (t':=s.toks) (o:=.tup (bX xs lo hi)) (fun b ob q=>Heap.get?_push_of_some _ q) (xi _) ?_,rfl,q _ (I.hok.fresh (xi _))⟩;exact⟨wx (jG xs lo hi) hz,_,(r.drop (HT.sIx xs.length 0 lo)).take (HT.sIx xs.length xs.length hi-HT.sIx xs.length 0 lo),IsTup.new _ _⟩
end
noncomputable def ixN(n:Nat)(i:Int):Option Nat:=if 0<=i then (if i<n then some i.toNat else none) else if -(n:Int)<=i then some (i+n).toNat else none
noncomputable def atI{α:Type}(xs:List α)(i:Int):Option α:=(ixN xs.length i).bind fun j=>xs[j]?
theorem uy{i:Int}(h:ixN n i=some j):seqIndex? i n=some j/\j<n /\ -(n:Int)<=i/\i<n:=by
 unfold ixN at h;by_cases h0:0<=i
 ·rw[if_pos h0]at h
  by_cases h1:i<n
  ·rw[if_pos h1]at h
   have e:i.toNat=j:=wj h;exact⟨by rw[seqIndex_of h0 h1,e],by lia,by lia,h1⟩
  ·rw[if_neg h1]at h;cases h
 ·rw[if_neg h0]at h
  by_cases h1:-(n:Int)<=i
  ·rw[if_pos h1]at h
   have e:(i+n).toNat=j:=wj h;exact⟨by rw[seqIndex_neg (by lia) h1,e],by lia,h1,by lia⟩
  ·rw[if_neg h1]at h;cases h
theorem nF{α:Type}{xs:List α}{i:Int}{v:α}(h:atI xs i=some v):∃j,seqIndex? i xs.length=some j/\xs[j]? = some v/\j<xs.length /\ -(xs.length:Int)<=i/\i<xs.length:=by
 unfold atI at h;cases e:ixN xs.length i with
 |none=>rw[e]at h;cases h
 |some j=>
  rw[e]at h;obtain⟨h1,h2,h3,h4⟩:=uy e;exact⟨j,h1,h,h2,h3,h4⟩
theorem aO{α:Type}{xs:List α}{j:Nat}{v:α}(h:xs[j]? = some v):atI xs (j:Int)=some v:=by
 have hj:j<xs.length:=(List.getElem?_eq_some_iff.mp h).1;have e:ixN xs.length (j:Int)=some j:=by
  unfold ixN;rw[if_pos (by lia),if_pos (by lia)];simp
 unfold atI;rw[e];exact h
theorem wI{α:Type}(xs:List α)(v:α):atI (xs++[v]) (-1)=some v:=by
 have hl:(xs++[v]).length=xs.length+1:=by simp
 have e:ixN (xs++[v]).length (-1)=some xs.length:=by
  unfold ixN;rw[hl,if_neg (by decide),if_pos (by lia)]
  congr 1
  lia
 unfold atI;rw[e];show(xs++[v])[xs.length]? = some v;simp
def ph(b:Expr):Prop:=∀o i,subscripted b false o i=operate [o,i] (getItem o i)
def IxR(X:Cx)(r:R2):Prop:=
 ∀(value slice:Expr) (pins:List (Addr × Obj)) (s:Shared) (σ:St) (H:Hp) (x y:V) (v u:Value) (Q:VK),Inv X pins σ H s->RelV x v->RelV y u->r x y H Q ->
  subscripted slice false v u=operate [v,u] (getItem v u)->wpAny (model X.prog X.w) X.A (subscriptTail value slice v u) (EP X pins σ Q) X.xe s
def MtR(X:Cx)(id:String)(r:V->List V->Hp->VK->Prop):Prop:=
 ∀(pins:List (Addr × Obj)) (s:Shared) (σ:St) (H:Hp) (x:V) (xs:List V) (v:Value) (us:List Value) (Q:VK),Inv X pins σ H s->RelV x v->Vals xs us->r x xs H Q ->
  wpAny (model X.prog X.w) X.A (call (.builtin id) (v::us)) (EP X pins σ Q) X.xe s
section
variable{X:Cx}{a b:Expr}{ta tb:TE}{pos:Pos}
theorem IxR.or{r r':R2}(h:IxR X r)(h':IxR X r'):IxR X (fun x y H Q=>r x y H Q\/r' x y H Q):=by
 intro value slice pins s σ H x y v u Q I rx ry q hs;rcases q with q|q
 ·exact h value slice pins s σ H x y v u Q I rx ry q hs
 ·exact h' value slice pins s σ H x y v u Q I rx ry q hs
theorem Eb{r:R2}(hr:IxR X r)(ha:PE X a ta)(hb:PE X b tb)(hs:ph b):PE X (.Subscript a b pos) (tOp r ta tb):=by
 intro pins s σ H Q I h;exact Subscript_ (Cb ha hb I h fun v u s2 x y H2 I2 rx ry q=>hr a b pins s2 σ H2 x y v u Q I2 rx ry q (hs _ _))
def DS(K:W.Frag):R2:=fun x y H Q=>∃p xs i v,x = .ref p/\y = .int i/\SqL K H p xs/\atI xs i=some v/\Q v H
def DZ(K:W.Frag):R2:=fun x y H Q=>∃p xs i v,x = .ref p/\y = .int i/\SqT K H p xs/\atI xs i=some v/\Q v H
def C5:R2:=fun x y H Q=>∃z i c,x = .str z/\y = .int i/\z.length<=sizeLine/\atI z.cps.toList i=some c/\Q (.str ⟨#[c]⟩) H
theorem tW:IxR X (DS X.K):=by
 intro value slice pins s σ H x y v u Q I rx ry h hs;obtain⟨p,xs,i,z,rfl,rfl,hq,he,q⟩:=h;cases rx;obtain⟨t,rfl⟩:=ry;obtain⟨its,r,pl,hz⟩:=I.list hq;obtain⟨j,h1,h2,h3,h4,h5⟩:=nF he;obtain⟨w,ew,rw'⟩:=r.get h2;have hl:=r.length;have hn:=i_;have fin:EP X pins σ Q w s:=⟨z,H,I,rw',q⟩;by_cases h0:0<=i
 ·have hj:i.toNat=j:=by
   rw[seqIndex_of h0 h5]at h1;exact wj h1
  exact item_listR pl.isList h0 (by lia) (by rw[hj];simpa using ew) fin hs
 ·have hj:(i+(its.toArray.size:Int)).toNat=j:=by
   rw[seqIndex_neg (by lia) h4]at h1;rw[xV,<- hl];exact wj h1
  exact subscriptTail_builtinR (x:=w) pl.isList.typeIs slot_list_getitem.lookup
   (wpAny_getItem_list_neg (Q:=fun r s'=>r=w/\EP X pins σ Q r s') pl.isList (by lia) (by rw[xV] <;> lia) (by lia) (by rw[hj];simpa using ew) ⟨rfl,fin⟩) hs
theorem CG:IxR X (DZ X.K):=by
 intro value slice pins s σ H x y v u Q I rx ry h hs;obtain⟨p,xs,i,z,rfl,rfl,hq,he,q⟩:=h;cases rx;obtain⟨t,rfl⟩:=ry;obtain⟨its,r,pl,hz⟩:=I.tuple hq;obtain⟨j,h1,h2,h3,h4,h5⟩:=nF he;obtain⟨w,ew,rw'⟩:=r.get h2;have hl:=r.length;have hn:=i_;have fin:EP X pins σ Q w s:=⟨z,H,I,rw',q⟩;exact subscriptTail_builtinR (x:=w) pl.typeIs slot_tuple_getitem.lookup
  (getItem_tuple (j:=j) (Q:=fun r s'=>r=w/\EP X pins σ Q r s') pl (by lia) (by lia) (by rw[xV,<- hl];exact h1) (by simpa using ew) ⟨rfl,fin⟩) hs
theorem Cp:IxR X C5:=by
 intro value slice pins s σ H x y v u Q I rx ry h hs;obtain⟨z,i,c,rfl,rfl,hz,he,q⟩:=h;obtain⟨t,rfl⟩:=rx;obtain⟨t',rfl⟩:=ry;obtain⟨j,h1,h2,h3,h4,h5⟩:=nF he;have hl:z.cps.toList.length=z.length:=by simp[Zk]
 rw[hl]at h1 h4 h5;have hn:=i_;exact tail_any (ZQ s z t) slot_str_getitem.lookup (getItem_str (c:=c) (by
  have e1:decide (i < -(2 ^ 63:Int))=false:=decide_eq_false (by lia);have e2:decide (i ≥ 2 ^ 63)=false:=decide_eq_false (by lia);rw[e1,e2,Bool.or_false]) (by rw[h1];simpa using h2) ⟨.str ⟨#[c]⟩,H,I.tok _,⟨_,rfl⟩,q⟩) hs
def rIx(K:W.Frag):R2:=fun x y H Q=>DS K x y H Q\/DZ K x y H Q\/C5 x y H Q
theorem Bz:IxR X (rIx X.K):=tW.or (CG.or Cp)
theorem rZ(its:List Value)(n j:Nat)(u:Value):Obj.mapSeq (·.setIfInBounds j u) { cls:=.type "list",data:=.seq its.toArray n } = { cls:=.type "list",data:=.seq (its.set j u).toArray n }:=by
 simp[Obj.mapSeq]
theorem Inv.lst{pins:List (Addr × Obj)}{σ:St}{H:Hp}{s:Shared}{p:Addr}{xs:List V}(I:Inv X pins σ H s)(h:H p=some (.lst xs)) :
 ∃(its:List Value) (n:Nat),Vals xs its/\s.heap.get? p=some { cls:=.type "list",data:=.seq its.toArray n }/\xs.length<=sizeLine:=by
 obtain⟨z,its,n,r,e⟩:=I.hok p _ h;exact⟨its,n,r,e,z⟩
theorem Inv.lstUpd{s:Shared}{xs ys:List V}{its its':List Value}(I:Inv X pins σ H s)(h:H p=some (.lst xs))
 (ho:s.heap.get? p=some { cls:=.type "list",data:=.seq its.toArray n }) (hf:f { cls:=.type "list",data:=.seq its.toArray n } = { cls:=.type "list",data:=.seq its'.toArray n' }) (r:Vals ys its') (hz:ys.length<=sizeLine) (t:Nat) :
 Inv X pins σ (upd H p (.lst ys)) { s with heap:=s.heap.update p f,toks:=t }:=by
 have e:(s.heap.update p f).get? p=some { cls:=.type "list",data:=.seq its'.toArray n' }:=by
  rw[Heap.get?_update_self f ho (by rw[hf] <;> rfl),hf]
 refine I.write (x:=p) (e:=p) (by rw[h];trivial) (.inl rfl) (fun b u hb q=>(Heap.get?_update_other _ _ (Ne.symm hb)).trans q) ⟨_,e⟩ ?_;exact⟨hz,its',n',r,e⟩
def Aj:V->V->V->Hp->(Hp->Prop)->Prop:=fun o i v H Q=>∃p xs k j,o = .ref p/\i = .int k/\H p=some (.lst xs)/\ixN xs.length k=some j/\Q (upd H p (.lst (xs.set j v)))
theorem wM:Dw X Aj:=by
 intro pins s σ H o i v ov iv u Q I ro ri rv h;obtain⟨p,xs,k,j,rfl,rfl,hp,hj,q⟩:=h;cases ro;obtain⟨t,rfl⟩:=ri;obtain⟨its,n,r,ho,hz⟩:=I.lst hp;obtain⟨h1,h2,h3,h4⟩:=uy hj;have hl:=r.length;have hn:=i_;have I':Inv X pins σ (upd H p (.lst (xs.set j v))) { s with heap:=s.heap.update p (Obj.mapSeq (·.setIfInBounds j u)) }:=
  I.lstUpd hp ho (rZ its n j u) (r.set rv j) (by rw[List.length_set];exact hz) s.toks
 by_cases h0:0<=k
 ·have hk:k.toNat=j:=by
   rw[seqIndex_of h0 h4]at h1;exact wj h1
  exact PySem.W.ki_setAt ho h0 (by lia) (by rw[xV,<- hl];exact h4) (by rw[hk];exact⟨_,I',q⟩)
 ·have hk:(k+(its.toArray.size:Int)).toNat=j:=by
   rw[seqIndex_neg (by lia) h3]at h1;rw[xV,<- hl];exact wj h1
  exact PySem.W.ki_setBack ho (by lia) (by rw[xV,<- hl];exact h3) (by lia) (by rw[hk];exact⟨_,I',q⟩)
theorem iC(lo hi:Option Int)(n:Nat):(sliceBounds lo hi none n).1=((HT.sIx n 0 lo:Nat):Int)/\(sliceBounds lo hi none n).2.1=((HT.sIx n n hi:Nat):Int)/\(sliceBounds lo hi none n).2.2=1:=by
 refine⟨?_,?_,rfl⟩
 ·cases lo with
  |none=>rfl
  |some i=>exact HT.clip_max i n 0
 ·cases hi with
  |none=>rfl
  |some i=>exact HT.clip_max i n n
theorem mr(its:List Value)(lo hi:Option Int):slicePick its.toArray lo hi none=((its.drop (HT.sIx its.length 0 lo)).take (HT.sIx its.length its.length hi-HT.sIx its.length 0 lo)).toArray:=by
 obtain⟨h1,h2,h3⟩:=iC lo hi its.toArray.size;unfold slicePick;rw[h1,h2,h3];simp only[sliceRange_one,pick_run,xV] <;> rfl
def zq(K:W.Frag):V->Option Int->Option Int->Hp->VK->Prop:=fun x lo hi H Q=>∃a xs,x = .ref a/\SqL K H a xs/\∀p,H p=none->Q (.ref p) (upd H p (.lst (bX xs lo hi)))
theorem zA:SlR X (zq X.K):=by
 intro pins s σ H x v vl vu lo hi sl Q I rx hs pl pu h;obtain⟨a,xs,rfl,hx,q⟩:=h;cases rx;obtain⟨its,r,ht,hz⟩:=I.list hx;have hlen:=r.length;refine⟨"list",_,slot_list_getitem.lookup,ht.isList.typeIs,?_⟩;refine wpAny_getItem_list_slice ht.isList hs pl pu .none (by simp) ?_ (by rw[xV] <;> lia);rw[mr,<- hlen];refine⟨.ref s.heap.objs.size,_,I.laid (t':=s.toks) (o:=.lst (bX xs lo hi)) (fun b ob q=>Heap.get?_push_of_some _ q) (xi _) ?_,rfl,q _ (I.hok.fresh (xi _))⟩;exact⟨wx (jG xs lo hi) hz,_,0,(r.drop (HT.sIx xs.length 0 lo)).take (HT.sIx xs.length xs.length hi-HT.sIx xs.length 0 lo),Heap.get?_push_size _ rfl⟩
noncomputable def cD:V->Bool
 | .non=>true
 | .bl _=>true
 | .int _=>true
 | .str _=>true
 |_=>false
noncomputable def eqV:V->V->Bool
 | .non,.non=>true
 | .bl a,.bl b=>a==b
 | .bl a,.int b=>(if a then 1 else 0)==b
 | .int a,.bl b=>a==(if b then 1 else 0)
 | .int a,.int b=>a==b
 | .str a,.str b=>a==b
 |_,_=>false
theorem sC(ry:RelV y u)(rx:RelV x v)(fy:cD y=true)(fx:cD x=true):SeqAt.EqAt A s u v (eqV y x):=by
 cases y with
 |non=>
  cases ry;cases x with
  |non=>cases rx;exact SeqAt.EqAt.same _
  |bl b=>cases rx;exact SeqAt.EqAt.none_bool b
  |int b=>obtain⟨t,rfl⟩:=rx;exact SeqAt.EqAt.none_int b t
  |str b=>obtain⟨t,rfl⟩:=rx;exact SeqAt.EqAt.none_str b t
  |_=>exact absurd (show false=true from fx) vy
 |bl a=>
  cases ry;cases x with
  |non=>cases rx;exact SeqAt.EqAt.bool_none a
  |bl b=>cases rx;exact SeqAt.EqAt.bool_bool a b
  |int b=>obtain⟨t,rfl⟩:=rx;exact SeqAt.EqAt.bool_int a b t
  |str b=>obtain⟨t,rfl⟩:=rx;exact SeqAt.EqAt.bool_str a b t
  |_=>exact absurd (show false=true from fx) vy
 |int a=>
  obtain⟨t',rfl⟩:=ry;cases x with
  |non=>cases rx;exact SeqAt.EqAt.int_none a t'
  |bl b=>cases rx;exact SeqAt.EqAt.int_bool a t' b
  |int b=>obtain⟨t,rfl⟩:=rx;exact SeqAt.EqAt.int_int a t' b t
  |str b=>obtain⟨t,rfl⟩:=rx;exact SeqAt.EqAt.int_str a t' b t
  |_=>exact absurd (show false=true from fx) vy
 |str a=>
  obtain⟨t',rfl⟩:=ry;cases x with
  |non=>cases rx;exact SeqAt.EqAt.str_none a t'
  |bl b=>cases rx;exact SeqAt.EqAt.str_bool a t' b
  |int b=>obtain⟨t,rfl⟩:=rx;exact SeqAt.EqAt.str_int a t' b t
  |str b=>obtain⟨t,rfl⟩:=rx;exact SeqAt.EqAt.str_str a t' b t
  |_=>exact absurd (show false=true from fx) vy
 |_=>exact absurd (show false=true from fy) vy
noncomputable def eqU(x:V)(u:Value):Bool:=match u with
 | .none=>eqV .non x
 | .bool b=>eqV (.bl b) x
 | .int i _=>eqV (.int i) x
 | .str z _=>eqV (.str z) x
 |_=>false
theorem vT(r:RelV y u)(f:cD y=true):eqU x u=eqV y x:=by
 cases y with
 |non=>cases r;rfl
 |bl b=>cases r;rfl
 |int i=>obtain⟨t,rfl⟩:=r;rfl
 |str z=>obtain⟨t,rfl⟩:=r;rfl
 |_=>exact absurd (show false=true from f) vy
theorem iB:∀ {xs:List V} {us:List Value},Vals xs us->xs.all cD=true->us.any (eqU x)=xs.any fun y=>eqV y x
 |_,_,.nil,_=>rfl
 |y::xs,u::us,.cons r t,f=>by
  rw[List.all_cons,mx]at f;rw[List.any_cons,List.any_cons,vT r f.1,iB t f.2]
theorem fN(rx:RelV x v)(fx:cD x=true):∀ {xs:List V} {us:List Value},Vals xs us->xs.all cD=true->∀u∈us,SeqAt.EqAt A s u v (eqU x u)
 |_,_,.nil,_=>fun u hu=>by cases hu
 |y::xs,u::us,.cons r t,f=>fun u' hu=>by
  rw[List.all_cons,mx]at f;rcases zv.mp hu with rfl|hu
  ·rw[vT r f.1];exact sC r rx f.1 fx
  ·exact fN rx fx t f.2 u' hu
noncomputable def inV(x:V)(xs:List V):Bool:=xs.any fun y=>eqV y x
def rIn(K:W.Frag)(neg:Bool):R2:=fun x y H Q=>∃p xs,y = .ref p/\(SqL K H p xs\/SqT K H p xs)/\cD x=true/\xs.all cD=true/\Q (.bl (if neg then !inV x xs else inV x xs)) H
theorem vi:OpR X (pU .In) (rIn X.K false):=by
 intro pins s σ H x y v u Q I rx ry h;obtain⟨p,xs,rfl,hq,fx,fs,q⟩:=h;cases ry;rcases hq with hq|hq
 ·obtain⟨its,r,pl,hz⟩:=I.list hq
  refine SeqAt.in_listAt (eqU x) pl.isList (fun w hw=>fN rx fx r fs w (by simpa using hw)) ⟨.bl _,H,I,rfl,?_⟩;rw[show its.toArray.any (eqU x)=its.any (eqU x) by simp,iB r fs];exact q
 ·obtain⟨its,r,pl,hz⟩:=I.tuple hq
  refine SeqAt.in_tupleAt (eqU x) pl (fun w hw=>fN rx fx r fs w (by simpa using hw)) ⟨.bl _,H,I,rfl,?_⟩;rw[show its.toArray.any (eqU x)=its.any (eqU x) by simp,iB r fs];exact q
theorem oj:OpR X (pU .NotIn) (rIn X.K true):=by
 intro pins s σ H x y v u Q I rx ry h;obtain⟨p,xs,rfl,hq,fx,fs,q⟩:=h;cases ry;rcases hq with hq|hq
 ·obtain⟨its,r,pl,hz⟩:=I.list hq
  refine SeqAt.notIn_listAt (eqU x) pl.isList (fun w hw=>fN rx fx r fs w (by simpa using hw)) ⟨.bl _,H,I,rfl,?_⟩;rw[show its.toArray.any (eqU x)=its.any (eqU x) by simp,iB r fs];exact q
 ·obtain⟨its,r,pl,hz⟩:=I.tuple hq
  refine SeqAt.notIn_tupleAt (eqU x) pl (fun w hw=>fN rx fx r fs w (by simpa using hw)) ⟨.bl _,H,I,rfl,?_⟩;rw[show its.toArray.any (eqU x)=its.any (eqU x) by simp,iB r fs];exact q
theorem CallR.or{f:Value}{r r':List V->Hp->VK->Prop}(h:CallR X f r)(h':CallR X f r'):CallR X f (fun xs H Q=>r xs H Q\/r' xs H Q):=by
 intro pins s σ H xs us Q I rs q;rcases q with q|q
 ·exact h pins s σ H xs us Q I rs q
 ·exact h' pins s σ H xs us Q I rs q
theorem l8:CallR X (.type "tuple") (fun xs H Q=>∃p ys,xs=[.ref p]/\((SqL X.K H p ys/\∀l,H l=none->Q (.ref l) (upd H l (.tup ys)))\/(SqT X.K H p ys/\Q (.ref p) H))):=by
 intro pins s σ H xs us Q I r h;obtain⟨p,ys,rfl,h⟩:=h;obtain⟨u,rfl,rx⟩:=dq r;cases rx;rcases h with ⟨hq,q⟩|⟨hq,q⟩
 ·obtain⟨its,r',pl,hz⟩:=I.list hq
  have hlen:=r'.length;refine call_tuple_list pl.isList (fun h' kp=>?_) (by simp only[xV] <;> lia);have I1:Inv X pins σ H { s with heap:=h' }:=I.kept (t':=s.toks) kp;have I2:Inv X pins σ (upd H h'.objs.size (.tup ys)) { s with heap:=h'.push { cls:=.type "tuple",data:=.seq its.toArray } }:=
   I1.laid (t':=s.toks) (fun b o e=>Heap.get?_push_of_some _ e) (xi _) (show ObjOk X.prog X.w _ _ _ (.tup ys) from⟨hz,its,r',IsTup.new _ _⟩)
  exact⟨.ref h'.objs.size,_,I2,rfl,q _ (I1.hok.fresh (xi _))⟩
 ·obtain⟨its,r',pl,hz⟩:=I.tuple hq
  exact call_tuple_same pl ⟨.ref p,H,I,rfl,q⟩
def tyV(K:W.Frag)(T:String)(x:V)(H:Hp):Prop:=match x with
 | .str _=>T = "str"
 | .int _=>T = "int"
 | .ref p=>(T = "list" /\ ∃xs,SqL K H p xs)\/(T = "tuple" /\ ∃o,K.lookup p=some o/\o.cls = .type "tuple" /\ o.dict=none) \/
  (T = "dict" /\ ((∃kvs,H p=some (.dK kvs))\/∃kvs,H p=some (.dT kvs)))\/(T = "set" /\ ∃S n,H p=some (.set S n))
 |_=>False
theorem Cc{pins:List (Addr × Obj)}{σ:St}{H:Hp}{s:Shared}{T:String}{x:V}{v:Value}(I:Inv X pins σ H s)(r:RelV x v)(ty:tyV X.K T x H) :
 s.TypeIs v T/\∀a,v = .ref a->∃ob,s.heap.get? a=some ob/\ob.dict=none:=by
 cases x with
 |str z=>
  obtain⟨t,rfl⟩:=r;cases (show T = "str" from ty);exact⟨ZQ s z t,fun _ e=>nomatch e⟩
 |int i=>
  obtain⟨t,rfl⟩:=r;cases (show T = "int" from ty);exact⟨typeIs_int s i t,fun _ e=>nomatch e⟩
 |ref p=>
  cases r;rcases ty with ⟨rfl,xs,hq⟩|⟨rfl,o,hk,hc,hd⟩|⟨rfl,hk⟩|⟨rfl,S,n,hk⟩
  ·obtain⟨its,_,pl,_⟩:=I.list hq
   refine⟨pl.isList.typeIs,fun a e=>?_⟩;cases e;obtain⟨o,n,e,c,hd,_⟩:=pl;exact⟨o,e,hd⟩
  ·refine⟨⟨o,I.kIn p o hk,hc⟩,fun a e=>?_⟩
   cases e;exact⟨o,I.kIn _ o hk,hd⟩
  ·have z:∃o,s.heap.get? p=some o/\o.ExactDict:=by
    rcases hk with ⟨kvs,hk⟩|⟨kvs,hk⟩
    ·obtain⟨_,_,_,_,o,_,_,e,ex,_⟩:=I.hok p _ hk
     exact⟨o,e,ex⟩
    ·obtain⟨_,_,_,_,o,_,_,e,ex,_⟩:=I.hok p _ hk
     exact⟨o,e,ex⟩
   obtain⟨o,e,ex⟩:=z;refine⟨⟨o,e,ex.1⟩,fun a e2=>?_⟩;cases e2;exact⟨o,e,ex.2.1⟩
  ·obtain⟨o,_,_,_,e,ex,_⟩:=I.hok p _ hk
   refine⟨⟨o,e,ex.1⟩,fun a e2=>?_⟩;cases e2;exact⟨o,e,ex.2.1⟩
 |_=>exact qT ty
def CO(K:W.Frag)(T:String)(r:V->List V->Hp->VK->Prop)(to:TE):TE:=fun σ H Q=>to σ H fun x H1=>tyV K T x H1/\r x [] H1 Q
def tBM(K:W.Frag)(T:String)(r:V->List V->Hp->VK->Prop)(to:TE)(t:TA):TE:=fun σ H Q=>to σ H fun x H1=>tyV K T x H1/\t σ H1 fun xs H2=>r x xs H2 Q
variable{o e:Expr}{es:List Expr}{to:TE}{t:TA}{name:Str}{apos cpos:Pos}{T id:String}{r:V->List V->Hp->VK->Prop}
theorem D8(pa:PlainAttrs T)(slot:Slot T name id)(hty:typeOf (.builtin id)=pure (.type "method_descriptor"))(hm:MtR X id r)(ho:PE X o to)(ha:PA X (e::es) t)
 (hbase:attributeBase o name X.env (eval o X.env)=eval o X.env:=by rfl)
 (hfew:((backTo cpos (starEach (e::es) X.env)).all (fun x=>!x.1)&&(backToKw cpos (keywordEach [] X.env)).all (fun x=>x.1.isSome)
  && decide ((e::es).length+([]:List Keyword).length+(if ([]:List Keyword).isEmpty then 0 else 1)<30))=true:=by rfl)
 (hline:(apos.endLine==cpos.line)=true:=by rfl) (hs:starEach (e::es) X.env=(false,eval e X.env)::starEach es X.env:=by rfl) (hplain:(backTo cpos (starEach es X.env)).any (·.1)=false:=by rfl) :
 PE X (.Call (.Attribute o name apos) (e::es) [] cpos) (tBM X.K T r to t):=by
 intro pins s σ H Q I h;refine wpAny_Call_method_late hbase hfew hline rfl (thn (ho pins s σ H _ I h) fun v s1 hq_=>?_);obtain⟨x,H1,I1,r1,ty,q1⟩:=hq_;obtain⟨h1,h2⟩:=Cc I1 r1 ty;refine⟨T,id,pa,slot,hty,h1,h2,?_⟩;have hA:=ha cpos pins s1 σ H1 _ I1 q1;rw[hs]at hA |-
 refine Calls.callWith_builtin (by show(false || (backTo cpos (starEach es X.env)).any (·.1))=false;rw[hplain] <;> rfl) (Yb ?_);exact thn hA fun us s2 hq_=>(by obtain⟨vs,H2,I2,r2,q2⟩:=hq_;exact hm pins s2 σ H2 x vs v us Q I2 r1 r2 q2)
end
def MtM(X:Cx)(id:String)(r:V->List V->Hp->VK->Prop):Prop:=
 ∀(pins:List (Addr × Obj)) (s:Shared) (σ:St) (H:Hp) (x:V) (xs:List V) (v:Value) (us:List Value) (Q:VK),Inv X pins σ H s->RelV x v->Vals xs us->r x xs H Q ->
  wpAny (model X.prog X.w) X.A (call (.builtin id) (v::us)) (EP X pins σ Q) X.xe s
theorem Vals.one{x:V}{us:List Value}(h:Vals [x] us):∃u,us=[u]/\RelV x u:=by
 cases h with
 |cons r t=>cases t;exact⟨_,rfl,r⟩
theorem Vals.dropLast{xs:List V}{us:List Value}(h:Vals xs us):Vals xs.dropLast us.dropLast:=by
 induction h with
 |nil=>exact .nil
 |cons r t ih=>
  cases t with
  |nil=>exact .nil
  |cons q t'=>exact .cons r ih
theorem Vals.reverse{xs:List V}{us:List Value}(h:Vals xs us):Vals xs.reverse us.reverse:=by
 induction h with
 |nil=>exact .nil
 |cons r t ih=>rw[List.reverse_cons,List.reverse_cons];exact Vals.append ih (.cons r .nil)
section
variable{X:Cx}{pins:List (Addr × Obj)}{σ:St}{H:Hp}{s:Shared}{l b:Addr}{xs ys zs:List V}
theorem Inv.lset{its its':List Value}{f:Array Value->Array Value}(I:Inv X pins σ H s)(hH:H l=some (.lst xs))
 (e:s.heap.get? l=some { cls:=.type "list",data:=.seq its.toArray n }) (hf:f its.toArray=its'.toArray) (hv:Vals ys its') (hz:ys.length<=sizeLine) :
 Inv X pins σ (upd H l (.lst ys)) { s with heap:=s.heap.update l (Obj.mapSeq f),toks:=t' }:=by
 have q:=PySem.IsL.update e f;rw[hf]at q;refine I.write (x:=l) (e:=l) (by rw[hH];exact trivial) (.inl rfl) (fun b' u hb hu=>(Heap.get?_update_other s.heap (Obj.mapSeq f) (Ne.symm hb)).trans hu) ⟨_,q⟩ ?_;exact⟨hz,its',_,hv,q⟩
theorem Inv.lnew{its:List Value}(I:Inv X pins σ H s)(hv:Vals ys its)(hz:ys.length<=sizeLine) :
 Inv X pins σ (upd H s.heap.objs.size (.lst ys)) { s with heap:=s.heap.push { cls:=.type "list",data:=.seq its.toArray },toks:=t' }:=
 I.laid (fun _ _ q=>Heap.get?_push_of_some _ q) (xi _) ⟨hz,its,0,hv,Heap.get?_push_size _ rfl⟩
theorem Inv.fresh(I:Inv X pins σ H s):H s.heap.objs.size=none:=I.hok.fresh (xi _)
theorem Inv.lstM(I:Inv X pins σ H s)(hH:H l=some (.lst xs)):xs.length<=sizeLine/\∃(its:List Value) (n:Nat),Vals xs its/\xs.length=its.length/\s.heap.get? l=some { cls:=.type "list",data:=.seq its.toArray n }:=by
 obtain⟨z,its,n,r,e⟩:=I.hok l _ hH;exact⟨z,its,n,r,r.length,e⟩
theorem xL(h:n<=sizeLine):YO n=false:=by
 unfold YO;exact decide_eq_false (by lia)
end
section
variable{X:Cx}
def ul:V->List V->Hp->VK->Prop:=fun x vs H Q=>∃l xs y,x = .ref l/\vs=[y]/\H l=some (.lst xs)/\xs.length<sizeLine/\Q .non (upd H l (.lst (xs++[y])))
theorem bP:MtM X "list.append" ul:=by
 intro pins s σ H x vs v us Q I rx rv h;obtain⟨l,xs,y,rfl,rfl,hH,hz,q⟩:=h;cases rx;obtain⟨u,rfl,ru⟩:=rv.one;obtain⟨z,its,n,r,hl,e⟩:=I.lstM hH;refine ZG F.slot_list_append ⟨_,e,rfl⟩ F.entry_list_append (F.args_list_append_2 _ _) (PySem.list_append l its.toArray n u (by rw[xV];lia)) ⟨e,?_⟩;refine⟨.non,_,I.lset (its':=its++[u]) hH e (by simp) (r.append (.cons ru .nil)) ?_,rfl,q⟩;rw[zx,List.length_singleton];lia
def zh:V->List V->Hp->VK->Prop:=fun x vs H Q=>∃l b xs zs,x = .ref l/\vs=[.ref b]/\H l=some (.lst xs)/\H b=some (.lst zs)/\xs.length+zs.length<=sizeLine/\Q .non (upd H l (.lst (xs++zs)))
theorem CL:MtM X "list.extend" zh:=by
 intro pins s σ H x vs v us Q I rx rv h;obtain⟨l,b,xs,zs,rfl,rfl,hH,hB,hz,q⟩:=h;cases rx;obtain⟨u,rfl,ru⟩:=rv.one;cases ru;obtain⟨z,its,n,r,hl,e⟩:=I.lstM hH;obtain⟨z2,its2,n2,r2,hl2,e2⟩:=I.lstM hB;have hsz:its.toArray.size+its2.toArray.size<=sizeLine:=by rw[xV,xV];lia
 have hlong:¬ (!its.toArray.isEmpty&&YO (its.toArray.size+its2.toArray.size))=true:=by
  rw[xL hsz,Bool.and_false];exact vy
 refine ZG F.slot_list_extend ⟨_,e,rfl⟩ F.entry_list_extend (F.args_list_extend_2 _ _)
  (AutoSeq1.list_extend_list_list_0 l its.toArray n b its2.toArray n2 hlong (by rw[xV];lia) (by lia)) ⟨e,e2,?_⟩
 refine⟨.non,_,I.lset (its':=its++its2) hH e (by simp) (r.append r2) ?_,rfl,q⟩;rw[zx];lia
def vV:V->List V->Hp->VK->Prop:=fun x vs H Q=>∃l xs,x = .ref l/\vs=[]/\H l=some (.lst xs)/\Q .non (upd H l (.lst []))
def Es:R2:=fun x y H Q=>∃l b xs zs,x = .ref l/\y = .ref b/\H l=some (.lst xs)/\H b=some (.lst zs)/\xs.length+zs.length<=sizeLine/\∀p,H p=none->Q (.ref p) (upd H p (.lst (xs++zs)))
theorem A8:OpR X (binaryOp .Add) Es:=by
 intro pins s σ H x y v u Q I rx ry h;obtain⟨l,b,xs,zs,rfl,rfl,hH,hB,hz,q⟩:=h;cases rx;cases ry;obtain⟨z,its,n,r,hl,e⟩:=I.lstM hH;obtain⟨z2,its2,n2,r2,hl2,e2⟩:=I.lstM hB;refine PySem.P.add_list e e2 ?_ (by rw[xV,xV];lia);have ea:its.toArray++its2.toArray=(its++its2).toArray:=by simp
 rw[ea];exact⟨.ref _,_,I.lnew (t':=s.toks) (r.append r2) (by rw[zx];lia),rfl,q _ I.fresh⟩
end
end L2
namespace Att
open PySem PySem.W PySem.Calls PyProof.Rows
theorem kg:∀(ns:List Int) (vs:List Value),WellAll P h vs (ns.map WData.int)->IntsAre vs ns:=by
 intro ns
 induction ns with
 |nil=>
  intro vs w;rw[YX]at w;cases w;exact .nil
 |cons n ns ih=>
  intro vs w;rw[rS]at w;cases w with
  |cons a b=>
   cases a;exact .cons _ _ (ih _ b)
theorem vD{l:OpenLaw}(hn:l.most=some n){h:Heap}
 (hpre:l.row.toRowW.claim.pre args=true) (hwl:WellAll P h vals args) :
 ∃a vs ns,vals=[qr a]/\args=[WData.list (ns.map WData.int)]/\h.get? a=some { cls:=.type "list",data:=.seq vs.toArray }/\IntsAre vs ns/\ns.length<=n:=by
 have hsh:WShape.hasAll [] args [.list .int]=true:=(pre_splitW hpre).1;have hc:l.pre.holds [] { args:=args }=true:=(pre_splitW hpre).2;obtain⟨d,r,rfl,h1,h2⟩:=hasAllW_cons hsh;obtain rfl:=hasAllW_nil h2;obtain⟨xs,rfl,h3⟩:=hasW_list h1;obtain⟨ns,rfl⟩:=items_int h3;have hlen:ns.length<=n:=by
  unfold OpenLaw.pre at hc;have h4:(WTm.not (.lt (.lit (.int (n:Int))) (.len (.arg 0)))).holds [] { args:=[.list (ns.map .int)] }=true:=by
   have h4:=(holds_andW hc).1;rw[hn]at h4;exact h4
  have h5:=condW_of h4 (w_not (w_lt w_lit (w_len_list (w_arg rfl))));rw[yV]at h5;refine Nat.le_of_not_lt fun q=>?_;have q':(n:Int)<((ns.length:Nat):Int):=by lia
  first
   |(rw[decide_eq_true q']at h5;exact absurd h5 (by decide))
   |(simp at h5;lia)
 cases hwl with
 |cons w1 w2=>
  cases w2;cases w1 with
  |list ho hall=>exact⟨_,_,ns,rfl,rfl,ho,kg ns _ hall,hlen⟩
theorem uZ(l:OpenLaw)(args:List WData):l.row.toRowW.claim.post args (.bool true) args=true:=
 postW_of (r:=l.row.toRowW) (X:=(true==true))
  (show WShape.has [] (.bool true) .bool=true by first|rfl|decide|simp[WShape.has,WShape.arms,WShape.armsAll])
  (show(WTm.eq .res (.lit (.bool true))).value [] { args:=args,res:=some (.bool true),after:=args }=some (.bool (true==true)) from w_eq_bool (w_res rfl) w_lit) rfl
theorem attach_call{l:OpenLaw}{XP:(Str->Option Value)->Heap->Prop}{d:DefRec}
 (hn:l.most=some n) (hdf:d.params.defaults=[])
 (call:∀(w:World) (s₀ s₁:Shared) (mg mb:Str->Option Value) (fa:Addr) (o:Obj) (pm cd doc:Value) (a:Addr) (vs:List Value) (ns:List Int),
  Ground q loose [] XP w s₀ mg mb s₁.heap->YP w s₁.heap ->
  s₁.heap.get? fa=some o->o.data = .func (docDef d.name d.params d.body d.scope pm cd doc)->s₁.heap.CodeRec cd d.name->mg d.name=some (.ref fa) ->
  s₁.heap.get? a=some { cls:=.type "list",data:=.seq vs.toArray }->IntsAre vs ns->ns.length<=n->s₁.gens = #[] ->
  codeAny (model l.prog w) callerA (.call (.ref fa) ⟨[.ref a],[]⟩) (fun r s'=>r = .ok (.ret (.bool true))/\OldK s₁.heap s'.heap/\s'.os=s₁.os/\AllBare s'.gens) s₁) :
 WalkO q loose XP YP l.row.toRowW d [] (fun f vs=>PySem.call f vs):=by
 intro w s₀ s₁ mg mb G Y fa o pm cd doc dV kV ho hd hcd hD hmg hg args vals as hpre hlay hrd hwl hlo;obtain rfl:dV = .none:=Dflts.none hD hdf;obtain rfl:kV = .none:=Dflts.noKw hD;obtain⟨a,vs,ns,rfl,rfl,hobj,hints,hlen⟩:=vD hn hpre hwl;refine enter_call (codeAny_mono (call w s₀ s₁ mg mb fa o pm cd doc a vs ns G Y ho (fd_plain hd) hcd hmg hobj hints hlen hg) fun r s' hq=>?_);obtain⟨rfl,h2,h3,h4⟩:=hq;exact⟨.inl ⟨.bool true,.bool true,[],rfl,fun _=>rfl,.bool true,uZ l _,fun _=>⟨List.Pairwise.nil,fun _ hm=>(nomatch hm)⟩⟩,h2,h3,h4⟩
end Att
namespace L2
open PySem PySem.Spec PyProof.Rows
theorem m5:∀ {vs:List Value} {ns:List Int},IntsAre vs ns->Vals (ns.map V.int) vs
 |_,_,.nil=>.nil
 |_,_,.cons n t h=>.cons ⟨t,rfl⟩ (m5 h)
def uP(H:Hp):Prop:=∀b,H b=none\/∃o xs,H b=some (.frz o (.lst xs))
theorem wb{K:W.Frag}{s₁:Shared}{vs:List Value}{ns:List Int}
 (KX:K.In s₁.heap) (hns:s₁.heap.Ns Zm mg) (hb:s₁.heap.Ns builtinsNs mb) (hbb:∀x:Str,x ≠ "__name__" -> mb x=kc x) (hlim:s₁.heap.NoLimit) (hg:s₁.gens = #[])
 (ha:s₁.heap.get? a=some { cls:=.type "list",data:=.seq vs.toArray }) (hi:IntsAre vs ns) (hl:ns.length<=sizeLine) (hr:Room k callerA)
 (F:∀base:Heap,K.In base->base.Ns Zm mg->FnOk P w K mg base CX k fa fd [x] sp) (hbind:∀(s:Shared) (u:Value),BindsTo s fd ⟨[u],[]⟩ [(x,u)])
 (hsp:∀H:Hp,uP H->SqL K H a (ns.map V.int)->sp [.ref a] H (fun v _=>v = .bl true) fun _ _ _=>False)
 (hCX:∀H e s',CX [] H s₁ (fun _ _ _=>False) e s'->False) :
 codeAny (model P w) callerA (.call (.ref fa) ⟨[.ref a],[]⟩) (fun r s'=>r = .ok (.ret (.bool true))/\OldK s₁.heap s'.heap/\s'.os=s₁.os/\AllBare s'.gens) s₁:=by
 have rv:=m5 hi;have lenV:=hi.length;have core:∀H:Hp,uP H->SqL K H a (ns.map V.int)->HOk P w H s₁.heap->(∀b,H b≠none->b=a)->(H a≠none->K.lookup a=none) ->
  codeAny (model P w) callerA (.call (.ref fa) ⟨[.ref a],[]⟩) (fun r s'=>r = .ok (.ret (.bool true))/\OldK s₁.heap s'.heap/\s'.os=s₁.os/\AllBare s'.gens) s₁:=by
  intro H hO hS hok hA hK;have base_of:∀ {b:Addr} {o:Obj},s₁.heap.get? b=some o->H b=none->(pB s₁.heap H).get? b=some o:=fun e n=>yg e n;have noA:∀ {b:Addr} {o:Obj} {es:Array Z0} {ep:Nat},s₁.heap.get? b=some o->o.data = .dict es ep->H b=none:=fun {b o es ep} e d=>by
   cases q:H b with
   |none=>rfl
   |some u=>
    have e':b=a:=hA b (by rw[q];simp);subst e';rw[ha]at e;cases e;have d':Data.seq vs.toArray _=Data.dict es ep:=d;cases d'
  have nsK:∀ {b:Addr} {m:Str->Option Value},s₁.heap.Ns b m->(pB s₁.heap H).Ns b m:=fun {b m} ⟨o,es,ep,e,d,r⟩=>⟨o,es,ep,base_of e (noA e d),d,r⟩;have hKb:K.In (pB s₁.heap H):=fun b o e=>base_of (KX b o e) (by
   cases q:H b with
   |none=>rfl
   |some u=>
    have e':b=a:=hA b (by rw[q];simp);subst e';rw[hK (by rw[q];simp)]at e;cases e)
  have hM:Mod K mg (pB s₁.heap H):=⟨hKb,nsK hns,⟨mb,nsK hb,hbb⟩,let ⟨mc,h1,h2⟩:=hlim;⟨mc,nsK h1,h2⟩⟩;have e0:zB P w K mg (pB s₁.heap H) callerA [] s₁ H:=⟨rfl,hM,fun b o e=>yC e,Nat.le_of_eq (uX _ _),trivial,fun b hb=>absurd (show b∈([]:List Addr) from hb) (by simp),hok,.of_eq hg⟩;refine codeAny_mono ((F _ hKb (nsK hns)).run callerA [] s₁ H ⟨[.ref a],[]⟩ [.ref a] [.ref a] _ _ hr e0 (hbind s₁ (.ref a)) (.cons rfl .nil) (hsp H hO hS)) fun r s' h=>?_;cases r with
  |error e=>exact(hCX H e s' h).elim
  |ok fl=>
   cases fl with
   |next=>exact qT h
   |brk=>exact qT h
   |cont=>exact qT h
   |ret u=>
    obtain⟨v,H',os,bare,un,hok',r',q⟩:=h;have q':v = .bl true:=q;subst q';obtain rfl:u=Value.bool true:=r';refine⟨rfl,OldK.of_keep fun b o e=>?_,os,bare⟩;cases q:H b with
    |none=>exact un.keep b o e q (by intro z;exact absurd (show b∈([]:List Addr) from z) (by simp)) (by simp)
    |some u=>
     rcases hO b with z|⟨ob,xs,z⟩
     ·rw[q]at z;cases z
     ·have z2:=un.frzs b ob _ z
      obtain⟨e1,_⟩:=hok b _ z;obtain⟨e2,_⟩:=hok' b _ z2;rw[e]at e1;cases e1;exact e2
 cases hk:K.lookup a with
 |some o=>
  have e:=KX a o hk;rw[ha]at e;cases e;refine core (fun _=>none) (fun _=>.inl rfl) (.inr ⟨_,vs.toArray,_,hk,rfl,rfl,rfl,by rw[xV,lenV];exact hl,by simpa using rv⟩) (fun b u z=>by have z':(none:Option HO)=some u:=z;cases z') (fun b z=>absurd rfl z) fun z=>absurd rfl z
 |none=>
  refine core (fun b=>if b=a then some (.frz { cls:=.type "list",data:=.seq vs.toArray } (.lst (ns.map V.int))) else none) (fun b=>?_) (.inl (.inr ⟨{ cls:=.type "list",data:=.seq vs.toArray },if_pos rfl⟩)) (fun b u z=>?_) (fun b z=>?_) fun _=>hk
  ·by_cases hb:b=a
   ·exact .inr ⟨_,_,if_pos hb⟩
   ·exact .inl (if_neg hb)
  ·by_cases hb:b=a
   ·have z':=(if_pos hb).symm.trans z
    cases z';subst hb;exact⟨ha,by rw[yV];exact hl,vs,_,rv,ha⟩
   ·have z':=(if_neg hb).symm.trans z
    cases z'
  ·by_cases hb:b=a
   ·exact hb
   ·exact absurd (if_neg hb) z
theorem yR{l:PySem.W.OpenLaw}{n k:Nat}{q:Program}{loose:List Str}{XP:(Str->Option Value)->Heap->Prop}{YP:World->Heap->Prop}{d:DefRec}{K:Params->W.Frag}{CX:World->CXT}{sp:World->Sp}{x:Str}
 (hn:l.most=some n) (hn2:n<=sizeLine) (hdf:d.params.defaults=[]) (hr:Room k callerA)
 (hY:∀(w:World) (h:Heap),YP w h->(K w.params).In h)
 (F:∀(w:World) (mg:Str->Option Value) (fa:Addr) (h:Heap),(K w.params).In h->h.Ns Zm mg->mg d.name=some (.ref fa) ->
  ∃fd:FuncData,(∀(s:Shared) (u:Value),BindsTo s fd ⟨[u],[]⟩ [(x,u)]) /\
   ∀base:Heap,(K w.params).In base->base.Ns Zm mg->FnOk l.prog w (K w.params) mg base (CX w) k fa fd [x] (sp w))
 (hsp:∀(w:World) (H:Hp) (a:Addr) (ns:List Int),ns.length<=n->uP H->SqL (K w.params) H a (ns.map V.int)->sp w [.ref a] H (fun v _=>v = .bl true) fun _ _ _=>False)
 (hCX:∀(w:World) (H:Hp) (s:Shared) (e:Value) (s':Shared),CX w [] H s (fun _ _ _=>False) e s'->False) :
 PySem.W.WalkO q loose XP YP l.row.toRowW d [] (fun f vs=>PySem.call f vs):=by
 refine Att.attach_call hn hdf fun w s₀ s₁ mg mb fa o pm cd doc a vs ns G Y ho hd hcd hmg hobj hints hlen hg=>?_;have KX:=hY w _ Y;obtain⟨fd,hb,hF⟩:=F w mg fa _ KX G.T.g hmg;exact wb KX G.T.g G.T.b G.T.builtins G.T.nolimit hg hobj hints (wx hlen hn2) hr hF hb (fun H hO hS=>hsp w H a ns hlen hO hS) fun H e s'=>hCX w H s₁ e s'
abbrev CX0:CXT:=fun _ _ _ _ _ _=>False
structure Fun(K:W.Frag)(x qual:Str)(st:Stmt)(f:Addr)(fd:FuncData):Prop where
 ex:∃(oc:Value) (od:Option Addr) (kV doc pm:Value) (an:Option Addr) (cdv ct:Value) (osl:Array (Option Value)),
  fd=Z4 x qual (eP st) (aQ st) (au st) .none kV doc pm an cdv ct/\K.lookup f=some ⟨oc,od,.func fd,osl⟩/\PySem.W.codeIn K cdv qual=true
 kp:ZF K (.ref f)=true
section
variable{P:Program}{w:World}{K:W.Frag}{mg:Str->Option Value}{base:Heap}
theorem Fun.binds{x qual:Str}{st:Stmt}{f:Addr}{fd:FuncData}{ps:List Str}(F:Fun K x qual st f fd)
 (h:∀(kV doc pm:Value) (an:Option Addr) (cdv ct:Value) (us:List Value),us.length=ps.length->bindArgs (Z4 x qual (eP st) (aQ st) (au st) .none kV doc pm an cdv ct) ⟨us,[]⟩=pure (ps.zip us)):Binds K fd ps []:=by
 obtain⟨oc,od,kV,doc,pm,an,cdv,ct,osl,rfl,lk,hcd⟩:=F.ex;exact .all (h kV doc pm an cdv ct)
theorem wD{x qual:Str}{st:Stmt}{f:Addr}{oc:Value}{od an:Option Addr}{osl:Array (Option Value)}{kV doc pm cdv ct:Value}(l:K.lookup f=some ⟨oc,od,.func (Z4 x qual (eP st) (aQ st) (au st) .none kV doc pm an cdv ct),osl⟩)
 (c:PySem.W.codeIn K cdv qual=true) (k:ZF K (.ref f)=true):Fun K x qual st f (Z4 x qual (eP st) (aQ st) (au st) .none kV doc pm an cdv ct):=⟨⟨oc,od,kV,doc,pm,an,cdv,ct,osl,rfl,l,c⟩,k⟩
end
theorem xr{A B:Prop}(h:B):if false=true then A else B:=by
 rw[if_neg vy];exact h
theorem xC{A B:Prop}(h:A):if true=true then A else B:=by
 rw[if_pos rfl];exact h
def Same(H H':Hp):Prop:=∀b o,H b=some o->H' b=some o
theorem Same.refl(H:Hp):Same H H:=fun _ _ h=>h
theorem Same.trans(a:Same H H1)(b:Same H1 H2):Same H H2:=fun c o h=>b c o (a c o h)
theorem Same.free{H H':Hp}(e:Same H H'){l:Addr}(h:H' l=Option.none):H l=Option.none:=by
 cases q:H l with
 |none=>rfl
 |some o=>
  rw[e l o q]at h;cases h
noncomputable def lE:HO->Bool
 | .dT _=>false
 |_=>true
def NoT(H:Hp):Prop:=∀a o,H a=some o->lE o=true
noncomputable def gJ:HO->Bool
 | .lst _=>true
 | .tup _=>true
 | .dK _=>true
 | .rng _ _=>true
 |_=>false
structure Gc(H G H':Hp):Prop where
 a:Same H G
 b:Same G H'
 c:∀p o,G p=some o->H p=some o\/gJ o=true
section
variable{P:Program}{w:World}{H G H':Hp}{h h':Heap}{a:Addr}{o:HO}
theorem ObjOk.gcF{ob:Obj}(e0:h.get? a=some ob)(e1:h'.get? a=some ob)(x0:ObjOk P w H h a o)(x:ObjOk P w H' h' a o):ObjOk P w H h' a o:=by
 induction o with
 |ins C dx fs=>exact⟨x0.1,x.2⟩
 |dT kvs=>
  obtain⟨z,y,xs,r,o,es,ep,g,c⟩:=x0;exact⟨z,y,xs,r,o,es,ep,(e1.trans e0.symm).trans g,c⟩
 |frz ob' u ih=>exact⟨x.1,ih x0.2 x.2⟩
 |_=>exact x
theorem ObjOk.gc(n:lE o=true)(x0:ObjOk P w H h a o)(x:ObjOk P w H' h' a o):ObjOk P w H h' a o:=by
 cases o with
 |ins C dx fs=>exact⟨x0.1,x.2⟩
 |dT kvs=>cases n
 |frz ob u=>exact⟨x.1,x0.2.gcF x0.1 x.1 x.2⟩
 |_=>exact x
theorem ObjOk.plain(n:gJ o=true)(x:ObjOk P w H' h' a o):ObjOk P w H h' a o:=by
 cases o with
 |lst xs=>exact x
 |tup xs=>exact x
 |dK kvs=>exact x
 |rng lo hi=>exact x
 |_=>cases n
theorem HOk.gc(n:NoT H)(x0:HOk P w H h)(x:HOk P w H' h')(g:Gc H G H'):HOk P w G h':=fun a o e=>by
 rcases g.c a o e with q|q
 ·refine(((x0 a o q).gc (n a o q) (x a o (g.b a o e)))).stay (fun _ _ _ z=>z) (fun b z=>g.a _ _ z) fun b xs z=>g.a _ _ z
 ·exact(x a o (g.b a o e)).plain q
theorem Un.gc(u:Un fs ex H H' h h')(g:Gc H G H'):Un fs ex H G h h':=
 ⟨u.keep,u.slot,fun b o q n hx=>g.b.free (u.free b o q n hx),u.there,fun b xs q=>g.a _ _ q,fun b o x q=>g.a _ _ q,fun b ps q=>⟨#[],by rw[Array.append_empty];exact g.a _ _ q⟩⟩
theorem Gc.refl:Gc H H H:=⟨Same.refl H,Same.refl H,fun _ _ e=>.inl e⟩
theorem Gc.none(s:Same H H'):Gc H H H':=⟨Same.refl H,s,fun _ _ e=>.inl e⟩
theorem ag(o:HO)(hp:H p=Option.none):Same H (upd H p o):=fun b u e=>by rw[aw (aq e hp)];exact e
theorem Gc.one(s:Same H H')(hp:H p=Option.none)(e:H' p=some o)(n:gJ o=true):Gc H (upd H p o) H':=
 ⟨ag o hp,fun b u z=>by
  by_cases hb:b=p
  ·subst hb;rw[ad]at z;cases z;exact e
  ·rw[aw hb]at z;exact s b u z,fun b u z=>by
  by_cases hb:b=p
  ·subst hb;rw[ad]at z;cases z;exact .inr n
  ·rw[aw hb]at z;exact .inl z⟩
theorem NoT.upd(n:NoT H)(d:lE o=true):NoT (upd H p o):=fun b u z=>by
 by_cases hb:b=p
 ·subst hb;rw[ad]at z;cases z;exact d
 ·rw[aw hb]at z;exact n b u z
end
theorem Inv.gc(n:NoT H)(I:Inv X pins σ H s)(J:Inv X pins' σ' H' s')(g:Gc H G H'):Inv X pins' σ' G s':=
 ⟨J.ok,J.os,J.bare,⟨J.base.keep,J.base.slot,fun b o q z hx=>g.b.free (J.base.free b o q z hx),J.base.there,fun b xs q=>g.a _ _ (I.base.tups b xs q),fun b o x q=>g.a _ _ (I.base.frzs b o x q),fun b ps q=>let ⟨m,e⟩:=I.base.tbls b ps q;⟨m,g.a _ _ e⟩⟩,
  J.loc,J.cell,g.b.free J.free,fun x c e=>g.b.free (J.freeC x c e),fun p hp=>let ⟨e,z,r⟩:=J.pin p hp;⟨e,g.b.free z,r⟩,HOk.gc n I.hok J.hok g,J.len⟩
def D5(t:TT):TT:=fun σ H Q=>NoT H/\t σ H fun v H'=>∃G,Gc H G H'/\Q v G
theorem jB(h:PT X e t):PT X e (D5 t):=fun pins s σ H Q I ⟨n,q⟩=>
 thn (h pins s σ H _ I q) fun u s1 ⟨H1,I1,G,g,q1⟩=>⟨G,I.gc n I1 g,q1⟩
def K2{α:Type}:Sem α->Prop
 | .rule _ k=>K2 (k ())
 | .at _ k=>K2 (k ())
 | .load _ _ k=>∀o,K2 (k o)
 | .update _ _ f k=>(∀(o:Obj) vs,o.data = .fields vs->∃ws,(f o).data = .fields ws/\ws[2]? = vs[2]?)/\K2 (k ())
 | .loadIfAlive _ k=>∀o,K2 (k o)
 | .point _ k=>K2 (k ())
 | .alloc _ k=>∀a,K2 (k a)
 | .fresh k=>∀n,K2 (k n)
 | .ask k=>∀x,K2 (k x)
 | .choose _ _ k=>∀n,K2 (k n)
 | .os _ _ k=>∀x,K2 (k x)
 | .call ..=>False
 | .handled _ k=>∀x,K2 (k x)
 | .genState _ k=>∀x,K2 (k x)
 | .newGen _ k=>∀n,K2 (k n)
 | .resume ..=>False
 | .stack k=>∀x,K2 (k x)
 | .thread k=>∀n,K2 (k n)
 |_=>True
def F2v(v:Value)(h:Heap)(e:Addr):Prop:=∃o vs,h.get? e=some o/\o.data = .fields vs/\vs[2]? = some v
abbrev F2(h:Heap)(e:Addr):Prop:=F2v .none h e
theorem K2.bind{α β:Type}{t:Sem α}{f:α->Sem β}(h:K2 t)(g:∀a,K2 (f a)):K2 (t >>= f):=by
 show K2 (t.bind f)
 induction t with
 |pure a=>exact g a
 |rule _ k ih=>exact ih () h
 | «at» _ k ih=>exact ih () h
 |load _ _ k ih=>exact fun o=>ih o (h o)
 |update _ _ _ k ih=>exact⟨h.1,ih () h.2⟩
 |loadIfAlive _ k ih=>exact fun o=>ih o (h o)
 |point _ k ih=>exact ih () h
 |alloc _ k ih=>exact fun o=>ih o (h o)
 |fresh k ih=>exact fun o=>ih o (h o)
 |ask k ih=>exact fun o=>ih o (h o)
 |choose _ _ k ih=>exact fun o=>ih o (h o)
 |os _ _ k ih=>exact fun o=>ih o (h o)
 |call=>exact h.elim
 |handled _ k ih=>exact fun o=>ih o (h o)
 |genState _ k ih=>exact fun o=>ih o (h o)
 |newGen _ k ih=>exact fun o=>ih o (h o)
 |resume=>exact h.elim
 |stack k ih=>exact fun o=>ih o (h o)
 |thread k ih=>exact fun o=>ih o (h o)
 |_=>trivial
theorem F2v.push{v:Value}{h:Heap}{e:Addr}(x:F2v v h e)(o:Obj):F2v v (h.push o) e:=by
 obtain⟨oe,vs,e1,e2⟩:=x;exact⟨oe,vs,Heap.get?_push_of_some _ e1,e2⟩
theorem F2v.update{v:Value}{h:Heap}{e:Addr}(x:F2v v h e)(a:Addr){f:Obj->Obj}(hf:∀(o:Obj) vs,o.data = .fields vs->∃ws,(f o).data = .fields ws/\ws[2]? = vs[2]?):F2v v (h.update a f) e:=by
 obtain⟨oe,vs,e1,e2,e3⟩:=x;by_cases ea:a=e
 ·subst ea
  obtain⟨ws,w1,w2⟩:=hf oe vs e2;exact⟨_,ws,Heap.get?_update_self _ e1 (Zr w1),w1,w2.trans e3⟩
 ·exact⟨oe,vs,(Heap.get?_update_other _ _ ea).trans e1,e2,e3⟩
theorem C4{v:Value}{α:Type}{M:Model}{Γ:PySem.Ctx}{e:Addr}{t:Sem α}:∀ {Q:α->Pos->Shared->Prop} {E:Value->Pos->Shared->Prop} {p:Pos} {s:Shared},K2 t->Sem.wp M Γ t Q E p s->F2v v s.heap e->Sem.wp M Γ t (fun a p s'=>Q a p s'/\F2v v s'.heap e) (fun x p s'=>E x p s'/\F2v v s'.heap e) p s:=by
 induction t with
 |pure a=>intro Q E p s _ h f;rw[Sem.wp]at h |-; exact⟨h,f⟩
 |raise x=>intro Q E p s _ h f;rw[Sem.wp]at h |-; exact⟨h,f⟩
 |unsupported=>intro Q E p s _ h f;rw[Sem.wp]at h;exact h.elim
 |finish=>intro Q E p s _ h f;rw[Sem.wp]at h;exact h.elim
 |rule _ k ih=>intro Q E p s g h f;rw[Sem.wp]at h |-; exact ih () g h f
 | «at» _ k ih=>intro Q E p s g h f;rw[Sem.wp]at h |-; exact ih () g h f
 |load _ _ k ih=>intro Q E p s g h f;rw[Sem.wp]at h |-; obtain⟨o,h1,h2⟩:=h;exact⟨o,h1,ih o (g o) h2 f⟩
 |update a _ _ k ih=>intro Q E p s g h f;rw[Sem.wp]at h |-; exact⟨h.1,ih () g.2 h.2 (f.update a g.1)⟩
 |loadIfAlive _ k ih=>intro Q E p s g h f;rw[Sem.wp]at h |-; exact ih _ (g _) h f
 |point _ k ih=>intro Q E p s g h f;rw[Sem.wp]at h |-; exact ih () g h f
 |register=>intro Q E p s _ h f;rw[Sem.wp]at h;exact h.elim
 |alloc o k ih=>intro Q E p s g h f;rw[Sem.wp]at h |-; exact ih _ (g _) h (f.push o)
 |fresh k ih=>intro Q E p s g h f;rw[Sem.wp]at h |-; exact ih _ (g _) h f
 |ask k ih=>intro Q E p s g h f;rw[Sem.wp]at h |-; exact ih _ (g _) h f
 |choose _ _ k ih=>intro Q E p s g h f;rw[Sem.wp]at h |-; exact⟨h.1,ih _ (g _) h.2 f⟩
 |os _ _ k ih=>intro Q E p s g h f;rw[Sem.wp]at h |-; exact ih _ (g _) h f
 |call=>intro Q E p s g;exact g.elim
 |handled _ k ih=>intro Q E p s g h f;rw[Sem.wp]at h |-; exact ih _ (g _) h f
 |genState _ k ih=>intro Q E p s g h f;rw[Sem.wp]at h |-; obtain⟨st,h1,h2⟩:=h;exact⟨st,h1,ih _ (g _) h2 f⟩
 |newGen _ k ih=>intro Q E p s g h f;rw[Sem.wp]at h |-; exact ih _ (g _) h f
 |resume=>intro Q E p s g;exact g.elim
 |yield=>intro Q E p s _ h f;rw[Sem.wp]at h;exact h.elim
 |stack k ih=>intro Q E p s g h f;rw[Sem.wp]at h |-; exact ih _ (g _) h f
 |fork=>intro Q E p s _ h f;rw[Sem.wp]at h;exact h.elim
 |thread k ih=>intro Q E p s g h f;rw[Sem.wp]at h |-; exact ih _ (g _) h f
 |await=>intro Q E p s _ h f;rw[Sem.wp]at h;exact h.elim
theorem xt{v:Value}{α:Type}{M:Model}{A:Around}{e:Addr}{t:Sem α}{Q:α->Shared->Prop}{E:Value->Shared->Prop}{s:Shared}(k:K2 t)(f:F2v v s.heap e)(h:wpAny M A t Q E s):wpAny M A t (fun a s'=>Q a s'/\F2v v s'.heap e) (fun x s'=>E x s'/\F2v v s'.heap e) s:=fun Γ p hg=>C4 k (h Γ p hg) f
theorem iH(v:Value)(i:Nat):K2 (field v i):=by
 refine K2.bind ?_ fun vs=>?_
 ·unfold fieldsOf
  split
  ·refine K2.bind (fun o=>trivial) fun o=>?_
   split <;> trivial
  ·trivial
 ·split <;> trivial
theorem fQ(v:Value){i:Nat}(h:i≠2)(x:Value):K2 (setField v i x):=by
 unfold setField;split
 ·unfold updateField
  refine K2.bind (fun o=>trivial) fun o=>?_;split
  ·split
   ·refine⟨fun o vs e=>⟨_,ZW e _,?_⟩,trivial⟩
    rw[Array.getElem?_setIfInBounds_ne h]
   ·trivial
  ·trivial
 ·trivial
theorem qE:∀l:List Env,K2 (readyFrames l)
 | []=>trivial
 |env::outer=>by
  unfold readyFrames;split
  ·refine K2.bind (fun o=>trivial) fun o=>?_
   split
   ·trivial
   ·refine K2.bind ?_ fun im=>K2.bind ?_ fun bk=>K2.bind ?_ fun _=>qE outer
    ·unfold behindIsImport
     split
     ·trivial
     ·split
      ·trivial
      ·exact K2.bind (iH _ _) fun _=>trivial
    ·unfold keptBack
     split
     ·split
      ·trivial
      ·refine K2.bind ?_ fun _=>trivial
       exact K2.bind (fun st=>trivial) fun _=>trivial
     ·trivial
    ·exact⟨fun o vs e=>⟨vs,e,rfl⟩,trivial⟩
  ·trivial
theorem sM(env:Env):K2 (PySem.frameOf env):=by
 unfold PySem.frameOf frameEnvs;refine K2.bind (fun st=>trivial) fun es=>K2.bind ?_ fun o=>?_
 ·unfold frameObject
  split
  ·trivial
  ·exact K2.bind (qE _) fun _=>trivial
 ·split <;> trivial
theorem vZ(a b c d f:Value)(p:List Value):K2 (EntryCells.newEntry a b c d f p):=by
 unfold EntryCells.newEntry newFields newObj;dsimp only;have nw:∀d:Data,K2 (newObjAsIs (Value.type "traceback") d):=fun d=>by
  unfold newObjAsIs;exact K2.bind (fun a=>trivial) fun a=>trivial
 generalize ([a,b,c,d,f]++if p.isEmpty=true then nY 6 Zz else p).toArray=l;split
 ·exact K2.bind trivial fun _=>nw _
 ·exact nw _
theorem xh(f:Addr)(b:Bool):K2 (entryPlaceOf f b):=by
 unfold entryPlaceOf;refine K2.bind (fun st=>trivial) fun st=>?_;split <;> trivial
theorem kq(e:Value)(env:Env):K2 (Yo e env):=by
 unfold Yo;split
 ·refine K2.bind (iH _ _) fun hd=>?_
  have jp:∀f:Addr,K2 (do let a <- PySem.frameOf env;let b <- entryPlaceOf f (hd != Zz);let c <- EntryCells.newEntry hd a Zz (rawInt f) Zz b;setField e 1 c):=fun f=>K2.bind (sM _) fun a=>K2.bind (xh _ _) fun b=>K2.bind (vZ ..) fun c=>fQ _ (by decide) _;dsimp only;split
  ·refine K2.bind (iH _ _) fun x=>?_
   split
   ·trivial
   ·exact K2.bind (fQ _ (by decide) _) fun _=>jp _
  ·exact jp _
 ·trivial
theorem dB(e:Value)(fr:Option Addr):K2 (setFlight e fr):=by
 unfold setFlight;refine K2.bind (iH _ _) fun tb=>?_;split
 ·exact fQ _ (by decide) _
 ·trivial
theorem eY(env:Env)(e:Value):K2 (leaving env e):=by
 unfold leaving;exact K2.bind (kq _ _) fun _=>dB _ _
theorem be{v:Value}{α:Type}{M:Model}{A:Around}{e:Addr}{t:Sem α}{Q:α->Shared->Prop}{E:Value->Shared->Prop}{s:Shared}(k:K2 t)(f:F2v v s.heap e)(h:wpAny M A t (fun a s'=>F2v v s'.heap e->Q a s') E s):wpAny M A t Q E s:=
 tu (xt k f h) (fun _ _ q=>q.1 q.2) (fun _ _ q=>q.1)
theorem ObjOk.at_(x:ObjOk P w H h a o):∃ob,h.get? a=some ob:=by
 cases o with
 |lst xs=>obtain⟨_,_,_,_,e⟩:=x;exact⟨_,e⟩
 |tup xs=>obtain⟨_,_,_,ob,e,_⟩:=x;exact⟨_,e⟩
 |dK kvs=>obtain⟨_,_,_,_,o,_,_,e,_⟩:=x;exact⟨_,e⟩
 |dT kvs=>obtain⟨_,_,_,_,o,_,_,e,_⟩:=x;exact⟨_,e⟩
 |set S n=>obtain⟨o,_,_,_,e,_⟩:=x;exact⟨_,e⟩
 |ins C dx fs=>obtain⟨_,_,_,e,_⟩:=x;exact⟨_,e⟩
 |own y=>obtain⟨_,e⟩:=x;exact⟨_,e⟩
 |xd fs=>obtain⟨_,⟨_,_,_,e,_⟩,_⟩:=x;exact⟨_,e⟩
 |rng lo hi=>obtain⟨_,_,_,e⟩:=x;exact⟨_,e⟩
 |frz ob u=>obtain⟨e,_⟩:=x;exact⟨_,e⟩
 |tbl ps=>exact⟨_,(show h.get? a=some _ from x)⟩
 |met f y=>exact⟨_,(show h.get? a=some _ from x)⟩
 |ext φ=>obtain⟨_,⟨_,e⟩,_⟩:=x;exact⟨_,e⟩
theorem HOk.none_of(x:HOk P w H h)(e:h.get? a=none):H a=none:=by
 cases q:H a with
 |none=>rfl
 |some u=>
  obtain⟨ob,z⟩:=(x a u q).at_;rw[e]at z;cases z
noncomputable def hid(h:Heap)(l:List Env)(rs:List Addr):Heap:=PySem.W.hideAll h (frs l++rs)
theorem cV(e:h.get? b=some o)(h1:b∉frs l)(h2:b∉rs):(hid h l rs).get? b=some o:=
 PySem.W.hideAll_get _ e fun z=>(vY.mp z).elim h1 h2
theorem fw(e:(hid h l rs).get? b=some o):h.get? b=some o:=PySem.W.of_hideAll _ e
theorem dv(e:b∈rs):(hid h l rs).get? b=none:=PySem.W.hideAll_none _ (uj _ e)
theorem cc{h base:Heap}(e:h.FunFrames base l):h.FunFrames (hid h l rs) l:=
 PySem.W.funFrames_hide e fun _ he _ ha=>qQ _ (YI.mpr ⟨_,he,ha⟩)
noncomputable def cxV:Option Addr->Value
 |none=>.none
 |some a=>.ref a
def Fly(l:List Env)(rs:List Addr)(e:Addr)(cls:Value)(o:Option Addr)(h:Heap):Prop:=e∈rs/\∃a0,Heap.FlyingW (hid h l rs) l e cls a0 h/\F2v (cxV o) h e
def XE(P:Program)(w:World):CXT:=fun outer H s E ev s'=>∃(e:Addr) (C:Value) (o:Option Addr) (rs:List Addr) (H':Hp),ev = .ref e/\s'.os=s.os/\AllBare s'.gens/\Un (frs outer) [] H H' s.heap s'.heap /\
 HOk P w H' s'.heap/\(∀b∈rs,s.heap.get? b=none/\H' b=none)/\Fly outer rs e C o s'.heap/\E C o H'
section
variable{X:Cx}{pins:List (Addr × Obj)}{σ:St}{H:Hp}{s:Shared}{h':Heap}{rs:List Addr}
theorem Inv.s0_none(I:Inv X pins σ H s)(hex:X.ex=[])(e:s.heap.get? b=none):X.s₀.heap.get? b=none:=by
 cases q:X.s₀.heap.get? b with
 |none=>rfl
 |some o=>
  obtain⟨o',z⟩:=I.base.there b o q (by rw[hex];simp);rw[e]at z;cases z
theorem Inv.noteUn(I:Inv X pins σ H s)(hex:X.ex=[])(hrs:∀b∈rs,X.s₀.heap.get? b=none)
 (stay:∀b o,s.heap.get? b=some o->b∉frs X.stack->b∉rs->h'.get? b=some o) (up:s.heap.UpToSlots h'):Un X.fs [] X.H₀ H X.s₀.heap h':=by
 have B:=I.base;rw[hex]at B;have nrs:∀b o,X.s₀.heap.get? b=some o->b∉rs:=fun b o e z=>by rw[hrs b z]at e;cases e
 have nst:∀b o,X.s₀.heap.get? b=some o->b∉X.fs->b∉frs X.stack:=fun b o e hb z=>by
  rcases zv.mp (I.stkSub b z) with q|q
  ·exact absurd (rz (xQ e) I.ok.above) (by rw[q];exact Zv _)
  ·exact hb q
 refine⟨fun b o q n hb hx=>stay b o (B.keep b o q n hb hx) (nst b o q hb) (nrs b o q),fun b o q n hb hx=>?_,fun b o q n hx=>B.free b o q n hx,fun b o q hx=>?_,B.tups,B.frzs,B.tbls⟩
 ·obtain⟨sl,e1⟩:=B.slot b o q n hb hx
  obtain⟨_,o',ho',hd⟩:=I.funs.mem hb;rw[e1]at ho';cases ho';obtain⟨sl',e2⟩:=up b _ e1 hd;exact⟨sl',e2⟩
 ·obtain⟨o',e1⟩:=B.there b o q hx
  by_cases hb:b∈frs X.stack
  ·obtain⟨_,o2,ho2,hd⟩:=I.stack.mem hb
   obtain⟨sl',e2⟩:=up b _ ho2 hd;exact⟨_,e2⟩
  ·exact⟨o',stay b o' e1 hb (nrs b o q)⟩
theorem Inv.noteOk(I:Inv X pins σ H s)(hrs:∀b∈rs,H b=none)(stay:∀b o,s.heap.get? b=some o->b∉frs X.stack->b∉rs->h'.get? b=some o):HOk X.prog X.w H h':=fun a o e=>
 (I.hok a o e).stay (fun b u hb q=>stay b u q (fun z=>by
  have n:=I.stkFree b z;rcases hb with r|r
  ·rw[r,e]at n;cases n
  ·rw[r]at n;cases n) fun z=>by
  have n:=hrs b z;rcases hb with r|r
  ·rw[r,e]at n;cases n
  ·rw[r]at n;cases n) (fun _ q=>q) fun _ _ q=>q
theorem fZ(hl:h.FunFrames base l)(up:h.UpToSlots h1)(e:(hid h l rs).get? T=none)(hT:h1.get? T=some oT)(hd:oT.data = .fields ts):h.get? T=none\/T∈rs:=by
 by_cases hr:T∈rs
 ·exact .inr hr
 ·refine .inl ?_
  cases q:h.get? T with
  |none=>rfl
  |some o=>
   by_cases hf:T∈frs l
   ·obtain⟨_,o2,ho2,hnf⟩:=hl.mem hf
    rw[q]at ho2;cases ho2;obtain⟨sl,e2⟩:=up T o q hnf;rw[hT]at e2;cases e2;exact absurd hd (hnf ts)
   ·rw[cV q hf hr]at e;cases e
end
section
variable{P:Program}{w:World}{K:W.Frag}{mg:Str->Option Value}{base:Heap}{N:List Str}{qual:Str}{scope:Scope}{f:Addr}{cd:Value}{A:Around}{outer:List Env}{s₀:Shared}{H₀:Hp}{E:XK}
theorem sT{s:Shared}
 (I:Inv (bE (XE P w) P w K mg base N qual scope f cd A outer s₀ H₀ E) pins σ H s) (hx:Heap.MadeExcOf s.heap h' e cls args) (q:E cls none H) :
 (bE (XE P w) P w K mg base N qual scope f cd A outer s₀ H₀ E).xe (.ref e) { s with heap:=h' }:=by
 show wpAny (model P w) (A.deeper (envOfC qual scope s₀.heap.objs.size f cd)) (leaving (envOfC qual scope s₀.heap.objs.size f cd) (.ref e)) (fun _ s''=>XE P w outer H₀ s₀ E (.ref e) s'') (fun e' s''=>XE P w outer H₀ s₀ E e' s'') { s with heap:=h' };have hst:s.heap.FunFrames base (envOfC qual scope s₀.heap.objs.size f cd::outer):=I.stack;have g0:F2 h' e:=by
  obtain⟨t,he,_,_⟩:=hx.there;exact⟨_,_,he,rfl,rfl⟩
 refine be (e:=e) (eY _ _) g0 (wpAny_leaves_madeW (base:=hid s.heap (envOfC qual scope s₀.heap.objs.size f cd::outer) []) (h:=s.heap) I.ok.frames rfl (fun b o z=>fw z) (cc hst) hx fun h'' t fl tup tn up g2=>?_);obtain⟨f1,f2,f3,oe,vs,T,oT,ts,he,hc,hd,h1,hnT,hTe,hT,hdT,h3⟩:=fl;have up':s.heap.UpToSlots h'':=(Heap.UpToSlots.of_keeps hx.keeps).trans up;have nT:s.heap.get? T=none:=(fZ hst up' hnT hT hdT).elim id fun z=>nomatch z;have stay:∀b o,s.heap.get? b=some o->b∉frs (envOfC qual scope s₀.heap.objs.size f cd::outer)->b∉[e,T]->h''.get? b=some o:=fun b o z hb _=>f1 b o (cV z hb fun y=>nomatch y);have n0:∀b∈[e,T],s.heap.get? b=none:=fun b hb=>by
  rcases zv.mp hb with r|r
  ·rw[r];exact hx.new
  ·rw[uH.mp r];exact nT
 have n1:∀b∈[e,T],s₀.heap.get? b=none:=fun b hb=>I.s0_none rfl (n0 b hb);have n2:∀b∈[e,T],H b=none:=fun b hb=>I.hok.none_of (n0 b hb);refine⟨e,cls,none,[e,T],H,rfl,I.os,I.bare,I.noteUn rfl n1 stay up',I.noteOk n2 stay,fun b hb=>⟨n1 b hb,n2 b hb⟩,⟨.head _,.ref t,?_,g2⟩,q⟩;exact⟨fun b o z=>fw z,dv (.head _),cc f3,oe,vs,T,oT,ts,he,hc,hd,h1,dv (.tail _ (.head _)),hTe,hT,hdT,h3⟩
abbrev XKs:=St->XK
def bp(CX:CXT)(X:Cx)(E:XKs):Prop:=∀(pins:List (Addr × Obj)) (σ:St) (H:Hp) (s:Shared) (e:Value) (s':Shared),Inv X pins σ H s->CX X.stack H s (E σ) e s'->X.xe e s'
def sZ(X:Cx)(E:XKs):Prop:=∀(pins:List (Addr × Obj)) (σ:St) (H:Hp) (s:Shared) (h':Heap) (e:Addr) (cls:Value) (args:List Value),Inv X pins σ H s->Heap.MadeExcOf s.heap h' e cls args->E σ cls none H->X.xe (.ref e) { s with heap:=h' }
theorem cr:sZ (bE (XE P w) P w K mg base N qual scope f cd A outer s₀ H₀ E) (fun _=>E):=fun _ _ _ _ _ _ _ _ I hx q=>sT I hx q
theorem aB:bp (XE P w) (bE (XE P w) P w K mg base N qual scope f cd A outer s₀ H₀ E) (fun _=>E):=by
 intro pins σ H s ev s' I hq;obtain⟨e,C,oc,rs,H',rfl,os,bare,un,hok,hrs,⟨her,a0,fl,g0⟩,q⟩:=hq;have J:Inv (bE (XE P w) P w K mg base N qual scope f cd A outer s₀ H₀ E) pins σ H' s':=I.call' os un hok bare (fun b z=>nomatch z);show wpAny (model P w) (A.deeper (envOfC qual scope s₀.heap.objs.size f cd)) (leaving (envOfC qual scope s₀.heap.objs.size f cd) (.ref e)) (fun _ s''=>XE P w outer H₀ s₀ E (.ref e) s'') (fun e' s''=>XE P w outer H₀ s₀ E e' s'') s';have hst:s'.heap.FunFrames base (envOfC qual scope s₀.heap.objs.size f cd::outer):=J.stack;refine be (e:=e) (eY _ _) g0 (wpAny_leaves_onW (base:=hid s'.heap (envOfC qual scope s₀.heap.objs.size f cd::outer) rs) I.ok.frames rfl fl fun h'' fl' up g2=>?_);obtain⟨f1,f2,f3,oe,vs,T,oT,ts,he,hc,hd,h1,hnT,hTe,hT,hdT,h3⟩:=fl';have nT:=fZ hst up hnT hT hdT;have stay:∀b o,s'.heap.get? b=some o->b∉frs (envOfC qual scope s₀.heap.objs.size f cd::outer)->b∉T::rs->h''.get? b=some o:=fun b o z hb hr=>f1 b o (cV z hb fun y=>hr (.tail _ y));have n1:∀b∈T::rs,s₀.heap.get? b=none:=fun b hb=>by
  rcases zv.mp hb with r|r
  ·rw[r]
   rcases nT with z|z
   ·exact J.s0_none rfl z
   ·exact I.s0_none rfl (hrs T z).1
  ·exact I.s0_none rfl (hrs b r).1
 have n2:∀b∈T::rs,H' b=none:=fun b hb=>by
  rcases zv.mp hb with r|r
  ·rw[r]
   rcases nT with z|z
   ·exact hok.none_of z
   ·exact(hrs T z).2
  ·exact(hrs b r).2
 refine⟨e,C,oc,T::rs,H',rfl,J.os,J.bare,J.noteUn rfl n1 stay up,J.noteOk n2 stay,fun b hb=>⟨n1 b hb,n2 b hb⟩,⟨.tail _ her,a0,?_,g2⟩,q⟩;exact⟨fun b o z=>fw z,dv (.tail _ her),cc f3,oe,vs,T,oT,ts,he,hc,hd,h1,dv (.head _),hTe,hT,hdT,h3⟩
end
def iV(sp:Sp)(dvs:List V)(E:XKs)(t:TA):TE:=fun σ H Q=>t σ H fun vs H1=>sp (vs++dvs) H1 Q (E σ)
section
variable{X:Cx}{CX:CXT}{k:Nat}{f C:Addr}{fd:FuncData}{ps:List Str}{sp:Sp}{dvs:List V}{ds:List Value}{E:XKs}{x m:Str}{p pos apos:Pos}{e o:Expr}{es:List Expr}{ta:TE}{t:TA}
theorem pE(F:FnOk X.prog X.w X.K X.mg X.base CX k f fd ps sp)(hr:Room k X.A)(hb:Binds X.K fd ps ds)(hd:Vals dvs ds)(hx:bp CX X E)
 (I:Inv X pins σ H s) (r:Vals vs us) (h:sp (vs++dvs) H Q (E σ)):wpAny (model X.prog X.w) X.A (call (.ref f) us) (EP X pins σ Q) X.xe s:=by
 have r2:Vals (vs++dvs) (us++ds):=r.append hd;have hl:(us++ds).length=ps.length:=by rw[<- r2.length];exact F.len _ _ _ _ h
 refine wpAny_call (codeAny_mono (F.run X.A X.stack s H ⟨us,[]⟩ (us++ds) (vs++dvs) Q (E σ) hr I.env0 (hb s us I.kIn hl) r2 h) fun r s' hq=>?_);cases r with
 |error e=>exact hx pins σ H s e s' I hq
 |ok fl=>
  cases fl with
  |ret u=>exact I.after hq
  |next=>exact qT hq
  |brk=>exact qT hq
  |cont=>exact qT hq
theorem wq(F:FnOk X.prog X.w X.K X.mg X.base CX k f fd ps sp)(hr:Room k X.A)(hg:Gl X x)(hm:X.mg x=some (.ref f))(hk:ZF X.K (.ref f)=true)(hb:Binds X.K fd ps ds)(hd:Vals dvs ds)(hx:bp CX X E)
 (ha:PA X (e::es) t) (hdb:(x==("__debug__":Str))=false:=by decide) (he:starEach (e::es) X.env=(false,eval e X.env)::starEach es X.env:=by rfl) (hpl:(backTo pos (starEach es X.env)).any (·.1)=false:=by rfl) :
 PE X (.Call (.Name x p) (e::es) [] pos) (iV sp dvs E t):=by
 intro pins s σ H Q I h;refine ZD (eX I hg hm ?_ hdb);refine PySem.W.callWith_K (h₀:=X.base) I.ok.mod.kin hk (thn (ha pos pins s σ H _ I h) fun us s1 ⟨vs,H1,I1,r,q⟩=>⟨I1.kIn,?_⟩) he hpl;exact pE F hr hb hd hx I1 r q
theorem vE(F:FnOk X.prog X.w X.K X.mg X.base CX k f fd ps sp)(hr:Room k X.A)(hg:Gl X x)(hm:X.mg x=some (.ref f))(hk:ZF X.K (.ref f)=true)(hb:Binds X.K fd ps ds)(hd:Vals dvs ds)(hx:bp CX X E)
 (hdb:(x==("__debug__":Str))=false:=by decide):PE X (.Call (.Name x p) [] [] pos) (iV sp dvs E lG):=by
 intro pins s σ H Q I h;refine ZD (eX I hg hm ?_ hdb);exact PySem.W.callWith_K0 I.kIn hk (pE (us:=[]) F hr hb hd hx I .nil h)
end
section
variable{P:Program}{w:World}{K:W.Frag}{mg:Str->Option Value}{base:Heap}
theorem Fun.okX{x qual:Str}{st:Stmt}{f:Addr}{fd:FuncData}{N ps:List Str}{k:Nat}{sp:Sp}(F:Fun K x qual st f fd)(S:dz N ps (au st))(len:∀vs H Q E,sp vs H Q E->vs.length=ps.length)
 (hbody:∀(cdv:Value) (A:Around) (outer:List Env) (s:Shared) (H:Hp) (vs:List V) (Q:VK) (E:XK),Room k (A.deeper (envOfC qual (au st) s.heap.objs.size f cdv))->sp vs H Q E ->
  ∃t,PSs (bE (XE P w) P w K mg base N qual (au st) f cdv A outer s H E) (aQ st) t/\t { nx:=fun _ H'=>Q .non H',rt:=Q } (dC N vs) H):FnOk P w K mg base (XE P w) (k+1) f fd ps sp:=by
 obtain⟨oc,od,kV,doc,pm,an,cdv,ct,osl,rfl,lk,hcd⟩:=F.ex;exact CY lk hcd S len fun A outer s H vs Q E hr hsp=>hbody cdv A outer s H vs Q E hr hsp
end
theorem ue{K:W.Frag}{h:Heap}(X:K.In h)(q:Yk K C bmB newId=true) :
 ∃bm N nm qn bs hdct sn sub ab col dd k0 k1 k2 k3 k5 mN,h.get? C=some (excClassObj nm qn C N bs bm hdct sn sub ab col dd k0 k1 k2 k3 k5 newId)/\h.Ns N mN/\mN "__init__" = none/\OwnTail h bmB bm:=by
 unfold Yk at q;split at q
 ·rename_i dd cd sl ho
  split at q
  ·rename_i C' bm k0 k1 k2 k3 n k5 hm hs
   simp only[mx,beq_iff_eq,Bool.not_eq_true']at q;obtain⟨⟨⟨⟨⟨rfl,rfl⟩,hdel⟩,ht⟩,hok⟩,hni⟩:=q;obtain⟨nm,bs,mro,ns,qn,hd,sn,sub,ab,col,del⟩:=cd;dsimp only at hm hdel hok hni;subst hm hdel;have hsl:sl = #[k0,k1,k2,k3,some (.builtin n),k5]:=by
    obtain⟨l⟩:=sl;simp only at hs;rw[hs]
   subst hsl;exact⟨bm,ns,nm,qn,bs,hd,sn,sub,ab,col,dd,k0,k1,k2,k3,k5,_,X _ _ ho,.of_isNs (PySem.W.isNs_of_in X hok),PySem.W.nsMap_none_of_in X hok hni,PySem.W.tail_of_in X ht⟩
  ·cases q
 ·cases q
def sU(C:Addr)(E:XKs)(t:TA):TS:=fun _ σ H=>t σ H fun vs H1=>vs.length<=sizeLine/\E σ (.ref C) none H1
theorem wv{X:Cx}(O:Yk X.K C bmB newId=true)(FB:ExcBaseFacts B newId initId bmB)
 (hc:X.calm=true) (hg:Gl X x) (hm:X.mg x=some (.ref C)) (hx:sZ X E) (ha:PA X (e::es) t) (hdb:(x==("__debug__":Str))=false:=by decide)
 (he:starEach (e::es) X.env=(false,eval e X.env)::starEach es X.env:=by rfl) (hpl:(backTo cpos (starEach es X.env)).any (·.1)=false:=by rfl) :
 PS X (.Raise (some (.Call (.Name x np) (e::es) [] cpos)) none pos) (sU C E t):=by
 intro pins s σ H D I h;obtain⟨tl,N,nm,q,bs,hdct,sn,sub,ab,col,dd,k0,k1,k2,k3,k5,mN,hC,hN,hni,T⟩:=ue I.mod.kin O;refine wpAny_Raise_call_subT (C:=C) (nm:=nm) (q:=q) (N:=N) (bs:=bs) (bm:=tl) (hdct:=hdct) (sn:=sn) (sub:=sub) (ab:=ab) (col:=col) (dd:=dd) (k0:=k0) (k1:=k1) (k2:=k2) (k3:=k3) (k5:=k5)
  FB (mN:=mN) (T.hasType FB.hasBase) (I.ok.hd hc) (by rw[he];show(false || (backTo cpos (starEach es X.env)).any (·.1))=false;rw[hpl];rfl) hni (eX I hg hm ⟨rfl,?_⟩ hdb)
 have hA:=ha cpos pins s σ H _ I h;rw[he]at hA |-
 refine Yb (thn hA fun us s1 ⟨vs,H1,I1,r,hz,q1⟩=>⟨rfl,by rw[<- r.length];exact hz,I1.bk _ _ hC,hN.keeps I1.bk,T.keeps I1.bk,fun h' e' hm'=>?_⟩);exact hx pins σ H1 s1 h' e' (.ref C) us I1 hm' q1
section
variable{X:Cx}{pins:List (Addr × Obj)}{σ:St}{H:Hp}{s:Shared}{h':Heap}{rs:List Addr}
theorem Inv.noted(I:Inv X pins σ H s)(hrs:∀b∈rs,X.s₀.heap.get? b=none/\H b=none)(hpin:∀p∈X.pn++pins,p.1∉rs)
 (stay:∀b o,s.heap.get? b=some o->b∉frs X.stack->b∉rs->h'.get? b=some o) (up:s.heap.UpToSlots h'):Inv X pins σ H { s with heap:=h',toks:=t' }:=by
 have B:=I.base;have cellK:∀c v,s.heap.IsCell c v->h'.IsCell c v:=fun c v hq_=>by
  obtain⟨o,ho,hd⟩:=hq_;obtain⟨sl,e⟩:=up c o ho fun vs q=>by rw[hd]at q;cases q
  exact⟨_,e,hd⟩
 have nrs:∀b o,X.s₀.heap.get? b=some o->b∉rs:=fun b o e z=>by rw[(hrs b z).1]at e;cases e
 have nst:∀b o,X.s₀.heap.get? b=some o->b∉X.fs->b∉frs X.stack:=fun b o e hb z=>by
  rcases zv.mp (I.stkSub b z) with q|q
  ·exact absurd (rz (xQ e) I.ok.above) (by rw[q];exact Zv _)
  ·exact hb q
 refine⟨I.ok,I.os,I.bare,⟨fun b o q n hb hx=>stay b o (B.keep b o q n hb hx) (nst b o q hb) (nrs b o q),fun b o q n hb hx=>?_,fun b o q n hx=>B.free b o q n hx,fun b o q hx=>?_,B.tups,B.frzs,B.tbls⟩,?_,fun x c e=>?_,I.free,I.freeC,fun p hp=>?_,I.noteOk (fun b hb=>(hrs b hb).2) stay,I.len⟩
 ·obtain⟨sl,e1⟩:=B.slot b o q n hb hx
  obtain⟨_,o',ho',hd⟩:=I.funs.mem hb;rw[e1]at ho';cases ho';obtain⟨sl',e2⟩:=up b _ e1 hd;exact⟨sl',e2⟩
 ·obtain⟨o',e1⟩:=B.there b o q hx
  by_cases hb:b∈frs X.stack
  ·obtain⟨_,o2,ho2,hd⟩:=I.stack.mem hb
   obtain⟨sl',e2⟩:=up b _ ho2 hd;exact⟨_,e2⟩
  ·exact⟨o',stay b o' e1 hb (nrs b o q)⟩
 ·obtain⟨m,hn,hl⟩:=I.loc
  refine⟨m,up.ns hn,fun i x v e1 e2 e3=>?_⟩;obtain⟨u,r,l⟩:=hl i x v e1 e2 e3;refine⟨u,r,?_⟩;rcases l with l|⟨k,c,e,z⟩
  ·exact .inl l
  ·exact .inr ⟨k,c,e,cellK c _ z⟩
 ·obtain⟨v,z⟩:=I.cell x c e
  exact⟨v,cellK c v z⟩
 ·obtain⟨e,n,ne,nf,d⟩:=I.pin p hp
  exact⟨stay p.1 p.2 e (fun z=>(zv.mp (I.stkSub _ z)).elim ne nf) (hpin p hp),n,ne,nf,d⟩
theorem Inv.track(I:Inv X pins σ H s)(hn:H a=none)(h0:X.s₀.heap.get? a=none)(hL:a≠X.env.locals)(hc:∀x c,X.env.cells.lookup x=some c->c≠a)(hp:∀p∈X.pn++pins,p.1≠a)
 (new:ObjOk X.prog X.w (upd H a o) s.heap a o):Inv X pins σ (upd H a o) s:=by
 have B:=I.base;refine⟨I.ok,I.os,I.bare,⟨B.keep,B.slot,fun b ob q n hx=>?_,B.there,fun b xs q=>?_,fun b ob xs q=>?_,fun b ps q=>?_⟩,I.loc,I.cell,?_,fun x c e=>?_,fun p hp'=>?_,fun b u e=>?_,I.len⟩
 ·have:b≠a:=fun z=>by rw[z,h0]at q;cases q
  rw[aw this];exact B.free b ob q n hx
 ·have e:=B.tups b xs q
  rw[aw (aq e hn)];exact e
 ·have e:=B.frzs b ob xs q
  rw[aw (aq e hn)];exact e
 ·obtain⟨m,e⟩:=B.tbls b ps q
  exact⟨m,by rw[aw (aq e hn)];exact e⟩
 ·rw[aw (Ne.symm hL)];exact I.free
 ·rw[aw (hc x c e)];exact I.freeC x c e
 ·obtain⟨e,n,ne,nf,d⟩:=I.pin p hp'
  exact⟨e,by rw[aw (hp p hp')];exact n,ne,nf,d⟩
 ·by_cases hb:b=a
  ·subst hb
   rw[ad]at e;cases e;exact new
  ·rw[aw hb]at e
   refine(I.hok b u e).stay (fun c v _ q=>q) (fun c q=>?_) fun c xs q=>?_
   ·rw[aw (aq q hn)];exact q
   ·rw[aw (aq q hn)];exact q
theorem Cx.Ok.re(ok:X.Ok)(A':Around)(hf:A'.frames=X.A.frames)(cm:Bool)(hh:cm=true->A'.handled=none)(pn:List (Addr × Obj))(xe:Value->Shared->Prop):({ X with A:=A',calm:=cm,pn:=pn,xe:=xe }:Cx).Ok:=
 ⟨ok.mod,ok.kind,ok.glob,ok.blt,ok.above,ok.inj,ok.has,ok.cab,hh,hf.trans ok.frames,ok.stk,ok.exf,ok.bs,ok.bsz,ok.noex,ok.exfs,ok.funs,ok.frf⟩
theorem Inv.toPn(I:Inv X pins σ H s)(xe:Value->Shared->Prop):Inv { X with pn:=X.pn++pins,xe:=xe } [] σ H s:=
 ⟨I.ok.re X.A rfl X.calm I.ok.hd _ _,I.os,I.bare,I.base,I.loc,I.cell,I.free,I.freeC,fun p hp=>I.pin p (by rw[Z3]at hp;exact hp),I.hok,I.len⟩
theorem Inv.ofPn(ok:X.Ok)(I:Inv { X with pn:=X.pn++pins,xe:=xe } pins' σ H s):Inv X pins σ H s:=
 ⟨ok,I.os,I.bare,I.base,I.loc,I.cell,I.free,I.freeC,fun p hp=>I.pin p (qQ _ hp),I.hok,I.len⟩
noncomputable abbrev Cx.caught(X:Cx)(e:Addr):Cx:={ X with A:=X.A.mark (some (.ref e)),calm:=false,pn:=X.pn,xe:=fun _ _=>False }
theorem Inv.toCaught(I:Inv X pins σ H s)(e:Addr):Inv (X.caught e) pins σ H s:=
 ⟨I.ok.re (X.A.mark (some (.ref e))) rfl false (fun z=>nomatch z) _ _,I.os,I.bare,I.base,I.loc,I.cell,I.free,I.freeC,I.pin,I.hok,I.len⟩
theorem Inv.ofCaught(ok:X.Ok)(I:Inv (X.caught e) pins σ H s):Inv X pins σ H s:=
 ⟨ok,I.os,I.bare,I.base,I.loc,I.cell,I.free,I.freeC,I.pin,I.hok,I.len⟩
theorem fY(I:Inv X pins σ H s)(hN:X.N.Nodup)(hi:X.N[i]? = some n)(hk:X.env.kindOf n=some .local)
 (h:∀s',Inv X pins (σ.set i none) H s'->Q () s'):wpAny M A (do bindName X.env n .none;unbindBehindTheSuite X.env n pos) Q E s:=by
 obtain⟨m,hn,hl⟩:=id I.loc;have hcls:(X.env.scope.kind == .class || (X.env.scope.kind == .module&&X.env.locals != X.env.globals))=false:=by rw[I.ok.kind];rfl
 have cne:=I.cne;refine wpAny_nameGoes_keeps hk hn hcls fun h' v hn' hs=>?_;obtain⟨oL,_,_,hoL,_⟩:=id hn;refine h _ ⟨I.ok,I.os,I.bare,⟨fun b o e n hb hx=>?_,fun b o e n hb hx=>?_,I.base.free,fun b o e hx=>?_,I.base.tups,I.base.frzs,I.base.tbls⟩,⟨_,hn',fun j y v' e1 e2 e3=>?_⟩,fun y c e=>?_,I.free,I.freeC,fun p hp=>?_,fun b ob e=>?_,by simpa using I.len⟩
 ·exact(hs.2 b (o6 (rz (xQ e) I.ok.above))).trans (I.base.keep b o e n hb hx)
 ·obtain⟨sl,e1⟩:=I.base.slot b o e n hb hx
  exact⟨sl,(hs.2 b (o6 (rz (xQ e) I.ok.above))).trans e1⟩
 ·obtain⟨o',e1⟩:=I.base.there b o e hx
  exact⟨o',(hs.2 b (o6 (rz (xQ e) I.ok.above))).trans e1⟩
 ·by_cases hj:j=i
  ·subst hj
   rw[List.getElem?_set]at e2;simp at e2
  ·rw[List.getElem?_set_ne (Ne.symm hj)]at e2
   obtain⟨u',r',q⟩:=hl j y v' e1 e2 e3;refine⟨u',r',?_⟩;rcases q with ⟨k,e⟩|⟨k,c,e,z⟩
   ·refine .inl ⟨k,?_⟩
    have:y≠n:=fun e=>hj (lV hN e1 (e ▸ hi));simp[this,e]
   ·exact .inr ⟨k,c,e,z.sameBut hs (cne y c e)⟩
 ·obtain⟨w',z⟩:=I.cell y c e
  exact⟨w',z.sameBut hs (cne y c e)⟩
 ·obtain⟨e,n,ne,nf,d⟩:=I.pin p hp
  exact⟨(hs.2 p.1 ne).trans e,n,ne,nf,d⟩
 ·refine(I.hok b ob e).stay (fun c w' hc q=>(hs.2 c ?_).trans q) (fun _ q=>q) fun _ _ q=>q
  rintro rfl;rcases hc with rfl|hc
  ·rw[I.free]at e;cases e
  ·rw[I.free]at hc;cases hc
end
theorem gY{s:Shared}{K:W.Frag}{e C D:Addr}{oe:Obj}(X:K.In s.heap)(he:s.heap.get? e=some oe)(hcls:oe.cls = .ref C)
 (hx:Zd K (.ref C) (.ref D)=some true) (h:Q true s):wpAny M A (excMatches (.ref e) (.ref D)) Q E s:=
 (PySem.W.exm_one (M:=M) X (hcls ▸ (PySem.W.Looks.ld he).andThen .now) hx).here h
noncomputable def m7(C:Value)(e:Addr):HO:=HO.ext fun h=>∃o vs,h.get? e=some o/\o.cls=C/\o.data = .fields vs/\vs[2]? = some .none
noncomputable def r9(C:Value)(o:Option Addr)(e:Addr):HO:=match o with
 |none=>m7 C e
 |some a=>HO.ext fun h=>∃o vs,h.get? e=some o/\o.cls=C/\o.data = .fields vs/\vs[2]? = some (.ref a)
theorem tR{C:Value}{o:Option Addr}{e:Addr}:r9 C o e=HO.ext fun h=>∃ob vs,h.get? e=some ob/\ob.cls=C/\ob.data = .fields vs/\vs[2]? = some (cxV o):=by cases o <;> rfl
def C1(K:W.Frag)(CH:Addr)(i:Nat)(tb:XKs->TS)(th:Addr->TS):TS:=fun D σ H=>
 tb (fun σ' C oc H'=>∃Ce,C = .ref Ce/\Zd K (.ref Ce) (.ref CH)=some true/\∀e,H' e=none ->
  th e { nx:=fun σ2 H2=>D.nx (σ2.set i none) H2,rt:=D.rt,bk:=fun σ2 H2=>D.bk (σ2.set i none) H2,ct:=fun σ2 H2=>D.ct (σ2.set i none) H2 } (σ'.set i (some (.ref e))) (upd H' e (r9 (.ref Ce) oc e))) D σ H
def DL(K:W.Frag)(CH:Addr)(i:Nat)(tb:XKs->TS)(th:TS):TS:=fun D σ H=>
 tb (fun σ' C oc H'=>∃Ce,C = .ref Ce/\Zd K (.ref Ce) (.ref CH)=some true/\∀e,H' e=none ->
  th { nx:=fun σ2 H2=>D.nx (σ2.set i none) H2,rt:=D.rt,bk:=fun σ2 H2=>D.bk (σ2.set i none) H2,ct:=fun σ2 H2=>D.ct (σ2.set i none) H2 } (σ'.set i (some (.ref e))) (upd H' e (r9 (.ref Ce) oc e))) D σ H
theorem yt(hN:X.N.Nodup)(hi:X.N[i]? = some n)(hk:X.env.kindOf n=some .local)
 (hg:Gl X x) (hm:X.mg x=some (.ref CH))
 (hex:X.ex=[]) (hst:X.stack=X.env::X.outer) (hfr:X.env.frame=some X.env.locals)
 (hb:∀(pn:List (Addr × Obj)) (Ee:Value->Shared->Prop) (Ex:XKs),bp (XE X.prog X.w) { X with pn:=pn,xe:=Ee } Ex->PSs { X with pn:=pn,xe:=Ee } body (tb Ex))
 (hh:∀e:Addr,PSs (X.caught e) (b₀::suite) (th e)) (hdb:(x==("__debug__":Str))=false:=by decide) :
 PS X (.Try body [.ExceptHandler (some (.Name x np)) (some n) (b₀::suite) hpos] [] [] pos) (C1 X.K CH i tb th):=by
 intro pins s σ H D I h;refine wpAny_Try_except ?_;have ok:=I.ok;refine tu (hb (X.pn++pins) _ _ ?hP [] s σ H D (I.toPn _) h) (fun f s1 hf=>?_) (fun _ _ z=>z)
 case hP=>
  intro pins' σ' H1 s1 ev s1' I1 hq;obtain⟨e,C,oc,rs,H',rfl,os,bare,un,hok,hrs,⟨her,a0,fl,g0⟩,⟨Ce,rfl,hmro,hth⟩⟩:=hq;have J1:=I1.call' os un hok bare (fun b z=>nomatch z);have J:Inv X pins σ' H' s1':=J1.ofPn ok;have I0:Inv X pins σ' H1 s1:=I1.ofPn ok;have hn0:∀b∈rs,X.s₀.heap.get? b=none/\H' b=none:=fun b hb=>by
   refine⟨?_,(hrs b hb).2⟩;cases q:X.s₀.heap.get? b with
   |none=>rfl
   |some o=>
    obtain⟨o',z⟩:=I0.base.there b o q (by rw[hex];simp);rw[(hrs b hb).1]at z;cases z
  have hpin:∀p∈X.pn++pins,p.1∉rs:=fun p hp z=>by
   have:=(I0.pin p hp).1;rw[(hrs _ z).1]at this;cases this
  have hstk:s1'.heap.FunFrames X.base (X.env::X.outer):=by rw[<- hst];exact J.stack
  rw[show X.stack=X.env::X.outer from hst]at fl;have hfrm:X.A.frames=some (X.env::X.outer):=by rw[<- hst];exact ok.frames
  show wpAny (model X.prog X.w) X.A (Yo (.ref e) X.env) _ _ s1';refine be (e:=e) (kq _ _) g0 (wpAny_looks_onW (base:=hid s1'.heap (X.env::X.outer) rs) hfrm hfr fl fun h₄ held up4 g4=>?_);refine be (e:=e) (dB _ _) g4 (wpAny_landsW held fun h₅ fl5 up5 g5=>?_);have nin:∀b,b∉frs X.stack->b∉frs (X.env::X.outer):=fun b hb=>by rw[<- hst];exact hb
  have stay5:∀b o,s1'.heap.get? b=some o->b∉frs X.stack->b∉rs->h₅.get? b=some o:=fun b o z hb hr=>fl5.1 b o (cV z (nin b hb) hr);have I5:Inv X pins σ' H' { s1' with heap:=h₅,toks:=s1'.toks }:=J.noted hn0 hpin stay5 (up4.trans up5);obtain⟨ob,hob,hobc⟩:=fl5.there;refine wpAny_handleBy_cons (codeAny_handlers_test (eX (X:=X.caught e) (I5.toCaught e) hg hm (gY I5.kIn hob hobc hmro ?_) hdb)) (by intro q;cases q);refine codeAny_handlers_suite_as (be (e:=e) (dB _ _) g5 (lands_againW fl5 fun h₆ fl6 up6 g6=>?_));have stay6:∀b o,s1'.heap.get? b=some o->b∉frs X.stack->b∉rs->h₆.get? b=some o:=fun b o z hb hr=>fl6.1 b o (cV z (nin b hb) hr);have I6:Inv X pins σ' H' { s1' with heap:=h₆,toks:=s1'.toks }:=J.noted hn0 hpin stay6 ((up4.trans up5).trans up6);have e1:s1.heap.get? e=none:=(hrs e her).1;obtain⟨oe,vs,hoe,hoed,ho2⟩:=g6;have hoec:oe.cls = .ref Ce:=by
   obtain⟨o2,q1,q2⟩:=fl6.there;rw[hoe]at q1;cases q1;exact q2
  have I6':Inv X pins σ' (upd H' e (r9 (.ref Ce) oc e)) { s1' with heap:=h₆,toks:=s1'.toks }:=by
   rw[tR];refine I6.track (hrs e her).2 (hn0 e her).1 ?_ ?_ (fun p hp z=>hpin p hp (by rw[z];exact her)) ?_
   ·intro z
    obtain⟨m,⟨oL,_,_,hoL,_⟩,_⟩:=I0.loc;rw[<- z,e1]at hoL;cases hoL
   ·intro x c hc z
    obtain⟨v,o,ho,_⟩:=I0.cell x c hc;rw[z,e1]at ho;cases ho
   ·exact⟨⟨oe,vs,hoe,hoec,hoed,ho2⟩,⟨oe,hoe⟩,fun h1 h2 hq_ k=>(by obtain⟨o,ws,a1,a2,a3⟩:=hq_;exact⟨o,ws,k o a1,a2,a3⟩)⟩
  refine lj (X:=X.caught e) (I6'.toCaught e) hN hi (Or.inl hk) (v:=.ref e) rfl (fun s7 I7=>?_) (.inr hk);refine tu (hh e pins s7 _ _ _ I7 (hth e (hrs e her).2)) (fun f s8 hf=>?_) (fun _ _ z=>z.elim);show wpAny (model X.prog X.w) X.A (do bindName X.env n .none;unbindBehindTheSuite X.env n hpos) (fun _ s₃=>SP X pins D f s₃) X.xe s8;cases f with
  |next=>
   obtain⟨σ2,H2,J2,q⟩:=hf;exact fY (J2.ofCaught ok) hN hi hk fun s9 I9=>⟨_,_,I9,q⟩
  |brk=>
   obtain⟨σ2,H2,J2,q⟩:=hf;exact fY (J2.ofCaught ok) hN hi hk fun s9 I9=>⟨_,_,I9,q⟩
  |cont=>
   obtain⟨σ2,H2,J2,q⟩:=hf;exact fY (J2.ofCaught ok) hN hi hk fun s9 I9=>⟨_,_,I9,q⟩
  |ret u=>
   obtain⟨v,σ2,H2,J2,r,q⟩:=hf;exact fY (J2.ofCaught ok) hN hi hk fun s9 I9=>⟨v,_,_,I9,r,q⟩
 cases f with
 |next=>
  obtain⟨σ',H',J,q⟩:=hf;exact Yu ⟨σ',H',J.ofPn ok,q⟩
 |brk=>
  obtain⟨σ',H',J,q⟩:=hf;exact⟨σ',H',J.ofPn ok,q⟩
 |cont=>
  obtain⟨σ',H',J,q⟩:=hf;exact⟨σ',H',J.ofPn ok,q⟩
 |ret u=>
  obtain⟨v,σ',H',J,r,q⟩:=hf;exact⟨v,σ',H',J.ofPn ok,r,q⟩
theorem Bf(hN:X.N.Nodup)(hi:X.N[i]? = some n)(hk:X.env.kindOf n=some .local)
 (hg:Gl X x) (hm:X.mg x=some (.ref CH))
 (hex:X.ex=[]) (hst:X.stack=X.env::X.outer) (hfr:X.env.frame=some X.env.locals)
 (hb:∀(pn:List (Addr × Obj)) (Ee:Value->Shared->Prop) (Ex:XKs),bp (XE X.prog X.w) { X with pn:=pn,xe:=Ee } Ex->PSs { X with pn:=pn,xe:=Ee } body (tb Ex))
 (hh:∀e:Addr,PSs (X.caught e) (b₀::suite) th) (hdb:(x==("__debug__":Str))=false:=by decide) :
 PS X (.Try body [.ExceptHandler (some (.Name x np)) (some n) (b₀::suite) hpos] [] [] pos) (DL X.K CH i tb th):=yt (th:=fun _=>th) hN hi hk hg hm hex hst hfr hb hh hdb
end L2
namespace L2
open PySem PySem.Spec PyProof.Rows PySem.W
inductive tq:V->Value->Prop where
 |ty (n:String):tq (.ty n) (.type n)
 |own (a:Addr):tq (.ref a) (.ref a)
section
variable{X:Cx}
theorem qZ:CallR X (.builtin "isinstance") (fun xs H Q=>∃x c t u b,xs=[x,c]/\tq c u/\gK X.K H x t/\nK X.K t u=some b/\Q (.bl b) H):=by
 intro pins s σ H xs us Q I r h;obtain⟨x,c,t,u,b,rfl,rc,ty,e,q⟩:=h;obtain⟨ux,uc,rfl,rx,rc'⟩:=wk r;have ec:uc=u:=by
  cases rc with
  |ty n=>exact rc'
  |own a=>exact rc'
 subst ec;exact uR I rx ty e fun tk=>⟨.bl b,H,I.tok _,rfl,q⟩
end
structure cH(K:Frag)(C:Addr):Prop where
 l1:findIn K (.ref C) "__getattribute__" = some (some (.builtin "BaseException.__getattribute__"))
 l2:findIn K (.ref C) "__getattr__" = some none
 l3:findIn K (.ref C) "__class__" = some (some (.builtin "object.__class__"))
 c1:(clsIn K C).isSome=true
 m1:mroIn K C (.type "object")=some true
 m2:mroIn K C (.type "BaseException")=some true
section
variable{prog:Program}{w:World}{A:Around}{E:Value->Shared->Prop}{K:Frag}{e C:Addr}{o:Obj}{s:Shared}
open Builtin Builtin.ObjectAttr Builtin.Getset_descriptor PySem.Calls in
theorem mj(X:K.In s.heap)(Z:cH K C)(hx:s.heap.get? e=some o)(hc:o.cls = .ref C)
 (h:R (.ok (.ret (.ref C))) s):codeAny (model prog w) A (.call (.builtin "getset_descriptor.__get__") ⟨[.builtin "object.__class__",.ref e,tp],[]⟩) R s:=by
 obtain⟨hh,g,dr,t,os⟩:=s;have L0:Looks (model prog w) hh (typeOf (.ref e)) (.ref C):=hc ▸ (Looks.ld hx).andThen .now;have L1:=looks_mroIn (M:=model prog w) X Z.m1;refine codeAny_call_builtin KF.slot_gs.plain KF.entry_gs (KF.slot_gs.check _ _ _ _ _ _ _ _ KF.type_class (KF.args_gs _ _ _) ?_);unfold Builtin.«getset_descriptor.__get__» descrGet;rw[dga_obj];refine zz (xJ ?_);unfold descrGetter descrCheckInstance descrNameAndClass isInstance;simp only[KF.owner_class]
 repeat lk
 refine⟨Code.quiet_builtin _ (by decide +kernel),codeAny_builtin KF.entry_class ?_⟩;unfold Builtin.«object.__class__» shownTypeOf
 repeat lk
 exact h
theorem nW(X:K.In s.heap)(Z:cH K C)(hx:s.heap.get? e=some o)(hc:o.cls = .ref C)(hq:Q () s) :
 wpAny M A (checkBuiltinCall "BaseException.__getattribute__" ⟨[.ref e,nameV],[]⟩) Q E s:=by
 have hk:builtinKind "BaseException.__getattribute__" = some .slot:=by decide +kernel
 have hsplit:splitId "BaseException.__getattribute__" = some ("BaseException","__getattribute__"):=by decide +kernel
 have ha:=F.args_bexc_ga (.ref e) nameV;obtain⟨hh,g,dr,t,os⟩:=s;have L0:Looks M hh (typeOf (.ref e)) (.ref C):=hc ▸ (Looks.ld hx).andThen .now;have L1:=looks_mroIn (M:=M) X Z.m2;have LI:Looks M hh (isInstance (.ref e) (.type "BaseException")) true:=L0.andThen L1;simp only[checkBuiltinCall,hk,hsplit];refine zz (LI.at ?_)
 repeat (first|assumption|wp_step)
theorem nV(X:K.In s.heap)(Z:cH K C)(hx:s.heap.get? e=some o)(hc:o.cls = .ref C)(hq:Q (.done (.ret (.ref C))) s) :
 wpAny (model prog w) A (Builtin.«object.__getattribute__» ⟨[.ref e,.str "__class__" tk],[]⟩) Q E s:=by
 obtain⟨hh,g,dr,t,os⟩:=s;have L0:Looks (model prog w) hh (typeOf (.ref e)) (.ref C):=hc ▸ (Looks.ld hx).andThen .now;have L3:=looks_findIn (M:=model prog w) X Z.l3;have f5:=KF.type_class;have f6:=F.slot_gs_get.lookup;have f7:=F.slot_gs_set.lookup
 repeat (any_goals (first|assumption|with_reducible refine L0.at ?_|with_reducible refine L3.at ?_|wp_step))
 refine mj X Z hx hc ?_
 repeat (any_goals (first|assumption|wp_step))
theorem kW(X:K.In s.heap)(Z:cH K C)(hx:s.heap.get? e=some o)(hc:o.cls = .ref C)(h:Q (some (.ref C)) { s with toks:=s.toks+1 }) :
 wpAny (model prog w) A (getAttr? (.ref e) "__class__") Q E s:=by
 obtain⟨hh,g,dr,t,os⟩:=s;have L0:Looks (model prog w) hh (typeOf (.ref e)) (.ref C):=hc ▸ (Looks.ld hx).andThen .now;have L1:=looks_findIn (M:=model prog w) X Z.l1;have L2:=looks_findIn (M:=model prog w) X Z.l2;have f3:=F.excAttr_ValueError.ga.bind (.ref e);have hx2:(Value.builtin "BaseException.__getattribute__" == Value.builtin "object.__getattribute__")=false:=by decide +kernel
 have hx0:∀ex:Bool,(ex&&onTheHeap (Value.builtin "BaseException.__getattribute__"))=false:=fun ex=>by cases ex <;> rfl
 have hx1:(onTheHeap (qr C)&&Value.builtin "BaseException.__getattribute__" == Value.builtin "object.__getattribute__")=false:=by rw[hx2];rfl
 unfold getAttr?
 repeat (any_goals (first|assumption|with_reducible refine L0.at ?_|with_reducible refine L1.at ?_|with_reducible refine L2.at ?_|wp_step))
 refine codeAny_call_builtin F.excAttr_ValueError.ga.plain F.entry_bexc_ga (nW X Z hx hc (nV X Z hx hc ?_))
 repeat (any_goals (first|assumption|wp_step))
theorem p_(Z:cH K C):KitX K (.ref e) (.ref C) (fun h=>∃o,h.get? e=some o/\o.cls = .ref C) where
 ty:=fun M h _ hq_=>(by obtain⟨o,h1,h2⟩:=hq_;exact h2 ▸ (Looks.ld h1).andThen .now)
 it:=fun M h X _=>by
  have c1:=Z.c1;unfold clsIn at c1;split at c1
  ·rename_i c' d' cd' sl' ho
   intro A' Q' E' s' k q;unfold isType loadHead;exact zz (wpAny_loadPart (k _ _ (X _ _ ho)) (xJ q))
  ·cases c1
 ne:=fun h tp dd its n sl X htp=>by
  refine Bool.eq_false_iff.mpr fun q=>?_;have e':C=tp:=qr.inj (beq_iff_eq.mp q);subst e';have c1:=Z.c1;unfold clsIn at c1;split at c1
  ·rename_i c' d' cd' sl' ho
   have z:=(X _ _ ho).symm.trans htp;cases z
  ·cases c1
 ca:=fun X hq_ k=>(by obtain⟨o,h1,h2⟩:=hq_;exact kW X Z h1 h2 k)
end
section
variable{X:Cx}
theorem px:CallR X (.builtin "isinstance") (fun xs H Q=>∃e c C u b,xs=[.ref e,c]/\tq c u/\H e=some (m7 (.ref C) e)/\cH X.K C/\nK X.K (.ref C) u=some b/\Q (.bl b) H):=by
 intro pins s σ H xs us Q I r h;obtain⟨e,c,C,u,b,rfl,rc,he,Z,k,q⟩:=h;obtain⟨ux,uc,rfl,rx,rc'⟩:=wk r;have ec:uc=u:=by
  cases rc with
  |ty n=>exact rc'
  |own a=>exact rc'
 subst ec;cases (show ux=qr e from rx);obtain⟨⟨o,vs,h1,h2,_⟩,_,_⟩:=(show ObjOk X.prog X.w H s.heap e (m7 (.ref C) e) from I.hok e _ he);exact kia_one (p_ Z) I.kIn ⟨o,h1,h2⟩ k (fun z=>nomatch z) fun tk=>⟨.bl b,H,I.tok _,rfl,q⟩
theorem nU(hc:X.calm=true):CallR X (.builtin "sum") (fun xs H Q=>∃(p:Addr) (ns:List Int),xs=[.ref p]/\SqT X.K H p (ns.map V.int)/\Q (.int ns.sum) H):=by
 intro pins s σ H xs us Q I r h;obtain⟨p,ns,rfl,hq,q⟩:=h;obtain⟨u,rfl,rx⟩:=dq r;cases (show u=qr p from rx);obtain⟨its,r',pl,hz⟩:=I.tuple hq;have hi:=lD r';obtain⟨ys,hy⟩:=hi.allInts.items;have hn:numsOf its.toArray.toList=ns:=by rw[show its.toArray.toList=its from rfl,hi.numsOf]
 rw[hy]at pl hn;rw[nums_intItems]at hn;refine ktm_sumG (I.ok.hd hc) pl fun h' tk t' hk=>?_;rw[preSum_eq,vL (by simp),hn];exact⟨.int ns.sum,H,I.kept hk,⟨_,rfl⟩,q⟩
end
end L2
namespace L2
open PySem PySem.Spec PyProof.Rows
section
variable{X:Cx}{a b:Expr}{ta:TE}
noncomputable def BM(xs ys:List V):Bool:=(rL (min xs.length ys.length)).all (fun j=>eqV (xs.getD j .non) (ys.getD j .non))&&xs.length==ys.length
def zn(K:W.Frag)(neg:Bool):R2:=fun x y H Q=>∃p p' xs ys,x = .ref p/\y = .ref p'/\SqT K H p xs/\SqT K H p' ys/\xs.all cD=true/\ys.all cD=true/\Q (.bl (neg ^^ BM xs ys)) H
theorem lU(r:Vals xs us)(r':Vals ys vs)(fx:xs.all cD=true)(fy:ys.all cD=true)(j:Nat)(h1:j<us.toArray.size)(h2:j<vs.toArray.size) :
 SeqAt.EqAt A s us.toArray[j] vs.toArray[j] (eqV (xs.getD j .non) (ys.getD j .non)):=by
 have e1:us[j]? = some us.toArray[j]:=by simp at h1;simp[h1]
 have e2:vs[j]? = some vs.toArray[j]:=by simp at h2;simp[h2]
 have l1:j<xs.length:=by rw[r.length];simpa using h1
 have l2:j<ys.length:=by rw[r'.length];simpa using h2
 have g1:xs[j]? = some (xs.getD j .non):=by simp[List.getD,l1]
 have g2:ys[j]? = some (ys.getD j .non):=by simp[List.getD,l2]
 obtain⟨u,hu,ru⟩:=r.get g1;obtain⟨v,hv,rv⟩:=r'.get g2;rw[e1]at hu;rw[e2]at hv;rw[wj hu,wj hv];exact sC ru rv (Zt.mp fx _ (oH g1)) (Zt.mp fy _ (oH g2))
theorem BH(hu:X.A.units<cLine):OpR X (pU .Eq) (zn X.K false):=by
 intro pins s σ H x y v u Q I rx ry h;obtain⟨p,p',xs,ys,rfl,rfl,hx,hy,fx,fy,q⟩:=h;cases (show v=qr p from rx);cases (show u=qr p' from ry);obtain⟨its,r,pl,hz⟩:=I.tuple hx;obtain⟨its',r',pl',hz'⟩:=I.tuple hy;refine SeqAt.eq_tupleAt pl pl' hu (fun j h1 h2=>lU r r' fx fy j h1 h2) ⟨.bl _,H,I,rfl,?_⟩;rw[xV,xV,<- r.length,<- r'.length]
 simpa [BM] using q
theorem Cn(hu:X.A.units<cLine):OpR X (pU .NotEq) (zn X.K true):=by
 intro pins s σ H x y v u Q I rx ry h;obtain⟨p,p',xs,ys,rfl,rfl,hx,hy,fx,fy,q⟩:=h;cases (show v=qr p from rx);cases (show u=qr p' from ry);obtain⟨its,r,pl,hz⟩:=I.tuple hx;obtain⟨its',r',pl',hz'⟩:=I.tuple hy;refine SeqAt.RcNeAt.tuples pl pl' hu (fun j h1 h2=>lU r r' fx fy j h1 h2) X.prog X.w X.xe _ ⟨.bl _,H,I,rfl,?_⟩;rw[xV,xV,<- r.length,<- r'.length]
 simpa [BM] using q
theorem AV(hu:X.A.units<cLine):OpR X (pU .Eq) (fun x y H Q=>rEq x y H Q\/zn X.K false x y H Q):=Dz.or (BH hu)
theorem B5(hu:X.A.units<cLine):OpR X (pU .NotEq) (fun x y H Q=>rNe x y H Q\/zn X.K true x y H Q):=DF.or (Cn hu)
theorem vc:CallR X (.builtin "isinstance") (fun xs H Q=>(∃x c t u b,xs=[x,c]/\tq c u/\gK X.K H x t/\nK X.K t u=some b/\Q (.bl b) H) \/
 ∃e c C u b,xs=[.ref e,c]/\tq c u/\H e=some (m7 (.ref C) e)/\cH X.K C/\nK X.K (.ref C) u=some b/\Q (.bl b) H):=qZ.or px
end
noncomputable abbrev T(l:List Nat):V:=.str ⟨⟨l⟩⟩
noncomputable def cs(x:Str):List Nat:=x.cps.toList
theorem wP(x:Str):V.str x=T (cs x):=rfl
section
variable{X:Cx}{e a b c:Expr}{pos:Pos}
theorem PE.imp(h:PE X e t)(i:∀σ H Q,t' σ H Q->t σ H Q):PE X e t':=fun pins s σ H Q I q=>h pins s σ H Q I (i σ H Q q)
theorem OpR.imp(h:OpR X f r)(i:∀x y H Q,r' x y H Q->r x y H Q):OpR X f r':=fun pins s σ H x y v u Q I rx ry q=>h pins s σ H x y v u Q I rx ry (i _ _ _ _ q)
theorem UnR.imp(h:UnR X f r)(i:∀x H Q,r' x H Q->r x H Q):UnR X f r':=fun pins s σ H x v Q I rx q=>h pins s σ H x v Q I rx (i _ _ _ q)
theorem CallR.imp(h:CallR X f r)(i:∀x H Q,r' x H Q->r x H Q):CallR X f r':=fun pins s σ H x v Q I rx q=>h pins s σ H x v Q I rx (i _ _ _ q)
theorem IxR.imp(h:IxR X r)(i:∀x y H Q,r' x y H Q->r x y H Q):IxR X r':=fun va sl pins s σ H x y v u Q I rx ry q hs=>h va sl pins s σ H x y v u Q I rx ry (i _ _ _ _ q) hs
def AY(i:Nat):TE:=fun σ H Q=>match σ[i]? with
 |some (some v)=>Q v H
 |_=>False
theorem fv(i:Nat)(hN:X.N[i]? = some x:=by rfl)(hv:Vis X.env.scope x:=by first|exact Or.inl rfl|exact Or.inr (Or.inl rfl)|exact Or.inr (Or.inr rfl))(hd:(x==("__debug__":Str))=false:=by decide)
 (hcd:(x==("__classdict__":Str))=false:=by decide):PE X (.Name x pos) (AY i):=(BZ hN hv hd hcd).imp fun σ H Q h=>by
 unfold AY at h;split at h
 ·exact⟨_,by assumption,h⟩
 ·exact h.elim
theorem ac{j}(l:List Nat)(h:x=⟨⟨l⟩⟩:=by decide +kernel):PE X (.Constant (.str x) j pos) (tC (T l)):=h ▸ wN
def De:R2
 | .int i,.int j,H,Q=>Q (.int (i+j)) H
 | .str i,.str j,H,Q=>(cs i).length+(cs j).length<=sizeLine/\Q (T (cs i++cs j)) H
 |_,_,_,_=>False
theorem A3(i j:Str):V.str (i++j)=T (cs i++cs j):=by
 show V.str ⟨i.cps++j.cps⟩=V.str ⟨⟨i.cps.toList++j.cps.toList⟩⟩
 congr 1
 congr 1
 exact(Array.ext' (by simp))
theorem av:OpR X (binaryOp .Add) De:=(Be.or r8).imp fun x y H Q h=>by
 cases x with
 |int _=>
  cases y with
  |int _=>exact .inl ⟨_,_,rfl,rfl,h⟩
  |_=>exact(id h:False).elim
 |str _=>
  cases y with
  |str _=>
   refine .inr ⟨_,_,rfl,rfl,by simpa [cs,Zk] using h.1,?_⟩;rw[A3];exact h.2
  |_=>exact(id h:False).elim
 |_=>exact(id h:False).elim
def gI(g:Int->Int->V):R2
 | .int i,.int j,H,Q=>Q (g i j) H
 |_,_,_,_=>False
def gIC(C:Int->Int->Prop)(g:Int->Int->V):R2
 | .int i,.int j,H,Q=>C i j/\Q (g i j) H
 |_,_,_,_=>False
theorem xc:∀x y H Q,gI g x y H Q->rI0 g x y H Q:=fun x y H Q h=>by
 cases x with
 |int _=>
  cases y with
  |int _=>exact⟨_,_,rfl,rfl,h⟩
  |_=>exact(id h:False).elim
 |_=>exact(id h:False).elim
theorem kP:∀x y H Q,gIC C g x y H Q->rI C g x y H Q:=fun x y H Q h=>by
 cases x with
 |int _=>
  cases y with
  |int _=>exact⟨_,_,rfl,rfl,h.1,h.2⟩
  |_=>exact(id h:False).elim
 |_=>exact(id h:False).elim
theorem cv:OpR X (binaryOp .Sub) (gI fun i j=>.int (i-j)):=A5.imp xc
theorem bJ:OpR X (binaryOp .Mult) (gIC CMul fun i j=>.int (i*j)):=Bg.imp kP
theorem aU:OpR X (binaryOp .Mod) (gIC (fun _ j=>0<j) fun i j=>.int (i % j)):=CC.imp kP
theorem bI:OpR X (binaryOp .FloorDiv) (gIC BK fun i j=>.int (i / j)):=yq.imp kP
theorem s_:OpR X (binaryOp .Pow) (gIC Co fun i j=>.int (i ^ j.toNat)):=Bm.imp kP
def Dc:V->Hp->VK->Prop
 | .int i,H,Q=>Q (.int (-i)) H
 |_,_,_=>False
theorem fF:UnR X (unaryOp .USub) Dc:=CK.imp fun x H Q h=>by
 cases x with
 |int _=>exact⟨_,rfl,h⟩
 |_=>exact(id h:False).elim
noncomputable def leN(a b:List Nat):Bool:=!decide (b<a)
theorem vO:OpR X (pU .LtE) (fun x y H Q=>∃i j,x = .str i/\y = .str j/\Q (.bl (leN (cs i) (cs j))) H):=by
 intro pins s σ H x y v u Q I rx ry h;obtain⟨i,j,rfl,rfl,q⟩:=h;obtain⟨t,rfl⟩:=rx;obtain⟨t',rfl⟩:=ry;exact PySem.P.le_str ⟨.bl _,H,I,rfl,q⟩
def gLe:R2
 | .int i,.int j,H,Q=>Q (.bl (decide (i<=j))) H
 | .str i,.str j,H,Q=>Q (.bl (leN (cs i) (cs j))) H
 |_,_,_,_=>False
theorem d5:OpR X (pU .LtE) gLe:=(Di.or vO).imp fun x y H Q h=>by
 cases x with
 |int _=>
  cases y with
  |int _=>exact .inl ⟨_,_,rfl,rfl,h⟩
  |_=>exact(id h:False).elim
 |str _=>
  cases y with
  |str _=>exact .inr ⟨_,_,rfl,rfl,h⟩
  |_=>exact(id h:False).elim
 |_=>exact(id h:False).elim
def gLt:R2
 | .int i,.int j,H,Q=>Q (.bl (decide (i<j))) H
 | .str i,.str j,H,Q=>Q (.bl (decide (cs i<cs j))) H
 |_,_,_,_=>False
theorem qS:OpR X (pU .Lt) gLt:=(DD.or uU).imp fun x y H Q h=>by
 cases x with
 |int _=>
  cases y with
  |int _=>exact .inl ⟨_,_,rfl,rfl,h⟩
  |_=>exact(id h:False).elim
 |str _=>
  cases y with
  |str _=>exact .inr ⟨_,_,rfl,rfl,h⟩
  |_=>exact(id h:False).elim
 |_=>exact(id h:False).elim
theorem mX:OpR X (pU .Gt) (gI fun i j=>.bl (decide (j<i))):=Ef.imp xc
theorem AB:OpR X (pU .GtE) (gI fun i j=>.bl (decide (j<=i))):=CS.imp xc
noncomputable def eqS:V->V->Option Bool
 | .int i,.int j=>some (decide (i=j))
 | .bl i,.bl j=>some (decide (i=j))
 | .str i,.str j=>some (decide (cs i=cs j))
 | .non,.non=>some true
 | .non,.int _=>some false | .int _,.non=>some false | .non,.bl _=>some false | .bl _,.non=>some false | .non,.str _=>some false | .str _,.non=>some false
 | .int _,.str _=>some false | .str _,.int _=>some false | .bl _,.str _=>some false | .str _,.bl _=>some false
 |_,_=>none
theorem sB(i j:Str):V.str i=V.str j↔cs i=cs j:=by
 constructor
 ·intro h;injection h with h;rw[h]
 ·intro h
  congr 1
  obtain⟨⟨a⟩⟩:=i;obtain⟨⟨b⟩⟩:=j;have h':a=b:=h;rw[h']
theorem qu(h:eqS x y=some k):BA x y=true/\decide (x=y)=k:=by
 cases x with
 |int i=>
  cases y with
  |int j=>cases h;exact⟨rfl,decide_eq_decide.mpr (by simp)⟩
  |non=>cases h;exact⟨rfl,rfl⟩
  |str j=>cases h;exact⟨rfl,rfl⟩
  |_=>cases h
 |bl i=>
  cases y with
  |bl j=>cases h;exact⟨rfl,decide_eq_decide.mpr (by simp)⟩
  |non=>cases h;exact⟨rfl,rfl⟩
  |str j=>cases h;exact⟨rfl,rfl⟩
  |_=>cases h
 |str i=>
  cases y with
  |str j=>cases h;exact⟨rfl,decide_eq_decide.mpr (sB i j)⟩
  |non=>cases h;exact⟨rfl,rfl⟩
  |int j=>cases h;exact⟨rfl,rfl⟩
  |bl j=>cases h;exact⟨rfl,rfl⟩
  |_=>cases h
 |non=>
  cases y with
  |non=>cases h;exact⟨rfl,rfl⟩
  |int j=>cases h;exact⟨rfl,rfl⟩
  |bl j=>cases h;exact⟨rfl,rfl⟩
  |str j=>cases h;exact⟨rfl,rfl⟩
  |_=>cases h
 |_=>cases h
variable{ta tb tc:TE}{rest:List Expr}
def kB(Q:Bool->Hp->Prop):VK:=fun x H=>match x with
 | .bl k=>Q k H
 |_=>False
def mW(t:TE):TT:=fun σ H Q=>t σ H (kB Q)
theorem jM(h:kB Q x H):∃k,x = .bl k/\Q k H:=by
 cases x with
 |bl _=>exact⟨_,rfl,h⟩
 |_=>exact(id h:False).elim
theorem cw(ho:OpR X (pU op) r)(ha:PE X a ta)(hb:PE X b tb)(hm:ZL op b=false):PT X (.Compare a [op] [b] pos) (mW (tOp r ta tb)):=by
 intro pins s σ H Q I h;refine wpAny_isTrue_Compare1 (thn (ha pins s σ H _ I h) fun v s1 ⟨x,H1,I1,r1,q1⟩=>thn (hb pins s1 σ H1 _ I1 q1) fun u s2 ⟨y,H2,I2,r2,q2⟩=>
  thn (ho pins s2 σ H2 x y v u _ I2 r1 r2 q2) fun c s3 ⟨z,H3,I3,r3,q3⟩=>?_) hm
 obtain⟨k,e,q3⟩:=jM q3;subst e;cases r3;exact Zq ⟨H3,I3,q3⟩
theorem eJ(h:PC X op a b t)(h1:ZL op b=false:=by first|exact p5 _ (by decide) (by decide)|rfl):PT X (.Compare a [op] [b] pos) (mW t):=by
 intro pins s σ H Q I hw;refine wpAny_isTrue_Compare1 (thn (h pins s σ H _ I hw) fun v s1 h1=>thn h1 fun u s2 h2=>thn h2 fun c s3 hq_=>?_) h1;obtain⟨x,H1,I1,r1,q1⟩:=hq_;obtain⟨d,rfl,q⟩:=jM q1;cases r1;exact Zq ⟨H1,I1,q⟩
theorem bt(h:PE X e t)(he:∀whole,isTrue e X.env whole=(do let v <- whole;standAt e.pos;holding [v] (truthy v)):=by intro _;rfl):PT X e (mW t):=by
 intro pins s σ H Q I hw;refine isTrue_plain (thn (h pins s σ H _ I hw) fun v s1 hq_=>?_) (he _);obtain⟨x,H1,I1,r1,q1⟩:=hq_;obtain⟨d,rfl,q⟩:=jM q1;cases r1;exact Zq ⟨H1,I1,q⟩
def sV(r r':R2)(ta tb tc:TE):TE:=fun σ H Q=>ta σ H fun x H1=>tb σ H1 fun y H2=>r x y H2 (kB fun k H3=>if k=true then tc σ H3 fun w' H4=>r' y w' H4 Q else Q (.bl false) H3)
theorem rE(ho:OpR X (pU op) r)(ho':OpR X (pU op') r')(ha:PE X a ta)(hb:PE X b tb)(hc:PE X c tc)
 (hm:lastMarks [op,op'] [b,c]=false:=by with_unfolding_all rfl):PE X (.Compare a [op,op'] [b,c] pos) (sV r r' ta tb tc):=by
 intro pins s σ H Q I h;refine Compare_chain (thn (ha pins s σ H _ I h) fun v s1 ⟨x,H1,I1,r1,q1⟩=>chain_link (thn (hb pins s1 σ H1 _ I1 q1) fun u s2 ⟨y,H2,I2,r2,q2⟩=>
  thn (ho pins s2 σ H2 x y v u _ I2 r1 r2 q2) fun d s3 ⟨z,H3,I3,r3,q3⟩=>?_)) hm
 obtain⟨k,e,q3⟩:=jM q3;subst e;cases r3;refine Zq ?_;cases k with
 |false=>exact ite_ff ⟨.bl false,H3,I3,rfl,q3⟩
 |true=>exact ite_tt (chain_last (thn (hc pins s3 σ H3 _ I3 q3) fun w' s4 hq_=>(by obtain⟨z',H4,I4,r4,q4⟩:=hq_;exact ho' pins s4 σ H4 y z' u w' Q I4 r2 r4 q4)))
theorem io(ho:OpR X (pU op) r)(ho':OpR X (pU op') r')(ha:PE X a ta)(hb:PE X b tb)(hc:PE X c tc)
 (hm:lastMarks [op,op'] [b,c]=false:=by with_unfolding_all rfl):PT X (.Compare a [op,op'] [b,c] pos) (mW (sV r r' ta tb tc)):=by
 intro pins s σ H Q I h;refine isTrue_chain (thn (ha pins s σ H _ I h) fun v s1 ⟨x,H1,I1,r1,q1⟩=>test_link (thn (hb pins s1 σ H1 _ I1 q1) fun u s2 ⟨y,H2,I2,r2,q2⟩=>
  thn (ho pins s2 σ H2 x y v u _ I2 r1 r2 q2) fun d s3 ⟨z,H3,I3,r3,q3⟩=>?_)) hm
 obtain⟨k,e,q3⟩:=jM q3;subst e;cases r3;refine Zq ?_;cases k with
 |false=>exact ite_ff ⟨H3,I3,q3⟩
 |true=>
  refine ite_tt (test_last (thn (hc pins s3 σ H3 _ I3 q3) fun w' s4 ⟨z',H4,I4,r4,q4⟩=>thn (ho' pins s4 σ H4 y z' u w' _ I4 r2 r4 q4) fun d' s5 hq_=>?_));obtain⟨z2,H5,I5,r5,q5⟩:=hq_;obtain⟨k2,e2,q5⟩:=jM q5;subst e2;cases r5;exact Zq ⟨H5,I5,q5⟩
def CV(ta tb:TE):TE:=fun σ H Q=>ta σ H (kB fun c H1=>if c=true then tb σ H1 Q else Q (.bl false) H1)
def D2(ta:TE):TE:=fun σ H Q=>ta σ H (kB fun c H1=>Q (.bl (!c)) H1)
theorem js(ha:PE X a ta)(hb:PE X (.BoolOp .And (b::rest) pos) tb):PE X (.BoolOp .And (a::b::rest) pos) (CV ta tb):=by
 intro pins s σ H Q I h;refine BoolOp_and (thn (ha pins s σ H _ I h) fun v s1 hq_=>?_);obtain⟨x,H1,I1,r1,q1⟩:=hq_;obtain⟨c,rfl,q1⟩:=jM q1;cases r1;refine Zq ?_;cases c with
 |true=>exact hb pins s1 σ H1 Q I1 q1
 |false=>exact⟨.bl false,H1,I1,rfl,q1⟩
theorem xO(ha:PE X a ta):PE X (.UnaryOp .Not a pos) (D2 ta):=by
 intro pins s σ H Q I h;refine UnaryOp_ (thn (ha pins s σ H _ I h) fun v s1 hq_=>?_);obtain⟨x,H1,I1,r1,q1⟩:=hq_;obtain⟨c,rfl,q1⟩:=jM q1;cases r1;exact not_of (Zq ⟨.bl (!c),H1,I1,rfl,q1⟩)
def Ep:List V->Hp->VK->Prop
 | [.int i],H,Q=>Q (.int (if i<0 then -i else i)) H
 |_,_,_=>False
def B0(K:W.Frag):List V->Hp->VK->Prop
 | [.str y],H,Q=>(cs y).length<=sizeLine/\Q (.int (cs y).length) H
 | [.ref p],H,Q=>∃xs,(SqL K H p xs\/SqT K H p xs)/\Q (.int xs.length) H
 |_,_,_=>False
theorem Cd:CallR X (.builtin "len") (B0 X.K):=xb.imp fun x H Q h=>by
 rcases x with _|⟨i,x⟩
 ·exact(id h:False).elim
 cases i with
 |str y=>
  cases x with
  |nil=>exact⟨_,_,rfl,⟨by simpa [cs,Zk] using h.1,rfl⟩,by simpa [cs,Zk] using h.2⟩
  |cons=>exact(id h:False).elim
 |ref p=>
  cases x with
  |nil=>
   obtain⟨xs,hx,q⟩:=h;rcases hx with hx|hx
   ·exact⟨_,_,rfl,.inl ⟨xs,hx,rfl⟩,q⟩
   ·exact⟨_,_,rfl,.inr ⟨xs,hx,rfl⟩,q⟩
  |cons=>exact(id h:False).elim
 |_=>exact(id h:False).elim
noncomputable def bL(H:Hp):V->Option String
 | .non=>some "NoneType"
 | .bl _=>some "bool"
 | .int _=>some "int"
 | .str _=>some "str"
 | .ref p=>match H p with
  |some (.lst _)=>some "list"
  |some (.frz _ (.lst _))=>some "list"
  |some (.tup _)=>some "tuple"
  |some (.dK _)=>some "dict"
  |_=>none
 |_=>none
noncomputable def bB(t n:String):Bool:=t==n || (t == "bool" && n == "int")
def ff(t:String):Prop:=t = "NoneType" \/ t = "bool" \/ t = "int" \/ t = "str" \/ t = "list" \/ t = "tuple" \/ t = "dict"
theorem D3{K:W.Frag}{t n:String}(h:ff t)(hn:n = "int" \/ n = "bool" \/ n = "str" \/ n = "list" \/ n = "tuple" \/ n = "dict"):nK K (.type t) (.type n)=some (bB t n):=by
 rcases h with rfl|rfl|rfl|rfl|rfl|rfl|rfl <;> rcases hn with rfl|rfl|rfl|rfl|rfl|rfl <;> kernel_rfl
theorem qG{K:W.Frag}{H:Hp}{x:V}{t:String}(h:bL H x=some t):gK K H x (.type t)/\ff t:=by
 unfold bL at h;split at h
 ·cases h;exact⟨.non,by simp[ff]⟩
 ·cases h;exact⟨.bl _,by simp[ff]⟩
 ·cases h;exact⟨.int _,by simp[ff]⟩
 ·cases h;exact⟨.str _,by simp[ff]⟩
 ·split at h
  ·rename_i e;cases h;exact⟨.lst e,by simp[ff]⟩
  ·rename_i e;cases h;exact⟨.frz e,by simp[ff]⟩
  ·rename_i e;cases h;exact⟨.tup e,by simp[ff]⟩
  ·rename_i e;cases h;exact⟨.dK e,by simp[ff]⟩
  ·cases h
 ·cases h
noncomputable def qf(n:String):Bool:=n == "int" || n == "bool" || n == "str" || n == "list" || n == "tuple" || n == "dict"
def zQ(K:W.Frag):List V->Hp->VK->Prop
 | [x,.ty n],H,Q=>(match bL H x with
  |some t=>qf n=true/\Q (.bl (bB t n)) H
  |none=>∃e C b,x = .ref e/\H e=some (m7 (.ref C) e)/\cH K C/\nK K (.ref C) (.type n)=some b/\Q (.bl b) H)
 | [.ref e,.ref D],H,Q=>∃C b,H e=some (m7 (.ref C) e)/\cH K C/\nK K (.ref C) (.ref D)=some b/\Q (.bl b) H
 |_,_,_=>False
theorem Bs:CallR X (.builtin "isinstance") (zQ X.K):=vc.imp fun xs H Q h=>by
 unfold zQ at h;split at h
 ·rename_i x n
  split at h
  ·rename_i t ht
   obtain⟨ty,hb⟩:=qG (K:=X.K) ht;obtain⟨hn,q⟩:=h;refine .inl ⟨x,_,_,_,_,rfl,.ty n,ty,D3 hb ?_,q⟩
   simpa [qf,or_assoc] using hn
  ·obtain⟨e,C,b,rfl,he,Z,k,q⟩:=h
   exact .inr ⟨e,_,C,_,b,rfl,.ty n,he,Z,k,q⟩
 ·rename_i e D
  obtain⟨C,b,he,Z,k,q⟩:=h;exact .inr ⟨e,_,C,_,b,rfl,.own D,he,Z,k,q⟩
 ·exact h.elim
end
section
variable{X:Cx}{a b:Expr}{ta tb:TE}{pos pos':Pos}
def gIx(K:W.Frag):R2
 | .str z,.int i,H,Q=>(cs z).length<=sizeLine/\(match atI (cs z) i with
  |some c=>Q (T [c]) H
  |none=>False)
 | .ref p,.int i,H,Q=>∃xs v,(SqL K H p xs\/SqT K H p xs)/\atI xs i=some v/\Q v H
 |_,_,_,_=>False
theorem AS:IxR X (gIx X.K):=Bz.imp fun x y H Q h=>by
 unfold gIx at h;split at h
 ·obtain⟨hz,h⟩:=h
  split at h
  ·rename_i c hc
   exact .inr (.inr ⟨_,_,c,rfl,rfl,by simpa [cs,Zk] using hz,hc,h⟩)
  ·exact h.elim
 ·obtain⟨xs,v,hs|hs,hv,q⟩:=h
  ·exact .inl ⟨_,xs,_,v,rfl,rfl,hs,hv,q⟩
  ·exact .inr (.inl ⟨_,xs,_,v,rfl,rfl,hs,hv,q⟩)
 ·exact h.elim
def gC(xs:List V)(H H1:Hp)(Q:VK):V->Prop
 | .int i=>(match atI xs i with
  |some (.ref q)=>H q=none/\(match H1 q with
   |some o=>gJ o=true/\Q (.ref q) (upd H q o)
   |none=>False)
  |some v=>Q v H
  |none=>False)
 |_=>False
def wE(ta:TA)(ti:TE):TE:=fun σ H Q=>NoT H/\ta σ H fun xs H1=>Same H H1/\xs.length<=sizeLine/\∀p,H1 p=none->ti σ (upd H1 p (.lst xs)) fun y H2=>H2=upd H1 p (.lst xs)/\gC xs H H1 Q y
theorem xT(s:Same H H1)(hp:H1 p=none)(h:gC xs H H1 Q y):∃i v G,y = .int i/\atI xs i=some v/\Gc H G (upd H1 p o)/\Q v G:=by
 unfold gC at h;have s2:Same H (upd H1 p o):=s.trans (ag o hp);split at h
 ·rename_i i
  split at h
  ·rename_i q hq
   obtain⟨hn,h⟩:=h;split at h
   ·rename_i o' ho'
    exact⟨i,_,_,rfl,hq,Gc.one s2 hn (by rw[aw (aq ho' hp)];exact ho') h.1,h.2⟩
   ·exact h.elim
  ·rename_i v _ hv
   exact⟨i,v,H,rfl,hv,Gc.none s2,h⟩
  ·exact h.elim
 ·exact h.elim
theorem eB(ha:PA X es t)(hb:PE X b tb)(hs:ph b):PE X (.Subscript (.List es pos') b pos) (wE t tb):=by
 intro pins s σ H Q I h;obtain⟨n,h⟩:=h;refine Subscript_ (wpAny_List_spliced (thn (ha pos' pins s σ H _ I h) fun us s1 ⟨xs,H1,I1,r,sm,z,q⟩=>⟨by rw[<- r.length];exact z,?_⟩));have hf:H1 s1.heap.objs.size=none:=I1.hok.fresh (xi _);refine thn (hb pins _ σ (upd H1 s1.heap.objs.size (.lst xs)) _ (I1.laid (t':=s1.toks) (fun b u e=>Heap.get?_push_of_some _ e) (xi _) ⟨z,us,0,r,Heap.get?_push_size _ rfl⟩) (q _ hf)) fun u s3 ⟨y,H3,I3,ry,e,k⟩=>?_;subst e;obtain⟨i,v,G,rfl,hv,g,hq⟩:=xT (o:=.lst xs) sm hf k;exact thn (tW (.List es pos') b pins s3 σ _ (.ref _) (.int i) _ u (fun v' H'=>v'=v/\H'=upd H1 s1.heap.objs.size (.lst xs)) I3 rfl ry ⟨_,xs,i,v,rfl,rfl,aL ad,hv,rfl,rfl⟩ (hs _ _))
  fun u' s4 hq_=>(by obtain⟨v',H4,I4,r4,e1,e2⟩:=hq_;exact⟨v,G,I.gc n (e2 ▸ I4) g,e1 ▸ r4,hq⟩)
end
def sp0(f:Hp->VK->XK->Prop):Sp:=fun vs H Q E=>match vs with
 | []=>f H Q E
 |_=>False
def sp1(f:V->Hp->VK->XK->Prop):Sp:=fun vs H Q E=>match vs with
 | [x]=>f x H Q E
 |_=>False
def sp2(f:V->V->Hp->VK->XK->Prop):Sp:=fun vs H Q E=>match vs with
 | [x,y]=>f x y H Q E
 |_=>False
def sp3(f:V->V->V->Hp->VK->XK->Prop):Sp:=fun vs H Q E=>match vs with
 | [x,y,z]=>f x y z H Q E
 |_=>False
def sp4(f:V->V->V->V->Hp->VK->XK->Prop):Sp:=fun vs H Q E=>match vs with
 | [x,y,z,u]=>f x y z u H Q E
 |_=>False
section
variable{vs:List V}{H:Hp}{Q:VK}{E:XK}
theorem sp0.inv{f}(h:sp0 f vs H Q E):vs=[]/\f H Q E:=by
 unfold sp0 at h;split at h
 ·exact⟨rfl,h⟩
 ·exact h.elim
theorem sp1.inv{f}(h:sp1 f vs H Q E):∃x,vs=[x]/\f x H Q E:=by
 rcases vs with _|⟨x,_|⟨w,r⟩⟩
 rotate_left 1
 ·exact⟨_,rfl,h⟩
 all_goals exact(id h:False).elim
theorem sp2.inv{f}(h:sp2 f vs H Q E):∃x y,vs=[x,y]/\f x y H Q E:=by
 rcases vs with _|⟨x,_|⟨y,_|⟨w,r⟩⟩⟩
 rotate_left 2
 ·exact⟨_,_,rfl,h⟩
 all_goals exact(id h:False).elim
theorem sp3.inv{f}(h:sp3 f vs H Q E):∃x y z,vs=[x,y,z]/\f x y z H Q E:=by
 rcases vs with _|⟨x,_|⟨y,_|⟨z,_|⟨w,r⟩⟩⟩⟩
 rotate_left 3
 ·exact⟨_,_,_,rfl,h⟩
 all_goals exact(id h:False).elim
theorem sp1.len{f}(h:sp1 f vs H Q E):vs.length=1:=by obtain⟨_,rfl,_⟩:=sp1.inv h;rfl
theorem sp2.len{f}(h:sp2 f vs H Q E):vs.length=2:=by obtain⟨_,_,rfl,_⟩:=sp2.inv h;rfl
theorem sp3.len{f}(h:sp3 f vs H Q E):vs.length=3:=by obtain⟨_,_,_,rfl,_⟩:=sp3.inv h;rfl
end
def asI(x:V)(f:Int->Prop):Prop:=match x with
 | .int i=>f i
 |_=>False
def asT(x:V)(f:List Nat->Prop):Prop:=match x with
 | .str y=>f (cs y)
 |_=>False
def asB(x:V)(f:Bool->Prop):Prop:=match x with
 | .bl y=>f y
 |_=>False
def asR(x:V)(f:Addr->Prop):Prop:=match x with
 | .ref y=>f y
 |_=>False
theorem bu(h:asI x f):∃i,x = .int i/\f i:=by
 cases x with
 |int _=>exact⟨_,rfl,h⟩
 |_=>exact(id h:False).elim
theorem ba(h:asT x f):∃l,x=T l/\f l:=by
 unfold asT at h;split at h
 ·exact⟨_,rfl,h⟩
 ·exact h.elim
theorem ED(h:asB x f):∃i,x = .bl i/\f i:=by
 cases x with
 |bl _=>exact⟨_,rfl,h⟩
 |_=>exact(id h:False).elim
theorem d6(h:asR x f):∃i,x = .ref i/\f i:=by
 cases x with
 |ref _=>exact⟨_,rfl,h⟩
 |_=>exact(id h:False).elim
def asK(H:Hp)(x:V)(f:String->Prop):Prop:=match bL H x with
 |some t=>f t
 |none=>False
theorem oJ{H:Hp}{x:V}{f:String->Prop}(h:asK H x f):∃t,bL H x=some t/\ff t/\f t:=by
 unfold asK at h;split at h
 ·rename_i t ht
  exact⟨t,ht,(qG (K:=default) ht).2,h⟩
 ·exact h.elim
theorem asK.of(e:bL H x=some t)(h:f t):asK H x f:=by unfold asK;rw[e];exact h
theorem Bo{ns:List Int}{k:Int}(h0:0<=k)(h1:k<ns.length):atI (ns.map V.int) k=some (.int (ns.getD k.toNat 0)):=by
 obtain⟨j,rfl⟩:∃j:Nat,k=j:=⟨k.toNat,by lia⟩;refine aO ?_;have l:j<ns.length:=by lia
 simp[List.getD,l]
section
variable{X:Cx}(K:W.Frag)
theorem bW(h:X.K=K:=by rfl):CallR X (.builtin "isinstance") (zQ K):=h ▸ Bs
theorem aS(h:X.K=K:=by rfl):CallR X (.builtin "len") (B0 K):=h ▸ Cd
theorem yZ(h:X.K=K:=by rfl):IxR X (gIx K):=h ▸ AS
theorem uk(h:X.K=K:=by rfl):SlR X (D9 K):=h ▸ BW
theorem gW(hl:PE X l tl)(h:X.K=K:=by rfl):PI X tg l (A_ K tl):=h ▸ Bp hl
theorem qc(hl:PE X l tl)(h:X.K=K:=by rfl):PI X tg l (v9 K tl):=h ▸ yr hl
end
theorem D0:bL H (.bl b)=some "bool":=rfl
theorem Cg:bL H (.int i)=some "int":=rfl
theorem BO:bL H (.str s)=some "str":=rfl
theorem BQ:bL H .non=some "NoneType":=rfl
theorem A9:qf "int" = true:=by decide
theorem j5:bB "NoneType" "int" = false:=by decide
theorem qY:bB "bool" "int" = true:=by decide
theorem sI:bB "int" "int" = true:=by decide
theorem sf:bB "str" "int" = false:=by decide
theorem pZ:bB "list" "int" = false:=by decide
theorem oz:bB "tuple" "int" = false:=by decide
theorem ql:bB "dict" "int" = false:=by decide
theorem zW:qf "bool" = true:=by decide
theorem jx:bB "NoneType" "bool" = false:=by decide
theorem nM:bB "bool" "bool" = true:=by decide
theorem rF:bB "int" "bool" = false:=by decide
theorem rp:bB "str" "bool" = false:=by decide
theorem nP:bB "list" "bool" = false:=by decide
theorem mH:bB "tuple" "bool" = false:=by decide
theorem nL:bB "dict" "bool" = false:=by decide
theorem By:qf "str" = true:=by decide
theorem ke:bB "NoneType" "str" = false:=by decide
theorem pL:bB "bool" "str" = false:=by decide
theorem sk:bB "int" "str" = false:=by decide
theorem sr:bB "str" "str" = true:=by decide
theorem qb:bB "list" "str" = false:=by decide
theorem oM:bB "tuple" "str" = false:=by decide
theorem rq:bB "dict" "str" = false:=by decide
theorem yW:qf "list" = true:=by decide
theorem jd:bB "NoneType" "list" = false:=by decide
theorem pf:bB "bool" "list" = false:=by decide
theorem p8:bB "int" "list" = false:=by decide
theorem p6:bB "str" "list" = false:=by decide
theorem nX:bB "list" "list" = true:=by decide
theorem mf:bB "tuple" "list" = false:=by decide
theorem oS:bB "dict" "list" = false:=by decide
theorem xP:qf "tuple" = true:=by decide
theorem ic:bB "NoneType" "tuple" = false:=by decide
theorem ma:bB "bool" "tuple" = false:=by decide
theorem oF:bB "int" "tuple" = false:=by decide
theorem oQ:bB "str" "tuple" = false:=by decide
theorem mn:bB "list" "tuple" = false:=by decide
theorem lK:bB "tuple" "tuple" = true:=by decide
theorem mJ:bB "dict" "tuple" = false:=by decide
theorem z_:qf "dict" = true:=by decide
theorem i5:bB "NoneType" "dict" = false:=by decide
theorem oI:bB "bool" "dict" = false:=by decide
theorem pH:bB "int" "dict" = false:=by decide
theorem qe:bB "str" "dict" = false:=by decide
theorem oA:bB "list" "dict" = false:=by decide
theorem ml:bB "tuple" "dict" = false:=by decide
theorem ox:bB "dict" "dict" = true:=by decide
theorem CZ:asK H (.bl b) f=f "bool":=rfl
theorem A7:asK H (.int i) f=f "int":=rfl
theorem AQ:asK H (.str i) f=f "str":=rfl
theorem AZ:asK H .non f=f "NoneType":=rfl
noncomputable def cb:Expr->Bool
 | .Starred _ _=>false
 |_=>true
theorem vz(h:cb e=true):starEach (e::es) env=(false,eval e env)::starEach es env:=by
 cases e <;> first|rfl|cases h
structure FA(X:Cx)(es:List Expr)(t:TA):Prop where
 pa:PA X es t
theorem bw:FA X [] lG:=⟨Bt⟩
theorem ap(ha:PE X e te)(hr:FA X es t)(h:cb e=true:=by rfl):FA X (e::es) (cS te t):=⟨zc ha hr.pa (vz h)⟩
theorem zK{H:Hp}{P:Hp->Prop}:(∃G,Gc H G H/\P G)↔P H:=by
 constructor
 ·rintro⟨G,g,p⟩
  have e:G=H:=by
   funext b;cases h:H b with
   |none=>exact g.b.free h
   |some o=>exact g.a b o h
  rw[<- e];exact p
 ·exact fun p=>⟨H,Gc.refl,p⟩
theorem Eo{CX:CXT}{P:Program}{w:World}{K:W.Frag}{mg:Str->Option Value}{base:Heap}{N:List Str}{qual:Str}{scope:Scope}{f:Addr}{cd:Value}{A:Around}{outer:List Env}{s:Shared}{H:Hp}{E:XK} :
 (bE CX P w K mg base N qual scope f cd A outer s H E).K=K:=rfl
noncomputable def isI:V->Bool
 | .int _=>true
 |_=>false
noncomputable def isS:V->Bool
 | .str _=>true
 |_=>false
theorem wL(h:bL H x=some t):(t == "int")=isI x:=by
 unfold bL at h;split at h
 case h_5=>split at h <;> cases h <;> simp[isI]
 all_goals (cases h <;> simp[isI])
theorem vq:Same H H↔True:=⟨fun _=>trivial,fun _=>Same.refl H⟩
theorem aj(hN:NoT H)(d:lE o=true):NoT (upd H p o):=hN.upd d
theorem zY:isI (.int i)=true:=rfl
theorem B4:isI (.bl i)=false:=rfl
theorem zE:isI (.str i)=false:=rfl
theorem zX:isI (.ref i)=false:=rfl
theorem y9  : isI (.non)=false:=rfl
theorem yQ:isS (.int i)=false:=rfl
theorem Bd:isS (.bl i)=false:=rfl
theorem zV:isS (.str i)=true:=rfl
theorem zM:isS (.ref i)=false:=rfl
theorem yO  : isS (.non)=false:=rfl
theorem xz(h:uP H):NoT H:=fun b o e=>by
 rcases h b with z|⟨ob,xs,z⟩
 ·rw[e]at z;cases z
 ·rw[e]at z;cases z;rfl
def gcE(H:Hp)(E:XK):XK:=fun C d H'=>∃G,Gc H G H'/\E C d G
theorem Fun.okG{P:Program}{w:World}{K:W.Frag}{mg:Str->Option Value}{base:Heap}{x qual:Str}{st:Stmt}{f:Addr}{fd:FuncData}{N ps:List Str}{k:Nat}{sp:Sp}(F:Fun K x qual st f fd)(S:dz N ps (au st))
 (len:∀vs H Q E,sp vs H Q E->vs.length=ps.length)
 (hbody:∀(cdv:Value) (A:Around) (outer:List Env) (s:Shared) (H:Hp) (vs:List V) (Q:VK) (E:XK),Room k (A.deeper (envOfC qual (au st) s.heap.objs.size f cdv))->sp vs H Q E ->
  NoT H/\∃t,PSs (bE (XE P w) P w K mg base N qual (au st) f cdv A outer s H (gcE H E)) (aQ st) t/\t { nx:=fun _ H'=>∃G,Gc H G H'/\Q .non G,rt:=fun v H'=>∃G,Gc H G H'/\Q v G } (dC N vs) H):FnOk P w K mg base (XE P w) (k+1) f fd ps sp:=by
 have F':FnOk P w K mg base (XE P w) (k+1) f fd ps (fun vs H Q' E'=>∃Q E,sp vs H Q E/\Q'=(fun v H'=>∃G,Gc H G H'/\Q v G)/\E'=gcE H E):=by
  refine F.okX S (fun vs H Q' E' hq_=>(by obtain⟨Q,E,h,_⟩:=hq_;exact len vs H Q E h)) (fun cdv A outer s H vs Q' E' hr h=>?_);obtain⟨Q,E,h,rfl,rfl⟩:=h;exact(hbody cdv A outer s H vs Q E hr h).2
 refine⟨len,fun A outer s H args us vs Q E hr e0 hb r hsp=>?_⟩;have nT:NoT H:=by
  obtain⟨oc,od,kV,doc,pm,an,cdv,ct,osl,rfl,lk,hcd⟩:=F.ex;exact(hbody cdv A outer s H vs Q E (hr.deeper _) hsp).1
 refine codeAny_mono (F'.run A outer s H args us vs _ _ hr e0 hb r ⟨Q,E,hsp,rfl,rfl⟩) fun res s' h=>?_;cases res with
 |error e=>
  obtain⟨ea,C,oc,rs,H',h1,h2,h3,un,hok,hrs,fly,G,g,q⟩:=h;exact⟨ea,C,oc,rs,G,h1,h2,h3,un.gc g,HOk.gc nT e0.hok hok g,fun b hb=>⟨(hrs b hb).1,g.b.free (hrs b hb).2⟩,fly,q⟩
 |ok fl=>
  cases fl with
  |ret u=>
   obtain⟨v,H',h1,h2,un,hok,rv,G,g,q⟩:=h;exact⟨v,G,h1,h2,un.gc g,HOk.gc nT e0.hok hok g,rv,q⟩
  |next=>exact h
  |brk=>exact h
  |cont=>exact h
section
variable{K:W.Frag}{C D:Addr}{b:Bool}{cl:ClassData}
theorem mQ(o:PySem.W.clsIn K D=some cl)(t:PySem.W.typeIn K (.ref D)=some (.type "type"))(m:ZK K C (.ref D)=some b):PySem.W.kitCls K (.ref C) (.ref D)=some b:=by
 unfold PySem.W.kitCls;simp only[o,t,Option.isSome_some,beq_self_eq_true,Bool.and_self,if_true];exact m
theorem uY(o:PySem.W.clsIn K D=some cl)(t:PySem.W.typeIn K (.ref D)=some (.type "type"))(s:ZK K D (.type "BaseException")=some true)(m:ZK K C (.ref D)=some b):Zd K (.ref C) (.ref D)=some b:=by
 unfold Zd;have e:PySem.W.subIn K (.ref D) (.type "BaseException")=some true:=s;rw[e,if_pos (by rfl)];exact mQ o t m
theorem uT(o:PySem.W.clsIn K D=some cl)(t:PySem.W.typeIn K (.ref D)=some (.type "type"))(s:ZK K C (.ref C)=some true)(m:ZK K C (.ref D)=some b):nK K (.ref C) (.ref D)=some b:=by
 unfold nK;by_cases e:((qr C==qr D)=true)
 ·rw[if_pos e]
  have e':C=D:=qr.inj (beq_iff_eq.mp e);subst e';rw[s]at m;exact m
 ·rw[if_neg e];exact mQ o t m
theorem rM:PySem.W.kitMeta "ValueError" = true:=by kernel_rfl
theorem vo(m:ZK K C (.type "ValueError")=some b):nK K (.ref C) (.type "ValueError")=some b:=by
 unfold nK;rw[if_neg (by intro z;cases (beq_iff_eq.mp z))];unfold PySem.W.kitCls;simp only[rM,if_true];exact m
end
theorem w6{l:PySem.W.OpenLaw}{n k:Nat}{q:Program}{loose:List Str}{XP:(Str->Option Value)->Heap->Prop}{YP:World->Heap->Prop}{d:DefRec}{K:Params->W.Frag}{sp:W.Frag->Sp}{x:Str}
 (hn:l.most=some n) (hn2:n<=sizeLine) (hdf:d.params.defaults=[]) (hr:Room k callerA)
 (hY:∀(w:World) (h:Heap),YP w h->(K w.params).In h)
 (F:∀(w:World) (mg:Str->Option Value) (fa:Addr) (h:Heap),(K w.params).In h->h.Ns Zm mg->mg d.name=some (.ref fa) ->
  ∃fd:FuncData,(∀(s:Shared) (u:Value),BindsTo s fd ⟨[u],[]⟩ [(x,u)]) /\
   ∀base:Heap,(K w.params).In base->base.Ns Zm mg->FnOk l.prog w (K w.params) mg base (XE l.prog w) k fa fd [x] (sp (K w.params)))
 (hsp:∀(K:W.Frag) (H:Hp) (a:Addr) (ns:List Int),ns.length<=n->uP H->SqL K H a (ns.map V.int)->sp K [.ref a] H (fun v _=>v = .bl true) fun _ _ _=>False) :
 PySem.W.WalkO q loose XP YP l.row.toRowW d [] (fun f vs=>PySem.call f vs):=
 yR (K:=K) (CX:=fun w=>XE l.prog w) (sp:=fun w=>sp (K w.params)) hn hn2 hdf hr hY F (fun w H a ns h1 h2 h3=>hsp (K w.params) H a ns h1 h2 h3) fun w H s e s' hq_=>(by obtain⟨_,_,_,_,_,_,_,_,_,_,_,_,z⟩:=hq_;exact z)
section
variable{prog:Program}{w:World}{A:Around}{R:Result->Shared->Prop}{s:Shared}
theorem iy(I:Nat->Shared->Prop)
 (turn:∀n s,I n s->wpAny (model prog w) A (pyNext it) (fun r s₁=>match r with
  |none=>R (.ok .next) s₁
  |some v=>wpAny (model prog w) A (YN target it v) (fun _ s₁'=>wpAny (model prog w) A (assign target env v) (fun _ s₂=>
   wpAny (model prog w) A (forIn ifs true fun c r=>if r=true then do let ok <- isTrue c env (eval c env);pure (ForInStep.yield ok) else pure (ForInStep.yield r)) (fun ok s₃=>
    if ok=true then wpAny (model prog w) A (eval elt env) (fun x s₄=>
     wpAny (model prog w) A (call (.builtin "list.append") [acc,x]) (fun _ s₅=>∃m,m<n/\I m s₅) (notedBy (model prog w) A env fun e s'=>R (.error e) s') s₄) (notedBy (model prog w) A env fun e s'=>R (.error e) s') s₃
    else ∃m,m<n/\I m s₃) (notedBy (model prog w) A env fun e s'=>R (.error e) s') s₂) (notedBy (model prog w) A env fun e s'=>R (.error e) s') s₁') (notedBy (model prog w) A env fun e s'=>R (.error e) s') s₁) (notedBy (model prog w) A env fun e s'=>R (.error e) s') s)
 (n:Nat) (h:I n s) :
 codeAny (model prog w) A (.compLoop (.ListComp elt [⟨target,iter,ifs,0⟩] scope pos) 0 it acc env) R s:=by
 refine codeAny_loop rfl I (fun n s hI=>?_) n h;show wpAny _ A ((compTurn (.ListComp elt [⟨target,iter,ifs,0⟩] scope pos) 0 it acc env).onRaise (fun x=>do Yo x env;theTreesLotGoes x)) _ _ s;refine wpAny_noted ?_;rw[compTurn_list];refine zz (ZU (zz (tu (turn n s hI) (fun r s₁ h₁=>?_) fun _ _ h'=>h')));cases r with
 |none=>exact xJ h₁
 |some v=>
  refine zz (tu h₁ (fun _ s₁' h₁'=>?_) fun _ _ h'=>h');refine zz (tu h₁' (fun _ s₂ h₂=>zz (tu h₂ (fun ok s₃ h₃=>?_) fun _ _ h'=>h')) fun _ _ h'=>h');cases ok with
  |false=>exact xJ ⟨rfl,h₃⟩
  |true=>
   exact zz (zz (tu h₃ (fun x s₄ h₄=>zz (tu h₄ (fun _ s₅ h₅=>xJ (xJ ⟨rfl,h₅⟩)) fun _ _ h'=>h')) fun _ _ h'=>h'))
end
noncomputable def dO(X:Cx)(N:List Str)(scope:Scope)(cl:List (Str × Addr))(C:Addr)(s₂:Shared)(H₂:Hp)(ex:List Addr)(pn:List (Addr × Obj)):Cx:=
 { X with N:=N,s₀:=s₂,H₀:=H₂,env:=compEnvC scope cl C X.env,outer:=X.stack,stack:=X.stack,ex:=ex,fn:=fun _=>false,pn:=pn,xe:=fun _ _=>False }
structure CompScope(X:Cx)(scope:Scope)(cl:List (Str × Addr))(x:Str)(fr:List Str):Prop where
 clos:closureFor scope X.env=pure cl
 nocell:∀y∈scope.names,y.2 ≠ .cell
 kind:scope.kind = .function
 names:∀y∈scope.names,y.2 = .local->scope.names.lookup y.1=some .local
 own:scope.names.lookup x=some .local
 keys:∀y∈cl,y.1∈fr
 cells:fr.map (fun y=>cl.lookup y)=fr.map (fun y=>X.env.cells.lookup y)
 kinds:∀y∈fr,X.env.kindOf y=some .cell\/X.env.kindOf y=some .free
 kin:∀y∈fr,(relabel scope X.env).names.lookup y=some .cell\/(relabel scope X.env).names.lookup y=some .free
 only:∀y,((relabel scope X.env).names.lookup y=some .cell\/(relabel scope X.env).names.lookup y=some .free)->y∈fr
theorem rQ{α:Type}{l:List (Str × α)}{y:Str}{c:α}(h:l.lookup y=some c):(y,c)∈l:=ZZ h
theorem CompScope.cell(S:CompScope X scope cl x fr)(h:y∈fr):cl.lookup y=X.env.cells.lookup y:=by
 have e:=S.cells;obtain⟨i,hi,rfl⟩:=YS h;have:=congrArg (fun l=>l[i]?) e
 simpa [hi] using this
theorem CompScope.sub{X:Cx}{scope:Scope}{cl:List (Str × Addr)}{x:Str}{fr:List Str}(S:CompScope X scope cl x fr){y:Str}{c:Addr}(h:cl.lookup y=some c):X.env.cells.lookup y=some c:=by
 rw[<- S.cell (S.keys _ (rQ h))];exact h
def PTs(X:Cx)(ifs:List Expr)(t:TT):Prop:=
 ∀(pins:List (Addr × Obj)) (s:Shared) (σ:St) (H:Hp) (Q:Bool->Hp->Prop),Inv X pins σ H s->t σ H Q ->
  wpAny (model X.prog X.w) X.A (forIn ifs true fun c r=>if r=true then do let ok <- isTrue c X.env (eval c X.env);pure (ForInStep.yield ok) else pure (ForInStep.yield r)) (TP X pins σ Q) X.xe s
theorem b9:PTs X [] (fun _ H Q=>Q true H):=fun pins s σ H Q I h=>wpAny_tests_nil ⟨H,I,h⟩
theorem ky(h:PT X c t):PTs X [c] t:=fun pins s σ H Q I hw=>wpAny_tests_one (h pins s σ H Q I hw)
end L2
namespace MT
noncomputable def dg(n:Nat):List Nat:=(Nat.toDigits 10 n).map Char.toNat
theorem dc(h:n<10):(Nat.digitChar n).toNat=48+n:=by
 have hc:n=0\/n=1\/n=2\/n=3\/n=4\/n=5\/n=6\/n=7\/n=8\/n=9:=by lia
 rcases hc with h|h|h|h|h|h|h|h|h|h <;> subst h <;> decide
theorem gg(h:n<10):dg n=[48+n]:=by
 unfold dg;rw[Nat.toDigits_of_lt_base h,rS,YX,dc h]
theorem jy(h:10<=n):dg n=dg (n / 10)++[48+n % 10]:=by
 unfold dg;rw[Nat.toDigits_of_base_le (by decide) h,ms,rS,YX,dc (by lia)]
theorem pO(l:List Nat)(h:i≠[]):(i++l).head? = i.head?:=by
 cases i with
 |nil=>exact absurd rfl h
 |cons a r=>rfl
noncomputable def isD(c:Nat):Bool:=decide (48<=c)&&decide (c<=57)
noncomputable def vl(t:List Nat):Nat:=t.foldl (fun n c=>10*n+(c-48)) 0
theorem iJ(t:List Nat)(c:Nat):vl (t++[c])=10*vl t+(c-48):=by simp[vl,List.foldl_append]
theorem xZ(n:Nat):dg n≠[]:=by
 by_cases h:n<10
 ·rw[gg h];simp
 ·rw[jy (by lia)];simp
theorem jc(n:Nat):∀c∈dg n,isD c=true:=by
 induction n using Nat.strongRecOn with
 |ind n ih=>
  by_cases h:n<10
  ·rw[gg h];intro c hc;simp at hc;subst hc;simp[isD];lia
  ·rw[jy (by lia)]
   intro c hc;rcases vY.mp hc with hc|hc
   ·exact ih (n / 10) (by lia) c hc
   ·simp at hc;subst hc;simp[isD];lia
theorem xH(n:Nat):vl (dg n)=n:=by
 induction n using Nat.strongRecOn with
 |ind n ih=>
  by_cases h:n<10
  ·rw[gg h];simp[vl]
  ·rw[jy (by lia),iJ,ih (n / 10) (by lia)];lia
theorem tK(n:Nat):(dg n).head? = some 48->n=0:=by
 induction n using Nat.strongRecOn with
 |ind n ih=>
  by_cases h:n<10
  ·rw[gg h];simp
  ·rw[jy (by lia)]
   intro e;rw[pO _ (xZ _)]at e;have:=ih (n / 10) (by lia) e;lia
theorem Ar(t:List Nat)(h0:t≠[])(hd:∀c∈t,isD c=true)(hh:t.head? = some 48->t=[48]):dg (vl t)=t:=by
 have key:∀(n:Nat) (t:List Nat),t.length=n->t≠[]->(∀c∈t,isD c=true)->(t.head? = some 48->t=[48])->dg (vl t)=t/\(t≠[48]->0<vl t):=by
  intro n
  induction n with
  |zero=>intro t hl h0;exact absurd (Zy.mp hl) h0
  |succ n ih=>
   intro t hl h0 hd hh;obtain⟨i,l,e⟩:∃i l,t=i++[l]:=⟨t.dropLast,t.getLast h0,(Zg h0).symm⟩;subst e;have hl':i.length=n:=by simpa using hl
   have dl:isD l=true:=hd l (by simp);have dl':48<=l/\l<=57:=by simpa [isD] using dl
   rw[iJ];by_cases hi:i=[]
   ·subst hi
    have e:10*vl []+(l-48)=l-48:=by simp[vl]
    rw[e,gg (by lia)];refine⟨by simp;lia,fun z=>?_⟩;have:l≠48:=fun y=>z (by simp[y]);lia
   ·have hi2:i≠[48]:=by
     intro z;subst z;have:=hh (by simp);simp at this
    have hh':i.head? = some 48->i=[48]:=by
     intro z;have:=hh (by rw[pO _ hi];exact z);have hlen:=congrArg mF this;simp at hlen;exact absurd hlen hi
    obtain⟨e,p⟩:=ih i hl' hi (fun c hc=>hd c (qQ _ hc)) hh';have p':=p hi2;refine⟨?_,fun _=>by lia⟩;rw[jy (by lia)];have e1:(10*vl i+(l-48)) / 10=vl i:=by lia
    have e2:48+(10*vl i+(l-48)) % 10=l:=by lia
    rw[e1,e2,e]
 exact(key t.length t rfl h0 hd hh).1
noncomputable def nin(t:List Nat):Nat:=t.foldl (fun n c=>if isD c then 10*n+(c-48) else n) 0
theorem nin_filter(t:List Nat):nin t=vl (t.filter isD):=by
 have key:∀(t:List Nat) (a:Nat),t.foldl (fun n c=>if isD c then 10*n+(c-48) else n) a=(t.filter isD).foldl (fun n c=>10*n+(c-48)) a:=by
  intro t
  induction t with
  |nil=>intro a;rfl
  |cons c r ih=>
   intro a;by_cases h:isD c=true
   ·rw[List.filter_cons_of_pos h,Yp,Yp,if_pos h];exact ih _
   ·rw[YH h,Yp,if_neg h];exact ih _
 exact key t 0
noncomputable def NI(t:List Nat):Int:=if t.head? = some 45 then -(nin t:Int) else (nin t:Int)
noncomputable def NT(n:Int):List Nat:=if n<0 then 45::dg (-n).toNat else dg n.toNat
theorem m3(n:Nat):(dg n).filter isD=dg n:=Zs.mpr (jc n)
theorem eV(n:Nat):(dg n).head? ≠ some 45:=by
 intro z;have h:=jc n 45 (List.mem_of_head? z);simp[isD]at h
theorem Dj(n:Int):NI (NT n)=n:=by
 unfold NT;split
 ·rename_i h
  unfold NI;rw[if_pos (by simp),nin_filter,YH (by decide),m3,xH];lia
 ·unfold NI
  rw[if_neg (eV _),nin_filter,m3,xH];lia
noncomputable def fg(t:List Nat):List Nat:=if t.take 1=[45] then t.drop 1 else t
def good(t:List Nat):Prop:=fg t≠[]/\(∀c∈fg t,isD c=true)/\((fg t).head? = some 48->t=[48])
theorem v5(n:Int):fg (NT n)=if n<0 then dg (-n).toNat else dg n.toNat:=by
 unfold NT fg;split
 ·simp
 ·rw[if_neg]
  intro z;apply eV n.toNat;cases h:dg n.toNat with
  |nil=>exact absurd h (xZ _)
  |cons a r=>rw[h]at z;simp at z;simp[z]
theorem tG(n:Int):good (NT n):=by
 refine⟨?_,?_,?_⟩
 ·rw[v5];split <;> exact xZ _
 ·rw[v5];split <;> exact jc _
 ·rw[v5]
  split
  ·rename_i h
   intro z;have:=tK _ z;lia
  ·rename_i h
   intro z;have:=tK _ z;unfold NT;rw[if_neg h,this,gg (by decide)]
theorem fg_cases(t:List Nat):(t.head? = some 45/\t=45::fg t)\/(t.head? ≠ some 45/\fg t=t):=by
 unfold fg;cases t with
 |nil=>right;simp
 |cons a r=>
  by_cases h:a=45
  ·subst h;left;simp
  ·right;simp[h]
theorem rY(h:good t):NT (NI t)=t/\NI t=(if t.head? = some 45 then -(vl (fg t):Int) else (vl (fg t):Int)):=by
 obtain⟨h0,hd,hh⟩:=h;rcases fg_cases t with ⟨e1,e2⟩|⟨e1,e2⟩
 ·have hz:¬ (fg t).head? = some 48:=by
   intro z;have:=hh z;rw[this]at e1;simp at e1
  have en:nin t=vl (fg t):=by
   rw[nin_filter]
   conv=>lhs;rw[e2]
   rw[YH (by decide),Zs.mpr hd]
  have ev:NI t = -(vl (fg t):Int):=by unfold NI;rw[if_pos e1,en]
  have ed:=Ar (fg t) h0 hd (fun z=>absurd z hz);have pos:0<vl (fg t):=by
   apply Nat.pos_of_ne_zero;intro z;rw[z,gg (by decide)]at ed;exact hz (by rw[<- ed];simp)
  refine⟨?_,by rw[ev,if_pos e1]⟩;unfold NT;rw[ev,if_pos (by lia)];have e3:(- -(vl (fg t):Int)).toNat=vl (fg t):=by lia
  rw[e3,ed,<- e2]
 ·have en:nin t=vl (fg t):=by
   rw[nin_filter,e2];rw[e2]at hd;rw[Zs.mpr hd]
  have ev:NI t=(vl (fg t):Int):=by unfold NI;rw[if_neg e1,en]
  rw[e2]at h0 hd hh ev |-
  refine⟨?_,by rw[ev,if_neg e1]⟩;unfold NT;rw[ev,if_neg (by lia)];have e3:((vl t:Int)).toNat=vl t:=by lia
  rw[e3,Ar t h0 hd hh]
theorem pQ(t:List Nat):NT (NI t)=t↔good t:=⟨fun h=>h ▸ tG _,fun h=>(rY h).1⟩
noncomputable def pd:Nat->Nat->List Nat
 |0,_=>[]
 |k+1,m=>pd k (m / 10)++[48+m % 10]
theorem cI:∀k m,(pd k m).length=k
 |0,_=>rfl
 |k+1,m=>by simp[pd,cI k]
theorem wg:∀(k n:Nat),10 ^ k<=n->dg n=dg (n / 10 ^ k)++pd k (n % 10 ^ k)
 |0,n,_=>by simp[pd]
 |k+1,n,h=>by
  have hp:0<10 ^ k:=Nat.pow_pos (by decide);have e10:10 ^ (k+1)=10 ^ k*10:=Nat.pow_succ ..;have h1:10 ^ k<=n / 10:=by
   rw[Nat.le_div_iff_mul_le (by decide)];lia
  have h10:10<=n:=by
   have:1<=10 ^ k:=hp;lia
  rw[jy h10,wg k (n / 10) h1,pd];have e1:n / 10 / 10 ^ k=n / 10 ^ (k+1):=by rw[Nat.div_div_eq_div_mul,e10,Nat.mul_comm 10]
  have e2:n % 10 ^ (k+1) / 10=n / 10 % 10 ^ k:=by
   rw[e10,Nat.mul_comm (10 ^ k) 10,Nat.mod_mul_right_div_self]
  have e3:n % 10 ^ (k+1) % 10=n % 10:=by
   rw[e10,Nat.mod_mul_left_mod]
  rw[e1,e2,e3,Zp]
theorem lQ:∀(k n:Nat),n<10 ^ k->0<k->(dg n).length<=k
 |0,_,_,h=>absurd h (by decide)
 |k+1,n,h,_=>by
  by_cases hn:n<10
  ·rw[gg hn];simp
  ·rw[jy (by lia)]
   have e10:10 ^ (k+1)=10 ^ k*10:=Nat.pow_succ ..;have h1:n / 10<10 ^ k:=by rw[Nat.div_lt_iff_lt_mul (by decide)];lia
   have hk:0<k:=by
    cases k with
    |zero=>simp at h1;lia
    |succ k=>lia
   have:=lQ k (n / 10) h1 hk;simp;lia
theorem fU:∀(k m:Nat),m<10 ^ k->0<k->nY (k-(dg m).length) 48++dg m=pd k m
 |0,_,_,h=>absurd h (by decide)
 |k+1,m,h,_=>by
  have e10:10 ^ (k+1)=10 ^ k*10:=Nat.pow_succ ..;have h1:m / 10<10 ^ k:=by rw[Nat.div_lt_iff_lt_mul (by decide)];lia
  by_cases hm:m<10
  ·rw[gg hm,pd]
   have e:m / 10=0:=by lia
   have e2:m % 10=m:=by lia
   rw[e,e2];have pz:∀k,pd k 0=nY k 48:=by
    intro k
    induction k with
    |zero=>rfl
    |succ k ih=>rw[pd,ih,List.replicate_succ']
   rw[pz];simp
  ·rw[jy (by lia),pd]
   have hk:0<k:=by
    cases k with
    |zero=>simp at h1;lia
    |succ k=>lia
   rw[<- fU k (m / 10) h1 hk,zx,Zp];have e:k+1-((dg (m / 10)).length+[48+m % 10].length)=k-(dg (m / 10)).length:=by simp
   rw[e]
end MT
namespace L2
open PySem PySem.Spec PyProof.Rows Builtin Builtin.Str
section
variable{X:Cx}{e a b c:Expr}{pos:Pos}
def gIn(neg:Bool):R2
 | .str i,.str j,H,Q=>(match cs i with
  | [c]=>Q (.bl (neg ^^ decide (c∈cs j))) H
  |_=>False)
 |_,_,_,_=>False
theorem nO{i:Str}{c:Nat}(h:cs i=[c]):i=⟨#[c]⟩:=by
 obtain⟨⟨l⟩⟩:=i;have h':l=[c]:=h;rw[h']
theorem AE:OpR X (pU .In) (gIn false):=vx.imp fun x y H Q h=>by
 cases x with
 |str v_1=>
  cases y with
  |str v_2=>
   delta gIn at h
   dsimp only at h;split at h
   ·rename_i c hc
    refine⟨_,_,rfl,rfl,?_⟩;rw[nO hc,PySem.StrLaws.found_one]
    simpa [cs] using h
   ·exact h.elim
  |_=>exact(id h:False).elim
 |_=>exact(id h:False).elim
theorem iq:OpR X (pU .NotIn) (gIn true):=om.imp fun x y H Q h=>by
 cases x with
 |str v_1=>
  cases y with
  |str v_2=>
   delta gIn at h
   dsimp only at h;split at h
   ·rename_i c hc
    refine⟨_,_,rfl,rfl,?_⟩;rw[nO hc,PySem.StrLaws.found_one]
    simpa [cs] using h
   ·exact h.elim
  |_=>exact(id h:False).elim
 |_=>exact(id h:False).elim
noncomputable def bh(l:List Nat)(lo hi:Option Int):List Nat:=(l.drop (HT.sIx l.length 0 lo)).take (HT.sIx l.length l.length hi-HT.sIx l.length 0 lo)
def gSl:V->Option Int->Option Int->Hp->VK->Prop
 | .str y,lo,hi,H,Q=>(cs y).length<=sizeLine/\Q (T (bh (cs y) lo hi)) H
 |_,_,_,_,_=>False
theorem B9(lo hi:Option Int)(n:Nat):Yg lo hi 1 n=(rL (HT.sIx n n hi-HT.sIx n 0 lo)).map (HT.sIx n 0 lo + ·):=by
 obtain⟨h1,h2,h3⟩:=iC lo hi n;have e:Yg lo hi 1 n=sliceRange (sliceBounds lo hi none n).1 (sliceBounds lo hi none n).2.1 1:=by
  unfold Yg sliceBounds;cases lo <;> cases hi <;> rfl
 rw[e,h1,h2,sliceRange_one]
theorem vt(y:Str)(lo hi:Option Int):V.str (Txt.slice y lo hi)=T (bh (cs y) lo hi):=by
 have hl:y.length=(cs y).length:=by simp[cs,Zk]
 have ha:HT.sIx y.length 0 lo<=y.length:=HT.sIx_le _ _ (uG _) lo;have hb:HT.sIx y.length y.length hi<=y.length:=HT.sIx_le _ _ (xi _) hi;unfold Txt.slice;rw[B9];split
 ·rename_i h
  simp only[beq_self_eq_true,Bool.true_and,yV,iZ,beq_iff_eq]at h;have e1:HT.sIx y.length 0 lo=0:=by lia
  have e2:HT.sIx y.length y.length hi=y.length:=by lia
  rw[wP]
  congr 3
  unfold bh;rw[<- hl,e1,e2,Yd,Nat.sub_zero,hl,List.take_length]
 ·rw[pick_run]
  show V.str ⟨_⟩=V.str ⟨⟨_⟩⟩;unfold bh cs;rw[YR]
  rfl
theorem aT:SlR X gSl:=by
 intro pins s σ H x v vl vu lo hi sl Q I rx hs pl pu h;cases x with
 |str y=>
  obtain⟨hz,q⟩:=h;obtain⟨t,rfl⟩:=rx;have hz':y.length<=sizeLine:=by simpa [cs,Zk] using hz
  refine⟨"str",_,F.slot_str_getitem.lookup,ZQ _ _ _,?_⟩;have fin:∀t' k,EP X pins σ Q (.str (Txt.slice y lo hi) t') { s with toks:=k }:=fun t' k=>⟨.str (Txt.slice y lo hi),H,I.tok _,⟨_,rfl⟩,by rw[vt];exact q⟩;cases pl with
  |none=>cases pu with
   |none=>exact Yw (l:=none) (u:=none) (st:=none) hs rfl (post_val_or_str ⟨wx (Txt.slice_le y _ _) hz',fin⟩)
   |int j u=>exact Yw (l:=none) (u:=some (j,u)) (st:=none) hs rfl (post_val_or_str ⟨wx (Txt.slice_le y _ _) hz',fin⟩)
  |int i u'=>cases pu with
   |none=>exact Yw (l:=some (i,u')) (u:=none) (st:=none) hs rfl (post_val_or_str ⟨wx (Txt.slice_le y _ _) hz',fin⟩)
   |int j u=>exact Yw (l:=some (i,u')) (u:=some (j,u)) (st:=none) hs rfl (post_val_or_str ⟨wx (Txt.slice_le y _ _) hz',fin⟩)
 |_=>exact(id h:False).elim
def gSt:V->List V->Hp->VK->Prop
 | .str x,[.str y],H,Q=>(match cs y with
  | [c]=>Q (.bl (decide ((cs x).head? = some c))) H
  |_=>False)
 |_,_,_,_=>False
def gEn:V->List V->Hp->VK->Prop
 | .str x,[.str y],H,Q=>(match cs y with
  | [c]=>Q (.bl (decide ((cs x).getLast? = some c))) H
  |_=>False)
 |_,_,_,_=>False
theorem BC(x:Str)(c:Nat):(decide (0+(⟨#[c]⟩:Str).length<=x.length)&&Z5 x ⟨#[c]⟩ (x.length-(⟨#[c]⟩:Str).length))=decide ((cs x).getLast? = some c):=by
 obtain⟨⟨l⟩⟩:=x;by_cases hl:l=[]
 ·subst hl;simp[Zk,cs,Z5]
 ·obtain⟨i,a,rfl⟩:∃i a,l=i++[a]:=⟨l.dropLast,l.getLast hl,(Zg hl).symm⟩
  have e:Z5 ⟨⟨i++[a]⟩⟩ ⟨#[c]⟩ i.length=decide (a=c):=by
   simp[Z5,Zk];rw[ZO];simp
  have e2:(⟨⟨i++[a]⟩⟩:Str).length-(⟨#[c]⟩:Str).length=i.length:=by simp[Zk]
  rw[e2,e];simp[Zk,cs]
theorem pF:MtR X "str.endswith" gEn:=by
 intro pins s σ H x xs v us Q I rx rs h;cases x with
 |str v_1=>
  rcases xs with _|⟨e_2,r_2⟩
  ·exact(id h:False).elim
  cases e_2 with
  |str v_3=>
   cases r_2 with
   |nil=>
    delta gEn at h
    dsimp only at h;split at h
    ·rename_i c hc
     obtain⟨t,rfl⟩:=rx;obtain⟨u,rfl,t',rfl⟩:=dq rs;rw[nO hc];refine ZG F.slot_str_endswith (ZQ _ _ _) F.entry_str_endswith (F.args_str_endswith_2 _ _) (gives_str_endswith _ ⟨#[c]⟩ t t').meets ?_;exact⟨.bl _,H,I,rfl,by rw[BC];exact h⟩
    ·exact h.elim
   |cons=>exact(id h:False).elim
  |_=>exact(id h:False).elim
 |_=>exact(id h:False).elim
def gZf:V->List V->Hp->VK->Prop
 | .str x,[.int i],H,Q=>((cs x).head? ≠ some 43/\(cs x).head? ≠ some 45)/\(0<=i/\i<=1000)/\Q (T (nY (i.toNat-(cs x).length) 48++cs x)) H
 |_,_,_,_=>False
theorem Ea(x:Str)(k:Nat)(h1:(cs x).head? ≠ some 43)(h2:(cs x).head? ≠ some 45):V.str (PySem.zfilled x k)=T (nY k 48++cs x):=by
 obtain⟨⟨l⟩⟩:=x;have e:PySem.zfilled ⟨⟨l⟩⟩ k=Builtin.Str.padded ⟨⟨l⟩⟩ k 0 48:=by
  unfold PySem.zfilled;cases l with
  |nil=>rfl
  |cons a r=>
   have e0:(⟨a::r⟩:Array Nat)[0]? = some a:=by simp
   simp only[e0];split
   ·rename_i h;exact absurd (by simpa [cs] using h) h1
   ·rename_i h;exact absurd (by simpa [cs] using h) h2
   ·rfl
 rw[e];show V.str ⟨_⟩=V.str ⟨⟨_⟩⟩;unfold cs
 congr 2
 apply Array.ext';simp
theorem qx:MtR X "str.zfill" gZf:=by
 intro pins s σ H x xs v us Q I rx rs h;cases x with
 |str x0=>
  rcases xs with _|⟨e_2,r_2⟩
  ·exact(id h:False).elim
  cases e_2 with
  |int i=>
   cases r_2 with
   |nil=>
    obtain⟨⟨h1,h2⟩,⟨i0,i1⟩,q⟩:=h;obtain⟨t,rfl⟩:=rx;obtain⟨u,rfl,t',rfl⟩:=dq rs;have hp:PadOk i=true:=by
     unfold PadOk fitsSsize;have a1:decide (i < -(2 ^ 63:Int))=false:=decide_eq_false (by lia);have a2:decide (i ≥ 2 ^ 63)=false:=decide_eq_false (by lia);have a3:tooLong i.toNat=false:=by
      unfold tooLong;exact decide_eq_false (by rw[wz];lia)
     rw[a1,a2,a3];rfl
    refine ZG F.slot_str_zfill (ZQ _ _ _) F.entry_str_zfill (F.args_str_zfill_2 _ _) (gives_str_zfill _ i t t' (PadOk.parts hp).1 (PadOk.parts hp).2).meets ?_;have fin:∀t' k,EP X pins σ Q (.str (if i<=x0.length then x0 else PySem.zfilled x0 (i.toNat-x0.length)) t') { s with toks:=k }:=fun t' k=>by
     refine⟨.str (if i<=x0.length then x0 else PySem.zfilled x0 (i.toNat-x0.length)),H,I.tok _,⟨_,rfl⟩,?_⟩;have hl:(cs x0).length=x0.length:=by simp[cs,Zk]
     split
     ·rename_i hc
      have z:i.toNat-(cs x0).length=0:=by lia
      rw[z]at q;exact q
     ·rw[Ea _ _ h1 h2,<- hl];exact q
    exact post_val_or_made (fun hc=>fits_zfilled (PadOk.parts hp).2 hc) fin
   |cons=>exact(id h:False).elim
  |_=>exact(id h:False).elim
 |_=>exact(id h:False).elim
def El:V->List V->Hp->VK->Prop
 | .str x,[.str y],H,Q=>(match cs y with
  | [c]=>c∈cs x/\∀i:Nat,(cs x)[i]? = some c->Q (.int i) H
  |_=>False)
 |_,_,_,_=>False
def CQ:List V->Hp->VK->Prop
 | [.int i],H,Q=>i.natAbs.log2<1920/\Q (T (MT.NT i)) H
 |_,_,_=>False
theorem na(n:Nat):(ka (toString n)).cps.toList=MT.dg n:=by
 rw[Str.ofString_eq_toList];show(toString n).toList.map Char.toNat=MT.dg n;unfold MT.dg;rw[Nat.toString_eq_ofList_toDigits,String.toList_ofList]
theorem vN(i:Int):(ka (toString i)).cps.toList=MT.NT i:=by
 unfold MT.NT;cases i with
 |ofNat n=>
  have e:toString (Ym n)=toString n:=rfl;rw[e,na,if_neg (by simp)]
  rfl
 |negSucc n=>
  have e:toString (Int.negSucc n) = "-" ++ toString (n+1):=rfl;rw[e,Str.ofString_eq_toList];show("-" ++ toString (n+1)).toList.map Char.toNat=_;rw[String.toList_append,ms,if_pos (Int.negSucc_lt_zero n)];have:=na (n+1);rw[Str.ofString_eq_toList]at this;have e2:(toString (n+1)).toList.map Char.toNat=MT.dg (n+1):=this;rw[e2];have e3:(-(Int.negSucc n)).toNat=n+1:=rfl;rw[e3];rfl
theorem str_int(i:Int):V.str (toString i)=T (MT.NT i):=by
 show V.str (ka (toString i))=_;rw[wP];show T (ka (toString i)).cps.toList=_;rw[vN]
theorem kG:CallR X (.type "str") CQ:=pA.imp fun xs H Q h=>by
 rcases xs with _|⟨e_1,r_1⟩
 ·exact(id h:False).elim
 cases e_1 with
 |int v_2=>
  cases r_1 with
  |nil=>
   refine⟨_,rfl,h.1,?_⟩;have e:=str_int;rw[e];exact h.2
  |cons=>exact(id h:False).elim
 |_=>exact(id h:False).elim
def wV:List V->Hp->VK->Prop
 | [.int i],H,Q=>Q (.int i) H
 | [.bl k],H,Q=>Q (.int (if k then 1 else 0)) H
 | [.str x],H,Q=>((cs x)≠[]/\(∀c∈cs x,MT.isD c=true)/\(cs x).length<=640)/\Q (.int (MT.vl (cs x))) H
 |_,_,_=>False
theorem mq:CallR X (.type "int") (fun xs H Q=>∃x,xs=[.str x]/\((cs x)≠[]/\(∀c∈cs x,MT.isD c=true)/\(cs x).length<=640)/\Q (.int (MT.vl (cs x))) H):=by
 intro pins s σ H xs us Q I r h;obtain⟨x,rfl,⟨h0,hd,hl⟩,q⟩:=h;obtain⟨u,rfl,t,rfl⟩:=dq r;have hl':x.length<=640:=by simpa [cs,Zk] using hl
 have e:Yv x.cps.toList=MT.vl (cs x):=by
  unfold Yv MT.vl cs
  congr 1
  funext a c;lia
 have hn:intText? x=some ((MT.vl (cs x):Nat):Int):=by
  rw[PySem.intText_digits (fun c hc=>by have:=hd c hc;simpa [MT.isD] using this) h0 (by lia),e]
 exact PySem.W.KIN.call_text hn hl' ⟨.int _,H,I.tok _,⟨_,rfl⟩,q⟩
theorem cX:CallR X (.type "int") wV:=(vn.or mq).imp fun xs H Q h=>by
 unfold wV at h;split at h
 ·exact .inl (.inl ⟨_,rfl,h⟩)
 ·exact .inl (.inr ⟨_,rfl,h⟩)
 ·exact .inr ⟨_,rfl,h.1,h.2⟩
 ·exact h.elim
end
end L2
namespace L2
open PySem PySem.Spec PyProof.Rows
noncomputable def Its(x:Str):It:=⟨fun i _=>i<x.cps.size,fun i H v H'=>H'=H/\∃c,x.cps[i]? = some c/\v = .str ⟨#[c]⟩,fun i _=>x.cps.size<=i⟩
theorem wa{P:Program}{w:World}{K:W.Frag}{tg:Expr}(x:Str)(t:Tok)(it:Addr):ra P w K tg (Its x) [it] it (fun i h=>h.IsStrIter it "str_ascii_iterator" x t i) where
 mem:=by simp
 obj:=fun i h st b hb=>by
  have e:b=it:=by simpa using hb
  subst e;obtain⟨o,e,c,d⟩:=st;exact⟨o,e,fun v z=>by rw[d]at z;cases z⟩
 keep:=fun i h h' st k=>by
  obtain⟨o,e,c,d⟩:=st;exact⟨o,k it (by simp) o e,c,d⟩
 item:=by
  intro X hP hw hK hc i pins s σ H E I hf st hg;subst hP hw hK;have hg':i<x.cps.size:=hg;obtain⟨f0,f1,f2,f3,f4,f5⟩:=hf it (by simp);have hx:x.cps[i]? = some x.cps[i]:=by simp[hg']
  refine wpAny_pyNext_ascii_item st hx fun h' st' sb=>?_;have I1:Inv X pins σ H { s with heap:=h',toks:=s.toks+1 }:=I.turned (fun b o hb e=>(sb.2 b hb).trans e) f0 f1 f3 f4 f5;obtain⟨o,e,c,d⟩:=id st';exact⟨_,rfl,k_ (s:={ s with heap:=h',toks:=s.toks+1 }) e c d (by decide) ⟨.str ⟨#[x.cps[i]]⟩,H,I1,⟨_,rfl⟩,⟨rfl,_,hx,rfl⟩,st',fun b hb=>(hf b hb).1⟩⟩
 done:=by
  intro X hP hw hK hc i pins s σ H E I hf st hg;subst hP hw hK;have hg':x.cps.size<=i:=hg;obtain⟨f0,f1,f2,f3,f4,f5⟩:=hf it (by simp);have hx:x.cps[i]? = none:=by simp[hg']
  exact wpAny_pyNext_ascii_end (I.ok.hd hc) st hx fun h' eb=>⟨rfl,I.turned (fun b o hb e=>eb b o hb e) f0 f1 f3 f4 f5⟩
 self:=fun _ _ _ _ _ st h=>wpAny_pyIter_striter_ascii st h
def Dq(tl:TE):TI:=fun σ H R=>tl σ H fun v H1=>match v with
 | .str x=>(∀c∈cs x,c<128)/\R (Its x) H1
 |_=>False
theorem i8{X:Cx}{tg l:Expr}{tl:TE}(hl:PE X l tl):PI X tg l (Dq tl):=by
 intro pins s σ H R I h;refine thn (hl pins s σ H _ I h) fun v s1 ⟨y,H1,I1,r1,q⟩=>?_;dsimp only at q;split at q
 ·rename_i x
  obtain⟨ha,q⟩:=q;obtain⟨t,rfl⟩:=r1;have ha':x.cps.all (· < 128)=true:=by
   rw[Array.all_eq_true];intro i hi;exact decide_eq_true (ha _ (by unfold cs;rw[Array.mem_toList_iff];exact Array.getElem_mem hi))
  refine wpAny_pyIter_ascii ha' ?_;refine⟨s1.heap.objs.size,[s1.heap.objs.size],_,_,H1,rfl,I1.kept (t':=s1.toks) fun b o e=>Heap.get?_push_of_some _ e,wa x t _,⟨_,Heap.get?_push_size _ rfl,rfl,rfl⟩,fun b hb=>?_,q⟩;have e:b=s1.heap.objs.size:=by simpa using hb
  subst e;exact I1.fpOk (xi _) (I1.hok.fresh (xi _))
 ·exact q.elim
theorem yY{l:List Nat}{g:TG}{tb:TS}{D:fi}{σ:St}{H:Hp}(Pv:Nat->St->Hp->Prop)(h0:Pv 0 σ H)
 (hs:∀i c σ H,l[i]? = some c->Pv i σ H->g (T [c]) σ H fun σ2 H2=>tb { D with nx:=Pv (i+1),ct:=Pv (i+1),bk:=D.nx } σ2 H2) (hd:∀σ H,Pv l.length σ H->D.nx σ H) :
 ∃W:Nat->Nat->St->Hp->Prop,(∃m,W 0 m σ H)/\∀i m σ H,W i m σ H ->
  ((Its ⟨⟨l⟩⟩).stop i H/\D.nx σ H)\/((Its ⟨⟨l⟩⟩).go i H/\∃N:St->Hp->Prop,(∀σ' H',N σ' H'->∃m',m'<m/\W (i+1) m' σ' H')/\∀x H',(Its ⟨⟨l⟩⟩).yld i H x H'->g x σ H' fun σ2 H2=>tb { D with nx:=N,ct:=N,bk:=D.nx } σ2 H2):=by
 refine⟨fun i m σ H=>m=l.length-i/\i<=l.length/\Pv i σ H,⟨l.length,by simp,uG _,h0⟩,?_⟩;rintro i m σ H ⟨rfl,hi,p⟩;by_cases hlt:i<l.length
 ·refine .inr ⟨hlt,Pv (i+1),fun σ' H' p'=>⟨l.length-(i+1),by lia,rfl,hlt,p'⟩,fun x H' y=>?_⟩
  obtain⟨e,c,hc,rfl⟩:=y;subst e;exact hs i c σ _ (by simpa using hc) p
 ·have e:i=l.length:=by lia
  subst e;exact .inl ⟨xi _,hd σ H p⟩
section
variable{X:Cx}
def vW(i j:Int):Prop:=0<j/\j.natAbs.log2<1000
theorem wT:OpR X (binaryOp .FloorDiv) (gIC vW fun i j=>.int (i / j)):=by
 have h:OpR X (binaryOp .FloorDiv) (rI vW fun i j=>.int (i / j)):=opI fun i j _ _ _ _ _ hc q=>by
  have e:i / j=i.fdiv j:=(Int.fdiv_eq_ediv_of_nonneg i (Int.le_of_lt hc.1)).symm;rw[e]at q;exact floordiv_int (Ne.symm (Int.ne_of_lt hc.1)) q (.inl (PyProof.noPylong_of_log2 (by have:=hc.2;lia)))
 exact h.imp kP
theorem qF:∀ {bs:List Bool} {us:List Value},Vals (bs.map V.bl) us->LSm.BoolsAre us bs
 | [],_,.nil=>.nil
 |b::r,_,.cons e t=>by
  cases (show _=Value.bool b from e);exact .cons b (qF t)
def DH(K:W.Frag):List V->Hp->VK->Prop
 | [.ref p],H,Q=>∃bs:List Bool,SqL K H p (bs.map V.bl)/\Q (.bl (bs.all id)) H
 |_,_,_=>False
theorem uC(K:W.Frag)(hc:X.calm=true)(hK:X.K=K:=by rfl):CallR X (.builtin "all") (DH K):=by
 subst hK;intro pins s σ H xs us Q I r h;rcases xs with _|⟨e_1,r_1⟩
 ·exact(id h:False).elim
 cases e_1 with
 |ref p=>
  cases r_1 with
  |nil=>
   obtain⟨bs,hq,q⟩:=h;obtain⟨u,rfl,rx⟩:=dq r;cases (show u=qr p from rx);obtain⟨its,rv,pl,hz⟩:=I.list hq;have hne:p≠s.heap.objs.size:=o6 (by obtain⟨_,e,_⟩:=pl.isList;exact xQ e);have hb:LSm.BoolsAre its bs:=qF rv;refine call_all_walk (wpAny_pyIter_list pl.isList ?_);refine⟨s.heap.objs.size,[s.heap.objs.size,p],[s.heap.objs.size],its.toArray.size,_,_,fun i=>(bs[i]?).getD true,rfl,Walks.list (A:=X.A.in1) (I.ok.hd hc) _ p hne its.toArray,
    ⟨⟨_,Heap.get?_push_size _ rfl,rfl,rfl⟩,pl.isList.push _⟩,fun i v s' Q' E' hP hQ=>?_,fun h' tk hk=>?_⟩
   ·obtain⟨b,e,rfl⟩:=hb.get i v (by simpa using hP)
    simp only[e,YW]at hQ;exact Zq hQ
   ·have e:((rL its.toArray.size).all fun i=>(bs[i]?).getD true)=bs.all id:=by
     rw[xV,hb.length];exact LSm.range_all bs
    rw[e];exact⟨.bl (bs.all id),H,I.kept (LSm.kept_iter hk),rfl,q⟩
  |cons=>exact(id h:False).elim
 |_=>exact(id h:False).elim
end
end L2
namespace L2
open PySem PySem.Spec PyProof.Rows Builtin Builtin.Str
noncomputable def aG(sep:List Nat):List (List Nat)->List Nat
 | []=>[]
 | [x]=>x
 |x::y::r=>x++sep++aG sep (y::r)
theorem iY:∀ls:List (List Nat),aG [] ls=ls.flatten
 | []=>rfl
 | [x]=>by simp[aG]
 |x::y::r=>by rw[aG,iY (y::r)];simp
noncomputable def S(l:List Nat):Str:=⟨⟨l⟩⟩
theorem nA(sep:List Nat):∀(r:List (List Nat)) (x:List Nat),((r.map S).foldl (fun acc p=>acc++(S sep).cps++p.cps) (S x).cps)=(S (aG sep (x::r))).cps
 | [],x=>rfl
 |y::r,x=>by
  rw[rS,Yp];have e:(S x).cps++(S sep).cps++(S y).cps=(S (x++sep++y)).cps:=by
   apply Array.ext';simp[S]
  rw[e,nA sep r]
  congr 1
  cases r with
  |nil=>rfl
  |cons z r'=>unfold aG;simp[aG,Zp]
theorem nJ(sep:List Nat)(ls:List (List Nat)):Txt.join (S sep) (ls.map S)=S (aG sep ls):=by
 unfold Txt.join glued;cases ls with
 |nil=>rfl
 |cons x r=>
  show(⟨((x::r).map S).drop 1 |>.foldl _ _⟩:Str)=_;rw[rS,List.drop_one,List.tail_cons,List.headD_cons,nA]
theorem oW:∀ {ls:List (List Nat)} {us:List Value},Vals (ls.map T) us->StrsAre us (ls.map S)
 | [],_,.nil=>.nil
 |l::r,_,.cons e t=>by
  obtain⟨k,rfl⟩:=e;exact .cons _ k (oW t)
def k7(sep:List Nat)(ls:List (List Nat)):Prop:=(ls.map mF).sum+ls.length*sep.length<=16777216
theorem uw(h:k7 sep ls):(((ls.map S).map (·.length)).sum+(ls.map S).length*(S sep).length<=16777216):=by
 have e:(ls.map S).map (·.length)=ls.map mF:=by rw[ZM];apply List.map_congr_left;intro l _;rfl
 rw[e,yV];exact h
section
variable{X:Cx}
def yf(K:W.Frag):V->List V->Hp->VK->Prop
 | .str x,[.ref p],H,Q=>∃ls:List (List Nat),SqL K H p (ls.map T)/\k7 (cs x) ls/\Q (T (aG (cs x) ls)) H
 |_,_,_,_=>False
theorem bQ(K:W.Frag)(hK:X.K=K:=by rfl):MtR X "str.join" (yf K):=by
 subst hK;intro pins s σ H x xs v us Q I rx rs h;cases x with
 |str y=>
  rcases xs with _|⟨e_1,r_1⟩
  ·exact(id h:False).elim
  cases e_1 with
  |ref p=>
   cases r_1 with
   |nil=>
    obtain⟨ls,hq,hf,q⟩:=h;obtain⟨t,rfl⟩:=rx;obtain⟨u,rfl,ru⟩:=dq rs;cases (show u=qr p from ru);obtain⟨its,rv,pl,hz⟩:=I.list hq;refine join_list pl.isList (oW rv) (uw hf) fun t' k=>?_;exact⟨.str (Txt.join y (ls.map S)),H,I.tok _,⟨_,rfl⟩,by rw[show y=S (cs y) from rfl,nJ];exact q⟩
   |cons=>exact(id h:False).elim
  |_=>exact(id h:False).elim
 |_=>exact(id h:False).elim
end
end L2
namespace PySem
open Sem (wp)
open Builtin Builtin.Str Builtin.Int
namespace F
theorem nolen_lri:typeLookup (.type "list_reverseiterator") "__len__" = pure none:=by rw[typeLookup_type,builtinLookup_eq_fast];kernel_rfl
theorem hint_lri:typeLookup (.type "list_reverseiterator") "__length_hint__" = pure (some (.builtin "list_reverseiterator.__length_hint__")):=by rw[typeLookup_type,builtinLookup_eq_fast];kernel_rfl
end F
section
variable{prog:Program}{w:World}{A:Around}{E:Value->Shared->Prop}{s:Shared}{I:Addr}{fp wr:List Addr}{G:Array GenState->Array GenState->Prop}{n:Nat}{P:Nat->Value->Prop}{St:Nat->Shared->Prop}
theorem gX
 (W:WalksS prog w A.in1 I fp wr G n P St) (hT:∀i s,St i s->s.TypeIs (.ref I) "list_reverseiterator") (hst:St 0 s) (hfp:∀b∈fp,b<s.heap.objs.size) (hI:I∈fp)
 (hQ:∀s' acc,Moved wr G s s'->ItemsOf P acc n->Q acc.toList s') (hn:n<=sizeLine:=by size_fits):wpAny (model prog w) A (collect (.ref I)) Q E s:=by
 have hSf:s.heap.objs.size∉fp:=fun hm=>Zv _ (hfp _ hm);have hSI:s.heap.objs.size≠I:=fun e=>hSf (e ▸ hI);unfold collect;refine zz (wpAny_runValue (codeAny_builtin F.entry_proto_collect ?_));rw[Around.under_plainId F.plain_proto_collect _];show wpAny _ A.in1 (newList [] >>= fun l=>again (.builtin "list.__iadd__" ⟨[l,.ref I],[]⟩)) _ _ s;refine zz (Zi ?_);refine xJ ⟨plainId_quiet F.plain_list_iadd _,codeAny_builtin F.entry_list_iadd ?_⟩;rw[Around.under_plainId F.plain_list_iadd _];have hst₁:=W.frame 0 s (s.heap.push { cls:=.type "list",data:=.seq ([]:List Value).toArray }) s.toks hst (xi _) fun b _ o e=>Heap.get?_push_of_some _ e;have hS₁:(s.heap.push { cls:=.type "list",data:=.seq ([]:List Value).toArray }).get? s.heap.objs.size=some { cls:=.type "list",data:=.seq ([]:List Value).toArray }:=Heap.get?_push_size _ rfl;have h1:Builtin.List.listSameRef (.ref s.heap.objs.size) (.ref I)=false:=by simp[Builtin.List.listSameRef,hSI]
 show wpAny _ A.in1 (Builtin.List.listExtendWith (.ref s.heap.objs.size) (.ref I) (.ref s.heap.objs.size)) _ _ _;unfold Builtin.List.listExtendWith;refine zz (wpAny_typeOf (hT 0 _ hst₁) ?_);rw[if_neg (by rw[h1];decide)];refine zz (W.self 0 _ _ _ hst₁ ?_);refine zz (Z7 ?_);unfold Builtin.List.listLengthHint;refine zz (wpAny_specialOf (hT 0 _ hst₁) F.nolen_lri ?_);show wpAny _ A.in1 (specialOf (qr I) (ka "__length_hint__") >>= _) _ _ _;refine zz (wpAny_specialOf (hT 0 _ hst₁) F.hint_lri ?_)
 (generalize hid:("list_reverseiterator.__length_hint__":String)=id0;(fail_if_success (clear hid id0));wp_delta;rw[show splitId id0=some ("list_reverseiterator","__length_hint__") from by subst hid;decide +kernel];subst hid)
 refine zz (wpAny_isInstance (b:=true) (hT 0 _ hst₁) (by rw[isSubtype_type];kernel_rfl) ?_);refine xJ ?_;rw[if_neg (by decide)];refine xJ ⟨plainId_quiet F.plain_extend_loop _,codeAny_extend_loopS W hn _ hSf _ n 0 _ _ _ rfl (uG _) hst₁ hS₁ (ItemsOf.nil P) fun s' acc' c' hm hS' hacc=>?_⟩;show wpAny _ A (load s.heap.objs.size >>= _) _ _ s';refine zz (wpAny_load hS' ?_);exact xJ (hQ s' acc' (Moved.drop_new (o:={ cls:=.type "list",data:=.seq ([]:List Value).toArray }) (tk:=s.toks) hm (xi _)) hacc)
end
end PySem
namespace L2
open PySem PySem.Spec PyProof.Rows Builtin Builtin.Str
section
variable{X:Cx}{o e:Expr}{to te:TE}{apos cpos p pos:Pos}
def qI(K:W.Frag)(to te:TE):TE:=fun σ H Q=>to σ H fun x H1=>match x with
 | .str x=>te σ H1 fun y H2=>(match y with
  | .ref p=>∃ls:List (List Nat),SqL K H2 p (ls.map T)/\k7 (cs x) ls/\Q (T (aG (cs x) ls.reverse)) H2
  |_=>False)
 |_=>False
theorem uW{its:List Value}{acc:Array Value}(h:ItemsOf (fun i v=>its.toArray[its.toArray.size-1-i]? = some v) acc its.toArray.size):acc.toList=its.reverse:=by
 apply List.ext_getElem?;intro i;by_cases hi:i<acc.size
 ·have h1:=h.2 i acc[i] (Array.getElem?_eq_getElem hi)
  have hs:=h.1;have h2:i<its.length:=by simpa [hs] using hi
  rw[List.getElem?_reverse h2];simp only[xV,List.getElem?_toArray]at h1;rw[h1];simp[hi]
 ·have hs:=h.1
  have h2:its.length<=i:=by
   have:its.toArray.size<=i:=by rw[<- hs];lia
   simpa using this
  rw[List.getElem?_eq_none (by simpa using(by lia:acc.size<=i)),List.getElem?_eq_none (by simpa using h2)]
theorem sN(K:W.Frag)(hc:X.calm=true)(hK:X.K=K)(hg:Gl X "reversed")(hm:X.mg "reversed" = none)(ho:PE X o to)(he:PE X e te)
 (hb:attributeBase o "join" X.env (eval o X.env)=eval o X.env:=by rfl)
 (hbb:kc "reversed" = some (.type "reversed"):=by decide +kernel)
 (hfew:((backTo cpos (starEach [Expr.Call (.Name "reversed" p) [e] [] pos] X.env)).all (fun x=>!x.1)&&(backToKw cpos (keywordEach [] X.env)).all (fun x=>x.1.isSome)
  && decide (([Expr.Call (.Name "reversed" p) [e] [] pos]).length+([]:List Keyword).length+(if ([]:List Keyword).isEmpty then 0 else 1)<30))=true:=by rfl)
 (hline:(apos.endLine==cpos.line)=true:=by rfl) (hs:starEach [Expr.Call (.Name "reversed" p) [e] [] pos] X.env=(false,eval (Expr.Call (.Name "reversed" p) [e] [] pos) X.env)::starEach [] X.env:=by rfl)
 (hse:starEach [e] X.env=(false,eval e X.env)::starEach [] X.env:=by rfl) :
 PE X (.Call (.Attribute o "join" apos) [.Call (.Name "reversed" p) [e] [] pos] [] cpos) (qI K to te):=by
 subst hK;intro pins s σ H Q I h;refine wpAny_Call_method_late hb hfew hline rfl (thn (ho pins s σ H _ I h) fun v s1 ⟨x,H1,I1,r1,q1⟩=>?_);cases x with
 |str x=>
  obtain⟨t,rfl⟩:=r1;refine⟨"str","str.join",xn,pV,qC,ZQ _ _ _,(fun a z=>by cases z),?_⟩;rw[hs];refine Calls.callWith_builtin rfl (Yb (Zf ?_));refine ZD (fK I1 hg hm hbb ?_ (by decide) (by decide));refine Zo (?_) hse rfl;rw[hse];refine Zf (thn (he pins s1 σ H1 _ I1 q1) fun u s2 ⟨y,H2,I2,r2,q2⟩=>?_);dsimp only at q2;split at q2
  ·rename_i l
   obtain⟨ls,hq,hf,q⟩:=q2;cases (show u=qr l from r2);obtain⟨its,rv,pl,hz⟩:=I2.list hq;refine xJ ?_;refine call_reversed_list pl.isList ?_;refine xJ ?_;have hh:=I2.ok.hd hc;have hne:l≠s2.heap.objs.size:=o6 (by obtain⟨_,e,_⟩:=pl.isList;exact xQ e);have up:∀b o,s2.heap.get? b=some o->(s2.heap.push (revObj l ((its.toArray.size:Int)-1))).get? b=some o:=fun b o e=>Heap.get?_push_of_some _ e;have hit:(s2.heap.push (revObj l ((its.toArray.size:Int)-1))).IsRevIter s2.heap.objs.size l ((its.toArray.size:Int)-1):=⟨_,Heap.get?_push_size _ rfl,rfl,rfl⟩;refine wpAny_call (codeAny_call_builtin F.slot_str_join.plain F.entry_str_join (F.slot_str_join.check _ _ _ _ _ _ _ _ (ZQ _ _ _) (F.args_str_join_2 _ _) ?_));show wpAny _ X.A.in1 («str.join» ⟨[.str x t,.ref s2.heap.objs.size],[]⟩) _ _ _;rw[join_tree_other];refine zz (wpAny_typeOf hit.typeIs ?_);show wpAny _ X.A.in1 ((pyIter (.ref s2.heap.objs.size)).tryCatch _ >>= fun it=>collect it >>= fun items=>joinTail x items) _ _ _;refine zz (wpAny_tryCatch (wpAny_pyIter_revIter hit ?_));have W:=(Walks.listRev (prog:=X.prog) (w:=X.w) (A:=X.A.in1.in1) hh s2.heap.objs.size l hne its.toArray).toS;refine zz (gX W (fun i s st=>st.2.1.typeIs) ⟨uG _,by simpa using hit,pl.isList.push _⟩ (fun b hb=>?_) (by simp) (fun s' acc hmv hacc=>?_) (by rw[xV,<- rv.length];exact hz))
   ·rw[jw]
    simp only[zv,oO,or_false]at hb;rcases hb with rfl|rfl
    ·exact Nat.lt_succ_self _
    ·exact Nat.lt_succ_of_lt (by obtain⟨_,e,_⟩:=pl.isList;exact xQ e)
   ·have hl:=uW hacc
    have hv:=oW (ls:=ls.reverse) (us:=its.reverse) (by rw[List.map_reverse];exact rv.reverse);obtain⟨l',hv',ht'⟩:=strsAre_values hv;rw[hl,hv'];have hfit:k7 (cs x) ls.reverse:=by
     unfold k7 at hf |-
     rw[List.map_reverse,List.sum_reverse,List.length_reverse];exact hf
    have hok:=joinOk_of (sep:=x) (ys:=l'.map (·.1)) (by rw[ht'];exact uw hfit);unfold JoinOk at hok;rw[Bool.not_eq_true']at hok;have g:Gives (joinTail x (strValues l')) (joinMade x l'):=by
     have g0:=gives_joinTail x l' hok;cases l' with
     |nil=>exact g0
     |cons p r=>cases r with
      |nil=>exact g0
      |cons q r'=>exact g0
    have I3:Inv X pins σ H2 s':=by
     have k:=I2.kept (h':=s'.heap) (t':=s'.toks) fun b o e=>hmv.heap b o (fun hm=>by rw[uH.mp hm]at e;exact Zv _ (xQ e)) (up b o e);have e:s' = { s2 with heap:=s'.heap,toks:=s'.toks }:=by
      have h1:=hmv.gens;have h2:=hmv.drawn;have h3:=hmv.os;cases s';simp only at h1 h2 h3 |-
      subst h1 h2 h3
      rfl
     rw[e];exact k
    refine g X.prog X.w X.A (wants _ _) s' (post_join l' ⟨joinFit_length hok,fun t' k=>?_⟩);refine⟨.str (Txt.join x (l'.map (·.1))),H2,I3.tok _,⟨_,rfl⟩,?_⟩;rw[ht',show x=S (cs x) from rfl,nJ];exact q
  ·exact q2.elim
 |_=>exact q1.elim
end
section
variable{X:Cx}
structure Enum(J:It)(vs:List V):Prop where
 go:∀i H,i<vs.length->J.go i H
 yld:∀i H x H',i<vs.length->J.yld i H x H'->H'=H/\vs[i]? = some x
 stop:∀H,J.stop vs.length H
theorem wO(l:List Nat):Enum (Its ⟨⟨l⟩⟩) (l.map fun c=>T [c]):=by
 refine⟨fun i H h=>by simpa [Its] using h,fun i H x H' _ y=>?_,fun H=>by simp[Its]⟩;obtain⟨e,c,hc,rfl⟩:=y;refine⟨e,?_⟩;have:l[i]? = some c:=by simpa using hc
 rw[List.getElem?_map,this];rfl
theorem yd(n:Nat):Enum (Itr 0 n) ((rL n).map fun k=>.int (k:Nat)):=by
 refine⟨fun i H h=>by simpa [Itr] using h,fun i H x H' hi y=>?_,fun H=>by simp[Itr]⟩;obtain⟨e,rfl⟩:=y;refine⟨e,?_⟩;have hi':i<n:=by simpa using hi
 simp[hi']
structure kM(C:Hp->Prop)(J:It)(vs:List V):Prop where
 go:∀i H,C H->i<vs.length->J.go i H
 yld:∀i H x H',C H->i<vs.length->J.yld i H x H'->H'=H/\vs[i]? = some x
 stop:∀H,C H->J.stop vs.length H
theorem gR{J:It}{vs:List V}{σ':St}{H1:Hp}{Q:VK}{tt:TT}{te:TE}(C:Hp->Prop)(E:kM C J vs)(p:V->Bool)(f:V->V)(hlen:vs.length<=sizeLine)
 (hp:∀x∈vs,∀H (R:Bool->Hp->Prop),C H->R (p x) H->tt (some x::σ') H R) (hf:∀x∈vs,p x=true->∀H (R:VK),C H->R (f x) H->te (some x::σ') H R)
 (D:Addr) (hD:H1 D=none) (hC:∀ys,C (upd H1 D (.lst ys))) (q:Q (.ref D) (upd H1 D (.lst ((vs.filter p).map f)))) :
 ∃W:Nat->Nat->List V->Hp->Prop,(∃m,W 0 m [] (upd H1 D (.lst []))) /\
  ∀i m ys H2,W i m ys H2->H2 D=some (.lst ys)/\((J.stop i H2/\Q (.ref D) H2)\/(J.go i H2/\∀x H3,J.yld i H2 x H3 ->
   tt (some x::σ') H3 fun b H4=>if b=true then te (some x::σ') H4 fun y H5=>H5 D=some (.lst ys)/\ys.length<sizeLine/\∃m',m'<m/\W (i+1) m' (ys++[y]) (upd H5 D (.lst (ys++[y])))
    else ∃m',m'<m/\W (i+1) m' ys H4)):=by
 refine⟨fun i m ys H2=>m=vs.length-i/\i<=vs.length/\ys=((vs.take i).filter p).map f/\H2=upd H1 D (.lst ys),⟨vs.length,by simp,uG _,by simp,rfl⟩,?_⟩;rintro i m ys H2 ⟨rfl,hi,hys,rfl⟩;refine⟨ad,?_⟩;by_cases hlt:i<vs.length
 ·refine .inr ⟨E.go i _ (hC _) hlt,fun x H3 y=>?_⟩
  obtain⟨e,hx⟩:=E.yld i _ x H3 (hC _) hlt y;subst e;have hm:x∈vs:=oH hx;have htk:vs.take (i+1)=vs.take i++[x]:=by
   rw[Ye,hx];rfl
  have hyl:ys.length<=i:=by
   rw[hys,yV];exact wx (List.length_filter_le _ _) (by simp[r0];lia)
  refine hp x hm _ _ (hC _) ?_;cases hb:p x with
  |true=>
   rw[if_pos rfl];refine hf x hm hb _ _ (hC _) ⟨ad,by lia,vs.length-(i+1),by lia,rfl,hlt,?_,?_⟩
   ·rw[htk,List.filter_append,ms,<- hys]
    simp[hb]
   ·funext z
    by_cases hz:z=D
    ·subst hz;rw[ad,ad]
    ·rw[aw hz,aw hz,aw hz]
  |false=>
   rw[if_neg vy];refine⟨vs.length-(i+1),by lia,rfl,hlt,?_,rfl⟩;rw[htk,List.filter_append,ms,<- hys];simp[hb]
 ·have e:i=vs.length:=by lia
  subst e;refine .inl ⟨E.stop _ (hC _),?_⟩;rw[List.take_length]at hys;rw[hys];exact q
theorem Enum.c{J:It}{vs:List V}(E:Enum J vs)(C:Hp->Prop):kM C J vs:=⟨fun i H _=>E.go i H,fun i H x H1 _=>E.yld i H x H1,fun H _=>E.stop H⟩
end
theorem rD(g:Nat->Nat):∀l:List Nat,(l.map fun k=>[g k]).flatten=l.map g
 | []=>rfl
 |a::r=>by rw[rS,List.flatten_cons,rD g r];rfl
theorem uf(g:Nat->Nat):∀l:List Nat,((l.map fun k=>[g k]).map mF).sum=l.length
 | []=>rfl
 |a::r=>by have:=uf g r;simp only[rS,ZJ,xR,YM,this];lia
theorem qm{K:W.Frag}{H1:Hp}{D:Addr}{Q:VK}(l:List Nat)(g:Nat->Nat)(hs:H1 D=some (.lst (l.map fun k=>T [g k])))(hl:l.length<=1000)(q:Q (T (l.map g)) H1):yf K (T []) [.ref D] H1 Q:=by
 refine⟨l.map fun k=>[g k],aL (by rw[hs,ZM];rfl),?_,?_⟩
 ·unfold k7;rw[uf];simp[cs];lia
 ·show Q (T (aG [] _)) H1
  rw[iY,rD];exact q
theorem iE:bp (XE P w) X (fun _ _ _ _=>False):=fun _ _ _ _ _ _ _ hq_=>(by obtain⟨_,_,_,_,_,_,_,_,_,_,_,_,q⟩:=hq_;exact q.elim)
noncomputable def v7:Option NameKind->Bool
 |some .cell=>true
 |some .free=>true
 |_=>false
theorem rA:v7 k=true↔(k=some .cell\/k=some .free):=by
 cases k with
 |none=>simp[v7]
 |some k=>cases k <;> simp[v7]
theorem bz{cl:List (Str × Addr)}{fr:List Str}(h:(cl.map (·.1)).all (fun y=>fr.elem y)=true):∀y∈cl,y.1∈fr:=fun y hy=>by
 have:=Zt.mp h y.1 (List.mem_map_of_mem hy)
 simpa using this
theorem aI{fr:List Str}{k:Str->Option NameKind}(h:fr.all (fun y=>v7 (k y))=true):∀y∈fr,k y=some .cell\/k y=some .free:=fun y hy=>rA.mp (Zt.mp h y hy)
theorem bA{names:List (Str × NameKind)}{fr:List Str}(h:names.all (fun p=>!v7 (some p.2) || fr.elem p.1)=true):∀y,(names.lookup y=some .cell\/names.lookup y=some .free)->y∈fr:=fun y hy=>by
 have hy':=rA.mpr hy;cases e:names.lookup y with
 |none=>rw[e]at hy';cases hy'
 |some k=>
  rw[e]at hy';have:=Zt.mp h (y,k) (ZZ e)
  simpa [hy'] using this
section
variable{X:Cx}{pos:Pos}
theorem B8(I:Inv X pins σ H s):sysModules<s.heap.objs.size:=
 Nat.lt_trans (by decide) (show Zm<s.heap.objs.size from(I.mod.glob.keeps I.bk).lt)
def Ap:TE:=fun _ H Q=>∀p,H p=none->Q (.ref p) (upd H p (.dK []))
theorem yS:PE X (.Dict [] [] pos) Ap:=by
 intro pins s σ H Q I h;have new:ObjOk X.prog X.w (upd H s.heap.objs.size (.dK [])) (s.heap.push { cls:=.type "dict",data:=.dict #[] }) s.heap.objs.size (.dK []):=
  ⟨uG _,beq_eq_false_iff_ne.mpr (Ne.symm (o6 (B8 I))),[],.nil,Heap.DictOf.new s.heap⟩
 exact wpAny_Dict_empty ⟨.ref s.heap.objs.size,_,I.laid (t':=s.toks) (fun _ _ q=>Heap.get?_push_of_some _ q) (xi _) new,rfl,h _ (I.hok.fresh (xi _))⟩
theorem qU:∀(l:List (Array Nat)) (acc:Array Nat),(l.foldl (· ++ ·) acc).toList=acc.toList++(l.map Array.toList).flatten
 | [],acc=>by simp
 |a::r,acc=>by rw[Yp,qU r];simp
theorem AR(x:Str)(n:Int):V.str (Txt.mul x n)=T ((nY n.toNat (cs x)).flatten):=by
 unfold Txt.mul;split
 ·rename_i h
  have e:n.toNat=0:=by lia
  rw[e];rfl
 ·rename_i h
  split
  ·rename_i h2
   rcases Bool.or_eq_true_iff.mp h2 with h3|h3
   ·have e:n.toNat=1:=by have:=eq_of_beq h3;lia
    rw[e,wP];simp
   ·have e:cs x=[]:=by
     have:=eq_of_beq h3
     simpa [cs,Zk] using this
    rw[wP,e];simp
  ·rw[wP]
   congr 1
   show((nY n.toNat x.cps).foldl (· ++ ·) #[]).toList=_;rw[qU,List.map_replicate];rfl
def AG:R2
 | .str x,.int n,H,Q=>((cs x).length<=1/\n<=1000 /\ -1000<=n)/\Q (T ((nY n.toNat (cs x)).flatten)) H
 |_,_,_,_=>False
theorem yk:OpR X (binaryOp .Mult) AG:=by
 intro pins s σ H x y v u Q I rx ry h;cases x with
 |str x=>
  cases y with
  |int n=>
   obtain⟨⟨h1,h2,h3⟩,q⟩:=h;obtain⟨t,rfl⟩:=rx;obtain⟨t',rfl⟩:=ry;have hl:x.length<=1:=by simpa [cs,Zk] using h1
   refine PySem.SB.mul ⟨?_,fun hn _=>?_,fun hn _=>?_⟩ fun t2 k=>⟨.str (Txt.mul x n),H,I.tok _,⟨_,rfl⟩,by rw[AR];exact q⟩
   ·rw[decide_eq_false (by lia),decide_eq_false (by lia)];rfl
   ·have h5:(1:Int)<=(2 ^ 63-1) / n:=by
     rw[Int.le_ediv_iff_mul_le (by lia)];lia
    lia
   ·have h4:x.length*n.toNat<=1000:=by
     have:=Nat.mul_le_mul hl (show n.toNat<=1000 by lia);lia
    unfold tooLong;exact decide_eq_false (by rw[wz];lia)
  |_=>exact(id h:False).elim
 |_=>exact(id h:False).elim
end
section
variable{X:Cx}
theorem fM{K:W.Frag}{C:Hp->Prop}{a:Addr}{vs:List V}(h:∀H,C H->SqT K H a vs):kM C (Itt K a) vs:=
 ⟨fun i H c hi=>⟨vs,vs[i],h H c,List.getElem?_eq_getElem hi⟩,fun i H x H' c _ y=>⟨y.1,y.2 vs (h H c)⟩,fun H c=>⟨vs,h H c,xi _⟩⟩
theorem qN{K:W.Frag}{C:Hp->Prop}{a:Addr}{vs:List V}(h:∀H,C H->SqL K H a vs):kM C (Itl K a) vs:=
 ⟨fun i H c hi=>⟨vs,vs[i],h H c,List.getElem?_eq_getElem hi⟩,fun i H x H' c _ y=>⟨y.1,y.2 vs (h H c)⟩,fun H c=>⟨vs,h H c,xi _⟩⟩
end
end L2
namespace L2
open PySem PySem.Spec PyProof.Rows
section
variable{X:Cx}{K:W.Frag}{pos:Pos}
theorem kj(K:W.Frag)(hc:X.calm=true)(h:PGs X es t)(hK:X.K=K:=by rfl)
 (hn:(YL es X.env).length=n:=by rfl) (hst:(YL es X.env).findIdx? (·.1)=none:=by rfl):PG X (.Tuple es k pos) (zt K n t):=by
 subst hK;exact Ci hc h hn hst
end
section
variable{X:Cx}{T name id:String}{r:V->List V->Hp->VK->Prop}{o e:Expr}{es:List Expr}{to:TE}{t:TA}{apos cpos:Pos}
theorem aP(K:W.Frag)(pa:PlainAttrs T)(slot:Slot T name id)(hty:typeOf (.builtin id)=pure (.type "method_descriptor"))(hm:MtR X id r)(ho:PE X o to)(ha:PA X (e::es) t)(hK:X.K=K:=by rfl)
 (hbase:attributeBase o name X.env (eval o X.env)=eval o X.env:=by rfl)
 (hfew:((backTo cpos (starEach (e::es) X.env)).all (fun x=>!x.1)&&(backToKw cpos (keywordEach [] X.env)).all (fun x=>x.1.isSome)
  && decide ((e::es).length+([]:List Keyword).length+(if ([]:List Keyword).isEmpty then 0 else 1)<30))=true:=by rfl)
 (hline:(apos.endLine==cpos.line)=true:=by rfl) (hs:starEach (e::es) X.env=(false,eval e X.env)::starEach es X.env:=by rfl) (hplain:(backTo cpos (starEach es X.env)).any (·.1)=false:=by rfl) :
 PE X (.Call (.Attribute o name apos) (e::es) [] cpos) (tBM K T r to t):=by
 subst hK;exact D8 pa slot hty hm ho ha hbase hfew hline hs hplain
end
end L2
namespace L2
open PySem PySem.Spec PyProof.Rows Builtin Builtin.Str
noncomputable def spN(c:Nat):List Nat->List (List Nat)
 | []=>[[]]
 |a::r=>if a=c then []::spN c r else match spN c r with
  |h::t=>(a::h)::t
  | []=>[[a]]
theorem da(c:Nat):∀l,spN c l≠[]
 | []=>by simp[spN]
 |a::r=>by
  unfold spN;split
  ·simp
  ·split <;> simp
theorem lu(c:Nat):∀l:List Nat,c∉l->spN c l=[l]
 | [],_=>rfl
 |a::r,h=>by
  have h1:¬ a=c:=fun z=>h (by rw[z];simp);have h2:c∉r:=fun z=>h (xM _ z);unfold spN;rw[if_neg h1,lu c r h2]
theorem iO(c:Nat):∀(l r:List Nat),c∉l->spN c (l++c::r)=l::spN c r
 | [],r,_=>by simp[spN]
 |a::l,r,h=>by
  have h1:¬ a=c:=fun z=>h (by rw[z];simp);have h2:c∉l:=fun z=>h (xM _ z);rw[nN];show(if a=c then _ else _)=_;rw[if_neg h1,iO c l r h2]
theorem dF(c:Nat):∀ps:List (List Nat),ps≠[]->(∀p∈ps,c∉p)->spN c (aG [c] ps)=ps
 | [],h,_=>absurd rfl h
 | [p],_,h=>lu c p (h p (by simp))
 |p::q::r,_,h=>by
  rw[aG,Zp,List.singleton_append,iO c p _ (h p (by simp)),dF c (q::r) (by simp) fun x hx=>h x (xM _ hx)]
theorem iz(c:Nat):∀l:List Nat,aG [c] (spN c l)=l
 | []=>rfl
 |a::r=>by
  have ih:=iz c r;unfold spN;split
  ·rename_i e
   cases es:spN c r with
   |nil=>exact absurd es (da c r)
   |cons h t=>rw[es]at ih;rw[aG,ih,e];rfl
  ·cases es:spN c r with
   |nil=>exact absurd es (da c r)
   |cons h t=>
    rw[es]at ih;cases t with
    |nil=>simp[aG]at ih |-; exact ih
    |cons h2 t=>rw[aG]at ih |-; rw[<- ih];simp
theorem fX(c:Nat):∀(l:List Nat),∀p∈spN c l,c∉p
 | [],p,hp=>by simp[spN]at hp;rw[hp];simp
 |a::r,p,hp=>by
  unfold spN at hp;split at hp
  ·rcases zv.mp hp with h|h
   ·rw[h];simp
   ·exact fX c r p h
  ·rename_i hne
   split at hp
   ·rename_i h t es
    rcases zv.mp hp with e|e
    ·rw[e]
     have:=fX c r h (by rw[es];simp);simp only[zv,not_or];exact⟨fun z=>hne z.symm,this⟩
    ·exact fX c r p (by rw[es];exact xM _ e)
   ·rename_i es;exact absurd es (da c r)
theorem cF(c:Nat):∀l:List Nat,(spN c l).length<=l.length+1
 | []=>by simp[spN]
 |a::r=>by
  have ih:=cF c r;unfold spN;split
  ·simp;lia
  ·split
   ·rename_i es;rw[es]at ih;simp at ih |-; lia
   ·simp
theorem dX(c:Nat):∀l:List Nat,∀p∈spN c l,p.length<=l.length/\∀d∈p,d∈l
 | [],p,hp=>by simp[spN]at hp;rw[hp];simp
 |a::r,p,hp=>by
  unfold spN at hp;split at hp
  ·rcases zv.mp hp with h|h
   ·rw[h];simp
   ·obtain⟨h1,h2⟩:=dX c r p h
    exact⟨by rw[xR];lia,fun d hd=>xM _ (h2 d hd)⟩
  ·split at hp
   ·rename_i h t es
    rcases zv.mp hp with e|e
    ·obtain⟨h1,h2⟩:=dX c r h (by rw[es];simp)
     rw[e];refine⟨by rw[xR,xR];lia,fun d hd=>?_⟩;rcases zv.mp hd with z|z
     ·rw[z];simp
     ·exact xM _ (h2 d z)
    ·obtain⟨h1,h2⟩:=dX c r p (by rw[es];exact xM _ e)
     exact⟨by rw[xR];lia,fun d hd=>xM _ (h2 d hd)⟩
   ·rename_i es;exact absurd es (da c r)
theorem xU(x y:Str):Txt.split x y≠[]:=by
 unfold Txt.split;split
 ·simp
 ·split
  ·simp
  ·rw[StrLaws.partsBetween_eq]
   obtain⟨p,r,e⟩:=StrLaws.partsFrom_ne x y.length 0 (occurrences x y 0 x.length (x.length+1));rw[e];simp
theorem v6(l:List Nat)(c:Nat):(Txt.split ⟨⟨l⟩⟩ ⟨#[c]⟩).map (fun x=>cs x)=spN c l:=by
 have h1:=StrLaws.join_split ⟨⟨l⟩⟩ ⟨#[c]⟩;have h2:=StrLaws.split_free ⟨⟨l⟩⟩ c;have h0:=xU ⟨⟨l⟩⟩ ⟨#[c]⟩;generalize Txt.split ⟨⟨l⟩⟩ ⟨#[c]⟩=ps at h0 h1 h2;have hj:aG [c] (ps.map fun x=>cs x)=l:=by
  have e:ps=(ps.map fun x=>cs x).map S:=by
   rw[ZM]
   conv=>lhs;rw[<- List.map_id ps]
   apply List.map_congr_left;intro x _;rfl
  rw[e]at h1;have h3:Str.join (S [c]) ((ps.map fun x=>cs x).map S)=S (aG [c] (ps.map fun x=>cs x)):=by
   have:=nJ [c] (ps.map fun x=>cs x);exact(StrLaws.glued_eq_join _ _).symm.trans this
  have h4:S (aG [c] (ps.map fun x=>cs x))=⟨⟨l⟩⟩:=h3.symm.trans h1;have h5:=congrArg cs h4;exact h5
 have hne:(ps.map fun x=>cs x)≠[]:=by
  intro z;exact h0 (List.map_eq_nil_iff.mp z)
 rw[<- hj,dF c _ hne];intro p hp;obtain⟨x,hx,rfl⟩:=kJ.mp hp;exact h2 x hx
section
variable{X:Cx}{e a b c:Expr}{pos:Pos}
def Do:V->List V->Hp->VK->Prop
 | .str x,[.str y],H,Q=>(∃c,cs y=[c]/\(cs x).length+2<=sizeLine/\∀p,H p=none->Q (.ref p) (upd H p (.lst ((spN c (cs x)).map T))))
 |_,_,_,_=>False
theorem nD:∀(l:List (Str × Tok)),Vals (l.map fun p=>V.str p.1) (strValues l)
 | []=>.nil
 |p::r=>.cons ⟨p.2,rfl⟩ (nD r)
theorem cE:MtR X "str.split" Do:=by
 intro pins s σ H x xs v us Q I rx rs h;cases x with
 |str x=>
  rcases xs with _|⟨e_1,r_1⟩
  ·exact(id h:False).elim
  cases e_1 with
  |str y=>
   cases r_1 with
   |nil=>
    obtain⟨c,hc,hz,q⟩:=h;obtain⟨t,rfl⟩:=rx;obtain⟨u,rfl,t',rfl⟩:=dq rs;have hy:=nO hc;subst hy;obtain⟨⟨l⟩⟩:=x;have hx:(⟨⟨l⟩⟩:Str).length+2<=sizeLine:=hz;have fin:∀(l':List (Str × Tok)) (k:Nat),l'.map (·.1)=Txt.split ⟨⟨l⟩⟩ ⟨#[c]⟩->EP X pins σ Q (.ref s.heap.objs.size) { s with toks:=k,heap:=s.heap.push { cls:=.type "list",data:=.seq (strValues l').toArray } }:=fun l' k hl=>by
     have e:(spN c l).map T=l'.map fun p=>V.str p.1:=by
      rw[<- v6,<- hl,ZM,ZM];apply List.map_congr_left;intro p _;rfl
     have hlen:((spN c l).map T).length<=sizeLine:=by
      rw[yV];have:=cF c l;have hz':l.length+2<=sizeLine:=hz;lia
     have hv:Vals ((spN c l).map T) (strValues l'):=by rw[e];exact nD l'
     exact⟨.ref s.heap.objs.size,_,I.lnew (t':=k) hv hlen,rfl,q _ I.fresh⟩
    have hn:(partsBetween ⟨⟨l⟩⟩ (occurrences ⟨⟨l⟩⟩ ⟨#[c]⟩ 0 (⟨⟨l⟩⟩:Str).length ((⟨⟨l⟩⟩:Str).length+1)) (⟨#[c]⟩:Str).length).length<=sizeLine:=by
     have e1:=StrLaws.occ_length_le ⟨⟨l⟩⟩ ⟨#[c]⟩ 0 (⟨⟨l⟩⟩:Str).length ((⟨⟨l⟩⟩:Str).length+1);rw[length_partsBetween];lia
    have hy:((⟨#[c]⟩:Str).length==0)=false:=rfl;cases h1:(decide ((⟨⟨l⟩⟩:Str).length<(⟨#[c]⟩:Str).length) || decide (strKind ⟨⟨l⟩⟩<strKind ⟨#[c]⟩))
    ·cases hf:(occurrences ⟨⟨l⟩⟩ ⟨#[c]⟩ 0 (⟨⟨l⟩⟩:Str).length ((⟨⟨l⟩⟩:Str).length+1)).isEmpty
     ·refine ZG F.slot_str_split (ZQ _ _ _) F.entry_str_split (F.args_str_split_2 _ _) (meets_str_split_sep ⟨⟨l⟩⟩ ⟨#[c]⟩ t t' h1 hy hf (by lia) hn) ?_
      show wants _ _ _ { s with toks:=_,heap:=s.heap.push { cls:=.type "list",data:=.seq (strsFrom s.toks (partsBetween ⟨⟨l⟩⟩ (occurrences ⟨⟨l⟩⟩ ⟨#[c]⟩ 0 (⟨⟨l⟩⟩:Str).length ((⟨⟨l⟩⟩:Str).length+1)) (⟨#[c]⟩:Str).length)).toArray } };rw[strsFrom_eq];exact fin (numbered s.toks _) _ ((numbered_texts _ _).trans ((if_neg (ne_true_of_eq_false h1)).trans (if_neg (ne_true_of_eq_false hf))).symm)
     ·refine ZG F.slot_str_split (ZQ _ _ _) F.entry_str_split (F.args_str_split_2 _ _) (meets_str_split_not_found ⟨⟨l⟩⟩ ⟨#[c]⟩ t t' h1 hy hf) ?_
      exact fin [(⟨⟨l⟩⟩,t)] s.toks ((if_neg (ne_true_of_eq_false h1)).trans (if_pos hf)).symm
    ·refine ZG F.slot_str_split (ZQ _ _ _) F.entry_str_split (F.args_str_split_2 _ _) (meets_str_split_cannot_occur ⟨⟨l⟩⟩ ⟨#[c]⟩ t t' h1) ?_
     exact fin [(⟨⟨l⟩⟩,t)] s.toks (if_pos h1).symm
   |cons=>exact(id h:False).elim
  |_=>exact(id h:False).elim
 |_=>exact(id h:False).elim
noncomputable def fD:List Nat->List Nat->Bool
 |_,[]=>true
 | [],_::_=>false
 |a::l,b::r=>decide (a=b)&&fD l r
theorem pW:∀(x y:List Nat),fD x y=true↔x.take y.length=y
 |x,[]=>by simp[fD]
 | [],b::r=>by simp[fD]
 |a::l,b::r=>by simp[fD,pW l r]
def DM:V->List V->Hp->VK->Prop
 | .str x,[.str y],H,Q=>Q (.bl (fD (cs x) (cs y))) H
 |_,_,_,_=>False
theorem za(x y:Str):(decide (0+y.length<=x.length)&&Z5 x y 0)=fD (cs x) (cs y):=by
 obtain⟨⟨l⟩⟩:=x;obtain⟨⟨r⟩⟩:=y;rw[ZO,pW,mx];unfold Z5;simp only[Zk,cs,Nat.zero_add,decide_eq_true_eq,xV,beq_iff_eq];have e:(⟨l⟩:Array Nat).extract 0 r.length=⟨r⟩↔l.take r.length=r:=by
  constructor
  ·intro h
   have:=congrArg Array.toList h
   simpa using this
  ·intro h
   apply Array.toList_inj.mp
   simpa using h
 constructor
 ·rintro⟨_,h⟩;exact e.mp h
 ·intro h
  refine⟨?_,e.mpr h⟩;have:=congrArg mF h;rw[r0]at this;lia
theorem dE:MtR X "str.startswith" DM:=by
 intro pins s σ H x xs v us Q I rx rs h;cases x with
 |str x=>
  rcases xs with _|⟨e_1,r_1⟩
  ·exact(id h:False).elim
  cases e_1 with
  |str y=>
   cases r_1 with
   |nil=>
    obtain⟨t,rfl⟩:=rx;obtain⟨u,rfl,t',rfl⟩:=dq rs;refine ZG F.slot_str_startswith (ZQ _ _ _) F.entry_str_startswith (F.args_str_startswith_2 _ _) (gives_str_startswith _ y t t').meets ?_;exact⟨.bl _,H,I,rfl,by rw[za];exact h⟩
   |cons=>exact(id h:False).elim
  |_=>exact(id h:False).elim
 |_=>exact(id h:False).elim
def Bk:R2
 | .ref l,.ref b,H,Q=>∃xs zs,H l=some (.lst xs)/\H b=some (.lst zs)/\xs.length+zs.length<=sizeLine/\∀p,H p=none->Q (.ref p) (upd H p (.lst (xs++zs)))
 |_,_,_,_=>False
theorem b_:OpR X (binaryOp .Add) Bk:=A8.imp fun x y H Q h=>by
 cases x with
 |ref v_1=>
  cases y with
  |ref v_2=>
   obtain⟨xs,zs,h1,h2,h3,q⟩:=h;exact⟨_,_,xs,zs,rfl,rfl,h1,h2,h3,q⟩
  |_=>exact(id h:False).elim
 |_=>exact(id h:False).elim
theorem bZ(K:W.Frag)(h:X.K=K:=by rfl):SlR X (zq K):=h ▸ zA
def C2(K:W.Frag):List V->Hp->VK->Prop
 | [.ref p],H,Q=>∃ys,(SqL K H p ys\/SqT K H p ys)/\∀l,H l=none->Q (.ref l) (upd H l (.lst ys))
 |_,_,_=>False
def vX(K:W.Frag):List V->Hp->VK->Prop
 | [.ref p],H,Q=>∃ys,(SqL K H p ys/\∀l,H l=none->Q (.ref l) (upd H l (.tup ys)))\/(SqT K H p ys/\Q (.ref p) H)
 |_,_,_=>False
theorem cA(K:W.Frag)(hK:X.K=K:=by rfl):CallR X (.type "tuple") (vX K):=by
 subst hK;refine l8.imp fun xs H Q h=>?_;rcases xs with _|⟨e_1,r_1⟩
 ·exact(id h:False).elim
 cases e_1 with
 |ref v_2=>
  cases r_1 with
  |nil=>
   obtain⟨ys,h1⟩:=h;exact⟨_,ys,rfl,h1⟩
  |cons=>exact(id h:False).elim
 |_=>exact(id h:False).elim
inductive EqH (K:W.Frag) (H:Hp):Nat->V->V->Bool->Prop
 |flat {n x y}:cD x=true->cD y=true->EqH K H n x y (eqV x y)
 |same {n p}:EqH K H n (.ref p) (.ref p) true
 |lst {n p q xs ys} {e:Nat->Bool}:p≠q->SqL K H p xs->SqL K H q ys->xs.length=ys.length->(∀j x y,xs[j]? = some x->ys[j]? = some y->EqH K H n x y (e j))->EqH K H (n+1) (.ref p) (.ref q) ((rL xs.length).all e)
 |len {n p q xs ys}:p≠q->SqL K H p xs->SqL K H q ys->xs.length≠ys.length->EqH K H (n+1) (.ref p) (.ref q) false
 |tup {n p q xs ys} {e:Nat->Bool}:p≠q->SqT K H p xs->SqT K H q ys->(∀j x y,xs[j]? = some x->ys[j]? = some y->EqH K H n x y (e j))->EqH K H (n+1) (.ref p) (.ref q) ((rL (min xs.length ys.length)).all e&&xs.length==ys.length)
 |lt {n p q xs ys}:SqL K H p xs->SqT K H q ys->EqH K H (n+1) (.ref p) (.ref q) false
 |tl {n p q xs ys}:SqT K H p xs->SqL K H q ys->EqH K H (n+1) (.ref p) (.ref q) false
theorem eI{P:Value->Value->Bool->Prop}{xs ys:List V}{its its':List Value}{e:Nat->Bool}(r:Vals xs its)(r':Vals ys its')(h:∀j x y u v,xs[j]? = some x->ys[j]? = some y->RelV x u->RelV y v->P u v (e j)) :
 ∀j (h1:j<its.toArray.size) (h2:j<its'.toArray.size),P its.toArray[j] its'.toArray[j] (e j):=fun j g1 g2=>by
 have h1:xs.length=its.length:=r.length;have h2:ys.length=its'.length:=r'.length;have g1':j<its.length:=by simpa using g1
 have g2':j<its'.length:=by simpa using g2
 have l1:j<xs.length:=by lia
 have l2:j<ys.length:=by lia
 obtain⟨w1,e1,r1⟩:=r.get (List.getElem?_eq_getElem l1);obtain⟨w2,e2,r2⟩:=r'.get (List.getElem?_eq_getElem l2);have z1:its.toArray[j]=w1:=by
  have:its[j]? = some its[j]:=List.getElem?_eq_getElem g1';rw[this]at e1;simpa using wj e1
 have z2:its'.toArray[j]=w2:=by
  have:its'[j]? = some its'[j]:=List.getElem?_eq_getElem g2';rw[this]at e2;simpa using wj e2
 rw[z1,z2];exact h j _ _ _ _ (List.getElem?_eq_getElem l1) (List.getElem?_eq_getElem l2) r1 r2
theorem EqH.at{K:W.Frag}{H:Hp}{n:Nat}{x y:V}{b:Bool}(h:EqH K H n x y b):∀ {X:Cx} {pins:List (Addr × Obj)} {σ:St} {s:Shared} {A:Around} {u v:Value},X.K=K->Inv X pins σ H s->A.units+n<cLine->RelV x u->RelV y v->SeqAt.EqAt A s u v b:=by
 induction h with
 |flat fx fy=>
  intro X pins σ s A u v hK I hu rx ry;exact sC rx ry fx fy
 |same=>
  intro X pins σ s A u v hK I hu rx ry;cases rx;cases ry;exact SeqAt.EqAt.same _
 | @lst n p q xs ys e hpq hx hy hl _ ih=>
  intro X pins σ s A u v hK I hu rx ry;cases rx;cases ry;subst hK;obtain⟨its,r,pl,hz⟩:=I.list hx;obtain⟨its',r',pl',hz'⟩:=I.list hy;have h1:xs.length=its.length:=r.length;have h2:ys.length=its'.length:=r'.length;have:=SeqAt.RcAt.lists (A:=A) (e:=e) pl.isList pl'.isList (by simp;lia) (by lia) (eI r r' fun j x y u v g1 g2 r1 r2=>ih j x y g1 g2 rfl I (by show A.units+1+n<cLine;lia) r1 r2);rw[xV,<- h1]at this;exact .of_refs hpq this
 | @len n p q xs ys hpq hx hy hl=>
  intro X pins σ s A u v hK I hu rx ry;cases rx;cases ry;subst hK;obtain⟨its,r,pl,hz⟩:=I.list hx;obtain⟨its',r',pl',hz'⟩:=I.list hy;have h1:xs.length=its.length:=r.length;have h2:ys.length=its'.length:=r'.length;exact .of_refs hpq (SeqAt.RcAt.lists_lengths pl.isList pl'.isList (by simp;lia) (by lia))
 | @tup n p q xs ys e hpq hx hy _ ih=>
  intro X pins σ s A u v hK I hu rx ry;cases rx;cases ry;subst hK;obtain⟨its,r,pl,hz⟩:=I.tuple hx;obtain⟨its',r',pl',hz'⟩:=I.tuple hy;have h1:xs.length=its.length:=r.length;have h2:ys.length=its'.length:=r'.length;have:=SeqAt.RcAt.tuples (A:=A) (e:=e) pl pl' (by lia) (eI r r' fun j x y u v g1 g2 r1 r2=>ih j x y g1 g2 rfl I (by show A.units+1+n<cLine;lia) r1 r2);rw[xV,xV,<- h1,<- h2]at this;exact .of_refs hpq this
 |lt hx hy=>
  intro X pins σ s A u v hK I hu rx ry;cases rx;cases ry;subst hK;obtain⟨its,r,pl,hz⟩:=I.list hx;obtain⟨its',r',pl',hz'⟩:=I.tuple hy;exact SeqAt.EqAt.list_tuple pl.isList pl' (by lia)
 |tl hx hy=>
  intro X pins σ s A u v hK I hu rx ry;cases rx;cases ry;subst hK;obtain⟨its,r,pl,hz⟩:=I.tuple hx;obtain⟨its',r',pl',hz'⟩:=I.list hy;exact SeqAt.EqAt.tuple_list pl pl'.isList (by lia)
inductive EqR (K:W.Frag) (H:Hp) (p q:Addr):Bool->Prop
 |lst {xs ys} {e:Nat->Bool}:SqL K H p xs->SqL K H q ys->xs.length=ys.length->(∀j x y,xs[j]? = some x->ys[j]? = some y->EqH K H 50 x y (e j))->EqR K H p q ((rL xs.length).all e)
 |len {xs ys}:SqL K H p xs->SqL K H q ys->xs.length≠ys.length->EqR K H p q false
 |tup {xs ys} {e:Nat->Bool}:SqT K H p xs->SqT K H q ys->(∀j x y,xs[j]? = some x->ys[j]? = some y->EqH K H 50 x y (e j))->EqR K H p q ((rL (min xs.length ys.length)).all e&&xs.length==ys.length)
def Bq(K:W.Frag)(neg:Bool):R2
 | .ref p,.ref q,H,Q=>∃b,EqR K H p q b/\Q (.bl (neg ^^ b)) H
 |_,_,_,_=>False
theorem BY(K:W.Frag)(hu:X.A.units+100<cLine)(hK:X.K=K:=by rfl):OpR X (pU .Eq) (Bq K false):=by
 subst hK;intro pins s σ H x y v u Q I rx ry h;cases x with
 |ref p=>
  cases y with
  |ref q=>
   obtain⟨b,hb,q⟩:=h;cases rx;cases ry;cases hb with
   | @lst xs ys e hx hy hl he=>
    obtain⟨its,r,pl,hz⟩:=I.list hx;obtain⟨its',r',pl',hz'⟩:=I.list hy;have h1:xs.length=its.length:=r.length;have h2:ys.length=its'.length:=r'.length;refine SeqAt.eq_listAt (e:=e) pl.isList pl'.isList (by simp;lia) (by lia) (eI r r' fun j x y u v g1 g2 r1 r2=>(he j x y g1 g2).at rfl I (by show X.A.units+1+50<cLine;lia) r1 r2) ⟨.bl _,H,I,rfl,?_⟩;rw[xV,<- h1];simpa using q
   | @len xs ys hx hy hl=>
    obtain⟨its,r,pl,hz⟩:=I.list hx;obtain⟨its',r',pl',hz'⟩:=I.list hy;have h1:xs.length=its.length:=r.length;have h2:ys.length=its'.length:=r'.length;exact SeqAt.eq_list_lengthsAt pl.isList pl'.isList (by simp;lia) (by lia) ⟨.bl false,H,I,rfl,by simpa using q⟩
   | @tup xs ys e hx hy he=>
    obtain⟨its,r,pl,hz⟩:=I.tuple hx;obtain⟨its',r',pl',hz'⟩:=I.tuple hy;have h1:xs.length=its.length:=r.length;have h2:ys.length=its'.length:=r'.length;refine SeqAt.eq_tupleAt (e:=e) pl pl' (by lia) (eI r r' fun j x y u v g1 g2 r1 r2=>(he j x y g1 g2).at rfl I (by show X.A.units+1+50<cLine;lia) r1 r2) ⟨.bl _,H,I,rfl,?_⟩;rw[xV,xV,<- h1,<- h2];simpa using q
  |_=>exact(id h:False).elim
 |_=>exact(id h:False).elim
theorem A6(K:W.Frag)(hu:X.A.units+100<cLine)(hK:X.K=K:=by rfl):OpR X (pU .NotEq) (Bq K true):=by
 subst hK;intro pins s σ H x y v u Q I rx ry h;cases x with
 |ref p=>
  cases y with
  |ref q=>
   obtain⟨b,hb,q⟩:=h;cases rx;cases ry;cases hb with
   | @lst xs ys e hx hy hl he=>
    obtain⟨its,r,pl,hz⟩:=I.list hx;obtain⟨its',r',pl',hz'⟩:=I.list hy;have h1:xs.length=its.length:=r.length;have h2:ys.length=its'.length:=r'.length;refine SeqAt.RcNeAt.lists (e:=e) pl.isList pl'.isList (by simp;lia) (by lia) (eI r r' fun j x y u v g1 g2 r1 r2=>(he j x y g1 g2).at rfl I (by show X.A.units+1+50<cLine;lia) r1 r2) X.prog X.w X.xe _ ⟨.bl _,H,I,rfl,?_⟩;rw[xV,<- h1];simpa using q
   | @len xs ys hx hy hl=>
    obtain⟨its,r,pl,hz⟩:=I.list hx;obtain⟨its',r',pl',hz'⟩:=I.list hy;have h1:xs.length=its.length:=r.length;have h2:ys.length=its'.length:=r'.length;exact SeqAt.RcNeAt.lists_lengths pl.isList pl'.isList (by simp;lia) (by lia) X.prog X.w X.xe _ ⟨.bl true,H,I,rfl,by simpa using q⟩
   | @tup xs ys e hx hy he=>
    obtain⟨its,r,pl,hz⟩:=I.tuple hx;obtain⟨its',r',pl',hz'⟩:=I.tuple hy;have h1:xs.length=its.length:=r.length;have h2:ys.length=its'.length:=r'.length;refine SeqAt.RcNeAt.tuples (e:=e) pl pl' (by lia) (eI r r' fun j x y u v g1 g2 r1 r2=>(he j x y g1 g2).at rfl I (by show X.A.units+1+50<cLine;lia) r1 r2) X.prog X.w X.xe _ ⟨.bl _,H,I,rfl,?_⟩;rw[xV,xV,<- h1,<- h2];simpa using q
  |_=>exact(id h:False).elim
 |_=>exact(id h:False).elim
end
end L2
namespace PySem
open Sem (wp)
open Builtin
end PySem
namespace L2
open PySem PySem.Spec PyProof.Rows Builtin Builtin.Str
section
variable{X:Cx}{e a b c:Expr}{pos:Pos}
def fH(K:W.Frag)(neg:Bool):R2:=fun x y H Q=>match eqS x y with
 |some k=>Q (.bl (neg ^^ k)) H
 |none=>Bq K neg x y H Q
theorem aF(K:W.Frag)(hu:X.A.units+100<cLine)(hK:X.K=K:=by rfl):OpR X (pU .Eq) (fH K false):=((AV (by lia)).or (BY K hu hK)).imp fun x y H Q h=>by
 unfold fH at h;split at h
 ·rename_i k hk
  obtain⟨h1,h2⟩:=qu hk;exact .inl (.inl ⟨h1,by rw[h2];simpa using h⟩)
 ·exact .inr h
theorem bO(K:W.Frag)(hu:X.A.units+100<cLine)(hK:X.K=K:=by rfl):OpR X (pU .NotEq) (fH K true):=((B5 (by lia)).or (A6 K hu hK)).imp fun x y H Q h=>by
 unfold fH at h;split at h
 ·rename_i k hk
  obtain⟨h1,h2⟩:=qu hk;exact .inl (.inl ⟨h1,by rw[h2];simpa using h⟩)
 ·exact .inr h
variable{K:W.Frag}{neg:Bool}{H:Hp}{Q:VK}
theorem yJ:fH K neg (.int i) (.int j) H Q=Q (.bl (neg ^^ decide (i=j))) H:=rfl
theorem CI:fH K neg (.bl i) (.bl j) H Q=Q (.bl (neg ^^ decide (i=j))) H:=rfl
theorem zb:fH K neg (.str i) (.str j) H Q=Q (.bl (neg ^^ decide (i.cps.toList=j.cps.toList))) H:=rfl
theorem zZ:fH K neg (.ref p) (.ref q) H Q = ∃b,EqR K H p q b/\Q (.bl (neg ^^ b)) H:=rfl
theorem Cl:fH K neg .non .non H Q=Q (.bl (neg ^^ true)) H:=rfl
theorem BB:fH K neg .non (.int i) H Q=Q (.bl (neg ^^ false)) H:=rfl
theorem BP:fH K neg (.int i) .non H Q=Q (.bl (neg ^^ false)) H:=rfl
theorem Ba:fH K neg (.int i) (.str s) H Q=Q (.bl (neg ^^ false)) H:=rfl
theorem BL:fH K neg (.str s) (.int i) H Q=Q (.bl (neg ^^ false)) H:=rfl
end
theorem xY(h:atI xs i=some (.ref q))(hq:H q=none)(ho:H1 q=some o)(po:gJ o=true)(k:Q (.ref q) (upd H q o)):gC xs H H1 Q (.int i):=by
 unfold gC;simp only[h,ho];exact⟨hq,po,k⟩
theorem jq{ls:List (List Nat)}{i:Int}(h0:0<=i)(h1:i<ls.length)(q:∀l∈ls,Q (T l) H):gC (ls.map T) H H1 Q (.int i):=by
 obtain⟨j,rfl⟩:∃j:Nat,i=j:=⟨i.toNat,by lia⟩;have hj:j<ls.length:=by lia
 have e:atI (ls.map T) (j:Int)=some (T ls[j]):=aO (by simp[hj]);simp only[gC,e];exact q _ (Ze hj)
theorem nc(lo:Int)(n:Nat):Enum (Itr lo n) ((rL n).map fun k=>V.int (lo+(k:Nat))):=by
 refine⟨fun i H h=>by simpa [Itr] using h,fun i H x H' hi y=>?_,fun H=>by simp[Itr]⟩;obtain⟨e,rfl⟩:=y;refine⟨e,?_⟩;have hi':i<n:=by simpa using hi
 simp[hi']
end L2
namespace L2
theorem kQ(r:Room k A):A.units+100<PySem.cLine:=by have:=r.un;lia
end L2
namespace L2
open PySem PySem.Spec PyProof.Rows
section
variable{κ:Type}[DecidableEq κ]
noncomputable def Cz(kvs:List (κ × V))(k:κ):Option V:=(kvs.find? fun kv=>decide (kv.1=k)).map (·.2)
noncomputable def CN(kvs:List (κ × V))(k:κ)(v:V):List (κ × V):=
 if (kvs.any fun kv=>decide (kv.1=k))=true then kvs.map (fun kv=>if kv.1=k then (kv.1,v) else kv) else kvs++[(k,v)]
noncomputable def EK(kvs:List (κ × V))(k:κ):List (κ × V):=kvs.filter fun kv=>decide (kv.1≠k)
end
theorem Ay{P:Program}{w:World}{k:Key}{u:Value}(r:RelV (kV k) u):(di P w).is k u=true:=by
 cases k with
 |inl i=>obtain⟨t,e⟩:=(show ∃t,u=Value.int i t from r);subst e;exact qg P w i t
 |inr x=>obtain⟨t,e⟩:=(show ∃t,u=YZ x t from r);subst e;exact fJ P w x t
abbrev KT(H:Hp):List (List Key × V)->List (List Key × Addr × Value)->Prop:=Paired fun p q=>p.1=q.1/\H q.2.1=some (.tup (p.1.map kV))/\RelV p.2 q.2.2
def DG(H:Hp)(a:Addr)(y:V)(r:Option V):Prop:=
 (∃kvs k,Rd H a (.dK kvs)/\y=kV k/\r=Cz kvs k)\/∃kvs k b,Rd H a (.dT kvs)/\y = .ref b/\H b=some (.tup (k.map kV))/\r=Cz kvs k
def Ez(H:Hp)(a:Addr)(y v:V)(H':Hp):Prop:=
 (∃kvs k,H a=some (.dK kvs)/\y=kV k/\kvs.length<sizeLine/\H'=upd H a (.dK (CN kvs k v))) \/
 ∃kvs k b,H a=some (.dT kvs)/\y = .ref b/\H b=some (.tup (k.map kV))/\kvs.length<sizeLine/\H'=upd H a (.dT (CN kvs k v))
def C7(i:Expr):Prop:=∀ov iv,subscripted i false ov iv=operate [ov,iv] (getItem ov iv)
theorem yD{prog:Program}{w:World}{A:Around}{E:Value->Shared->Prop}{s:Shared}{env:Env}{value slice:Expr}{pos:Pos}{T id:String}{Q:Value->Shared->Prop}
 (hl:typeLookup (.type T) "__getitem__" = pure (some (.builtin id))) (hs:C7 slice)
 (h:wpAny (model prog w) A (eval value env) (fun o s₁=>wpAny (model prog w) A (eval slice env) (fun i s₂=>s₂.TypeIs o T/\wpAny (model prog w) A (getItem o i) Q E s₂) E s₁) E s) :
 wpAny (model prog w) A (eval (.Subscript value slice pos) env) Q E s:=by
 refine Subscript_ (tu h (fun o s₁ h₁=>tu h₁ (fun i s₂ h₂=>?_) fun _ _ x=>x) fun _ _ x=>x);obtain⟨hT,h₂⟩:=h₂;unfold subscriptTail;refine zz ?_;rw[getitemInPython_of_ne hT.not_modules];refine zz (wpAny_specialOf hT hl ?_);have fin:wpAny (model prog w) A (subscripted slice false o i) (fun r s₃=>wpAny (model prog w) A (letTemporaryGo value o r >>= fun _=>pure r) Q E s₃) E s₂:=by
  rw[hs o i];exact wpAny_operating (tu h₂ (fun r s₃ h₃=>zz (wpAny_letTemporaryGo (xJ h₃))) fun _ _ x=>x)
 first
  |exact xJ (zz fin)
  |exact zz (xJ (zz fin))
  |exact zz fin
def Ak(td ty tv:TE):TS:=fun D σ H=>tv σ H fun v H1=>td σ H1 fun x H2=>ty σ H2 fun y H3=>∃a H4,x = .ref a/\Ez H3 a y v H4/\D.nx σ H4
structure M2(X:Cx)(o:Expr)(m:Str)(apos:Pos)(e f:Expr)(cpos:Pos):Prop where
 base:attributeBase o m X.env (eval o X.env)=eval o X.env
 few:((backTo cpos (starEach [e,f] X.env)).all (fun x=>!x.1)&&(backToKw cpos (keywordEach [] X.env)).all (fun x=>x.1.isSome)
  && decide (([e,f]:List Expr).length+([]:List Keyword).length+(if ([]:List Keyword).isEmpty then 0 else 1)<30))=true
 line:(apos.endLine==cpos.line)=true
 trees:backTo cpos (starEach [e,f] X.env)=[(false,eval e X.env),(false,eval f X.env)]
def IsD(H:Hp)(a:Addr):Prop:=(∃kvs,Rd H a (.dK kvs))\/∃kvs,Rd H a (.dT kvs)
def wZ(td ty:TE):TE:=fun σ H Q=>td σ H fun x H1=>∃a,x = .ref a/\IsD H1 a/\ty σ H1 fun y H2=>∃o,DG H2 a y o/\Q (o.getD .non) H2
def vS(td ty tx:TE):TE:=fun σ H Q=>td σ H fun x H1=>∃a,x = .ref a/\IsD H1 a/\ty σ H1 fun y H2=>tx σ H2 fun z H3=>∃o,DG H3 a y o/\Q (o.getD z) H3
section
variable{X:Cx}{e o value:Expr}{f:Str}{ta tv:TE}{pos pos':Pos}
def Cy(K:W.Frag)(f:Str):V->Hp->VK->Prop
 | .ref p,H,Q=>∃C dx fs v,H p=some (.ins C dx fs)/\Cls K C/\r_ K C f/\fs.lookup f=some v/\Q v H
 |_,_,_=>False
def Am(K:W.Frag)(ta:TE)(f:Str):TE:=fun σ H Q=>ta σ H fun x H1=>Cy K f x H1 Q
def yc(K:W.Frag)(f:Str)(y:V):V->Hp->(Hp->Prop)->Prop
 | .ref p,H,Q=>∃C dx fs,H p=some (.ins C dx fs)/\Cls K C/\r_ K C f/\fs.length<1000/\Q (upd H p (.ins C dx (DW f y fs)))
 |_,_,_=>False
def AH(K:W.Frag)(ta tv:TE)(f:Str):TS:=fun D σ H=>tv σ H fun y H1=>ta σ H1 fun x H2=>yc K f y x H2 fun H3=>D.nx σ H3
end
section
variable{X:Cx}{CX:CXT}{k:Nat}{f C:Addr}{fd:FuncData}{ps:List Str}{sp:Sp}{dvs:List V}{ds:List Value}{E:XKs}{x m:Str}{p pos apos:Pos}{e o:Expr}{es:List Expr}{ta:TE}{t:TA}
def xF(C:Addr)(m:Str):V->Hp->(V->Prop)->Prop
 | .ref p,H,Q=>∃dx fs,H p=some (.ins C dx fs)/\fs.lookup m=none/\Q (.ref p)
 |_,_,_=>False
def xy(C:Addr)(m:Str)(sp:Sp)(dvs:List V)(E:XKs)(ta:TE)(t:TA):TE:=fun σ H Q=>ta σ H fun x0 H1=>xF C m x0 H1 (fun x=>t σ H1 fun vs H2=>sp (x::(vs++dvs)) H2 Q (E σ))
def wy(C:Addr)(sp:Sp)(dvs:List V)(E:XKs)(t:TA):TE:=fun σ H Q=>t σ H fun vs H1=>∀x dx,H1 x=none->H1 dx=none->dx≠x ->
 sp (.ref x::(vs++dvs)) (upd (upd H1 dx (.own x)) x (.ins C dx [])) (fun v H2=>v = .non/\Q (.ref x) H2) (E σ)
end
def cQ(wi:TI)(n:Nat)(g:TG)(ks:List Nat)(tt:TT)(te:TE):TE:=fun σ H Q=>wi σ H fun J H1=>∀D,H1 D=none->∃W:Nat->Nat->List V->Hp->Prop,(∃m,W 0 m [] (upd H1 D (.lst []))) /\
 ∀i m ys H2,W i m ys H2->H2 D=some (.lst ys)/\((J.stop i H2/\Q (.ref D) H2)\/(J.go i H2/\∀x H3,J.yld i H2 x H3->∀zs:St,zs.length=n ->
  g x (zs++ks.map fun k=>(σ[k]?).join) H3 fun σ4 H4=>(∃zs4:St,zs4.length=n/\σ4=zs4++ks.map fun k=>(σ[k]?).join) /\
   tt σ4 H4 fun b H5=>if b=true then te σ4 H5 fun y H6=>H6 D=some (.lst ys)/\ys.length<sizeLine/\∃m',m'<m/\W (i+1) m' (ys++[y]) (upd H6 D (.lst (ys++[y])))
    else ∃m',m'<m/\W (i+1) m' ys H5))
structure C_(gd:Cx->Prop)(P:Program)(w:World)(K:W.Frag)(tg:Expr)(J:It)(fp:List Addr)(it:Addr)(tn:Nat->Heap->Prop):Prop where
 mem:it∈fp
 obj:∀i h,tn i h->∀b∈fp,∃o,h.get? b=some o/\∀v,o.data ≠ .cell v
 keep:∀i h h',tn i h->(∀b∈fp,∀o,h.get? b=some o->h'.get? b=some o)->tn i h'
 item:∀(X:Cx),X.prog=P->X.w=w->X.K=K->gd X->∀(i:Nat) (pins:List (Addr × Obj)) (s:Shared) (σ:St) (H:Hp) (E:Value->Shared->Prop),Inv X pins σ H s->(∀b∈fp,gb X pins H b)->tn i s.heap->J.go i H ->
  wpAny (model P w) X.A (pyNext (.ref it)) (fun r s1=>∃u,r=some u /\
   wpAny (model P w) X.A (YN tg (.ref it) u) (fun _ s2=>∃x H',Inv X pins σ H' s2/\RelV x u/\J.yld i H x H'/\tn (i+1) s2.heap/\∀b∈fp,H' b=none) E s1) E s
 done:∀(X:Cx),X.prog=P->X.w=w->X.K=K->gd X->∀(i:Nat) (pins:List (Addr × Obj)) (s:Shared) (σ:St) (H:Hp) (E:Value->Shared->Prop),Inv X pins σ H s->(∀b∈fp,gb X pins H b)->tn i s.heap->J.stop i H ->
  wpAny (model P w) X.A (pyNext (.ref it)) (fun r s1=>r=none/\Inv X pins σ H s1) E s
 self:∀(A:Around) (i:Nat) (s:Shared) (Q:Value->Shared->Prop) (E:Value->Shared->Prop),tn i s.heap->Q (.ref it) s->wpAny (model P w) A (pyIter (.ref it)) Q E s
def PIG(gd:Cx->Prop)(X:Cx)(tg iter:Expr)(wi:TI):Prop:=
 ∀(pins:List (Addr × Obj)) (s:Shared) (σ:St) (H:Hp) (R:It->Hp->Prop),Inv X pins σ H s->wi σ H R ->
  wpAny (model X.prog X.w) X.A (eval iter X.env) (fun v s1=>wpAny (model X.prog X.w) X.A (pyIter v) (fun itv s2=>∃(it:Addr) (fp:List Addr) (tn:Nat->Heap->Prop) (J:It) (H':Hp),itv = .ref it/\Inv X pins σ H' s2/\C_ gd X.prog X.w X.K tg J fp it tn/\tn 0 s2.heap/\(∀b∈fp,gb X pins H' b)/\R J H') X.xe s1) X.xe s
theorem nZ(h:PI X tg iter wi):PIG (fun X=>X.calm=true) X tg iter wi:=fun pins s σ H R I q=>
 tu (h pins s σ H R I q) (fun v s1 h1=>tu h1 (fun itv s2 hq_=>(by obtain⟨it,fp,tn,J,H',e,I2,T,r⟩:=hq_;exact⟨it,fp,tn,J,H',e,I2,⟨T.mem,T.obj,T.keep,T.item,T.done,T.self⟩,r⟩)) fun _ _ z=>z) fun _ _ z=>z
noncomputable def bR(X:Cx)(N:List Str)(scope:Scope)(cl:List (Str × Addr))(fnc:Str->Bool)(C:Addr)(s₂:Shared)(H₂:Hp)(ex:List Addr)(pn:List (Addr × Obj)):Cx:=
 { dO X N scope cl C s₂ H₂ ex pn with fn:=fnc }
structure fW(X:Cx)(scope:Scope)(cl:List (Str × Addr))(cl2:Addr->List (Str × Addr))(fnc:Str->Bool)(fr:List Str):Prop where
 clos:closureFor scope X.env=pure cl
 kind:scope.kind = .function
 names:∀y∈scope.names,y.2 = .local->scope.names.lookup y.1=some .local
 lay:∀(M:Model) (A:Around) (E:Value->Shared->Prop) (Q:Env->Shared->Prop) (s:Shared),(∀h₁ t₁ m,h₁.Ns s.heap.objs.size m->(∀b o,s.heap.get? b=some o->h₁.get? b=some o)->(∀y c,fnc y=true->(cl2 s.heap.objs.size).lookup y=some c->s.heap.objs.size<c/\h₁.IsCell c none) ->
  Q { scope:=scope,locals:=s.heap.objs.size,globals:=X.env.globals,cells:=cl2 s.heap.objs.size,qual:=X.env.qual,func:=none,code:=X.env.code,frame:=X.env.frame,builtins:=X.env.builtins } { s with heap:=h₁,toks:=t₁ })->wpAny M A (newFunctionEnv scope X.env.globals cl [] X.env.qual none .none (some X.env)) Q E s
 only:∀C y,((relabel scope X.env).names.lookup y=some .cell\/(relabel scope X.env).names.lookup y=some .free)->y∈fr\/∃c,(cl2 C).lookup y=some c
 sub:∀C y c,(cl2 C).lookup y=some c->fnc y=false->X.env.cells.lookup y=some c
 cell:∀C,∀y∈fr,(cl2 C).lookup y=X.env.cells.lookup y
 inj:∀C y z c,fnc y=true->fnc z=true->(cl2 C).lookup y=some c->(cl2 C).lookup z=some c->y=z
 kinds:∀y∈fr,X.env.kindOf y=some .cell\/X.env.kindOf y=some .free
 kin:∀y∈fr,(relabel scope X.env).names.lookup y=some .cell\/(relabel scope X.env).names.lookup y=some .free
theorem nE(hc:∀C s₂ H₂ ex pn,gd (bR X (xs++fr) scope (cl2 C) fnc C s₂ H₂ ex pn))(S:fW X scope cl cl2 fnc fr)
 (hks:ks.map (fun k=>X.N[k]?)=fr.map some) (hi:PIG gd X tg iter wi) (hg:∀C s₂ H₂ ex pn,PG (bR X (xs++fr) scope (cl2 C) fnc C s₂ H₂ ex pn) tg g)
 (ht:∀C s₂ H₂ ex pn,PTs (bR X (xs++fr) scope (cl2 C) fnc C s₂ H₂ ex pn) ifs tt) (he:∀C s₂ H₂ ex pn,PE (bR X (xs++fr) scope (cl2 C) fnc C s₂ H₂ ex pn) elt te)
 (hs:∀x,ZR iter X.env x=pure x:=by intro _;rfl)
 (I:Inv X pins σ H s) (h:cQ wi xs.length g ks tt te σ H Q) (use:Option (Value->Sem Unit)) (Qp:Value->Shared->Prop)
 (hend:∀(D C:Addr) (H':Hp) (s':Shared) (mC:Str->Option Value) (f:Flow),Inv X pins σ H' s'->gb X pins H' C->s'.heap.Ns C mC->Q (.ref D) H'->compPost (model X.prog X.w) X.A X.xe use Qp (.ref D) C (.ok f) s') :
 wpAny (model X.prog X.w) X.A (comprehension (.ListComp elt [⟨tg,iter,ifs,0⟩] scope pos) scope X.env (firstIterPos [⟨tg,iter,ifs,0⟩] pos) (newList []) false (firstIter [⟨tg,iter,ifs,0⟩] X.env) use) Qp X.xe s:=by
 refine wpAny_comprehension_free (use:=use) rfl hs S.clos S.kind S.names (thn (hi pins s σ H _ I h) fun v s1 h1=>thn h1 fun itv s2 h2=>?_);obtain⟨it,fp,tn,J,H2,e,I2,T,st2,f2,hW⟩:=h2;subst e;refine Zi ?_;have hD0:H2 s2.heap.objs.size=none:=I2.hok.fresh (xi _);obtain⟨W,⟨m0,w0⟩,turn⟩:=hW s2.heap.objs.size hD0;generalize hs3:s2.heap.push { cls:=.type "list",dict:=none,data:=.seq ([]:List Value).toArray }=g3;have hsz3:g3.objs.size=s2.heap.objs.size+1:=by rw[<- hs3,jw]
 have up3:∀b o,s2.heap.get? b=some o->g3.get? b=some o:=fun b o e=>by rw[<- hs3];exact Heap.get?_push_of_some _ e
 have gD:g3.get? s2.heap.objs.size=some { cls:=.type "list",dict:=none,data:=.seq ([]:List Value).toArray }:=by rw[<- hs3];exact Heap.get?_push_size _ rfl
 have I3:Inv X pins σ (upd H2 s2.heap.objs.size (.lst [])) { s2 with heap:=g3 }:=I2.laid (t':=s2.toks) up3 (xi _) ⟨by simp,[],0,.nil,gD⟩;refine S.lay _ _ _ _ _ fun h₁ t₁ m₁ hns₁ keep4 hnew=>?_;dsimp only at hns₁ keep4 hnew |-
 have hsub:∀y c,(cl2 g3.objs.size).lookup y=some c->X.env.cells.lookup y=some c\/(fnc y=true/\g3.objs.size<c/\h₁.IsCell c none):=fun y c e=>by
  cases hf:fnc y with
  |false=>exact .inl (S.sub _ y c e hf)
  |true=>exact .inr ⟨rfl,hnew y c hf e⟩
 have hCn:(upd H2 s2.heap.objs.size (.lst [])) g3.objs.size=none:=I3.hok.fresh (xi _);have fpD:∀b∈fp,b≠s2.heap.objs.size:=fun b hb z=>by
  obtain⟨o,e,_⟩:=T.obj 0 _ st2 b hb;exact absurd (xQ e) (by rw[z];exact Zv _)
 have fpC:∀b∈fp,b≠g3.objs.size:=fun b hb z=>by
  obtain⟨o,e,_⟩:=T.obj 0 _ st2 b hb;exact absurd (xQ (up3 b o e)) (by rw[z];exact Zv _)
 have fpN:∀b∈fp,(upd H2 s2.heap.objs.size (.lst [])) b=none:=fun b hb=>by rw[aw (fpD b hb)];exact(f2 b hb).1
 have old:∀y c,X.env.cells.lookup y=some c->c<g3.objs.size:=fun y c e=>by
  obtain⟨v,q⟩:=I3.cell y c e;exact q.lt
 have cfp:∀b∈fp,∀y c,(cl2 g3.objs.size).lookup y=some c->c≠b:=fun b hb y c e=>by
  rcases hsub y c e with q|⟨_,l,_⟩
  ·exact(f2 b hb).2.2.2.2.1 y c q
  ·obtain⟨o,e,_⟩:=T.obj 0 _ st2 b hb
   exact fun z=>absurd (xQ (up3 b o e)) (by rw[<- z];exact YK.mpr (Zh l))
 have Ok:(bR X (xs++fr) scope (cl2 g3.objs.size) fnc g3.objs.size { s2 with heap:=g3 } (upd H2 s2.heap.objs.size (.lst [])) fp (X.pn++pins)).Ok:=by
  refine⟨I.ok.mod,S.kind,I.ok.glob,I.ok.blt,xi _,fun y z c e1 e2=>?_,fun y hy=>?_,fun y c z e=>Zh (hnew y c z e).1,I.ok.hd,I.ok.frames,.inl rfl,fun b hb=>⟨fpC b hb,cfp b hb⟩,I3.bs,wx I.ok.bsz I3.sz,fun b o e hb=>?_,fun b hb z=>?_,I3.stack,I3.stkFree⟩
  ·rcases hsub y c e1 with q|⟨q,l,_⟩ <;> rcases hsub z c e2 with q'|⟨q',l',_⟩
   ·exact I.ok.inj y z c q q'
   ·exact absurd (old y c q) (YK.mpr (Zh l'))
   ·exact absurd (old z c q') (YK.mpr (Zh l))
   ·exact S.inj _ y z c q q' e1 e2
  ·rcases S.only _ y hy with hy|hy
   ·obtain⟨c,e⟩:=I.ok.has y (S.kinds y hy)
    exact⟨c,(S.cell _ y hy).trans e⟩
   ·exact hy
  ·rcases(f2 b hb).2.2.2.1 with q|q
   ·exact I.ok.noex b o e q
   ·exact absurd (xQ e) (YK.mpr (wx I.ok.bsz q))
  ·rcases zv.mp (I3.stkSub b z) with q|q
   ·exact(f2 b hb).2.1 q
   ·exact(f2 b hb).2.2.1 q
 have I4:Inv (bR X (xs++fr) scope (cl2 g3.objs.size) fnc g3.objs.size { s2 with heap:=g3 } (upd H2 s2.heap.objs.size (.lst [])) fp (X.pn++pins)) [] ((xs.map fun _=>none)++ks.map fun k=>(σ[k]?).join) (upd H2 s2.heap.objs.size (.lst [])) { s2 with heap:=h₁,toks:=t₁ }:=by
  refine⟨Ok,rfl,I3.bare,Un.kept keep4,⟨_,hns₁,fun i y v e1 e2 e3=>?_⟩,fun y c e=>?_,hCn,fun y c e=>?_,fun p hp=>?_,I3.hok.kept keep4,?_⟩
  ·have e1':(xs++fr)[i]? = some y:=e1
   by_cases hix:i<xs.length
   ·rw[List.getElem?_append_left (by simpa using hix)]at e2
    simp[hix]at e2
   ·obtain⟨i,rfl⟩:∃i',i=xs.length+i':=⟨i-xs.length,by lia⟩
    rw[List.getElem?_append_right (by lia)]at e1';rw[List.getElem?_append_right (by simp)]at e2;have e1':fr[i]? = some y:=by simpa using e1'
    have e2:(ks.map fun k=>(σ[k]?).join)[i]? = some (some v):=by simpa using e2
    have hy:y∈fr:=oH e1';have ek:(ks.map (fun k=>X.N[k]?))[i]? = (fr.map some)[i]?:=by rw[hks]
    rw[List.getElem?_map,List.getElem?_map,e1']at ek;have e2':=e2;rw[List.getElem?_map]at e2';cases hk:ks[i]? with
    |none=>rw[hk]at ek;cases ek
    |some k=>
     rw[hk]at ek e2';have ek':X.N[k]? = some y:=by simpa using ek
     have e2'':(σ[k]?).join=some v:=by simpa using e2'
     have es:σ[k]? = some (some v):=by
      cases q:σ[k]? with
      |none=>rw[q]at e2'';cases e2''
      |some z=>rw[q]at e2'';rw[show z=some v from e2'']
     obtain⟨m,hn,hl⟩:=I3.loc;have hkd:=S.kinds y hy;obtain⟨u,r,lk⟩:=hl k y v ek' es (by rcases hkd with q|q;exact .inr (.inl q);exact .inr (.inr q));refine⟨u,r,.inr ⟨S.kin y hy,?_⟩⟩;rcases lk with ⟨q,_⟩|⟨_,c,ec,hcell⟩
     ·rcases hkd with z|z <;> (rw[q]at z;cases z)
     ·obtain⟨o,ho,hd⟩:=hcell
      exact⟨c,(S.cell _ y hy).trans ec,o,keep4 _ _ ho,hd⟩
  ·rcases hsub y c e with q|⟨_,_,q⟩
   ·obtain⟨v,o,ho,hd⟩:=I3.cell y c q
    exact⟨v,o,keep4 _ _ ho,hd⟩
   ·exact⟨_,q⟩
  ·rcases hsub y c e with q|⟨_,l,_⟩
   ·exact I3.freeC y c q
   ·exact I3.hok.fresh (Zh l)
  ·have hp':p∈X.pn++pins:=by simpa [bR,dO] using hp
   obtain⟨a1,a2,a3,a4,a5⟩:=I3.pin p hp';refine⟨keep4 _ _ a1,a2,o6 (xQ a1),fun z=>?_,a5⟩;rcases zv.mp (I3.stkSub p.1 z) with q|q
   ·exact a3 q
   ·exact a4 q
  ·show((xs.map fun _=>none)++ks.map _).length=(xs++fr).length
   have:=congrArg mF hks;simp at this;simp[this]
 have st4:tn 0 h₁:=T.keep 0 _ _ st2 fun b hb o e=>keep4 _ _ (up3 _ _ e);have stat:∀ {H':Hp},(∀b∈fp,H' b=none)->∀b∈fp,gb (bR X (xs++fr) scope (cl2 g3.objs.size) fnc g3.objs.size { s2 with heap:=g3 } (upd H2 s2.heap.objs.size (.lst [])) fp (X.pn++pins)) [] H' b:=fun hn b hb=>
  ⟨hn b hb,fpC b hb,Ok.exfs b hb,.inl hb,cfp b hb,fun p hp=>(f2 b hb).2.2.2.2.2 p (by simpa [bR,dO] using hp)⟩
 have loop:codeAny (model X.prog X.w) X.A (.compLoop (.ListComp elt [⟨tg,iter,ifs,0⟩] scope pos) 0 (.ref it) (.ref s2.heap.objs.size) (compEnvC scope (cl2 g3.objs.size) g3.objs.size X.env))
  (compPost (model X.prog X.w) X.A X.xe use Qp (.ref s2.heap.objs.size) g3.objs.size) { s2 with heap:=h₁,toks:=t₁ }:=by
  refine iy (fun n s'=>∃i ys σ' H',Inv (bR X (xs++fr) scope (cl2 g3.objs.size) fnc g3.objs.size { s2 with heap:=g3 } (upd H2 s2.heap.objs.size (.lst [])) fp (X.pn++pins)) [] σ' H' s'/\(∃zs,zs.length=xs.length/\σ'=zs++ks.map fun k=>(σ[k]?).join)/\tn i s'.heap/\(∀b∈fp,H' b=none)/\W i n ys H') ?_ m0
   ⟨0,[],_,_,I4,⟨xs.map fun _=>none,by simp,rfl⟩,st4,fpN,w0⟩
  rintro n s' ⟨i,ys,σ',H',I5,⟨zs,hzs,rfl⟩,st5,fr5,w5⟩;obtain⟨hD,hor⟩:=turn i n ys H' w5;rcases hor with ⟨stop,qn⟩|⟨go,step⟩
  ·refine tu (T.done (bR X (xs++fr) scope (cl2 g3.objs.size) fnc g3.objs.size { s2 with heap:=g3 } (upd H2 s2.heap.objs.size (.lst [])) fp (X.pn++pins)) rfl rfl rfl (hc _ _ _ _ _) i [] s' _ H' (fun _ _=>False) I5 (stat fr5) st5 stop) (fun r s6 hq_=>?_) (fun _ _ f=>f.elim)
   obtain⟨hr,I6⟩:=hq_;subst hr;obtain⟨mC,hnC,_⟩:=I6.loc;have tr:∀b o,b≠g3.objs.size->s6.heap.get? b=some o->s6.heap.get? b=some o:=fun b o hb e=>e;have U:=I6.base;have neC:∀b o,g3.get? b=some o->b≠g3.objs.size:=fun b o e=>o6 (xQ e);have U':Un (frs X.stack) fp (upd H2 s2.heap.objs.size (.lst [])) H' g3 s6.heap:=⟨fun b o q n hb hx=>tr b o (neC b o q) (U.keep b o q n hb hx),fun b o q n hb hx=>let ⟨sl,e⟩:=U.slot b o q n hb hx;⟨sl,tr _ _ (neC b o q) e⟩,U.free,fun b o q hx=>let ⟨o',e⟩:=U.there b o q hx;⟨o',tr _ _ (neC b o q) e⟩,U.tups,U.frzs,U.tbls⟩;have ok':HOk X.prog X.w H' s6.heap:=fun a o e=>(I6.hok a o e).stay (fun b u hb q=>tr b u (fun z=>by
    have fC:H' g3.objs.size=none:=I6.free;rcases hb with r|r
    ·rw[<- z,r,e]at fC;cases fC
    ·rw[<- z,r]at fC;cases fC) q) (fun _ q=>q) fun _ _ q=>q
   have J6:Inv X pins σ H' s6:=I3.call' (s':=s6) (ch:=fp) I6.os U' ok' I6.bare fun b hb=>⟨(f2 b hb).2.2.2.1,(f2 b hb).2.1,(f2 b hb).2.2.2.2.1,(f2 b hb).2.2.2.2.2⟩;exact hend s2.heap.objs.size g3.objs.size H' s6 mC _ J6 (I3.fpOk (xi _) I6.free) hnC qn
  ·refine tu (T.item (bR X (xs++fr) scope (cl2 g3.objs.size) fnc g3.objs.size { s2 with heap:=g3 } (upd H2 s2.heap.objs.size (.lst [])) fp (X.pn++pins)) rfl rfl rfl (hc _ _ _ _ _) i [] s' _ H' (fun _ _=>False) I5 (stat fr5) st5 go) (fun r s6 hq_=>?_) (fun _ _ f=>f.elim)
   obtain⟨u,hr,h6⟩:=hq_;subst hr;refine tu h6 (fun _ s7 hq_=>?_) (fun _ _ f=>f.elim);obtain⟨xv,H7,I7,r7,y7,st7,fr7⟩:=hq_;have I7':=I7.pinned (stat fr7) (T.obj _ _ st7);have pinsTo:∀ {σ9:St} {H9:Hp} {s9:Shared},Inv (bR X (xs++fr) scope (cl2 g3.objs.size) fnc g3.objs.size { s2 with heap:=g3 } (upd H2 s2.heap.objs.size (.lst [])) fp (X.pn++pins)) ([]++iW fp s7.heap) σ9 H9 s9->tn (i+1) s9.heap/\∀b∈fp,H9 b=none:=fun {σ9 H9 s9} I9=>
    ⟨T.keep _ _ _ st7 fun b hb o e=>(I9.pin (b,o) (uj _ (uj _ (cZ hb e)))).1,fun b hb=>by
     obtain⟨o,e,d⟩:=T.obj _ _ st7 b hb;exact(I9.pin (b,o) (uj _ (uj _ (cZ hb e)))).2.1⟩
   refine tu (hg _ _ _ _ _ _ s7 _ H7 xv u _ I7' r7 (step xv H7 y7 zs hzs)) (fun _ s8 hq_=>?_) (fun _ _ f=>f.elim);obtain⟨σ8,H8,I8,⟨zs4,hz4,e8⟩,q8⟩:=hq_;subst e8;refine tu (ht _ _ _ _ _ _ s8 _ H8 _ I8 q8) (fun ok s9 hq_=>?_) (fun _ _ f=>f.elim);obtain⟨H9,I9,q9⟩:=hq_;cases ok with
   |false=>
    rw[if_neg vy]at q9 |-
    obtain⟨m',hm,w9⟩:=q9;obtain⟨t9,f9⟩:=pinsTo I9;exact⟨m',hm,i+1,ys,_,H9,I9.unpinned,⟨zs4,hz4,rfl⟩,t9,f9,w9⟩
   |true=>
    rw[if_pos rfl]at q9 |-
    refine tu (he _ _ _ _ _ _ s9 _ H9 _ I9 q9) (fun yv s10 hq_=>?_) (fun _ _ f=>f.elim);obtain⟨y,H10,I10,r10,hD10,hlen,m',hm,w10⟩:=hq_;refine tu (bP (X:=bR X (xs++fr) scope (cl2 g3.objs.size) fnc g3.objs.size { s2 with heap:=g3 } (upd H2 s2.heap.objs.size (.lst [])) fp (X.pn++pins)) _ s10 _ H10 (.ref s2.heap.objs.size) [y] (.ref s2.heap.objs.size) [yv]
     (fun _ H'=>H'=upd H10 s2.heap.objs.size (.lst (ys++[y]))) I10 rfl (.cons r10 .nil) ⟨_,ys,y,rfl,rfl,hD10,hlen,rfl⟩) (fun _ s11 ⟨_,H11,I11,_,e11⟩=>?_) (fun _ _ f=>f.elim)
    subst e11;obtain⟨t11,f11⟩:=pinsTo I11;exact⟨m',hm,i+1,ys++[y],_,_,I11.unpinned,⟨zs4,hz4,rfl⟩,t11,f11,w10⟩
 exact codeAny_compStart_list loop (T.self X.A 0 _ _ _ st4 loop)
theorem CompScope.cs(S:CompScope X scope cl x fr):fW X scope cl (fun _=>cl) (fun _=>false) fr:=
 ⟨S.clos,S.kind,S.names,fun M A E Q s k=>wpAny_newFunctionEnv S.nocell (by intro y hy;simp at hy) (fun h₁ hn hs=>k h₁ _ _ hn (fun b o e=>(hs.2 b (o6 (xQ e))).trans (Heap.get?_push_of_some _ e)) fun _ _ z=>nomatch z) S.kind,
  fun _ y hy=>.inl (S.only y hy),fun _ _ _ e _=>S.sub e,fun _ _ h=>S.cell h,(fun _ _ _ _ z=>nomatch z),S.kinds,S.kin⟩
theorem bG(hc:X.calm=true)(S:CompScope X scope cl x fr)
 (hks:ks.map (fun k=>X.N[k]?)=fr.map some) (hi:PI X tg iter wi) (hg:∀C s₂ H₂ ex pn,PG (dO X (xs++fr) scope cl C s₂ H₂ ex pn) tg g)
 (ht:∀C s₂ H₂ ex pn,PTs (dO X (xs++fr) scope cl C s₂ H₂ ex pn) ifs tt) (he:∀C s₂ H₂ ex pn,PE (dO X (xs++fr) scope cl C s₂ H₂ ex pn) elt te)
 (hs:∀x,ZR iter X.env x=pure x:=by intro _;rfl):PE X (.ListComp elt [⟨tg,iter,ifs,0⟩] scope pos) (cQ wi xs.length g ks tt te):=by
 intro pins s σ H Q I h;rw[eval_ListComp];refine nE (gd:=fun X=>X.calm=true) (cl2:=fun _=>cl) (fnc:=fun _=>false) (fun _ _ _ _ _=>hc) S.cs hks (nZ hi) hg ht he hs I h none _ fun D C H' s' mC f J fp hn q=>⟨mC,hn,fun h' sb=>?_⟩;obtain⟨f0,f1,f2,f3,f4,f5⟩:=fp;exact⟨.ref D,H',J.turned (t':=s'.toks) (fun b o hb e=>(sb.2 b hb).trans e) f0 f1 f3 f4 f5,rfl,q⟩
theorem wm(hN:X.N.Nodup)(hi0:X.N[i0]? = some x0)(hx0:Loc X.env.scope x0)(hc:X.calm=true)(S:fW X scope cl cl2 fnc fr)
 (hks:ks.map (fun k=>X.N[k]?)=fr.map some) (hi:PI X tg iter wi) (hg:∀C s₂ H₂ ex pn,PG (bR X (xs++fr) scope (cl2 C) fnc C s₂ H₂ ex pn) tg g)
 (ht:∀C s₂ H₂ ex pn,PTs (bR X (xs++fr) scope (cl2 C) fnc C s₂ H₂ ex pn) ifs tt) (he:∀C s₂ H₂ ex pn,PE (bR X (xs++fr) scope (cl2 C) fnc C s₂ H₂ ex pn) elt te)
 (hs:∀x,ZR iter X.env x=pure x:=by intro _;rfl)
 (hsw:swapsWith (.ListComp elt [⟨tg,iter,ifs,0⟩] scope pos) (some (.Name x0 px0)) pos0.line X.env=pure true:=by rfl) (hf:X.fn x0=true\/X.env.scope.names.lookup x0=some .local:=by first|exact .inl rfl|exact .inr rfl|assumption) :
 PS X (.Assign [.Name x0 px0] (.ListComp elt [⟨tg,iter,ifs,0⟩] scope pos) pos0) (vm (cQ wi xs.length g ks tt te) (dU i0)):=by
 intro pins s σ H D I h;rw[exec_Assign_Name_used _ _ _ _ hsw];refine zz (ZU (zz (zz ?_)));refine nE (gd:=fun X=>X.calm=true) (fun _ _ _ _ _=>hc) S hks (nZ hi) hg ht he hs I h (some (assign (.Name x0 px0) X.env)) _ fun D' C H' s' mC f J fp hn q=>?_;obtain⟨f0,f1,f2,f3,f4,f5⟩:=fp;refine wpAny_assign_Name (ng J hN hi0 hx0 (v:=.ref D') rfl (fun s7 I7 hq_=>?_) hf);obtain⟨a,sb,ha⟩:=hq_;have hCa:C≠a:=by
  rcases ha with e|e
  ·rw[e];exact f1
  ·exact fun z=>f4 _ _ e z.symm
 refine⟨mC,hn.sameBut sb hCa,fun h' sb2=>?_⟩;have J2:=I7.turned (t':=s7.toks) (fun b o hb e=>(sb2.2 b hb).trans e) f0 f1 f3 f4 f5;exact xJ (xJ ⟨_,H',J2,q⟩)
theorem rC(hN:X.N.Nodup)(hi0:X.N[i0]? = some x0)(hx0:Loc X.env.scope x0)(hc:X.calm=true)(S:CompScope X scope cl x fr)
 (hks:ks.map (fun k=>X.N[k]?)=fr.map some) (hi:PI X tg iter wi) (hg:∀C s₂ H₂ ex pn,PG (dO X (xs++fr) scope cl C s₂ H₂ ex pn) tg g)
 (ht:∀C s₂ H₂ ex pn,PTs (dO X (xs++fr) scope cl C s₂ H₂ ex pn) ifs tt) (he:∀C s₂ H₂ ex pn,PE (dO X (xs++fr) scope cl C s₂ H₂ ex pn) elt te)
 (hs:∀x,ZR iter X.env x=pure x:=by intro _;rfl)
 (hsw:swapsWith (.ListComp elt [⟨tg,iter,ifs,0⟩] scope pos) (some (.Name x0 px0)) pos0.line X.env=pure true:=by rfl) (hf:X.fn x0=true\/X.env.scope.names.lookup x0=some .local:=by first|exact .inl rfl|exact .inr rfl|assumption) :
 PS X (.Assign [.Name x0 px0] (.ListComp elt [⟨tg,iter,ifs,0⟩] scope pos) pos0) (vm (cQ wi xs.length g ks tt te) (dU i0)):=wm (cl2:=fun _=>cl) (fnc:=fun _=>false) hN hi0 hx0 hc S.cs hks hi hg ht he hs hsw hf
end L2
namespace L2
open PySem PySem.Spec PyProof.Rows Builtin Builtin.Str
section
variable{prog:Program}{w:World}{A:Around}{E:Value->Shared->Prop}{s:Shared}{t:Addr}
theorem vC(hh:A.handled=none)(ht:s.heap.IsList t (intItems xs))
 (h:∀h' tk t',(∀b o,s.heap.get? b=some o->h'.get? b=some o)->Q (.int (preSum (numAt xs) xs.size) t') { s with heap:=h',toks:=tk }) :
 wpAny (model prog w) A (call (.builtin "sum") [.ref t]) Q E s:=by
 obtain⟨o,ho,hc,n,hd⟩:=id ht;have hne:t≠s.heap.objs.size:=o6 (xQ ho);have hsz:(intItems xs).size=xs.size:=by simp[intItems]
 have W:=(Walks.list (prog:=prog) (w:=w) (A:=A.in1) hh s.heap.objs.size t hne (intItems xs)).toS;rw[hsz]at W;refine call_sum_walkAnyS (wpAny_pyIter_list ht ?_);refine⟨s.heap.objs.size,_,_,_,_,_,_,numAt xs,rfl,W,⟨⟨_,Heap.get?_push_size _ rfl,rfl,rfl⟩,ht.at fun o e=>Heap.get?_push_of_some _ e⟩,fun b hb=>?_,fun i v hP=>intItems_at hP,fun s' t' hm=>?_⟩
 ·rcases zv.mp hb with rfl|hb
  ·exact xQ (Heap.get?_push_size _ rfl)
  ·obtain rfl:=uH.mp hb
   exact xQ (Heap.get?_push_of_some _ ho)
 ·obtain⟨h',g',d',tk',os'⟩:=s'
  have e1:g'=s.gens:=hm.gens;have e2:d'=s.drawn:=hm.drawn;have e3:os'=s.os:=hm.os;subst e1 e2 e3;exact h h' tk' t' fun b o e=>hm.heap b o (fun hb=>absurd (xQ e) ((uH.mp hb) ▸ Zv _)) (Heap.get?_push_of_some _ e)
end
section
variable{X:Cx}{e a b c:Expr}{pos:Pos}
def Cs(K:W.Frag):List V->Hp->VK->Prop
 | [.ref p],H,Q=>∃ns:List Int,(SqL K H p (ns.map V.int)\/SqT K H p (ns.map V.int))/\Q (.int ns.sum) H
 |_,_,_=>False
theorem zm(K:W.Frag)(hc:X.calm=true)(hK:X.K=K:=by rfl):CallR X (.builtin "sum") (Cs K):=by
 subst hK;intro pins s σ H xs us Q I r h;rcases xs with _|⟨e_1,r_1⟩
 ·exact(id h:False).elim
 cases e_1 with
 |ref p=>
  cases r_1 with
  |nil=>
   obtain⟨ns,hq,q⟩:=h;rcases hq with hq|hq
   ·obtain⟨u,rfl,rx⟩:=dq r
    cases (show u=qr p from rx);obtain⟨its,r',pl,hz⟩:=I.list hq;have hi:=lD r';obtain⟨ys,hy⟩:=hi.allInts.items;have hn:numsOf its.toArray.toList=ns:=by rw[show its.toArray.toList=its from rfl,hi.numsOf]
    have pl':=pl.isList;rw[hy]at pl' hn;rw[nums_intItems]at hn;refine vC (I.ok.hd hc) pl' fun h' tk t' hk=>?_;rw[preSum_eq,vL (by simp),hn];exact⟨.int ns.sum,H,I.kept hk,⟨_,rfl⟩,q⟩
   ·exact nU hc pins s σ H _ us Q I r ⟨p,ns,rfl,hq,q⟩
  |cons=>exact(id h:False).elim
 |_=>exact(id h:False).elim
def Bi(K:W.Frag)(neg:Bool):R2
 |x,.ref p,H,Q=>∃xs,(SqL K H p xs\/SqT K H p xs)/\cD x=true/\xs.all cD=true/\Q (.bl (neg ^^ inV x xs)) H
 |_,_,_,_=>False
theorem jo(K:W.Frag)(hK:X.K=K:=by rfl):OpR X (pU .In) (Bi K false):=by
 subst hK;refine vi.imp fun x y H Q h=>?_;cases y with
 |ref v_1=>
  obtain⟨xs,h1,h2,h3,q⟩:=h;exact⟨_,xs,rfl,h1,h2,h3,by simpa using q⟩
 |_=>exact(id h:False).elim
theorem jk(K:W.Frag)(hK:X.K=K:=by rfl):OpR X (pU .NotIn) (Bi K true):=by
 subst hK;refine oj.imp fun x y H Q h=>?_;cases y with
 |ref v_1=>
  obtain⟨xs,h1,h2,h3,q⟩:=h;exact⟨_,xs,rfl,h1,h2,h3,by simpa using q⟩
 |_=>exact(id h:False).elim
def Aq:R2
 | .str x,.int n,H,Q=>((cs x).length<=1000/\0<=n/\n<=100)/\Q (T ((nY n.toNat (cs x)).flatten)) H
 |_,_,_,_=>False
def rdG:=xp @Cy.eq_1 (xp @Am.eq_1 (xp @yc.eq_1 (xp @AH.eq_1 (xp @xF.eq_1 (xp @xy.eq_1 (xp @wy.eq_1 (xp @wZ.eq_1 (xp @vS.eq_1 (xp @Ak.eq_1 (xp @Cs.eq_1 (xp @Aq.eq_1 (xp @CO.eq_1 @vV.eq_1))))))))))))
end
end L2
namespace L2
theorem cT{l:List Yn}(h:l.Nodup):l.Nodup:=h
def sp5(f:V->V->V->V->V->Hp->VK->XK->Prop):Sp:=fun vs H Q E=>match vs with
 | [x,y,z,u,v]=>f x y z u v H Q E
 |_=>False
end L2
namespace L2
open PySem PySem.Spec PyProof.Rows
structure EI(k:Nat)(A:Around):Prop where
 dp:A.depth+3*k+5<recursionLimit
 un:A.units+16*k+200<cLine
section
variable{prog:Program}{w:World}{A:Around}{E:Value->Shared->Prop}{s:Shared}
theorem md:entryFor table "proto.unchain" = some Builtin.«proto.unchain»:=entryFor_of_fast (by kernel_rfl)
end
noncomputable abbrev y_:List Value:=[.type "ValueError",.type "Exception",.type "BaseException",.type "object"]
noncomputable def Bb:List Value->Bool
 | .ref _::r=>Bb r
 |l=>l==y_
section
variable{prog:Program}{w:World}{A:Around}{E:Value->Shared->Prop}{h:Heap}{g:Array GenState}{d:Drawn}{t:Nat}{os:OsState}
variable{nm q:Str}{C N:Addr}{bs bm bmB:List Value}{hdct:Bool}{sn:List Str}{sub:List Value}{ab:Bool}{col:Option Bool}{dd:Option Addr}{k0 k1 k2 k3 k5:Option Value}{B newId initId:String}
noncomputable def EO(h:Heap)(C:Addr)(rest:List Value):Heap:=(h.push { cls:=.type "tuple",data:=.seq rest.toArray }).push { cls:=.ref C,data:=.fields #[.ref h.objs.size,.none,.none,.none,.bool false,.none] }
end
end L2
namespace L2
open PySem PyProof.Rows
def DfN(K:W.Frag)(mg:Str->Option Value)(x:Str)(st:Stmt):Prop:=∃f fd,mg x=some (.ref f)/\Fun K x x st f fd
def DfM(K:W.Frag)(C:Addr)(m q:Str)(st:Stmt):Prop:=∃f fd,Dl K C m f/\Fun K m q st f fd
def Fo(P:Program)(w:World)(K:W.Frag)(mg:Str->Option Value)(base:Heap)(x:Str)(k:Nat)(sp:Sp):Prop:=
 ∃f fd ps,mg x=some (.ref f)/\ZF K (.ref f)=true/\Binds K fd ps []/\FnOk P w K mg base (XE P w) k f fd ps sp
def Mo(P:Program)(w:World)(K:W.Frag)(mg:Str->Option Value)(base:Heap)(C:Addr)(m:Str)(k:Nat)(sp:Sp):Prop:=
 ∃f fd ps,Dl K C m f/\Binds K fd ps []/\FnOk P w K mg base (XE P w) k f fd ps sp
section
variable{P:Program}{w:World}{K:W.Frag}{mg:Str->Option Value}{base:Heap}{x m qual:Str}{st:Stmt}{C:Addr}{N:List Str}{n k:Nat}{sp:Sp}
def yN(x qual:Str)(st:Stmt)(ps:List Str):Prop:=∀(kV doc pm:Value) (an:Option Addr) (cdv ct:Value) (us:List Value),us.length=ps.length->bindArgs (Z4 x qual (eP st) (aQ st) (au st) .none kV doc pm an cdv ct) ⟨us,[]⟩=pure (ps.zip us)
section
variable(P:Program)(w:World)(K:W.Frag)(mg:Str->Option Value)(base:Heap)(N:List Str)(qual:Str)(st:Stmt)(k:Nat)
def Ab(sp:Sp):Prop:=
 ∀(f:Addr) (cdv:Value) (A:Around) (outer:List Env) (s:Shared) (H:Hp) (vs:List V) (Q:VK) (E:XK),N.Nodup->(A.deeper (envOfC qual (au st) s.heap.objs.size f cdv)).units+100<cLine->Room k (A.deeper (envOfC qual (au st) s.heap.objs.size f cdv))->sp vs H Q E ->
  NoT H/\∃t,PSs (bE (XE P w) P w K mg base N qual (au st) f cdv A outer s H (gcE H E)) (aQ st) t/\t { nx:=fun _ H'=>∃G,Gc H G H'/\Q .non G,rt:=fun v H'=>∃G,Gc H G H'/\Q v G } (dC N vs) H
def AK(sp:Sp):Prop:=
 ∀(f:Addr) (cdv:Value) (A:Around) (outer:List Env) (s:Shared) (H:Hp) (vs:List V) (Q:VK) (E:XK),N.Nodup->(A.deeper (envOfC qual (au st) s.heap.objs.size f cdv)).units+100<cLine->Room k (A.deeper (envOfC qual (au st) s.heap.objs.size f cdv))->sp vs H Q E ->
  ∃t,PSs (bE (XE P w) P w K mg base N qual (au st) f cdv A outer s H E) (aQ st) t/\t { nx:=fun _ H'=>Q .non H',rt:=Q } (dC N vs) H
end
theorem DfN.okG(F:DfN K mg x st)(N:List Str)(n:Nat)(S:dz N (N.take n) (au st))(b:yN x x st (N.take n))(len:∀vs H Q E,sp vs H Q E->vs.length=(N.take n).length)
 (h:Ab P w K mg base N x st k sp):Fo P w K mg base x (k+1) sp:=by
 obtain⟨f,fd,m,F⟩:=F;exact⟨f,fd,_,m,F.kp,F.binds b,F.okG S len fun cdv A outer s H vs Q E hr hs=>h f cdv A outer s H vs Q E S.nd (kQ hr) hr hs⟩
theorem DfN.okX(F:DfN K mg x st)(N:List Str)(n:Nat)(S:dz N (N.take n) (au st))(b:yN x x st (N.take n))(len:∀vs H Q E,sp vs H Q E->vs.length=(N.take n).length)
 (h:AK P w K mg base N x st k sp):Fo P w K mg base x (k+1) sp:=by
 obtain⟨f,fd,m,F⟩:=F;exact⟨f,fd,_,m,F.kp,F.binds b,F.okX S len fun cdv A outer s H vs Q E hr hs=>h f cdv A outer s H vs Q E S.nd (kQ hr) hr hs⟩
end
section
variable{X:Cx}{k:Nat}{C:Addr}{sp:Sp}{E:XKs}{x m:Str}{p pos apos:Pos}{e o:Expr}{es:List Expr}{ta:TE}{t:TA}
theorem CP(F:Fo X.prog X.w X.K X.mg X.base x k sp)(hr:Room k X.A)(hg:Gl X x)(hx:bp (XE X.prog X.w) X E)
 (ha:PA X (e::es) t) (hdb:(x==("__debug__":Str))=false:=by decide) (he:starEach (e::es) X.env=(false,eval e X.env)::starEach es X.env:=by rfl) (hpl:(backTo pos (starEach es X.env)).any (·.1)=false:=by rfl) :
 PE X (.Call (.Name x p) (e::es) [] pos) (iV sp [] E t):=by
 obtain⟨f,fd,ps,m,kp,b,F⟩:=F;exact wq F hr hg m kp b .nil hx ha hdb he hpl
theorem eM(F:Fo X.prog X.w X.K X.mg X.base x k sp)(hr:Room k X.A)(hg:Gl X x)(hx:bp (XE X.prog X.w) X E)
 (hdb:(x==("__debug__":Str))=false:=by decide):PE X (.Call (.Name x p) [] [] pos) (iV sp [] E lG):=by
 obtain⟨f,fd,ps,m,kp,b,F⟩:=F;exact vE F hr hg m kp b .nil hx hdb
end
end L2
namespace L2
open PySem PySem.Spec PyProof.Rows
noncomputable def su(lo d:Int)(n:Nat):It:=⟨fun i _=>i<n,fun i H x H'=>H'=H/\x = .int (lo+i*d),fun i _=>n<=i⟩
theorem pN{P:Program}{w:World}{K:W.Frag}{tg:Expr}(it:Addr)(lo d:Int)(n:Nat):ra P w K tg (su lo d n) [it] it (fun i h=>IsRangeIter h it (lo+(i:Nat)*d) ((n:Int)-(i:Nat)) d) where
 mem:=by simp
 obj:=fun i h st b hb=>by
  have e:b=it:=by simpa using hb
  subst e;exact⟨_,st,fun v z=>by
   have z':Data.fields _=Data.cell v:=z;cases z'⟩
 keep:=fun i h h' st k=>k it (by simp) _ st
 item:=by
  intro X hP hw hK hc i pins s σ H E I hf st hg;subst hP hw hK;obtain⟨f0,f1,f2,f3,f4,f5⟩:=hf it (by simp);have W:=Walks.range (prog:=X.prog) (w:=X.w) (I.ok.hd hc) it lo d n;refine W.item i s _ _ hg st fun v h' tk hv st' kk=>?_;obtain⟨t,rfl⟩:=hv;have I1:Inv X pins σ H { s with heap:=h',toks:=tk }:=I.turned (fun b o hb e=>kk b o (by simpa using hb) e) f0 f1 f3 f4 f5;exact⟨_,rfl,k_ (s:={ s with heap:=h',toks:=tk }) (n:="range_iterator") st' rfl rfl (by decide) ⟨.int (lo+i*d),H,I1,⟨t,rfl⟩,⟨rfl,rfl⟩,st',fun b hb=>(hf b hb).1⟩⟩
 done:=by
  intro X hP hw hK hc i pins s σ H E I hf st hg;subst hP hw hK;obtain⟨f0,f1,f2,f3,f4,f5⟩:=hf it (by simp);exact wpAny_pyNext_range_end (I.ok.hd hc) st (by have:n<=i:=hg;lia) fun h' eb=>⟨rfl,I.turned (t':=s.toks) (fun b o hb e=>eb b o hb e) f0 f1 f3 f4 f5⟩
 self:=fun _ _ _ _ _ st h=>wpAny_pyIter_rangeiter st h
section
variable{X:Cx}{tg:Expr}
noncomputable def rsz(i j c:Int):Nat:=if i<j then ((j-i-1) / c+1).toNat else 0
end
end L2
namespace L2
theorem ex1(hl:us.length=1):∃a0,us=[a0]:=by
 cases us with
 |nil=>cases hl
 |cons a r=>exact⟨a,by rw[List.eq_nil_of_length_eq_zero (Nat.succ.inj hl)]⟩
theorem ex2(hl:us.length=2):∃a0 a1,us=[a0,a1]:=by
 cases us with
 |nil=>cases hl
 |cons a r=>
  obtain⟨a1,e⟩:=ex1 (Nat.succ.inj hl);exact⟨a,a1,by rw[e]⟩
theorem ex3(hl:us.length=3):∃a0 a1 a2,us=[a0,a1,a2]:=by
 cases us with
 |nil=>cases hl
 |cons a r=>
  obtain⟨a1,a2,e⟩:=ex2 (Nat.succ.inj hl);exact⟨a,a1,a2,by rw[e]⟩
end L2
namespace L2
open Lean Meta Simp
def B6:List Name:=[`L2.AY,`L2.tC,`L2.tOp,`L2.tUn,`L2.gEqN,`L2.mW,`L2.sV,`L2.CV,`L2.fOr,`L2.D2,`L2.wE,`L2.fPickT,`L2.DV,`L2.Du,`L2.DC,`L2.tRetN,`L2.Ae,`L2.Ao,`L2.vm,`L2.dU,`L2.tIf,`L2.CW,`L2.tOr,`L2.D7,`L2.cS,`L2.lG,`L2.tCB,`L2.iV,`L2.C6,`L2.D6,`L2.Dg,`L2.tNotN,`L2.tIsB,`L2.AC,`L2.tS,`L2.tSl,`L2.cs,`L2.BK,`L2.CMul,`L2.Co,`L2.sU,`L2.DL,`L2.gcE,`L2.D5,`L2.tGc,`L2.tBM,`L2.Ap,`L2.qI,`L2.vW,`L2.ul,`L2.zt,`L2.ua,`L2.Bn,`L2.Dm,`L2.Aj,`L2.Am,`L2.AH,`L2.xy,`L2.wy,`L2.wZ,`L2.vS,`L2.Ak,`L2.CO,`L2.vV]
def AW:List Name:=[`L2.De,`L2.gI,`L2.gIC,`L2.Dc,`L2.gLe,`L2.gLt,`L2.eqS,`L2.kB,`L2.Ep,`L2.gMin,`L2.gMax,`L2.B0,`L2.zQ,`L2.gInt,`L2.gIx,`L2.sp0,`L2.sp1,`L2.sp2,`L2.sp3,`L2.sp4,`L2.asI,`L2.asT,`L2.asB,`L2.asR,`L2.tyV,`L2.gSt,`L2.gEn,`L2.gZf,`L2.CQ,`L2.wV,`L2.gIn,`L2.gSl,`L2.El,`L2.AG,`L2.Bk,`L2.gRep,`L2.gRepT,`L2.gIsiT,`L2.C2,`L2.vX,`L2.Do,`L2.DM,`L2.Cy,`L2.yc,`L2.xF,`L2.Cs,`L2.Aq]
def rdI:=xp @L2.zK (xp @L2.Eo (xp @L2.V.bl.injEq (xp @L2.V.str.injEq (xp @L2.vq (xp @L2.D0 (xp @L2.Cg (xp @L2.BO (xp @L2.BQ (xp @L2.A9 (xp @L2.j5 (xp @L2.qY (xp @L2.sI (xp @L2.sf (xp @L2.pZ (xp @L2.oz (xp @L2.ql (xp @L2.zW (xp @L2.jx (xp @L2.nM (xp @L2.rF (xp @L2.rp (xp @L2.nP (xp @L2.mH (xp @L2.nL (xp @L2.By (xp @L2.ke (xp @L2.pL (xp @L2.sk (xp @L2.sr (xp @L2.qb (xp @L2.oM (xp @L2.rq (xp @L2.yW (xp @L2.jd (xp @L2.pf (xp @L2.p8 (xp @L2.p6 (xp @L2.nX (xp @L2.mf (xp @L2.oS (xp @L2.xP (xp @L2.ic (xp @L2.ma (xp @L2.oF (xp @L2.oQ (xp @L2.mn (xp @L2.lK (xp @L2.mJ (xp @L2.z_ (xp @L2.i5 (xp @L2.oI (xp @L2.pH (xp @L2.qe (xp @L2.oA (xp @L2.ml (xp @L2.ox (xp @L2.CZ (xp @L2.A7 (xp @L2.AQ (xp @L2.AZ (xp @L2.zY (xp @L2.B4 (xp @L2.zE (xp @L2.zX (xp @L2.y9 (xp @L2.yQ (xp @L2.Bd (xp @L2.zV (xp @L2.zM (xp @L2.yO (xp @true_and (xp @and_true (xp @and_self (xp @true_or (xp @or_true (xp @decide_eq_true_eq (xp @Bool.true_eq_false (xp @Bool.false_xor (xp @Bool.true_xor (xp @Bool.not_true (xp @Bool.not_false (xp @Bool.false_eq_true (xp @Bool.not_eq_true' (xp @decide_eq_false_iff_not @Classical.not_not))))))))))))))))))))))))))))))))))))))))))))))))))))))))))))))))))))))))))))))))))))
end L2
namespace L2
namespace Srt
open PySem PyProof.Rows
noncomputable def kv(κ:Keyed->Int)(xs:Array Keyed)(i:Nat):Int:=(xs[i]?.map κ).getD 0
def Up(κ:Keyed->Int)(xs:Array Keyed)(k:Nat):Prop:=∀i j,i<=j->j<k->kv κ xs i<=kv κ xs j
def Dn(κ:Keyed->Int)(xs:Array Keyed)(k:Nat):Prop:=∀i j,i<=j->j<k->kv κ xs j<=kv κ xs i
structure SB(kd:SortKind)(z:Array Keyed)(t:SortSt):Prop where
 pm:(arrOf t).Perm z
 kn:kindOf t=kd
 fl:failedOf t=none
 pn:pendingOf t = #[]
section
variable{prog:Program}{w:World}{A:Around}{E:Value->Shared->Prop}{s:Shared}{z:Array Keyed}{κ:Keyed->Int}{kd:SortKind}{t:SortSt}
def Lts(prog:Program)(w:World)(A:Around)(s:Shared)(kd:SortKind)(κ:Keyed->Int)(z:Array Keyed):Prop:=
 ∀(E:Value->Shared->Prop) (p q:Keyed) (Q:Bool->Shared->Prop),p∈z.toList->q∈z.toList->Q (decide (κ p<κ q)) s->wpAny (model prog w) A (keyLt' kd p.1 q.1) Q E s
def Dx(κ:Keyed->Int)(z:Array Keyed):Prop:=(z.toList.map κ).Nodup
end
end Srt
namespace Srt
open PySem PyProof.Rows
def Two(h:Heap)(p:Addr)(x y:Int):Prop:=∃(o:Obj) (t u:Tok) (n:Nat),h.get? p=some o/\o.cls = .type "tuple" /\ o.data = .seq #[.int x t,.int y u] n
end Srt
namespace Srt
open PySem PyProof.Rows
section
variable{prog:Program}{w:World}{A:Around}{E:Value->Shared->Prop}{R:Result->Shared->Prop}{s:Shared}{I S ax:Addr}{items:Array Value}{h₀:Heap}{κ:Value->Int}
def Prs(h:Heap)(κ:Value->Int)(lo:Int)(v:Value):Prop:=∃p x y,v = .ref p/\Two h p x y/\κ v=x*64+y/\lo<=y/\y<lo+64
end
end Srt
end L2
namespace L2
open PySem PyProof.Rows
section
variable{X:Cx}{pins:List (Addr × Obj)}{σ:St}{H:Hp}{s:Shared}
noncomputable def yU:Value->List Nat
 | .str x _=>x.cps.toList
 |_=>[]
def IsS(v:Value):Prop:=∃x t,v = .str x t
end
section
variable{X:Cx}{tg:Expr}
theorem rP{pins:List (Addr × Obj)}{σ:St}{H:Hp}{s:Shared}{R:It->Hp->Prop}{E:Value->Shared->Prop}{lo hi c:Int}{t u v:Tok}{tk:Nat}(I:Inv X pins σ H s)(h1:0<=lo)(h2:lo<1000000)(h3:-1000000<=hi)(h4:hi<1000000)(h5:1<=c)(h6:c<1000000)
 (q:R (su lo c (rsz lo hi c)) H):wpAny (model X.prog X.w) X.A (pyIter (.ref s.heap.objs.size)) (PIE X pins σ tg R) E { s with heap:=s.heap.push { cls:=.type "range",data:=.fields #[.int lo t,.int hi u,.int c v] },toks:=tk }:=by
 have hd:0<=(hi-lo-1) / c \/ ¬ lo<hi:=by
  by_cases h:lo<hi
  ·exact .inl (Int.ediv_nonneg (by lia) (by lia))
  ·exact .inr h
 have hd2:lo<hi->(hi-lo-1) / c<1000000:=fun h=>by
  have:=Int.ediv_le_self c (show 0<=hi-lo-1 by lia);lia
 have e2:((rsz lo hi c:Nat):Int)-((0:Nat):Int)=YG lo hi c:=by
  unfold rsz YG;rw[if_pos (show c > 0 by lia)];split <;> lia
 refine wpAny_pyIter_range (IsRange.new ..) ?_ ?_
 ·have fits:∀z:Int,-(2 ^ 62)<=z->z<2 ^ 62->Builtin.Range.rangeFitsLong z=true:=fun z z1 z2=>by
   simp only[Builtin.Range.rangeFitsLong,mx,decide_eq_true_eq];lia
  have hr:0<=((rsz lo hi c:Nat):Int)/\((rsz lo hi c:Nat):Int)<=1000000:=by
   unfold rsz;split
   ·rename_i h;have:=hd2 h;lia
   ·lia
  unfold Builtin.Range.small;rw[<- e2,fits lo (by lia) (by lia),fits hi (by lia) (by lia),fits c (by lia) (by lia),fits _ (by lia) (by lia),if_pos (show c > 0 by lia),fits (hi+(c-1)) (by lia) (by lia),Bool.or_true]
  rfl
 have I1:Inv X pins σ H { s with heap:=s.heap.push { cls:=.type "range",data:=.fields #[.int lo t,.int hi u,.int c v] },toks:=tk }:=I.kept fun b o e=>Heap.get?_push_of_some _ e;refine⟨(s.heap.push { cls:=.type "range",data:=.fields #[.int lo t,.int hi u,.int c v] }).objs.size,[(s.heap.push { cls:=.type "range",data:=.fields #[.int lo t,.int hi u,.int c v] }).objs.size],_,_,H,rfl,
  I1.kept (t':=tk) fun b o e=>Heap.get?_push_of_some _ e,pN _ lo c (rsz lo hi c),?_,fun b hb=>?_,q⟩
 ·have e1:lo+((0:Nat):Int)*c=lo:=by simp
  show IsRangeIter _ _ (lo+((0:Nat):Int)*c) (((rsz lo hi c:Nat):Int)-((0:Nat):Int)) c;rw[e1,e2];exact Heap.get?_push_size _ rfl
 ·have e:b=(s.heap.push { cls:=.type "range",data:=.fields #[.int lo t,.int hi u,.int c v] }).objs.size:=by simpa using hb
  subst e;exact I1.fpOk (xi _) (I1.hok.fresh (xi _))
def we(ta:TA):TI:=fun σ H R=>ta σ H fun vs H1=>∃i j c:Int,vs=[.int i,.int j,.int c]/\(0<=i/\i<1000000 /\ -1000000<=j/\j<1000000/\1<=c/\c<1000000)/\R (su i c (rsz i j c)) H1
theorem tf(hg:Gl X "range")(hm:X.mg "range" = none)(ha:PA X [a,b,c] ta)(hs:starEach [a,b,c] X.env=[(false,eval a X.env),(false,eval b X.env),(false,eval c X.env)]:=by rfl)(hs2:starEach [b,c] X.env=[(false,eval b X.env),(false,eval c X.env)]:=by rfl) :
 PI X tg (.Call (.Name "range" p) [a,b,c] [] pos) (we ta):=by
 intro pins s σ H R I h;refine Call_ (fK I hg hm boot_range (Zo (thn (ha pos pins s σ H _ I h) fun us s1 ⟨vs,H1,I1,r1,q1⟩=>?_) (by rw[hs,hs2]) (by rw[hs2];rfl)));obtain⟨i,j,k,e,⟨q1,q2,q3,q4,q5,q6⟩,q⟩:=q1;subst e;cases r1 with
 |cons r rr=>
  cases rr with
  |cons r' rr=>
   cases rr with
   |cons r'' rr=>
    cases rr;obtain⟨t,rfl⟩:=r;obtain⟨t',rfl⟩:=r';obtain⟨t'',rfl⟩:=r'';exact call_range_3 (by lia) (rP I1 q1 q2 q3 q4 q5 q6 q) (Or.inl (PyProof.noPylong_small (by lia)))
end
open Lean Meta Simp
def ym:List Name:=B6++[`L2.tDIn,`L2.tDNotIn,`L2.tDGet,`L2.tTryN]
def zJ:List Name:=AW++[`L2.gSortS,`L2.gSortD,`L2.gListD,`L2.gAny,`L2.Bi,`L2.DH]
end L2
namespace L2
open PySem PyProof.Rows
namespace Srt
def EH(h:Heap)(p:Addr)(x y z:Int):Prop:=∃(o:Obj) (t u r:Tok) (n:Nat),h.get? p=some o/\o.cls = .type "tuple" /\ o.data = .seq #[.int x t,.int y u,.int z r] n
end Srt
end L2
namespace L2
namespace Rv
open PySem PyProof.Rows
end Rv
open PySem PyProof.Rows
def FE(J:It)(g:TG)(tb:TS)(D:fi)(σ:St)(H:Hp):Prop:=∃W:Nat->Nat->St->Hp->Prop,(∃m,W 0 m σ H)/\∀i m σ H,W i m σ H ->
 (J.stop i H/\D.nx σ H)\/(J.go i H/\∃N:St->Hp->Prop,(∀σ' H',N σ' H'->∃m',m'<m/\W (i+1) m' σ' H')/\∀x H',J.yld i H x H'->g x σ H' fun σ2 H2=>tb { D with nx:=N,ct:=N,bk:=D.nx } σ2 H2)
theorem iT{J:It}{H1:Hp}{D:Addr}{Q:VK}{σr:St}{tt:TT}{te:TE}(h:∃W:Nat->Nat->List V->Hp->Prop,(∃m,W 0 m [] (upd H1 D (.lst []))) /\
 ∀i m ys H2,W i m ys H2->H2 D=some (.lst ys)/\((J.stop i H2/\Q (.ref D) H2)\/(J.go i H2/\∀x H3,J.yld i H2 x H3 ->
  tt (some x::σr) H3 fun b H4=>if b=true then te (some x::σr) H4 fun y H5=>H5 D=some (.lst ys)/\ys.length<sizeLine/\∃m',m'<m/\W (i+1) m' (ys++[y]) (upd H5 D (.lst (ys++[y])))
   else ∃m',m'<m/\W (i+1) m' ys H4))) :
 ∃W:Nat->Nat->List V->Hp->Prop,(∃m,W 0 m [] (upd H1 D (.lst []))) /\
  ∀i m ys H2,W i m ys H2->H2 D=some (.lst ys)/\((J.stop i H2/\Q (.ref D) H2)\/(J.go i H2/\∀x H3,J.yld i H2 x H3->∀zs:St,zs.length=1 ->
   dU 0 x (zs++σr) H3 fun σ4 H4=>(∃zs4:St,zs4.length=1/\σ4=zs4++σr) /\
    tt σ4 H4 fun b H5=>if b=true then te σ4 H5 fun y H6=>H6 D=some (.lst ys)/\ys.length<sizeLine/\∃m',m'<m/\W (i+1) m' (ys++[y]) (upd H6 D (.lst (ys++[y])))
     else ∃m',m'<m/\W (i+1) m' ys H5)):=by
 obtain⟨W,h0,h⟩:=h;refine⟨W,h0,fun i m ys H2 w=>?_⟩;obtain⟨h1,h2⟩:=h i m ys H2 w;refine⟨h1,h2.imp id fun⟨g1,g2⟩=>⟨g1,fun x H3 y zs hz=>?_⟩⟩;obtain⟨z,rfl⟩:=ex1 hz;exact⟨⟨[some x],rfl,rfl⟩,g2 x H3 y⟩
theorem cmS{ks:List Nat}(C:Hp->Prop)(hC:∀D ys,H D=none->C (upd H D (.lst ys)))(l:List Nat)(p:Nat->Bool)(f:Nat->V)(hl:∀R:VK,R (T l) H->tl σ H R)(ha:∀c∈l,c<128)(hz:l.length<=sizeLine)
 (hp:∀c∈l,∀H (R:Bool->Hp->Prop),C H->R (p c) H->tt (some (T [c])::ks.map fun k=>(σ[k]?).join) H R) (hf:∀c∈l,p c=true->∀H (R:VK),C H->R (f c) H->te (some (T [c])::ks.map fun k=>(σ[k]?).join) H R)
 (q:∀D,H D=none->Q (.ref D) (upd H D (.lst ((l.filter p).map f)))):cQ (Dq tl) 1 (dU 0) ks tt te σ H Q:=by
 refine hl _ ⟨by simpa [cs] using ha,fun D hD=>?_⟩;have P:∀x∈l.map fun c=>T [c],∃c∈l,x=T [c]:=fun x hx=>by
  obtain⟨c,hc,rfl⟩:=kJ.mp hx;exact⟨c,hc,rfl⟩
 let hd:V->Nat:=fun v=>match v with | .str y=>(cs y).headD 0|_=>0
 have hhd:∀c,hd (T [c])=c:=fun c=>rfl;refine iT (gR C ((wO l).c C) (fun v=>p (hd v)) (fun v=>f (hd v)) (by simpa using hz) (fun x hx H R c r=>?_) (fun x hx hb H R c r=>?_) D hD (fun ys=>hC D ys hD) ?_)
 ·obtain⟨y,hy,rfl⟩:=P x hx
  exact hp y hy H R c r
 ·obtain⟨y,hy,rfl⟩:=P x hx
  exact hf y hy hb H R c r
 ·have e:((l.map fun c=>T [c]).filter fun v=>p (hd v)).map (fun v=>f (hd v))=(l.filter p).map f:=by
   rw[List.filter_map,ZM]
   rfl
  rw[e];exact q D hD
theorem cmR{ks:List Nat}(C:Hp->Prop)(hC:∀D ys,H D=none->C (upd H D (.lst ys)))(n:Nat)(p:Nat->Bool)(f:Nat->V)(hl:∀R:List V->Hp->Prop,R [.int n] H->ta σ H R)(hz:n<=sizeLine)
 (hp:∀k,k<n->∀H (R:Bool->Hp->Prop),C H->R (p k) H->tt (some (.int k)::ks.map fun k=>(σ[k]?).join) H R) (hf:∀k,k<n->p k=true->∀H (R:VK),C H->R (f k) H->te (some (.int k)::ks.map fun k=>(σ[k]?).join) H R)
 (q:∀D,H D=none->Q (.ref D) (upd H D (.lst (((rL n).filter p).map f)))):cQ (t8 ta) 1 (dU 0) ks tt te σ H Q:=by
 have hz':(n:Int)<2 ^ 62:=by
  have:sizeLine<2 ^ 62:=by rw[wz];decide
  have h2:n<2 ^ 62:=by lia
  have e:((2 ^ 62:Nat):Int)=(2:Int) ^ 62:=by decide
  lia
 refine hl _ ⟨n,rfl,by lia,hz',?_⟩;rw[qa];intro D hD;have P:∀x∈(rL n).map fun k=>V.int (k:Nat),∃k,k<n/\x = .int (k:Nat):=fun x hx=>by
  obtain⟨c,hc,rfl⟩:=kJ.mp hx;exact⟨c,by simpa using hc,rfl⟩
 let hd:V->Nat:=fun v=>match v with | .int i=>i.toNat|_=>0
 have hhd:∀c:Nat,hd (.int c)=c:=fun c=>qa c;refine iT (gR C ((yd n).c C) (fun v=>p (hd v)) (fun v=>f (hd v)) (by simpa using hz) (fun x hx H R c' r=>?_) (fun x hx hb H R c' r=>?_) D hD (fun ys=>hC D ys hD) ?_)
 ·obtain⟨c,hc,rfl⟩:=P x hx
  rw[hhd]at r;exact hp c hc H R c' r
 ·obtain⟨c,hc,rfl⟩:=P x hx
  rw[hhd]at r hb;exact hf c hc hb H R c' r
 ·have e:(((rL n).map fun k=>V.int (k:Nat)).filter fun v=>p (hd v)).map (fun v=>f (hd v))=((rL n).filter p).map f:=by
   rw[List.filter_map,ZM];have e1:((fun v=>p (hd v)) ∘ fun k:Nat=>V.int (k:Nat))=p:=by funext k;simp only[Function.comp,hhd]
   have e2:((fun v=>f (hd v)) ∘ fun k:Nat=>V.int (k:Nat))=f:=by funext k;simp only[Function.comp,hhd]
   rw[e1,e2]
  rw[e];exact q D hD
inductive A2 {α β:Type} (R:α->β->Prop):List α->List β->Prop
 |nil:A2 R [] []
 |cons {a:α} {b:β} {as:List α} {bs:List β}:R a b->A2 R as bs->A2 R (a::as) (b::bs)
namespace A2
variable{α β:Type}{R S:α->β->Prop}
theorem len(h:A2 R as bs):as.length=bs.length:=by
 induction h with
 |nil=>rfl
 |cons _ _ ih=>simp[ih]
theorem imp(h:A2 R as bs)(f:∀a b,a∈as->b∈bs->R a b->S a b):A2 S as bs:=by
 induction h with
 |nil=>exact .nil
 |cons r _ ih=>exact .cons (f _ _ (.head _) (.head _) r) (ih fun a b ha hb=>f a b (.tail _ ha) (.tail _ hb))
theorem at_(h:A2 R as bs):∀ {i:Nat} {a:α},as[i]? = some a->∃b,bs[i]? = some b/\R a b:=by
 induction h with
 |nil=>intro i a e;simp at e
 |cons r _ ih=>
  intro i a e;cases i with
  |zero=>cases e;exact⟨_,rfl,r⟩
  |succ i=>exact ih (i:=i) (by simpa using e)
theorem app{as:List α}{bs:List β}(h:A2 R as bs){cs:List α}{ds:List β}(g:A2 R cs ds):A2 R (as++cs) (bs++ds):=by
 induction h with
 |nil=>exact g
 |cons r _ ih=>exact .cons r ih
theorem snoc(h:A2 R as bs)(r:R a b):A2 R (as++[a]) (bs++[b]):=h.app (.cons r .nil)
end A2
def sp6(f:V->V->V->V->V->V->Hp->VK->XK->Prop):Sp:=fun vs H Q E=>match vs with
 | [x,y,z,u,v,a]=>f x y z u v a H Q E
 |_=>False
def sp7(f:V->V->V->V->V->V->V->Hp->VK->XK->Prop):Sp:=fun vs H Q E=>match vs with
 | [x,y,z,u,v,a,b]=>f x y z u v a b H Q E
 |_=>False
open Lean Meta Simp
def yT:List Name:=ym++[`L2.dC,`Option.join]
def yM:List Name:=zJ++[`L2.gCnt,`L2.gSortT,`L2.sp5,`L2.sp6,`L2.sp7]
def BN:Name->Bool
 | .str _ s=>s.startsWith "sp_"
 |_=>false
end L2
namespace L2
open PySem PyProof.Rows
section
variable{X:Cx}{k j i:Nat}{C:Addr}{sp:Sp}{E:XKs}{x m:Str}{p pos pos' apos:Pos}{e o a b:Expr}{es:List Expr}{ta tb te:TE}{t:TA}
theorem az(F:Fo X.prog X.w X.K X.mg X.base x k sp)(hr:Room j X.A)(hx:bp (XE X.prog X.w) X E)(ha:PA X (e::es) t)(hk:k<=j:=by decide)(hg:Gl X x:=by rfl)(hdb:(x==("__debug__":Str))=false:=by decide)(he:starEach (e::es) X.env=(false,eval e X.env)::starEach es X.env:=by rfl)(hpl:(backTo pos (starEach es X.env)).any (·.1)=false:=by rfl):PE X (.Call (.Name x p) (e::es) [] pos) (iV sp [] E t):=CP F (hr.mono hk) hg hx ha hdb he hpl
theorem aC(i:Nat){e:Expr}(hN:X.N.Nodup)(he:PE X e te)(hi:X.N[i]? = some x:=by rfl)(hx:Loc X.env.scope x:=by first|exact Or.inl rfl|exact Or.inr rfl)(hs:swapsWith e (some (.Name x pos')) pos.line X.env=pure false:=by rfl)(hf:X.fn x=true\/X.env.scope.names.lookup x=some .local:=by first|exact .inl rfl|exact .inr rfl|assumption):PS X (.Assign [.Name x pos'] e pos) (vm te (dU i)):=B3 hN hi hx he hs hf
theorem aN(K:W.Frag)(ha:PE X a ta)(hb:PE X b tb)(hs:ph b:=by exact fun _ _=>rfl)(hK:X.K=K:=by rfl):PE X (.Subscript a b pos) (tOp (gIx K) ta tb):=Eb (yZ K hK) ha hb hs
theorem ak{op:CmpOp}{r:R2}(ho:OpR X (pU op) r)(ha:PE X a ta)(hb:PE X b tb)(hm:ZL op b=false:=by exact fo _):PT X (.Compare a [op] [b] pos) (mW (tOp r ta tb)):=cw ho ha hb hm
theorem fa1{e0:Expr}{t0:TE}(h0:PE X e0 t0)(n0:cb e0=true:=by rfl):PA X [e0] (cS t0 lG):=FA.pa (ap h0 bw n0)
theorem fa2{e0 e1:Expr}{t0 t1:TE}(h0:PE X e0 t0)(h1:PE X e1 t1)(n0:cb e0=true:=by rfl)(n1:cb e1=true:=by rfl):PA X [e0,e1] (cS t0 (cS t1 lG)):=FA.pa (ap h0 (ap h1 bw n1) n0)
theorem fa3{e0 e1 e2:Expr}{t0 t1 t2:TE}(h0:PE X e0 t0)(h1:PE X e1 t1)(h2:PE X e2 t2)(n0:cb e0=true:=by rfl)(n1:cb e1=true:=by rfl)(n2:cb e2=true:=by rfl):PA X [e0,e1,e2] (cS t0 (cS t1 (cS t2 lG))):=FA.pa (ap h0 (ap h1 (ap h2 bw n2) n1) n0)
theorem fa4{e0 e1 e2 e3:Expr}{t0 t1 t2 t3:TE}(h0:PE X e0 t0)(h1:PE X e1 t1)(h2:PE X e2 t2)(h3:PE X e3 t3)(n0:cb e0=true:=by rfl)(n1:cb e1=true:=by rfl)(n2:cb e2=true:=by rfl)(n3:cb e3=true:=by rfl):PA X [e0,e1,e2,e3] (cS t0 (cS t1 (cS t2 (cS t3 lG)))):=FA.pa (ap h0 (ap h1 (ap h2 (ap h3 bw n3) n2) n1) n0)
theorem fa5{e0 e1 e2 e3 e4:Expr}{t0 t1 t2 t3 t4:TE}(h0:PE X e0 t0)(h1:PE X e1 t1)(h2:PE X e2 t2)(h3:PE X e3 t3)(h4:PE X e4 t4)(n0:cb e0=true:=by rfl)(n1:cb e1=true:=by rfl)(n2:cb e2=true:=by rfl)(n3:cb e3=true:=by rfl)(n4:cb e4=true:=by rfl):PA X [e0,e1,e2,e3,e4] (cS t0 (cS t1 (cS t2 (cS t3 (cS t4 lG))))):=FA.pa (ap h0 (ap h1 (ap h2 (ap h3 (ap h4 bw n4) n3) n2) n1) n0)
theorem eH{E:XKs}{msg:Str}{j1}{p1 np cpos:Pos}(O:Yk X.K C y_ "ValueError.__new__" = true)(hm:X.mg x=some (.ref C))(hx:sZ X E)(hc:X.calm=true:=by rfl)(hg:Gl X x:=by rfl)(hdb:(x==("__debug__":Str))=false:=by decide):PS X (.Raise (some (.Call (.Name x np) [.Constant (.str msg) j1 p1] [] cpos)) none pos) (sU C E (cS (tC (.str msg)) lG)):=wv O PySem.F.excBase_ValueError hc hg hm hx (fa1 wN) hdb
end
section
variable(P:Program)(w:World)(K:W.Frag)(mg:Str->Option Value)(base:Heap)(N:List Str)(qual:Str)(st:Stmt)(k:Nat)
def BdG(vs:List V)(r:Hp->VK->XK->Prop):Prop:=∀(fA:Addr) (cdv:Value) (A:Around) (outer:List Env) (s:Shared) (H:Hp) (Q:VK) (E:XK),N.Nodup->(A.deeper (envOfC qual (au st) s.heap.objs.size fA cdv)).units+100<cLine->Room k (A.deeper (envOfC qual (au st) s.heap.objs.size fA cdv))->r H Q E->NoT H/\∃t,PSs (bE (XE P w) P w K mg base N qual (au st) fA cdv A outer s H (gcE H E)) (aQ st) t/\t { nx:=fun _ H'=>∃G,Gc H G H'/\Q .non G,rt:=fun v H'=>∃G,Gc H G H'/\Q v G } (dC N vs) H
def BdX(vs:List V)(r:Hp->VK->XK->Prop):Prop:=∀(fA:Addr) (cdv:Value) (A:Around) (outer:List Env) (s:Shared) (H:Hp) (Q:VK) (E:XK),N.Nodup->(A.deeper (envOfC qual (au st) s.heap.objs.size fA cdv)).units+100<cLine->Room k (A.deeper (envOfC qual (au st) s.heap.objs.size fA cdv))->r H Q E->∃t,PSs (bE (XE P w) P w K mg base N qual (au st) fA cdv A outer s H E) (aQ st) t/\t { nx:=fun _ H'=>Q .non H',rt:=Q } (dC N vs) H
def BX(n:Nat)(sp:Sp):Prop:=(∀vs H Q E,sp vs H Q E->vs.length=n)/\AK P w K mg base N qual st k sp
def BG(n:Nat)(sp:Sp):Prop:=(∀vs H Q E,sp vs H Q E->vs.length=n)/\Ab P w K mg base N qual st k sp
end
section
variable{P:Program}{w:World}{K:W.Frag}{mg:Str->Option Value}{base:Heap}{x m qual:Str}{st:Stmt}{C:Addr}{k:Nat}
section
variable{sp:Sp}{n:Nat}
theorem DfN.hg(F:DfN K mg x st)(N:List Str)(h:BG P w K mg base N x st k n sp)(S:dz N (N.take n) (au st):=by exact⟨rfl,rfl,rfl,by decide +kernel,rfl,by decide +kernel,by decide +kernel⟩)(b:yN x x st (N.take n):=by walk_at "b")(l:(N.take n).length=n:=by rfl):Fo P w K mg base x (k+1) sp:=F.okG N n S b (fun vs H Q E z=>(h.1 vs H Q E z).trans l.symm) h.2
theorem DfN.hx(F:DfN K mg x st)(N:List Str)(h:BX P w K mg base N x st k n sp)(S:dz N (N.take n) (au st):=by exact⟨rfl,rfl,rfl,by decide +kernel,rfl,by decide +kernel,by decide +kernel⟩)(b:yN x x st (N.take n):=by walk_at "b")(l:(N.take n).length=n:=by rfl):Fo P w K mg base x (k+1) sp:=F.okX N n S b (fun vs H Q E z=>(h.1 vs H Q E z).trans l.symm) h.2
end
variable{N:List Str}
theorem gG1{f:V->Hp->VK->XK->Prop}(h:∀x0,BdG P w K mg base N qual st k [x0] (f x0)):BG P w K mg base N qual st k 1 (sp1 f):=⟨fun vs H Q E h=>sp1.len h,fun fA cdv A outer s H vs Q E ND HU hr hs=>by obtain⟨x0,rfl,hs⟩:=sp1.inv hs;exact h x0 fA cdv A outer s H Q E ND HU hr hs⟩
theorem gX1{f:V->Hp->VK->XK->Prop}(h:∀x0,BdX P w K mg base N qual st k [x0] (f x0)):BX P w K mg base N qual st k 1 (sp1 f):=⟨fun vs H Q E h=>sp1.len h,fun fA cdv A outer s H vs Q E ND HU hr hs=>by obtain⟨x0,rfl,hs⟩:=sp1.inv hs;exact h x0 fA cdv A outer s H Q E ND HU hr hs⟩
theorem gG2{f:V->V->Hp->VK->XK->Prop}(h:∀x0 x1,BdG P w K mg base N qual st k [x0,x1] (f x0 x1)):BG P w K mg base N qual st k 2 (sp2 f):=⟨fun vs H Q E h=>sp2.len h,fun fA cdv A outer s H vs Q E ND HU hr hs=>by obtain⟨x0,x1,rfl,hs⟩:=sp2.inv hs;exact h x0 x1 fA cdv A outer s H Q E ND HU hr hs⟩
theorem gX2{f:V->V->Hp->VK->XK->Prop}(h:∀x0 x1,BdX P w K mg base N qual st k [x0,x1] (f x0 x1)):BX P w K mg base N qual st k 2 (sp2 f):=⟨fun vs H Q E h=>sp2.len h,fun fA cdv A outer s H vs Q E ND HU hr hs=>by obtain⟨x0,x1,rfl,hs⟩:=sp2.inv hs;exact h x0 x1 fA cdv A outer s H Q E ND HU hr hs⟩
theorem gG3{f:V->V->V->Hp->VK->XK->Prop}(h:∀x0 x1 x2,BdG P w K mg base N qual st k [x0,x1,x2] (f x0 x1 x2)):BG P w K mg base N qual st k 3 (sp3 f):=⟨fun vs H Q E h=>sp3.len h,fun fA cdv A outer s H vs Q E ND HU hr hs=>by obtain⟨x0,x1,x2,rfl,hs⟩:=sp3.inv hs;exact h x0 x1 x2 fA cdv A outer s H Q E ND HU hr hs⟩
theorem gX3{f:V->V->V->Hp->VK->XK->Prop}(h:∀x0 x1 x2,BdX P w K mg base N qual st k [x0,x1,x2] (f x0 x1 x2)):BX P w K mg base N qual st k 3 (sp3 f):=⟨fun vs H Q E h=>sp3.len h,fun fA cdv A outer s H vs Q E ND HU hr hs=>by obtain⟨x0,x1,x2,rfl,hs⟩:=sp3.inv hs;exact h x0 x1 x2 fA cdv A outer s H Q E ND HU hr hs⟩
end
end L2
namespace K3
noncomputable def S(a:Int):Int:=
 if a<=0 then 0 else if a=1 then 31 else if a=2 then 59 else if a=3 then 90 else if a=4 then 120
 else if a=5 then 151 else if a=6 then 181 else if a=7 then 212 else if a=8 then 243 else if a=9 then 273
 else if a=10 then 304 else 334
noncomputable def LD(y:Int):Int:=(y+3) / 4-(y+99) / 100+(y+399) / 400
noncomputable def FD(m:Int):Int:=365*(m / 12)+(if m % 12 > 1 then LD (m / 12+1) else LD (m / 12))+S (m % 12)
noncomputable def LG(y m:Int):Int:=
 if m=2 then (if (y % 4=0/\y % 100≠0)\/y % 400=0 then 29 else 28)
 else if m=4\/m=6\/m=9\/m=11 then 30 else 31
theorem xA(h:m=12*y+a)(h0:0<=a)(h1:a<12) :
 FD m=365*y+(if a > 1 then LD (y+1) else LD y)+S a:=by
 have e1:m / 12=y:=by lia
 have e2:m % 12=a:=by lia
 unfold FD;rw[e1,e2]
theorem q4(y:Int):(y+4) / 4=(y+3) / 4+if y % 4=0 then 1 else 0:=by split <;> lia
theorem Em(y:Int):(y+100) / 100=(y+99) / 100+if y % 100=0 then 1 else 0:=by split <;> lia
theorem Ej(y:Int):(y+400) / 400=(y+399) / 400+if y % 400=0 then 1 else 0:=by split <;> lia
theorem zO(y:Int):LD (y+1)=LD y+(if (y % 4=0/\y % 100≠0)\/y % 400=0 then 1 else 0):=by
 unfold LD;rw[Int.add_assoc,Int.add_assoc,Int.add_assoc];show(y+4) / 4-(y+100) / 100+(y+400) / 400=_;rw[q4,Em,Ej];generalize (y+3) / 4=A;generalize (y+99) / 100=B;generalize (y+399) / 400=C;by_cases a:y % 400=0
 ·have b:y % 100=0:=by lia
  have c:y % 4=0:=by clear b;lia
  rw[if_pos a,if_pos b,if_pos c,if_pos (.inr a)];clear a b c;lia
 ·by_cases b:y % 100=0
  ·have c:y % 4=0:=by clear a;lia
   rw[if_neg a,if_pos b,if_pos c,if_neg (fun z=>z.elim (fun w=>w.2 b) a)];clear a b c;lia
  ·by_cases c:y % 4=0
   ·rw[if_neg a,if_neg b,if_pos c,if_pos (.inl ⟨c,b⟩)]
    clear a b c;lia
   ·rw[if_neg a,if_neg b,if_neg c,if_neg (fun z=>z.elim (fun w=>c w.1) a)]
    clear a b c;lia
theorem Bc:∀a:Nat,a<11->a≠1->S (a+1)=S a+LG 1 (1+a):=by decide
theorem Ca(y z m:Int)(h:m≠2):LG y m=LG z m:=by unfold LG;rw[if_neg h,if_neg h]
theorem Cw(y:Int):LG (2000+y) 2=28+(LD (y+1)-LD y):=by
 have h:(((2000+y) % 4=0/\(2000+y) % 100≠0)\/(2000+y) % 400=0)↔((y % 4=0/\y % 100≠0)\/y % 400=0):=by
  have e (k:Int) (d:2000=k*(2000 / k)):(2000+y) % k=y % k:=by rw[Int.add_comm,d,Int.add_mul_emod_self_left]
  rw[e 4 rfl,e 100 rfl,e 400 rfl]
 rw[zO,LG,if_pos rfl];by_cases c:(y % 4=0/\y % 100≠0)\/y % 400=0
 ·rw[if_pos c,if_pos (h.mpr c)];lia
 ·rw[if_neg c,if_neg (fun q=>c (h.mp q))];lia
theorem pe(m:Int):FD (m+1)=FD m+LG (2000+m / 12) (1+m % 12):=by
 have b0:0<=m % 12:=qX _ (by decide);have b1:m % 12<12:=vb _ (by decide);have e:m=12*(m / 12)+m % 12:=(Int.mul_ediv_add_emod m 12).symm;have a1:=xA e b0 b1;generalize m / 12=y at *;generalize m % 12=z at *;obtain⟨a,rfl⟩:=Int.eq_ofNat_of_zero_le b0;by_cases c:a=11
 ·subst c
  rw[a1,xA (m:=m+1) (y:=y+1) (a:=0) (by lia) (by decide) (by decide)];show _+LD (y+1)+0=_+LD (y+1)+334+31;lia
 ·have a2:=xA (m:=m+1) (y:=y) (a:=a+1) (by lia) (by lia) (by lia)
  by_cases c1:a=1
  ·subst c1
   rw[a1,a2];show _+LD (y+1)+59=_+LD y+31+LG (2000+y) 2;rw[Cw];lia
  ·have s:=Bc a (by lia) c1
   rw[a1,a2,Ca _ 1 _ (by lia),s];by_cases c2:a=0
   ·subst c2;exact(Int.add_assoc _ _ _).symm
   ·rw[if_pos (by lia),if_pos (by lia)];lia
theorem xg(y m:Int):28<=LG y m/\LG y m<=31:=by
 unfold LG;repeat' split
 all_goals lia
theorem xw(m:Int):FD m+28<=FD (m+1)/\FD (m+1)<=FD m+31:=by
 have h:=pe m;have g:=xg (2000+m / 12) (1+m % 12);lia
theorem qo(m:Int)(k:Nat):FD m+28*k<=FD (m+k):=by
 induction k with
 |zero=>simp
 |succ k ih=>
  have h:=xw (m+k);have e:m+((k+1:Nat):Int)=m+k+1:=by lia
  rw[e];lia
theorem ko(h:m<=n):FD m+28*(n-m)<=FD n:=by
 have g:=qo m (n-m).toNat;have e:m+((n-m).toNat:Int)=n:=by lia
 rw[e]at g;lia
theorem A4:FD 0=0:=by decide
theorem rW:FD 4800=146097:=by decide
open Classical in
noncomputable def MO(d:Int):Int:=if h:∃m,FD m<=d/\d<FD (m+1) then Classical.choose h else 0
theorem Dh(h1:FD m<=d)(h2:d<FD (m+1)):m=MO d:=by
 have h:∃m,FD m<=d/\d<FD (m+1):=⟨m,h1,h2⟩;have g:=Classical.choose_spec h;unfold MO;rw[dif_pos h];generalize Classical.choose h=n at g;obtain⟨g1,g2⟩:=g;by_cases c:m+1<=n
 ·have:=ko c;lia
 ·by_cases c2:n+1<=m
  ·have:=ko c2;lia
  ·lia
theorem uB(h1:FD m<=d)(h2:d<FD (m+1)):MO d=m:=(Dh h1 h2).symm
theorem xa(h0:0<=m):0<=FD m:=by
 have:=ko h0;rw[A4]at this;lia
theorem AL(h1:m<=4799):FD (m+1)<=146097:=by
 have:=ko (show m+1<=4800 by lia);rw[rW]at this;lia
theorem DK(h0:0<=d)(h1:d<=146096):0<=MO d/\MO d<=4799/\FD (MO d)<=d/\d<FD (MO d+1):=by
 have ex:∀(n:Nat),FD n<=d\/∃k:Nat,k<n/\FD k<=d/\d<FD (k+1):=by
  intro n
  induction n with
  |zero=>left;show FD 0<=d;rw[A4];exact h0
  |succ n ih=>
   rcases ih with h|⟨k,hk,h⟩
   ·by_cases c:FD ((n:Int)+1)<=d
    ·left;exact c
    ·right;exact⟨n,by lia,h,by lia⟩
   ·right;exact⟨k,by lia,h⟩
 rcases ex 4800 with h|⟨k,hk,h2,h3⟩
 ·have e:FD ((4800:Nat):Int)=146097:=rW
  rw[e]at h;lia
 ·have e:=uB h2 h3
  rw[e];exact⟨by lia,by lia,h2,h3⟩
end K3
namespace MT
theorem Bw:∀(n:Nat) (t:List Nat),t.length=n->(∀c∈t,isD c=true)->vl t<10 ^ n
 |0,t,hl,_=>by rw[Zy.mp hl];decide
 |n+1,t,hl,hd=>by
  have h0:t≠[]:=fun z=>by rw[z]at hl;cases hl
  obtain⟨i,c,rfl⟩:∃i c,t=i++[c]:=⟨t.dropLast,t.getLast h0,(Zg h0).symm⟩;rw[iJ];have:=Bw n i (by simpa using hl) fun c hc=>hd c (qQ _ hc);have dc:48<=c/\c<=57:=by simpa [isD] using hd c (by simp)
  have e10:10 ^ (n+1)=10 ^ n*10:=Nat.pow_succ ..
  omega
theorem uA:∀(n:Nat) (t:List Nat),t.length=n->(∀c∈t,isD c=true)->pd n (vl t)=t
 |0,t,hl,_=>by rw[Zy.mp hl];rfl
 |n+1,t,hl,hd=>by
  have h0:t≠[]:=fun z=>by rw[z]at hl;cases hl
  obtain⟨i,c,rfl⟩:∃i c,t=i++[c]:=⟨t.dropLast,t.getLast h0,(Zg h0).symm⟩;have ih:=uA n i (by simpa using hl) fun c hc=>hd c (qQ _ hc);have dc:48<=c/\c<=57:=by simpa [isD] using hd c (by simp)
  rw[iJ,pd];have e1:(10*vl i+(c-48)) / 10=vl i:=by omega
  have e2:48+(10*vl i+(c-48)) % 10=c:=by omega
  rw[e1,e2,ih]
theorem xG(t:List Nat):∀k,vl (nY k 48++t)=vl t
 |0=>rfl
 |k+1=>by
  have:=xG t k;unfold vl at this |-
  rw[List.replicate_succ,nN,Yp];exact this
theorem xk{x:List Nat}(h:x.head? ≠ some 45):NI x=(nin x:Int):=by unfold NI;rw[if_neg h]
end MT
namespace M2
open K3 MT
noncomputable def PY(d:Int):Int:=2000+MO d / 12
noncomputable def PM(d:Int):Int:=MO d % 12+1
noncomputable def PP(d:Int):Int:=d-FD (MO d)+1
def GD(y m p:Int):Prop:=(2000<=y/\y<=2399)/\(1<=m/\m<=12)/\1<=p/\p<=LG y m
noncomputable instance (y m p:Int):Decidable (GD y m p):=by unfold GD;exact inferInstance
noncomputable def DAY(y m p:Int):Int:=FD (12*(y-2000)+m-1)+p-1
theorem t7{y m:Int}(hm:1<=m/\m<=12):FD (12*(y-2000)+m-1+1)=FD (12*(y-2000)+m-1)+LG y m:=by
 have h:=pe (12*(y-2000)+m-1);have e1:2000+(12*(y-2000)+m-1) / 12=y:=by omega
 have e2:1+(12*(y-2000)+m-1) % 12=m:=by omega
 rw[e1,e2]at h;exact h
theorem lT{y m p:Int}(h:GD y m p):(0<=DAY y m p/\DAY y m p<=146096)/\MO (DAY y m p)=12*(y-2000)+m-1/\PY (DAY y m p)=y/\PM (DAY y m p)=m/\PP (DAY y m p)=p:=by
 obtain⟨hy,hm,p1,p2⟩:=h;have hs:=t7 (y:=y) hm;have h0:=xa (m:=12*(y-2000)+m-1) (by omega);have h1:=AL (m:=12*(y-2000)+m-1) (by omega);have e:MO (DAY y m p)=12*(y-2000)+m-1:=uB (by unfold DAY;omega) (by unfold DAY;omega);refine⟨by unfold DAY;omega,e,?_,?_,?_⟩
 ·unfold PY;rw[e];omega
 ·unfold PM;rw[e];omega
 ·unfold PP;rw[e];unfold DAY;omega
theorem gU{d:Int}(h0:0<=d)(h1:d<=146096):GD (PY d) (PM d) (PP d)/\DAY (PY d) (PM d) (PP d)=d:=by
 obtain⟨a,b,c,e⟩:=DK h0 h1;have hs:=pe (MO d);have e1:PM d=1+MO d % 12:=by unfold PM;omega
 refine⟨⟨by unfold PY;omega,by unfold PM;omega,by unfold PP;omega,?_⟩,?_⟩
 ·rw[e1];unfold PY PP;omega
 ·unfold DAY PY PM PP
  have e2:12*(2000+MO d / 12-2000)+(MO d % 12+1)-1=MO d:=by omega
  rw[e2];omega
noncomputable def TX(y m p:Nat):List Nat:=pd 4 y++[45]++pd 2 m++[45]++pd 2 p
noncomputable def DT(d:Int):List Nat:=TX (PY d).toNat (PM d).toNat (PP d).toNat
theorem gF(k n:Nat):∀c∈pd k n,isD c=true:=by
 induction k generalizing n with
 |zero=>simp[pd]
 |succ k ih=>
  intro c hc;rw[pd]at hc;rcases vY.mp hc with h|h
  ·exact ih _ c h
  ·rw[uH.mp h];simp[isD];omega
theorem m_(k n:Nat)(h:n<10 ^ k)(hk:0<k):vl (pd k n)=n:=by rw[<- fU k n h hk,xG,xH]
theorem dg4{y:Nat}(h0:1000<=y)(h1:y<10000):dg y=pd 4 y:=by
 rw[<- fU 4 y (by omega) (by decide)];have h:=wg 3 y (by omega);have l:(dg y).length=4:=by rw[h,zx,cI,gg (by omega)];rfl
 rw[l];rfl
theorem sS(y m p:Nat):(TX y m p).length=10:=by simp[TX,cI]
theorem kX{l r:List Nat}{k:Nat}(h:l.length=k):(l++r).take k=l:=by subst h;simp
theorem pX{l r:List Nat}{k:Nat}(h:l.length=k):(l++r).drop k=r:=by subst h;simp
theorem rV(y m p:Nat):(TX y m p).take 4=pd 4 y/\((TX y m p).drop 5).take 2=pd 2 m/\(TX y m p).drop 8=pd 2 p/\(TX y m p)[4]? = some 45/\(TX y m p)[7]? = some 45:=by
 have e1:TX y m p=pd 4 y++([45]++pd 2 m++[45]++pd 2 p):=by simp[TX]
 have e2:TX y m p=(pd 4 y++[45])++(pd 2 m++([45]++pd 2 p)):=by simp[TX]
 have e3:TX y m p=(pd 4 y++[45]++pd 2 m++[45])++pd 2 p:=by simp[TX]
 have e4:TX y m p=(pd 4 y++[45]++pd 2 m)++([45]++pd 2 p):=by simp[TX]
 refine⟨?_,?_,?_,?_,?_⟩
 ·rw[e1,kX (cI _ _)]
 ·rw[e2,pX (by simp[cI]),kX (cI _ _)]
 ·rw[e3,pX (by simp[cI])]
 ·rw[e1,List.getElem?_append_right (by simp[cI])];simp[cI]
 ·rw[e4,List.getElem?_append_right (by simp[cI])];simp[cI]
theorem ten{l:List Nat}(h:l.length=10)(h4:l[4]? = some 45)(h7:l[7]? = some 45):l=l.take 4++[45]++(l.drop 5).take 2++[45]++l.drop 8:=by
 rcases l with _|⟨a0,_|⟨a1,_|⟨a2,_|⟨a3,_|⟨a4,_|⟨a5,_|⟨a6,_|⟨a7,_|⟨a8,_|⟨a9,_|⟨a10,r⟩⟩⟩⟩⟩⟩⟩⟩⟩⟩⟩ <;> simp at h
 simp at h4 h7;subst h4 h7
 rfl
noncomputable def FI(l:List Nat):List Nat:=l.take 4++(l.drop 5).take 2++l.drop 8
def DP(l:List Nat):Prop:=l.length=10/\l[4]? = some 45/\l[7]? = some 45/\(∀c∈FI l,isD c=true)
theorem ju{t:List Nat}(h:∀c∈t,isD c=true):NI t=(vl t:Int):=by
 have hh:t.head? ≠ some 45:=fun z=>by
  have:=h 45 (List.mem_of_head? z);simp[isD]at this
 rw[xk hh,nin_filter,Zs.mpr h]
theorem zH{l:List Nat}(h:DP l):l=TX (vl (l.take 4)) (vl ((l.drop 5).take 2)) (vl (l.drop 8))/\NI (l.take 4)=vl (l.take 4)/\NI ((l.drop 5).take 2)=vl ((l.drop 5).take 2)/\NI (l.drop 8)=vl (l.drop 8):=by
 obtain⟨hl,h4,h7,hd⟩:=h;have d1:∀c∈l.take 4,isD c=true:=fun c hc=>hd c (by unfold FI;simp[hc]);have d2:∀c∈(l.drop 5).take 2,isD c=true:=fun c hc=>hd c (by unfold FI;simp only[vY];exact .inl (.inr hc));have d3:∀c∈l.drop 8,isD c=true:=fun c hc=>hd c (by unfold FI;simp only[vY];exact .inr hc);refine⟨?_,ju d1,ju d2,ju d3⟩;unfold TX;rw[uA 4 _ (by simp[hl]) d1,uA 2 _ (by simp[hl]) d2,uA 2 _ (by simp[hl]) d3];exact ten hl h4 h7
theorem Ax(y m p:Nat):DP (TX y m p):=by
 obtain⟨e1,e2,e3,e4,e5⟩:=rV y m p;refine⟨sS _ _ _,e4,e5,fun c hc=>?_⟩;unfold FI at hc;rw[e1,e2,e3]at hc;rcases vY.mp hc with h|h
 ·rcases vY.mp h with h|h
  ·exact gF _ _ c h
  ·exact gF _ _ c h
 ·exact gF _ _ c h
open Classical in
noncomputable def DU(l:List Nat):Option (Int × Int × Int):=if DP l/\GD (vl (l.take 4)) (vl ((l.drop 5).take 2)) (vl (l.drop 8)) then some (vl (l.take 4),vl ((l.drop 5).take 2),vl (l.drop 8)) else none
noncomputable def DA(y m p:Int):Option Int:=if GD y m p then some (DAY y m p) else none
noncomputable def DO(l:List Nat):Option Int:=if l.length=10 then (match DA (NI (l.take 4)) (NI ((l.drop 5).take 2)) (NI (l.drop 8)) with
 |some d=>if DT d=l then some d else none
 |none=>none) else none
theorem kF{y m p:Int}(h:GD y m p):∃y' m' p':Nat,y=y'/\m=m'/\p=p'/\1000<=y'/\y'<10000/\m'<100/\p'<100:=by
 obtain⟨hy,hm,p1,p2⟩:=h;have:=xg y m;exact⟨y.toNat,m.toNat,p.toNat,by omega,by omega,by omega,by omega,by omega,by omega,by omega⟩
theorem DX{y m p:Nat}(h:GD y m p):DU (TX y m p)=some ((y:Int),(m:Int),(p:Int)):=by
 obtain⟨y',m',p',h1,h2,h3,b⟩:=kF h;obtain⟨e1,e2,e3,_⟩:=rV y m p;have v1:vl (pd 4 y)=y:=m_ 4 y (by omega) (by decide);have v2:vl (pd 2 m)=m:=m_ 2 m (by omega) (by decide);have v3:vl (pd 2 p)=p:=m_ 2 p (by omega) (by decide);unfold DU;rw[e1,e2,e3,v1,v2,v3,if_pos ⟨Ax y m p,h⟩]
theorem Ds{y m p:Nat}(h:GD y m p):DO (TX y m p)=some (DAY y m p):=by
 obtain⟨y',m',p',h1,h2,h3,b⟩:=kF h;obtain⟨e1,e2,e3,_⟩:=rV y m p;have v1:vl (pd 4 y)=y:=m_ 4 y (by omega) (by decide);have v2:vl (pd 2 m)=m:=m_ 2 m (by omega) (by decide);have v3:vl (pd 2 p)=p:=m_ 2 p (by omega) (by decide);obtain⟨_,n1,n2,n3⟩:=zH (Ax y m p);rw[e1,v1]at n1;rw[e2,v2]at n2;rw[e3,v3]at n3;unfold DO DA;rw[if_pos (sS _ _ _),e1,e2,e3,n1,n2,n3,if_pos h];dsimp only;obtain⟨_,_,g1,g2,g3⟩:=lT h;unfold DT;rw[g1,g2,g3,qa,qa,qa,if_pos rfl]
theorem tT{l:List Nat}{d:Int}(h:DO l=some d):(0<=d/\d<=146096)/\DU l=some (PY d,PM d,PP d):=by
 unfold DO at h;split at h
 ·rename_i hl
  split at h
  ·rename_i d' hd
   split at h
   ·rename_i ht
    cases h;unfold DA at hd;split at hd
    ·rename_i hg
     cases hd;obtain⟨b,_⟩:=lT hg;refine⟨b,?_⟩;generalize DAY _ _ _=d at b ht |-
     obtain⟨g,_⟩:=gU b.1 b.2;obtain⟨y',m',p',e1,e2,e3,_⟩:=kF g;rw[<- ht];unfold DT;rw[e1,e2,e3]at g |-
     rw[qa,qa,qa];exact DX g
    ·cases hd
   ·cases h
  ·cases h
 ·cases h
theorem lR{d:Int}(h0:0<=d)(h1:d<=146096):DO (DT d)=some d/\(DT d).length=10/\∀c∈DT d,c<128:=by
 obtain⟨g,e⟩:=gU h0 h1;obtain⟨y',m',p',e1,e2,e3,_⟩:=kF g;refine⟨?_,sS _ _ _,fun c hc=>?_⟩
 ·unfold DT
  rw[e1,e2,e3]at g e |-
  rw[qa,qa,qa,Ds g,e]
 ·unfold DT TX at hc
  have hh:∀k n,c∈pd k n->c<128:=fun k n h=>by have:=gF k n c h;simp[isD]at this;omega
  simp only[vY,uH]at hc;rcases hc with (((h|h)|h)|h)|h
  ·exact hh _ _ h
  ·omega
  ·exact hh _ _ h
  ·omega
  ·exact hh _ _ h
end M2
namespace L2
theorem de{α:Type}{p q:α->Prop}{C:Prop}(z:∃a,p a/\q a)(k:∀a,p a->q a->C):C:=by obtain⟨a,h0,h1⟩:=z;exact k a h0 h1
theorem dQ{α:Type}{p q r:α->Prop}{C:Prop}(z:∃a,p a/\q a/\r a)(k:∀a,p a->q a->r a->C):C:=by obtain⟨a,h0,h1,h2⟩:=z;exact k a h0 h1 h2
theorem sy{α:Type}{p q r s:α->Prop}{C:Prop}(z:∃a,p a/\q a/\r a/\s a)(k:∀a,p a->q a->r a->s a->C):C:=by obtain⟨a,h0,h1,h2,h3⟩:=z;exact k a h0 h1 h2 h3
theorem CT{α β:Type}{p q r s t:α->β->Prop}{C:Prop}(z:∃a b,p a b/\q a b/\r a b/\s a b/\t a b)(k:∀a b,p a b->q a b->r a b->s a b->t a b->C):C:=by obtain⟨a,b,h0,h1,h2,h3,h4⟩:=z;exact k a b h0 h1 h2 h3 h4
end L2
namespace L2
open PySem PySem.StrLaws PySem.Builtin PySem.Builtin.Str
theorem qj(s sub:Yn)(hi i f:Nat):∀l:List Nat,(forIn l ((#[i],f):Array Nat × Nat) (occBody s sub hi 1)).run.fst = #[i]
 | []=>rfl
 |a::l=>by
  rw[Yq];unfold occBody;rw[if_neg (by simp)];exact qj s sub hi i f l
def ij(s sub:Yn)(hi i:Nat):Prop:=i+sub.length<=hi/\subAt s sub i=true
theorem tV(s sub:Yn)(hi:Nat):∀(k a:Nat),((forIn (List.range' a k) ((#[],0):Array Nat × Nat) (occBody s sub hi 1)).run.fst = #[]/\∀j,a<=j->j<a+k -> ¬ ij s sub hi j)\/∃i,(forIn (List.range' a k) ((#[],0):Array Nat × Nat) (occBody s sub hi 1)).run.fst = #[i]/\a<=i/\i<a+k/\ij s sub hi i/\∀j,a<=j->j<i -> ¬ ij s sub hi j
 |0,a=>.inl ⟨rfl,fun j h1 h2=>absurd h1 (by omega)⟩
 |k+1,a=>by
  rw[List.range'_succ,Yq];unfold occBody;by_cases h:ij s sub hi a
  ·right
   refine⟨a,?_,xi _,by omega,h,fun j h1 h2=>absurd h1 (by omega)⟩;rw[if_pos (by obtain⟨h1,h2⟩:=h;exact⟨⟨⟨Nat.zero_lt_one,uG _⟩,h1⟩,h2⟩)];exact qj s sub hi a _ _
  ·rw[if_neg (fun z=>h ⟨z.1.2,z.2⟩)]
   rcases tV s sub hi k (a+1) with ⟨e,n⟩|⟨i,e,h1,h2,h3,h4⟩
   ·refine .inl ⟨e,fun j j1 j2=>?_⟩
    by_cases q:j=a
    ·rw[q];exact h
    ·exact n j (by omega) (by omega)
   ·refine .inr ⟨i,e,by omega,by omega,h3,fun j j1 j2=>?_⟩
    by_cases q:j=a
    ·rw[q];exact h
    ·exact h4 j (by omega) j2
theorem mP(s sub:Yn)(hi:Nat):(occurrences s sub 0 hi 1=[]/\∀j,j<=hi -> ¬ ij s sub hi j)\/∃i,occurrences s sub 0 hi 1=[i]/\i<=hi/\ij s sub hi i/\∀j,j<i -> ¬ ij s sub hi j:=by
 rw[occ_eq];rcases tV s sub hi (hi+1-0) 0 with ⟨e,n⟩|⟨i,e,_,h2,h3,h4⟩
 ·exact .inl ⟨by rw[e],fun j h=>n j (uG _) (by omega)⟩
 ·exact .inr ⟨i,by rw[e],by omega,h3,fun j h=>h4 j (uG _) h⟩
def At(l m:List Nat)(i:Nat):Prop:=i+m.length<=l.length/\(l.drop i).take m.length=m
theorem jm(l m:List Nat)(i:Nat):ij ⟨⟨l⟩⟩ ⟨⟨m⟩⟩ l.length i↔At l m i:=by
 unfold ij At;have e:(⟨⟨m⟩⟩:Yn).length=m.length:=rfl;rw[e];refine and_congr_right fun h=>?_;unfold subAt;rw[e,beq_iff_eq];constructor
 ·intro z
  have:=congrArg Array.toList z
  simpa using this
 ·intro z
  apply Array.ext'
  simpa using z
def AM:V->List V->Hp->VK->Prop
 | .str x,[.str y],H,Q=>((∀j,¬ At (cs x) (cs y) j)->Q (.int (-1)) H)/\∀i:Nat,At (cs x) (cs y) i->(∀j,j<i -> ¬ At (cs x) (cs y) j)->Q (.int i) H
 |_,_,_,_=>False
theorem zw:MtR X "str.find" AM:=by
 intro pins s σ H x xs v us Q I rx rs h;cases x with
 |str x0=>
  cases xs with
  |nil=>exact h.elim
  |cons y l=>cases l with
   |cons z l=>cases y <;> exact(id h:False).elim
   |nil=>cases y with
    |str y0=>
     obtain⟨q0,q1⟩:=h;obtain⟨t,rfl⟩:=rx;obtain⟨u,rfl,t',rfl⟩:=dq rs;obtain⟨⟨l⟩⟩:=x0;obtain⟨⟨m⟩⟩:=y0;refine ZG F.slot_str_find (ZQ _ _ _) F.entry_str_find (F.args_str_find_2 _ _) (gives_str_find _ _ t t').meets ?_;rcases mP ⟨⟨l⟩⟩ ⟨⟨m⟩⟩ l.length with ⟨e,n⟩|⟨i,e,_,h3,h4⟩
     ·have e':occurrences ⟨⟨l⟩⟩ ⟨⟨m⟩⟩ 0 (⟨⟨l⟩⟩:Yn).length 1=[]:=e
      rw[e'];exact⟨.int (-1),H,I.tok _,⟨_,rfl⟩,q0 fun j a=>n j (wx (Zu _ _) a.1) ((jm l m j).mpr a)⟩
     ·have e':occurrences ⟨⟨l⟩⟩ ⟨⟨m⟩⟩ 0 (⟨⟨l⟩⟩:Yn).length 1=[i]:=e
      rw[e'];exact⟨.int i,H,I.tok _,⟨_,rfl⟩,q1 i ((jm l m i).mp h3) fun j hj a=>h4 j hj ((jm l m j).mpr a)⟩
    |_=>exact(id h:False).elim
 |_=>exact(id h:False).elim
def AI:V->List V->Hp->VK->Prop
 | .str x,[.str y],H,Q=>cs y≠[]/\(cs x).length<=sizeLine/\∀p,H p=none->((∀j,¬ At (cs x) (cs y) j)->Q (.ref p) (upd H p (.tup [T (cs x),T [],T []])))/\∀i:Nat,At (cs x) (cs y) i->(∀j,j<i -> ¬ At (cs x) (cs y) j)->Q (.ref p) (upd H p (.tup [T ((cs x).take i),T (cs y),T ((cs x).drop (i+(cs y).length))]))
 |_,_,_,_=>False
theorem zD:MtR X "str.partition" AI:=by
 intro pins s σ H x xs v us Q I rx rs h;cases x with
 |str x0=>
  cases xs with
  |nil=>exact h.elim
  |cons y l=>cases l with
   |cons z l=>cases y <;> exact(id h:False).elim
   |nil=>cases y with
    |str y0=>
     obtain⟨hy,hz,q⟩:=h;obtain⟨t,rfl⟩:=rx;obtain⟨u,rfl,t',rfl⟩:=dq rs;obtain⟨⟨l⟩⟩:=x0;obtain⟨⟨m⟩⟩:=y0;have hy':((⟨⟨m⟩⟩:Yn).length==0)=false:=by
      cases m with
      |nil=>exact absurd rfl hy
      |cons=>rfl
     obtain⟨q0,q1⟩:=q _ I.fresh;have sz:3<=sizeLine:=by rw[wz];decide
     refine ZG F.slot_str_partition (ZQ _ _ _) F.entry_str_partition (F.args_str_partition_2 _ _) (meets_str_partition _ _ t t' hy' hz) ?_;rcases mP ⟨⟨l⟩⟩ ⟨⟨m⟩⟩ l.length with ⟨e,n⟩|⟨i,e,_,h3,h4⟩
     ·have e':occurrences ⟨⟨l⟩⟩ ⟨⟨m⟩⟩ 0 (⟨⟨l⟩⟩:Yn).length 1=[]:=e
      rw[e'];have q2:=q0 fun j a=>n j (wx (Zu _ _) a.1) ((jm l m j).mpr a);exact⟨.ref s.heap.objs.size,_,I.laid (a:=s.heap.objs.size) (o:=.tup [T l,T [],T []]) (t':=s.toks+1) (fun _ _ q=>Heap.get?_push_of_some _ q) (xi _) ⟨sz,_,.cons ⟨_,rfl⟩ (.cons ⟨_,rfl⟩ (.cons ⟨_,rfl⟩ .nil)),⟨_,Heap.get?_push_size _ rfl,rfl,_,rfl⟩⟩,rfl,q2⟩
     ·have e':occurrences ⟨⟨l⟩⟩ ⟨⟨m⟩⟩ 0 (⟨⟨l⟩⟩:Yn).length 1=[i]:=e
      rw[e'];have q2:=q1 i ((jm l m i).mp h3) fun j hj a=>h4 j hj ((jm l m j).mpr a);have e1:strSub ⟨⟨l⟩⟩ 0 i=⟨⟨l.take i⟩⟩:=by simp[strSub]
      have e2:strSub ⟨⟨l⟩⟩ (i+m.length) l.length=⟨⟨l.drop (i+m.length)⟩⟩:=by
       have:(l.drop (i+m.length)).take (l.length-(i+m.length))=l.drop (i+m.length):=vL (by rw[vJ];exact xi _);simp[strSub,this]
      refine⟨.ref s.heap.objs.size,_,I.laid (a:=s.heap.objs.size) (o:=.tup [T (l.take i),T m,T (l.drop (i+m.length))]) (t':=s.toks+1+1) (fun _ _ q=>Heap.get?_push_of_some _ q) (xi _) ⟨sz,_,.cons ⟨s.toks,congrArg (fun z=>YZ z s.toks) e1⟩ (.cons ⟨_,rfl⟩ (.cons ⟨s.toks+1,congrArg (fun z=>YZ z (s.toks+1)) e2⟩ .nil)),⟨_,Heap.get?_push_size _ rfl,rfl,_,rfl⟩⟩,rfl,q2⟩
    |_=>exact(id h:False).elim
 |_=>exact(id h:False).elim
end L2
namespace L2
open PySem PySem.Spec PyProof.Rows
section
variable{prog:Program}{w:World}{A:Around}{E:Value->Shared->Prop}{s:Shared}
theorem pJ{α:Type}{a e:Addr}{oa:Obj}{va:Array Value}{Q:α->Shared->Prop}(hh:A.handled=some (.ref e))(ne:e≠a)(f2:F2 s.heap e)(ha:s.heap.get? a=some oa)(hd:oa.data = .fields va)(h2:2<va.size)
 (h:∀h',Heap.SameBut a s.heap h'->(∃o,h'.get? a=some o/\o.cls=oa.cls/\o.data = .fields (va.setIfInBounds 2 (.ref e)))->E (.ref a) { s with heap:=h' }):wpAny (model prog w) A (raiseNew (.ref a):Sem α) Q E s:=by
 obtain⟨oe,vs,he,hde,h0⟩:=f2;simp only[raiseNew];refine zz (wpAny_handled ?_);rw[hh];dsimp only;rw[if_pos (show(qr e != qr a)=true by simpa using ne)];refine zz (Z7 (wpAny_runValue (codeAny_builtin md ?_)));show wpAny _ _ (field (.ref e) 2 >>= _) _ _ s;refine zz (oi he hde h0 ?_);rw[if_pos (show(Zz==Zz)=true from rfl)];refine zz (xJ (xJ ?_));show wpAny _ _ (setField (.ref a) 2 (.ref e) >>= _) _ _ s;refine zz (wpAny_setField ha hd h2 (wpAny_throw (h _ (Heap.SameBut.update ..) ?_)));exact⟨_,Heap.get?_update_self _ ha (Zr (ZW hd _)),Obj.cls_mapFields ..,ZW hd _⟩
end
section
variable{prog:Program}{w:World}{A:Around}{E:Value->Shared->Prop}{s:Shared}{env:Env}
variable{nm q:Str}{C N:Addr}{bs bm bmB:List Value}{hdct:Bool}{sn:List Str}{sub:List Value}{ab:Bool}{col:Option Bool}{dd:Option Addr}{k0 k1 k2 k3 k5:Option Value}{B newId initId:String}
theorem eZ{e0:Addr}{x:Sem Value}{Q:Flow->Shared->Prop}(hbase:bm.contains (.type "BaseException")=true)(hh:A.handled=some (.ref e0))
 (h:wpAny (model prog w) A x (fun v s₁=>∃e t,v = .ref e/\s₁.heap.get? C=some (excClassObj nm q C N bs bm hdct sn sub ab col dd k0 k1 k2 k3 k5 newId) /\
  s₁.heap.get? e=some { cls:=.ref C,data:=.fields #[.ref t,.none,.none,.none,.bool false,.none] }/\F2 s₁.heap e0/\e0≠e /\
  ∀h',Heap.SameBut e s₁.heap h'->(∃o,h'.get? e=some o/\o.cls = .ref C/\o.data = .fields #[.ref t,.none,.ref e0,.none,.bool false,.none])->E (.ref e) { s₁ with heap:=h' }) E s) :
 wpAny (model prog w) A (raiseStmt env (some x) none) Q E s:=by
 have hcB:(qr C::bm).contains (.type "BaseException")=true:=by rw[List.contains_cons,hbase,Bool.or_true]
 unfold raiseStmt;refine zz (tu h (fun v s₁ h₁=>?_) fun _ _ x=>x);obtain⟨e,t,rfl,hC,he,f2,ne,hE⟩:=h₁;obtain⟨hp,g,d,tk,os⟩:=s₁
 repeat (first|with_reducible refine wpAny_loadPart_at he ?_|with_reducible refine wpAny_loadPart_at hC ?_|(with_reducible refine wpAny_isSubtype_exc hC ?_;rw[hcB])|wp_step)
 exact pJ hh ne f2 he rfl (by simp) fun h' sb ⟨o,o1,o2,o3⟩=>hE h' sb ⟨o,o1,o2,o3⟩
theorem mB(F:ExcBaseFacts B newId initId bmB){e0:Addr}{mN:Str->Option Value}{x:Str}{np cpos pos:Pos}{args:List Expr}{Q:Flow->Shared->Prop}
 (hbase:bm.contains (.type "BaseException")=true) (hh:A.handled=some (.ref e0)) (hplain:(backTo cpos (starEach args env)).any (·.1)=false) (hni:mN "__init__" = none)
 (h:wpAny (model prog w) A (eval (.Name x np) env) (fun f s₁=>f = .ref C/\wpAny (model prog w) A (evalArgs (.ref C) true (backTo cpos (starEach args env)) [])
  (fun a s₂=>a.kw=[]/\a.pos.length<=sizeLine/\s₂.heap.get? C=some (excClassObj nm q C N bs bm hdct sn sub ab col dd k0 k1 k2 k3 k5 newId)/\s₂.heap.Ns N mN/\OwnTail s₂.heap bmB bm/\F2 s₂.heap e0 /\
   ∀h' e h'' t,Heap.MadeExcOf s₂.heap h' e (.ref C) a.pos->e0≠e->Heap.SameBut e h' h''->(∃o,h''.get? e=some o/\o.cls = .ref C/\o.data = .fields #[.ref t,.none,.ref e0,.none,.bool false,.none])->E (.ref e) { s₂ with heap:=h'' }) E s₁) E s) :
 wpAny (model prog w) A (exec (.Raise (some (.Call (.Name x np) args [] cpos)) none pos) env) Q E s:=by
 rw[arm_exec_Raise]
 first
  |refine zz (ZU (eZ (C:=C) (nm:=nm) (q:=q) (N:=N) (bs:=bs) (bm:=bm) (hdct:=hdct) (sn:=sn) (sub:=sub) (ab:=ab) (col:=col) (dd:=dd) (k0:=k0) (k1:=k1) (k2:=k2) (k3:=k3) (k5:=k5) (newId:=newId) hbase hh (zz (tu (wpAny_Call_ofName (tu h (fun f s₁ h₁=>?_) fun _ _ x=>x)) (fun v s₃ h₃=>zz (ZU (xJ h₃))) fun _ _ x=>x))))
  |(simp only[evalOpt,Z6];refine zz (ZU (eZ (C:=C) (nm:=nm) (q:=q) (N:=N) (bs:=bs) (bm:=bm) (hdct:=hdct) (sn:=sn) (sub:=sub) (ab:=ab) (col:=col) (dd:=dd) (k0:=k0) (k1:=k1) (k2:=k2) (k3:=k3) (k5:=k5) (newId:=newId) hbase hh (zz (tu (wpAny_Call_ofName (tu h (fun f s₁ h₁=>?_) fun _ _ x=>x)) (fun v s₃ h₃=>zz (ZU (xJ h₃))) fun _ _ x=>x)))))
  |(refine zz (ZU (eZ (C:=C) (nm:=nm) (q:=q) (N:=N) (bs:=bs) (bm:=bm) (hdct:=hdct) (sn:=sn) (sub:=sub) (ab:=ab) (col:=col) (dd:=dd) (k0:=k0) (k1:=k1) (k2:=k2) (k3:=k3) (k5:=k5) (newId:=newId) hbase hh ?_));refine zz (tu (wpAny_Call_ofName (tu h (fun f s₁ h₁=>?_) fun _ _ x=>x)) (fun v s₃ h₃=>zz (ZU (xJ h₃))) fun _ _ x=>x))
 obtain⟨rfl,h₁⟩:=h₁;unfold callWith;refine zz (Z7 (tu h₁ (fun a s₂ h₂=>zz (ZU ?_)) fun _ _ x=>x));obtain⟨apos,akw⟩:=a;obtain⟨hkw,hlen,hC,hn,T,f2,h₂⟩:=h₂;obtain rfl:akw=[]:=hkw;obtain⟨hp,g,d,tk,os⟩:=s₂;simp only[hplain];refine zz (wpAny_keeperOf_exc hC ?_);refine zz (wpAny_call_exc_subT (hrest:=hlen) F T hC hn hni fun h' e hm=>zz (Z7 (wpAny_point (xJ ?_))));obtain⟨t,ht,_,_⟩:=hm.there;obtain⟨oe,vs,g1,g2,g3⟩:=f2;have ne:e0≠e:=fun z=>by
  have:=hm.new;rw[<- z]at this;exact absurd (g1.symm.trans this) (by simp)
 exact⟨e,t,rfl,hm.keeps _ _ hC,ht,⟨oe,vs,hm.keeps _ _ g1,g2,g3⟩,ne,fun h'' sb o=>h₂ h' e h'' t hm ne sb o⟩
end
noncomputable abbrev x_(a0:Value)(e0:Addr):Array Value:=#[a0,.none,.ref e0,.none,.bool false,.none]
section
variable{P:Program}{w:World}{K:W.Frag}{mg:Str->Option Value}{base:Heap}{N:List Str}{qual:Str}{scope:Scope}{f:Addr}{cd:Value}{A:Around}{outer:List Env}{s₀:Shared}{H₀:Hp}{E:XK}
theorem qt{c0:Addr}
 (I:Inv (bE (XE P w) P w K mg base N qual scope f cd A outer s₀ H₀ E) pins σ H s) (he:s.heap.get? e=some ⟨.ref C,od,.fields (x_ a0 c0),sl⟩) (ne:H e=none) (n0:s₀.heap.get? e=none) (q:E (.ref C) (some c0) H) :
 (bE (XE P w) P w K mg base N qual scope f cd A outer s₀ H₀ E).xe (.ref e) s:=by
 show wpAny (model P w) (A.deeper (envOfC qual scope s₀.heap.objs.size f cd)) (leaving (envOfC qual scope s₀.heap.objs.size f cd) (.ref e)) (fun _ s''=>XE P w outer H₀ s₀ E (.ref e) s'') (fun e' s''=>XE P w outer H₀ s₀ E e' s'') s;have hst:s.heap.FunFrames base (envOfC qual scope s₀.heap.objs.size f cd::outer):=I.stack;have e0:(hid s.heap (envOfC qual scope s₀.heap.objs.size f cd::outer) [e]).get? e=none:=dv (.head _);refine be (e:=e) (eY _ _) ⟨_,_,he,rfl,rfl⟩ (wpAny_leaving_firstW (base:=hid s.heap (envOfC qual scope s₀.heap.objs.size f cd::outer) [e]) (a0:=a0) I.ok.frames (cc hst) rfl he (fun b o z=>fw z) e0 rfl rfl rfl fun h' hL g2=>?_);obtain⟨k1,⟨_,_,f3⟩,⟨oe,vs,T,oT,ts,he',hc,hd,h1,hnT,hTe,hT,hdT,h3⟩,up⟩:=hL;have nT:s.heap.get? T=none:=(fZ hst up hnT hT hdT).elim id fun z=>absurd (uH.mp z) hTe;have stay:∀b o,s.heap.get? b=some o->b∉frs (envOfC qual scope s₀.heap.objs.size f cd::outer)->b∉[e,T]->h'.get? b=some o:=fun b o z hb n=>k1 b o (cV z hb fun y=>n (by rw[uH.mp y];exact .head _));have n1:∀b∈[e,T],s₀.heap.get? b=none:=fun b hb=>by
  rcases zv.mp hb with r|r
  ·rw[r];exact n0
  ·rw[uH.mp r];exact I.s0_none rfl nT
 have n2:∀b∈[e,T],H b=none:=fun b hb=>by
  rcases zv.mp hb with r|r
  ·rw[r];exact ne
  ·rw[uH.mp r];exact I.hok.none_of nT
 refine⟨e,.ref C,some c0,[e,T],H,rfl,I.os,I.bare,I.noteUn rfl n1 stay up,I.noteOk n2 stay,fun b hb=>⟨n1 b hb,n2 b hb⟩,⟨.head _,a0,?_,g2⟩,q⟩;exact⟨fun b o z=>fw z,dv (.head _),cc f3,oe,vs,T,oT,ts,he',hc,hd,h1,dv (.tail _ (.head _)),hTe,hT,hdT,h3⟩
def uv(X:Cx)(E:XKs):Prop:=∀(pins:List (Addr × Obj)) (σ:St) (H:Hp) (s:Shared) (e C e0:Addr) (od:Option Addr) (a0:Value) (sl:Array (Option Value)),Inv X pins σ H s->s.heap.get? e=some ⟨.ref C,od,.fields (x_ a0 e0),sl⟩->H e=none->X.s₀.heap.get? e=none->E σ (.ref C) (some e0) H->X.xe (.ref e) s
theorem zf:uv (bE (XE P w) P w K mg base N qual scope f cd A outer s₀ H₀ E) (fun _=>E):=fun _ _ _ _ _ _ _ _ _ _ I he ne n0 q=>qt I he ne n0 q
end
section
variable{X:Cx}{pins:List (Addr × Obj)}{σ:St}{H:Hp}{s:Shared}{E:Value->Shared->Prop}{C e0:Addr}{y msg:Str}{np2 cpos pos2 p1:Pos}{j1}{Q:Flow->Shared->Prop}
theorem xI(hh:X.A.handled=some (.ref e0))(I:Inv X pins σ H s)(f2:F2 s.heap e0)(O:Yk X.K C y_ "ValueError.__new__" = true)(hg:Gl X y)(hm:X.mg y=some (.ref C))
 (hk:∀(s':Shared) (e:Addr) (od:Option Addr) (a0:Value) (sl:Array (Option Value)),Inv X pins σ H s'->s'.heap.get? e=some ⟨.ref C,od,.fields (x_ a0 e0),sl⟩->H e=none->s.heap.get? e=none->E (.ref e) s')
 (hdb:(y==("__debug__":Str))=false:=by decide) :
 wpAny (model X.prog X.w) X.A (execs [.Raise (some (.Call (.Name y np2) [.Constant (.str msg) j1 p1] [] cpos)) none pos2] X.env) Q E s:=by
 obtain⟨tl,N,nm,q,bs,hdct,sn,sub,ab,col,dd,k0,k1,k2,k3,k5,mN,hC,hN,hni,T⟩:=ue I.mod.kin O;refine wpAny_execs_cons (mB (C:=C) (nm:=nm) (q:=q) (N:=N) (bs:=bs) (bm:=tl) (hdct:=hdct) (sn:=sn) (sub:=sub) (ab:=ab) (col:=col) (dd:=dd) (k0:=k0) (k1:=k1) (k2:=k2) (k3:=k3) (k5:=k5) (e0:=e0)
  PySem.F.excBase_ValueError (mN:=mN) (T.hasType PySem.F.excBase_ValueError.hasBase) hh (by rfl) hni (eX I hg hm ⟨rfl,?_⟩ hdb))
 refine Yb (Zf (Calls.Constant_str (k:=j1) (pos:=p1) (Calls.spliced_nil ⟨rfl,(by show 1<=sizeLine;rw[wz];decide),I.bk _ _ hC,hN.keeps I.bk,T.keeps I.bk,f2,fun h' e h'' t hm ne sb ho=>?_⟩)));obtain⟨⟨oc,od,odt,osl⟩,o1,rfl,rfl⟩:=ho;have e0:s.heap.get? e=none:=hm.new;refine hk _ e od _ osl (I.kept (t':=s.toks+1) fun b u z=>(sb.2 b ?_).trans (hm.keeps b u z)) o1 (I.hok.none_of e0) e0;rintro rfl;rw[e0]at z;cases z
end
def Ag(K:W.Frag)(CH C':Addr)(Er:XKs)(tb:XKs->TS):TS:=fun D σ H=>
 tb (fun σ' C oc H'=>∃Ce,C = .ref Ce/\Zd K (.ref Ce) (.ref CH)=some true/\oc=none/\∀e,Er σ' (.ref C') (some e) H') D σ H
section
variable{X:Cx}{CH C:Addr}{tb:XKs->TS}{Er:XKs}{x y:Str}{msg:Str}{body:List Stmt}{np np2 cpos pos pos2 hpos p1:Pos}{j1}
theorem zI
 (hg:Gl X x) (hm:X.mg x=some (.ref CH))
 (hex:X.ex=[]) (hst:X.stack=X.env::X.outer) (hfr:X.env.frame=some X.env.locals)
 (hb:∀(pn:List (Addr × Obj)) (Ee:Value->Shared->Prop) (Ex:XKs),bp (XE X.prog X.w) { X with pn:=pn,xe:=Ee } Ex->PSs { X with pn:=pn,xe:=Ee } body (tb Ex))
 (O:Yk X.K C y_ "ValueError.__new__" = true) (hg2:Gl X y) (hm2:X.mg y=some (.ref C)) (hr:uv X Er)
 (hpa:∀e:Addr,PassesOwnAt (model X.prog X.w) (X.A.mark (some (.ref e))) X.A X.env X.xe)
 (hdb:(x==("__debug__":Str))=false:=by decide) (hdb2:(y==("__debug__":Str))=false:=by decide) :
 PS X (.Try body [.ExceptHandler (some (.Name x np)) none [.Raise (some (.Call (.Name y np2) [.Constant (.str msg) j1 p1] [] cpos)) none pos2] hpos] [] [] pos) (Ag X.K CH C Er tb):=by
 intro pins s σ H D I h;refine wpAny_Try_except ?_;have ok:=I.ok;refine tu (hb (X.pn++pins) _ _ ?hP [] s σ H D (I.toPn _) h) (fun f s1 hf=>?_) (fun _ _ z=>z)
 case hP=>
  intro pins' σ' H1 s1 ev s1' I1 hq;obtain⟨e,C0,oc,rs,H',rfl,os,bare,un,hok,hrs,⟨her,a0,fl,g0⟩,⟨Ce,rfl,hmro,rfl,hth⟩⟩:=hq;have J1:=I1.call' os un hok bare (fun b z=>nomatch z);have J:Inv X pins σ' H' s1':=J1.ofPn ok;have I0:Inv X pins σ' H1 s1:=I1.ofPn ok;have hn0:∀b∈rs,X.s₀.heap.get? b=none/\H' b=none:=fun b hb=>by
   refine⟨?_,(hrs b hb).2⟩;cases q:X.s₀.heap.get? b with
   |none=>rfl
   |some o=>
    obtain⟨o',z⟩:=I0.base.there b o q (by rw[hex];simp);rw[(hrs b hb).1]at z;cases z
  have hpin:∀p∈X.pn++pins,p.1∉rs:=fun p hp z=>by
   have:=(I0.pin p hp).1;rw[(hrs _ z).1]at this;cases this
  have hstk:s1'.heap.FunFrames X.base (X.env::X.outer):=by rw[<- hst];exact J.stack
  rw[show X.stack=X.env::X.outer from hst]at fl;have hfrm:X.A.frames=some (X.env::X.outer):=by rw[<- hst];exact ok.frames
  show wpAny (model X.prog X.w) X.A (Yo (.ref e) X.env) _ _ s1';refine be (e:=e) (kq _ _) g0 (wpAny_looks_onW (base:=hid s1'.heap (X.env::X.outer) rs) hfrm hfr fl fun h₄ held up4 g4=>?_);refine be (e:=e) (dB _ _) g4 (wpAny_landsW held fun h₅ fl5 up5 g5=>?_);have nin:∀b,b∉frs X.stack->b∉frs (X.env::X.outer):=fun b hb=>by rw[<- hst];exact hb
  have stay5:∀b o,s1'.heap.get? b=some o->b∉frs X.stack->b∉rs->h₅.get? b=some o:=fun b o z hb hr=>fl5.1 b o (cV z (nin b hb) hr);have I5:Inv X pins σ' H' { s1' with heap:=h₅,toks:=s1'.toks }:=J.noted hn0 hpin stay5 (up4.trans up5);obtain⟨ob,hob,hobc⟩:=fl5.there;refine wpAny_handleBy_cons (codeAny_handlers_test (eX (X:=X.caught e) (I5.toCaught e) hg hm (gY I5.kIn hob hobc hmro ?_) hdb)) (by intro q;cases q);refine codeAny_handlers_suite (be (e:=e) (dB _ _) g5 (lands_againW fl5 fun h₆ fl6 up6 g6=>?_));have stay6:∀b o,s1'.heap.get? b=some o->b∉frs X.stack->b∉rs->h₆.get? b=some o:=fun b o z hb hr=>fl6.1 b o (cV z (nin b hb) hr);have I6:Inv X pins σ' H' { s1' with heap:=h₆,toks:=s1'.toks }:=J.noted hn0 hpin stay6 ((up4.trans up5).trans up6);refine xI (X:={ X with A:=X.A.mark (some (.ref e)),calm:=false }) (σ:=σ') (H:=H') (pins:=pins) rfl ⟨I6.ok.re (X.A.mark (some (.ref e))) rfl false (fun z=>nomatch z) _ _,I6.os,I6.bare,I6.base,I6.loc,I6.cell,I6.free,I6.freeC,I6.pin,I6.hok,I6.len⟩ g6 O hg2 hm2 (fun s7 e7 od a7 sl I7 q1 q2 q3=>?_) hdb2;exact hpa e _ _ <| hr pins σ' H' s7 e7 C e od a7 sl ⟨ok,I7.os,I7.bare,I7.base,I7.loc,I7.cell,I7.free,I7.freeC,I7.pin,I7.hok,I7.len⟩ q1 q2 (I6.s0_none hex q3) (hth e)
 cases f with
 |next=>
  obtain⟨σ',H',J,q⟩:=hf;exact Yu ⟨σ',H',J.ofPn ok,q⟩
 |brk=>
  obtain⟨σ',H',J,q⟩:=hf;exact⟨σ',H',J.ofPn ok,q⟩
 |cont=>
  obtain⟨σ',H',J,q⟩:=hf;exact⟨σ',H',J.ofPn ok,q⟩
 |ret u=>
  obtain⟨v,σ',H',J,r,q⟩:=hf;exact⟨v,σ',H',J.ofPn ok,r,q⟩
end
inductive Ent {α:Type} (P:Params) (R:α->Addr->Prop):List (List Nat × α)->List Z0->Prop
 |nil:Ent P R [] []
 |cons {k:List Nat} {x:α} {l:List (List Nat × α)} {t:Tok} {f:Addr} {es:List Z0}:R x f->Ent P R l es->Ent P R ((k,x)::l) (⟨PySem.PyData.keyHash P ⟨⟨k⟩⟩,.str ⟨⟨k⟩⟩ t,.ref f⟩::es)
def Tbl{α:Type}(K:W.Frag)(P:Params)(R:α->Addr->Prop)(a:Addr)(l:List (List Nat × α)):Prop:=
 (a==sysModules)=false/\(l.map (·.1)).Nodup/\∃es ep,K.lookup a=some ⟨.type "dict",none,.dict es ep,#[]⟩/\Ent P R l es.toList
noncomputable def cj{α:Type}(l:List (List Nat × α))(k:List Nat):Option α:=(l.find? fun p=>decide (p.1=k)).map (·.2)
abbrev EntV{α:Type}(R:α->Addr->Prop):List (List Nat × α)->List (Key × Value)->Prop:=Paired fun p q=>(Sum.inr ⟨⟨p.1⟩⟩:Key)=q.1/\∃f,q.2 = .ref f/\R p.2 f
section
variable{α:Type}{P:Params}{R:α->Addr->Prop}{prog:Program}{w:World}{l:List (List Nat × α)}{es:List Z0}{vs:List (Key × Value)}
theorem Ent.vals(hw:w.params=P)(E:Ent P R l es):∃vs,EntV R l vs/\Pairs (di prog w) es vs/\∀e∈es,∃k,(di prog w).is k e.key=true/\e.hash=(di prog w).hash k:=by
 induction E with
 |nil=>exact⟨[],.nil,.nil,fun e h=>nomatch h⟩
 | @cons k x l t f es r E ih=>
  obtain⟨vs,h1,h2,h3⟩:=ih;refine⟨(.inr ⟨⟨k⟩⟩,.ref f)::vs,.cons ⟨rfl,f,rfl,r⟩ h1,.cons (fJ prog w _ _) rfl h2,fun e he=>?_⟩;rcases zv.mp he with rfl|he
  ·exact⟨.inr ⟨⟨k⟩⟩,fJ prog w _ _,by subst hw;rfl⟩
  ·exact h3 e he
theorem gw{β γ:Type}{g:β->γ}(hg:∀a b,g a=g b->a=b):∀ {l:List β},l.Nodup->(l.map g).Nodup
 | [],_=>.nil
 |x::r,h=>by
  rw[Yr]at h;rw[rS,Yr];refine⟨fun z=>?_,gw hg h.2⟩;obtain⟨y,hy,e⟩:=kJ.mp z;exact h.1 (hg _ _ e ▸ hy)
theorem EntV.keys(V:EntV R l vs):vs.map (·.1)=l.map fun p=>(Sum.inr ⟨⟨p.1⟩⟩:Key):=by
 induction V with
 |nil=>rfl
 |cons h _ ih=>rw[rS,rS,ih,<- h.1]
theorem EntV.at(V:EntV R l vs)(k:List Nat):match cj l k with
 |some x=>∃f,valueAt vs (Sum.inr ⟨⟨k⟩⟩:Key)=some (.ref f)/\R x f
 |none=>valueAt vs (Sum.inr ⟨⟨k⟩⟩:Key)=none:=by
 induction V with
 |nil=>exact rfl
 | @cons p q ps qs h t ih=>
  obtain⟨h1,f,h2,h3⟩:=h;obtain⟨qk,qv⟩:=q;cases h2;cases h1;unfold cj valueAt at ih |-
  by_cases e:p.1=k
  ·subst e
   simp only[List.find?_cons,decide_true,Option.map_some];exact⟨f,rfl,h3⟩
  ·have e2:¬ ((Sum.inr ⟨⟨p.1⟩⟩:Key)=Sum.inr ⟨⟨k⟩⟩):=fun z=>e (by injection z with z;injection z with z;injection z)
   simp only[List.find?_cons,decide_eq_false e,decide_eq_false e2];exact ih
theorem Tbl.dict{K:W.Frag}{a:Addr}{h:Heap}(T:Tbl K w.params R a l)(X:K.In h):(a==sysModules)=false/\∃vs,EntV R l vs/\h.DictOf (di prog w) a vs:=by
 obtain⟨z,nd,es,ep,lk,E⟩:=T;obtain⟨vs,V,p,hk⟩:=E.vals (prog:=prog) (w:=w) rfl;refine⟨z,vs,V,_,es,ep,X _ _ lk,⟨rfl,rfl,rfl⟩,rfl,fun e he=>hk e (Array.mem_toList_iff.mpr he),p,?_⟩;rw[V.keys];have:(l.map fun p=>(Sum.inr ⟨⟨p.1⟩⟩:Key))=(l.map (·.1)).map fun c=>(Sum.inr ⟨⟨c⟩⟩:Key):=by rw[ZM];rfl
 rw[this];exact gw (fun a b z=>by injection z with z;injection z with z;injection z) nd
end
def CsT(K:W.Frag)(t:Addr)(xs:List V):Prop:=∃(its:Array Value) (n:Nat) (sl:Array (Option Value)),K.lookup t=some ⟨.type "tuple",none,.seq its n,sl⟩/\its.size<=sizeLine/\Vals xs its.toList
theorem CsT.sq{K:W.Frag}{t:Addr}{xs:List V}(h:CsT K t xs){H:Hp}:SqT K H t xs:=by
 obtain⟨its,n,sl,h1,h2,h3⟩:=h;exact .inr ⟨_,its,n,h1,rfl,rfl,h2,h3⟩
def Cm{α:Type}(l:List (List Nat × α))(R:α->Addr->Prop):V->Hp->VK->Prop
 | .str z,H,Q=>∃v,cj l (cs z)=some v/\∀f,R v f->Q (.ref f) H
 |_,_,_=>False
def Bl{α:Type}(neg:Bool)(l:List (List Nat × α)):V->Hp->VK->Prop
 | .str z,H,Q=>Q (.bl (neg ^^ (cj l (cs z)).isSome)) H
 |_,_,_=>False
def As{α:Type}(l:List (List Nat × α))(R:α->Addr->Prop)(ty:TE):TE:=fun σ H Q=>ty σ H fun y H1=>Cm l R y H1 Q
def DE{α:Type}(neg:Bool)(l:List (List Nat × α))(ty:TE):TE:=fun σ H Q=>ty σ H fun y H1=>Bl neg l y H1 Q
section
variable{X:Cx}{α:Type}{R:α->Addr->Prop}{l:List (List Nat × α)}{a:Addr}{o i:Expr}{pos:Pos}{ty:TE}
theorem fV(B:Tbl X.K X.w.params R a l)(ho:PE X o (tC (.ref a)))(hi:PE X i ty)(hs:C7 i):PE X (.Subscript o i pos) (As l R ty):=by
 intro pins s σ H Q I h;refine yD PySem.F.slot_dict_getitem.lookup hs (thn (ho pins s σ H (fun x H1=>x = .ref a/\H1=H) I ⟨rfl,rfl⟩) fun u s1 ⟨x,H1,I1,rx,q1⟩=>?_);obtain⟨rfl,rfl⟩:=q1;obtain rfl:u=qr a:=rx;refine thn (hi pins s1 σ H1 _ I1 h) fun iv s2 ⟨y,H2,I2,ry,q2⟩=>?_;obtain⟨_,vs,V,dd⟩:=B.dict (prog:=X.prog) I2.kIn;refine⟨dd.typeIs,?_⟩;dsimp only at q2;unfold Cm at q2;split at q2
 ·rename_i z
  obtain⟨v,hv,q2⟩:=q2;have e:=V.at (cs z);rw[hv]at e;obtain⟨f,e1,e2⟩:=e;exact wpAny_getItem_of (Ay (k:=.inr z) ry) dd.mapOf e1 ⟨.ref f,H2,I2.tok _,rfl,q2 f e2⟩
 ·exact q2.elim
theorem nv(B:Tbl X.K X.w.params R a l)(hi:PE X i ty)(ho:PE X o (tC (.ref a))):PC X .NotIn i o (DE true l ty):=by
 intro pins s σ H Q I h;refine thn (hi pins s σ H _ I h) fun iv s1 ⟨y,H1,I1,ry,q1⟩=>thn (ho pins s1 σ H1 (fun x H2=>x = .ref a/\H2=H1) I1 ⟨rfl,rfl⟩) fun u s2 ⟨x,H2,I2,rx,q2⟩=>?_;obtain⟨rfl,rfl⟩:=q2;obtain rfl:u=qr a:=rx;obtain⟨hd,vs,V,dd⟩:=B.dict (prog:=X.prog) I2.kIn;unfold Bl at q1;split at q1
 ·rename_i z
  have e:(valueAt vs (Sum.inr z:Key)).isSome=(cj l (cs z)).isSome:=by
   have e:=V.at (cs z);cases hv:cj l (cs z) with
   |none=>rw[hv]at e;rw[show valueAt vs (Sum.inr z:Key)=none from e];rfl
   |some x=>rw[hv]at e;obtain⟨f,e1,_⟩:=e;rw[show valueAt vs (Sum.inr z:Key)=_ from e1];rfl
  refine wpAny_notIn_of (Ay (k:=.inr z) ry) hd dd.mapOf ⟨.bl _,H2,I2.tok _,rfl,?_⟩;rw[e];rw[Bool.true_xor]at q1;exact q1
 ·exact q1.elim
def xX(K:W.Frag):List V->Hp->VK->Prop
 | [.ref e,.ref D],H,Q=>∃C o b,H e=some (r9 (.ref C) o e)/\cH K C/\nK K (.ref C) (.ref D)=some b/\Q (.bl b) H
 | [.ref e,.ty n],H,Q=>∃C o b,H e=some (r9 (.ref C) o e)/\cH K C/\nK K (.ref C) (.type n)=some b/\Q (.bl b) H
 |_,_,_=>False
theorem ft(K:W.Frag)(hK:X.K=K:=by rfl):CallR X (.builtin "isinstance") (xX K):=by
 subst hK;intro pins s σ H xs us Q I r h;have key:∀(e:Addr) (c:V) (u:Value) (C:Addr) (oc:Option Addr) (b:Bool),xs=[.ref e,c]->tq c u->H e=some (r9 (.ref C) oc e)->cH X.K C->nK X.K (.ref C) u=some b->Q (.bl b) H->wpAny (model X.prog X.w) X.A (call (.builtin "isinstance") us) (EP X pins σ Q) X.xe s:=by
  intro e c u C oc b ex rc he Z k q;subst ex;obtain⟨ux,uc,rfl,rx,rc'⟩:=wk r;have ec:uc=u:=by
   cases rc with
   |ty n=>exact rc'
   |own a=>exact rc'
  subst ec;cases (show ux=qr e from rx);rw[tR]at he;obtain⟨⟨o,vs,h1,h2,_⟩,_,_⟩:=I.hok e _ he;exact Zw (p_ Z) I.kIn ⟨o,h1,h2⟩ k (fun z=>nomatch z) fun tk=>⟨.bl b,H,I.tok _,rfl,q⟩
 unfold xX at h;split at h
 ·obtain⟨C,oc,b,he,Z,k,q⟩:=h
  exact key _ _ _ C oc b rfl (.own _) he Z k q
 ·obtain⟨C,oc,b,he,Z,k,q⟩:=h
  exact key _ _ _ C oc b rfl (.ty _) he Z k q
 ·exact h.elim
end
section
variable{X:Cx}
theorem Bj{E:Value->Shared->Prop}{pins:List (Addr × Obj)}{s:Shared}{σ:St}{H:Hp}{i:Nat}{x:Str}{v:V}{pos:Pos}{Q:Value->Shared->Prop}(I:Inv X pins σ H s)(hN:X.N[i]? = some x)(hv:Vis X.env.scope x)(e:σ[i]? = some (some v))
 (h:∀u,RelV v u->Q u s) (hd:(x==("__debug__":Str))=false:=by decide) (hcd:(x==("__classdict__":Str))=false:=by decide):wpAny (model X.prog X.w) X.A (eval (.Name x pos) X.env) Q E s:=by
 obtain⟨m,hn,hl⟩:=I.loc;obtain⟨u,r,l⟩:=hl i x v hN e hv;have fin:Q u s:=h u r;rcases l with ⟨hk,hm⟩|⟨hk,c,hc,hcell⟩
 ·exact wpAny_Name (wpAny_loadName_local I.ok.kind hk hn hm fin) hd
 ·rcases hk with hk|hk
  ·exact wpAny_Name (wpAny_loadName_cell I.ok.kind hk hc hcell fin) hd
  ·exact wpAny_Name (wpAny_loadName_free I.ok.kind hk hc hcell fin hcd) hd
end
def FnAt(P:Program)(w:World)(K:W.Frag)(mg:Str->Option Value)(base:Heap)(k:Nat)(f:Addr)(sp:Sp):Prop:=
 ∃fd ps,ZF K (.ref f)=true/\Binds K fd ps []/\FnOk P w K mg base (XE P w) k f fd ps sp
theorem Fo.at{P:Program}{w:World}{K:W.Frag}{mg:Str->Option Value}{base:Heap}{x:Str}{k:Nat}{sp:Sp}{f:Addr}(F:Fo P w K mg base x k sp)(h:mg x=some (.ref f)):FnAt P w K mg base k f sp:=by
 obtain⟨g,fd,ps,m,kp,b,F⟩:=F;rw[h]at m;cases m;exact⟨fd,ps,kp,b,F⟩
def sY(D:Addr->Sp->Prop)(E:XKs)(i:Nat)(t:TA):TE:=fun σ H Q=>∃f sp,σ[i]? = some (some (.ref f))/\D f sp/\t σ H fun vs H1=>sp vs H1 Q (E σ)
section
variable{X:Cx}{i j:Nat}{D:Addr->Sp->Prop}{E:XKs}{x:Str}{p pos:Pos}{e:Expr}{es:List Expr}{t:TA}
theorem xD(hD:∀f sp,D f sp->∃k,k<=j/\FnAt X.prog X.w X.K X.mg X.base k f sp)(hr:Room j X.A)(hx:bp (XE X.prog X.w) X E)(hN:X.N[i]? = some x)(hv:Vis X.env.scope x)(ha:PA X (e::es) t)
 (hd:(x==("__debug__":Str))=false:=by decide) (hcd:(x==("__classdict__":Str))=false:=by decide) (he:starEach (e::es) X.env=(false,eval e X.env)::starEach es X.env:=by rfl) (hpl:(backTo pos (starEach es X.env)).any (·.1)=false:=by rfl) :
 PE X (.Call (.Name x p) (e::es) [] pos) (sY D E i t):=by
 intro pins s σ H Q I h;obtain⟨f,sp,hi,hDf,h⟩:=h;obtain⟨k,hk,fd,ps,kp,b,F⟩:=hD f sp hDf;refine ZD (Bj I hN hv hi (fun u r=>?_) hd hcd);cases r;refine PySem.W.callWith_K (h₀:=X.base) I.ok.mod.kin kp (thn (ha pos pins s σ H _ I h) fun us s1 ⟨vs,H1,I1,r,q⟩=>⟨I1.kIn,?_⟩) he hpl;exact pE F (hr.mono hk) b .nil hx I1 r (by rw[Z3];exact q)
theorem xW(i:Nat)(hD:∀f sp,D f sp->∃k,k<=j/\FnAt X.prog X.w X.K X.mg X.base k f sp)(hr:Room j X.A)(hx:bp (XE X.prog X.w) X E)(ha:PA X (e::es) t)(hN:X.N[i]? = some x:=by rfl)(hv:Vis X.env.scope x:=by first|exact Or.inl rfl|exact Or.inr (Or.inl rfl)|exact Or.inr (Or.inr rfl))
 (hd:(x==("__debug__":Str))=false:=by decide) (hcd:(x==("__classdict__":Str))=false:=by decide) (he:starEach (e::es) X.env=(false,eval e X.env)::starEach es X.env:=by rfl) (hpl:(backTo pos (starEach es X.env)).any (·.1)=false:=by rfl) :
 PE X (.Call (.Name x p) (e::es) [] pos) (sY D E i t):=xD hD hr hx hN hv ha hd hcd he hpl
end
end L2
namespace L2
open PySem PyProof.Rows
abbrev Pt:=List Nat × List Nat
def ltP(a b:Pt):Prop:=a.1<b.1\/(a.1=b.1/\a.2<b.2)
noncomputable instance (a b:Pt):Decidable (ltP a b):=by unfold ltP;infer_instance
namespace Srt
def EM(h:Heap)(p:Addr)(e:Pt):Prop:=∃(o:Obj) (t u:Tok) (n:Nat),h.get? p=some o/\o.cls = .type "tuple" /\ o.data = .seq #[.str ⟨⟨e.1⟩⟩ t,.str ⟨⟨e.2⟩⟩ u] n
end Srt
def CEl(J:It)(n:Nat)(g:TG)(ks:List Nat)(tt:TT)(te:TE)(σ:St)(H1:Hp)(Q:VK):Prop:=∀D,H1 D=none->∃W:Nat->Nat->List V->Hp->Prop,(∃m,W 0 m [] (upd H1 D (.lst []))) /\
 ∀i m ys H2,W i m ys H2->H2 D=some (.lst ys)/\((J.stop i H2/\Q (.ref D) H2)\/(J.go i H2/\∀x H3,J.yld i H2 x H3->∀zs:St,zs.length=n ->
  g x (zs++ks.map fun k=>(σ[k]?).join) H3 fun σ4 H4=>(∃zs4:St,zs4.length=n/\σ4=zs4++ks.map fun k=>(σ[k]?).join) /\
   tt σ4 H4 fun b H5=>if b=true then te σ4 H5 fun y H6=>H6 D=some (.lst ys)/\ys.length<sizeLine/\∃m',m'<m/\W (i+1) m' (ys++[y]) (upd H6 D (.lst (ys++[y])))
    else ∃m',m'<m/\W (i+1) m' ys H5))
theorem Av{K:W.Frag}{tl:TE}{n:Nat}{g:TG}{ks:List Nat}{tt:TT}{te:TE}{σ:St}{H:Hp}{Q:VK}(h:tl σ H fun x H1=>∃a,x = .ref a/\(∃xs,SqL K H1 a xs)/\CEl (Itl K a) n g ks tt te σ H1 Q):cQ (v9 K tl) n g ks tt te σ H Q:=h
open Lean Meta Simp
def yF:List Name:=yT++[`L2.tDNewT,`L2.rExtT,`L2.tPar3]
def zF:List Name:=yM++[`L2.gSortDT,`L2.gRp]
def zr(e:Lean.Expr):MetaM (Option Lean.Expr):=do
 let .const n us:=e.getAppFn|return none
 let fr:=BN n || yF.contains n
 unless fr || zF.contains n do return none
 let some (.defnInfo d):=(<- getEnv).find? n|return none
 let v:=d.value.instantiateLevelParams d.levelParams us
 if e.getAppNumArgs<v.getNumHeadLambdas then return none
 let b:=v.beta e.getAppArgs
 if fr then return some b
 match <- reduceMatcher? b with
 | .reduced r=>return some r
 | .notMatcher=>return some b
 |_=>return none
end L2
namespace L2
open PySem PyProof.Rows
noncomputable def isD:HO->Bool
 | .dK _=>true
 | .dT _=>true
 |_=>false
section
variable{X:Cx}{pins:List (Addr × Obj)}{σ:St}{H:Hp}{s:Shared}{a:Addr}
def Th(H H1:Hp)(P:Hp->Prop):Prop:=∃a o u,H1 a=some (.frz o u)/\((H a=some u/\isD u=true/\P (upd H1 a u))\/(H a=some (.frz o u)/\P H1))
end
def sp8(f:V->V->V->V->V->V->V->V->Hp->VK->XK->Prop):Sp:=fun vs H Q E=>match vs with
 | [x,y,z,u,v,a,b,c]=>f x y z u v a b c H Q E
 |_=>False
section
variable{prog:Program}{w:World}{A:Around}{E:Value->Shared->Prop}{s:Shared}{it t e:Addr}{i:Nat}{its:Array Value}{x old:Value}
theorem ja(hi:s.heap.IsTupleIter it t i)(ht:s.heap.IsTuple t its)(hx:its[i]? = some x)
 (q:∀h',h'.IsTupleIter it t (i+1)->Heap.SameBut it s.heap h'->Q x { s with heap:=h' }):wpAny (model prog w) A (o8 (.ref it)) Q E s:=by
 obtain⟨o,ho,hc,hd⟩:=id hi;obtain⟨ol,hol,_,nl,hdl⟩:=ht;unfold o8;refine zz (wpAny_callSpecial?_slot (name:=ka "__next__") hi.typeIs ZC (ZH ZC hi.typeIs F.entry_tuple_iterator_next ?_ (F.args_tuple_iterator_next_1 _)));show wpAny _ _ (field (.ref it) 0 >>= _) _ _ s;refine zz (oi ho hd (x:=.ref t) rfl ?_);show wpAny _ _ (if (qr t==Zz)=true then _ else _) _ _ s;rw[if_neg (show ¬ ((qr t==Zz)=true) from vy)];show wpAny _ _ (field (.ref it) 1 >>= _) _ _ s;refine zz (oi ho hd (x:=.int i 0) rfl ?_);show wpAny _ _ (seqItems? (.ref t) >>= _) _ _ s;refine zz (Zl hol hdl ?_);simp only[qa,hx];refine zz (wpAny_setField ho hd (by simp) (xJ ⟨x,rfl,xJ (q _ ?_ (Heap.SameBut.update ..))⟩));exact⟨_,Heap.get?_update_self _ ho (Zr (ZW hd _)),(Obj.cls_mapFields ..).trans hc,by
  rw[ZW hd];simp[rawInt]⟩
theorem qy(hh:A.handled=none)(hi:s.heap.IsTupleIter it t i)(ht:s.heap.IsTuple t its)(hx:its[i]? = none)
 (q:∀h' e,Heap.ExtBut it s.heap h'->(∃o,h'.get? e=some o/\o.cls = .type "StopIteration")->E (.ref e) { s with heap:=h' }):wpAny (model prog w) A (o8 (.ref it)) Q E s:=by
 obtain⟨o,ho,hc,hd⟩:=id hi;obtain⟨ol,hol,_,nl,hdl⟩:=ht;unfold o8;refine zz (wpAny_callSpecial?_slot (name:=ka "__next__") hi.typeIs ZC (ZH ZC hi.typeIs F.entry_tuple_iterator_next ?_ (F.args_tuple_iterator_next_1 _)));show wpAny _ _ (field (.ref it) 0 >>= _) _ _ s;refine zz (oi ho hd (x:=.ref t) rfl ?_);show wpAny _ _ (if (qr t==Zz)=true then _ else _) _ _ s;rw[if_neg (show ¬ ((qr t==Zz)=true) from vy)];show wpAny _ _ (field (.ref it) 1 >>= _) _ _ s;refine zz (oi ho hd (x:=.int i 0) rfl ?_);show wpAny _ _ (seqItems? (.ref t) >>= _) _ _ s;refine zz (Zl hol hdl ?_);simp only[qa,hx];refine zz (wpAny_rule (zz (wpAny_setField ho hd (by simp) ?_)));show wpAny _ _ (newExc (.type "StopIteration") [] >>= _) _ _ _;refine zz ?_;simp only[newExc,newTuple];refine zz (Zi ?_ (by size_fits));refine zz (m:=firstArgMember _ _) (wpAny_of_eq (a:=Zz) (by first|rfl|(simp only[firstArgMember];rfl)) ?_);refine Zi ?_ (by size_fits);simp only[raiseNew];refine zz (wpAny_handled ?_)
 first|rw[show A.in1.handled=none from hh]|rw[hh]
 refine zz (xJ (wpAny_throw ?_));exact q _ _ (((Heap.SameBut.update ..).extBut.push _).push _) ⟨_,Heap.get?_push_size _ rfl,rfl⟩
end
section
variable{prog:Program}{w:World}{A:Around}{E:Value->Shared->Prop}{s:Shared}{z TI TO i1 i2 l1 l2:Addr}{k:Nat}{xs ys:Array Value}{x y a b:Value}
structure ZipAt(h:Heap)(z TI TO i1 i2 l1 l2:Addr)(f:Value)(k:Nat):Prop where
 zp:IsZip h z TI TO f
 ti:IsPair h TI (.ref i1) (.ref i2)
 to:∃a b,IsPair h TO a b
 t1:h.IsTupleIter i1 l1 k
 t2:h.IsTupleIter i2 l2 k
theorem uL(D:ZipApart z TI TO i1 i2 l1 l2)(Z:ZipAt s.heap z TI TO i1 i2 l1 l2 .none k)(p1:s.heap.IsTuple l1 xs)(p2:s.heap.IsTuple l2 ys)(hx:xs[k]? = some x)(hy:ys[k]? = some y)
 (q:∀h',ZipAt h' z TI TO i1 i2 l1 l2 (rawInt s.heap.objs.size) (k+1)->IsPair h' s.heap.objs.size x y->h'.objs.size=s.heap.objs.size+1 ->
  (∀c o,c≠z->c≠TO->c≠i1->c≠i2->s.heap.get? c=some o->h'.get? c=some o)->Q (some (.ref s.heap.objs.size)) { s with heap:=h' }) :
 wpAny (model prog w) A (pyNext (.ref z)) Q E s:=by
 obtain⟨zp,ti,⟨a,b,to⟩,t1,t2⟩:=Z;have ty:s.TypeIs (.ref z) "zip":=⟨_,zp,rfl⟩;unfold pyNext;refine zz (wpAny_attempt (wpAny_callSpecial?_slot (name:=ka "__next__") ty ZP (ZH ZP ty F.entry_zip_next ?_ (F.args_zip_next_1 _))));show wpAny _ _ (field (.ref z) 2 >>= _) _ _ _;refine zz (oi zp rfl (x:=.bool false) rfl ?_);show wpAny _ _ (field (.ref z) 3 >>= _) _ _ _;refine zz (oi zp rfl (x:=.ref TI) rfl (zz (Zl ti rfl ?_)));show wpAny _ _ ((field (.ref z) 0 >>= _) >>= _) _ _ _;refine zz (zz (oi zp rfl (x:=.none) rfl (xJ ?_)));simp only[if_true];refine zz (wpAny_rule (zz (oi zp rfl (x:=.ref TO) rfl (zz (Zx zp (by simp) fun h1 z1 b1=>zz ?_)))));simp only[List.zipIdx_cons,List.zipIdx_nil,Yq,List.forIn_nil];have e1:=b1.extBut;refine zz (zz (YQ ?_));show wpAny _ _ (o8 (.ref i1) >>= _) _ _ _;refine zz (ja (t1.extBut e1 D.i1z) (p1.extBut e1 D.l1z) hx fun h2 u1 b2=>xJ ?_);have e2:=b2.extBut;have o2:IsPair h2 TO a b:=e2 _ _ D.TOi1 (e1 _ _ D.TOz to);refine zz (Zl o2 rfl (zz (Yc o2 fun h3 o3 b3=>zz (wpAny_letGo (xJ ?_)))));have e3:=b3.extBut;refine zz (zz (YQ ?_));show wpAny _ _ (o8 (.ref i2) >>= _) _ _ _;refine zz (ja (((t2.extBut e1 D.i2z).extBut e2 D.i12.symm).extBut e3 D.TOi2.symm) (((p2.extBut e1 D.l2z).extBut e2 D.l2i1).extBut e3 D.l2TO) hy fun h4 u2 b4=>xJ ?_);have e4:=b4.extBut;have o4:IsPair h4 TO x b:=e4 _ _ D.TOi2 o3;refine zz (Zl o4 rfl (zz (Yc o4 fun h5 o5 b5=>zz (wpAny_letGo (xJ (xJ ?_))))));have e5:=b5.extBut
 replace o5:IsPair h5 TO x y:=o5
 refine zz (Zl o5 rfl (zz (wpAny_newTuple ?_)));have n5:h5.objs.size=s.heap.objs.size:=by rw[b5.1,b4.1,b3.1,b2.1,b1.1]
 have z5:=Heap.get?_push_of_some ({ cls:=.type "tuple",data:=.seq #[x,y] }:Obj) (e5 _ _ D.TOz.symm (e4 _ _ D.i2z.symm (e3 _ _ D.TOz.symm (e2 _ _ D.i1z.symm z1))));have v1:h5.IsTupleIter i1 l1 (k+1):=((u1.extBut e3 D.TOi1.symm).extBut e4 D.i12).extBut e5 D.TOi1.symm;have v2:h5.IsTupleIter i2 l2 (k+1):=u2.extBut e5 D.TOi2.symm;have kp:∀c o,c≠z->c≠TO->c≠i1->c≠i2->s.heap.get? c=some o->h5.get? c=some o:=fun c o c1 c2 c3 c4 e=>e5 _ _ c2 (e4 _ _ c4 (e3 _ _ c2 (e2 _ _ c3 (e1 _ _ c1 e))));show wpAny _ _ (Zj (.ref z) (.ref h5.objs.size) >>= _) _ _ _;refine zz ?_;unfold Zj;refine zz (Zx z5 (by simp) fun h6 z6 b6=>Zx z6 (by simp) fun h7 z7 b7=>?_);have up:∀c o,c≠z->(h5.push { cls:=.type "tuple",data:=.seq #[x,y] }).get? c=some o->h7.get? c=some o:=fun c o c1 e=>b7.extBut _ _ c1 (b6.extBut _ _ c1 e);have nz:h5.objs.size≠z:=Nat.ne_of_gt (by have:=xQ zp;rw[n5];exact this);have n7:h7.objs.size=h5.objs.size+1:=by rw[b7.1,b6.1,jw]
 have r7:=up _ _ nz (Heap.get?_push_size _ rfl);refine xJ ⟨_,rfl,?_⟩
 replace z7:IsZip h7 z TI TO (rawInt h5.objs.size):=z7
 rw[n5]at n7 z7 r7;show wpAny _ _ (pure (some (qr h5.objs.size))) _ _ _;rw[n5];exact xJ (q h7 ⟨z7,up _ _ D.TIz (Heap.get?_push_of_some _ (kp _ _ D.TIz D.TITO D.TIi1 D.TIi2 ti)),⟨_,_,up _ _ D.TOz (Heap.get?_push_of_some _ o5)⟩,v1.at fun o e=>up _ o D.i1z (Heap.get?_push_of_some _ e),v2.at fun o e=>up _ o D.i2z (Heap.get?_push_of_some _ e)⟩ r7 n7 fun c o c1 c2 c3 c4 e=>up c o c1 (Heap.get?_push_of_some _ (kp c o c1 c2 c3 c4 e)))
theorem mt(hh:A.handled=none)(D:ZipApart z TI TO i1 i2 l1 l2)(Z:ZipAt s.heap z TI TO i1 i2 l1 l2 .none k)(p1:s.heap.IsTuple l1 xs)(hx:xs[k]? = none)
 (q:∀h',(∀c o,c≠z->c≠i1->s.heap.get? c=some o->h'.get? c=some o)->Q none { s with heap:=h' }):wpAny (model prog w) A (pyNext (.ref z)) Q E s:=by
 obtain⟨zp,ti,⟨a,b,to⟩,t1,t2⟩:=Z;have ty:s.TypeIs (.ref z) "zip":=⟨_,zp,rfl⟩;unfold pyNext;refine zz (wpAny_attempt (wpAny_callSpecial?_slot (name:=ka "__next__") ty ZP (ZH ZP ty F.entry_zip_next ?_ (F.args_zip_next_1 _))));show wpAny _ _ (field (.ref z) 2 >>= _) _ _ _;refine zz (oi zp rfl (x:=.bool false) rfl ?_);show wpAny _ _ (field (.ref z) 3 >>= _) _ _ _;refine zz (oi zp rfl (x:=.ref TI) rfl (zz (Zl ti rfl ?_)));show wpAny _ _ ((field (.ref z) 0 >>= _) >>= _) _ _ _;refine zz (zz (oi zp rfl (x:=.none) rfl (xJ ?_)));simp only[if_true];refine zz (wpAny_rule (zz (oi zp rfl (x:=.ref TO) rfl (zz (Zx zp (by simp) fun h1 z1 b1=>zz ?_)))));simp only[List.zipIdx_cons,List.zipIdx_nil,Yq,List.forIn_nil];have e1:=b1.extBut;refine zz (zz (YQ ?_));show wpAny _ _ (o8 (.ref i1) >>= _) _ _ _;refine zz (qy hh (t1.extBut e1 D.i1z) (p1.extBut e1 D.l1z) hx fun h2 e e2 he=>?_);obtain⟨oe,ge,ce⟩:=he;have z2:=e2 _ _ D.i1z.symm z1;have ez:e≠z:=fun y=>by subst y;rw[z2]at ge;cases ge;simp at ce
 refine Zx z2 (by simp) fun h3 _ b3=>?_;exact zz (wpAny_isInstance (T:="StopIteration") (b:=true) ⟨oe,b3.extBut _ _ ez ge,ce⟩ isSubtype_stop (xJ (q h3 fun c o c1 c2 y=>b3.extBut _ _ c1 (e2 _ _ c2 (e1 _ _ c1 y)))))
end
noncomputable abbrev zT(l:Addr):Obj:={ cls:=.type "tuple_iterator",data:=.fields #[.ref l,.int 0 0] }
noncomputable abbrev zP(x y:Value):Obj:={ cls:=.type "tuple",data:=.seq #[x,y] }
noncomputable def vF(h:Heap)(l1 l2:Addr):Heap:=((((h.push (zT l1)).push (zT l2)).push (zP (.ref h.objs.size) (.ref (h.objs.size+1)))).push (zP .none .none)).push { cls:=.type "zip",data:=.fields #[.none,.bool false,.bool false,.ref (h.objs.size+2),.ref (h.objs.size+3)] }
theorem xx(l1 l2:Addr)(xs ys:Array Value) :
 Meets (Builtin.«zip.__new__» ⟨[.type "zip",.ref l1,.ref l2],[]⟩) (fun _ R s=>s.heap.IsTuple l1 xs/\s.heap.IsTuple l2 ys/\R (.ok (.ret (.ref (s.heap.objs.size+4)))) { s with heap:=vF s.heap l1 l2 }):=
 .of_wp fun prog w A R s ⟨p1,p2,h⟩=>by
  obtain⟨hp,g,d,tk,os⟩:=s;have sub:=sub_zip;have q1:Heap.IsTuple (Shared.heap ⟨hp,g,d,tk,os⟩) l1 xs:=p1;have q2:Heap.IsTuple (Shared.heap ⟨hp.push (zT l1),g,d,tk,os⟩) l2 ys:=p2.push _;have h2:R (.ok (.ret (.ref ((((hp.push (zT l1)).push (zT l2)).push (zP (.ref hp.objs.size) (.ref (hp.push (zT l1)).objs.size))).push (zP .none .none)).objs.size))) ⟨((((hp.push (zT l1)).push (zT l2)).push (zP (.ref hp.objs.size) (.ref (hp.push (zT l1)).objs.size))).push (zP .none .none)).push { cls:=.type "zip",data:=.fields #[.none,.bool false,.bool false,.ref ((hp.push (zT l1)).push (zT l2)).objs.size,.ref (((hp.push (zT l1)).push (zT l2)).push (zP (.ref hp.objs.size) (.ref (hp.push (zT l1)).objs.size))).objs.size] },g,d,tk,os⟩:=by
   simp only[jw];exact h
  wp_walk using YJ q1,YJ q2
  exact⟨_,rfl,h2⟩
section
variable{prog:Program}{w:World}{A:Around}{E:Value->Shared->Prop}{s:Shared}
theorem u8(p1:s.heap.IsTuple l1 xs)(p2:s.heap.IsTuple l2 ys)
 (h:∀h',ZipAt h' (s.heap.objs.size+4) (s.heap.objs.size+2) (s.heap.objs.size+3) s.heap.objs.size (s.heap.objs.size+1) l1 l2 .none 0->(∀c o,s.heap.get? c=some o->h'.get? c=some o)->Q (.ref (s.heap.objs.size+4)) { s with heap:=h' }) :
 wpAny (model prog w) A (call (.type "zip") [.ref l1,.ref l2]) Q E s:=by
 refine callType_new F.called_zip (by decide) (F.typeCall_zip_2 _ _) (F.newCall_zip_2 _ _) (fun obj=>F.args_object_init_3 obj _ _) F.entry_zip_new (xx l1 l2 xs ys) ⟨p1,p2,?_⟩;have g5:(vF s.heap l1 l2).get? (s.heap.objs.size+4)=some _:=Heap.get?_push_at (by simp only[jw]) rfl;have g4:(vF s.heap l1 l2).get? (s.heap.objs.size+3)=some _:=Heap.get?_push_of_some _ (Heap.get?_push_at (by simp only[jw]) rfl);have g3:(vF s.heap l1 l2).get? (s.heap.objs.size+2)=some _:=Heap.get?_push_of_some _ (Heap.get?_push_of_some _ (Heap.get?_push_at (by simp only[jw]) rfl));have g2:(vF s.heap l1 l2).get? (s.heap.objs.size+1)=some _:=Heap.get?_push_of_some _ (Heap.get?_push_of_some _ (Heap.get?_push_of_some _ (Heap.get?_push_at (by simp only[jw]) rfl)));have g1:(vF s.heap l1 l2).get? s.heap.objs.size=some _:=Heap.get?_push_of_some _ (Heap.get?_push_of_some _ (Heap.get?_push_of_some _ (Heap.get?_push_of_some _ (Heap.get?_push_at rfl rfl))));exact⟨⟨_,g5,rfl⟩,h _ ⟨g5,g3,⟨_,_,g4⟩,⟨_,g1,rfl,rfl⟩,⟨_,g2,rfl,rfl⟩⟩ fun c o x=>Heap.get?_push_of_some _ (Heap.get?_push_of_some _ (Heap.get?_push_of_some _ (Heap.get?_push_of_some _ (Heap.get?_push_of_some _ x))))⟩
end
section
variable{X:Cx}{pins:List (Addr × Obj)}{σ:St}{H:Hp}{s:Shared}
theorem Inv.turnedN{h':Heap}(I:Inv X pins σ H s):∀ch:List Addr,(∀b∈ch,gb X pins H b/\(∃o,s.heap.get? b=some o)/\∃o,h'.get? b=some o/\o.isFreed=false) ->
 ∃h2:Heap,h2.objs.size=s.heap.objs.size/\Inv X pins σ H { s with heap:=h2,toks:=t' }/\(∀b∈ch,h2.get? b=h'.get? b)/\∀b,b∉ch->h2.get? b=s.heap.get? b
 | [],_=>⟨s.heap,rfl,I.tok t',(fun _ m=>nomatch m),fun _ _=>rfl⟩
 |c::r,h=>by
  obtain⟨h2,z2,I2,e2,k2⟩:=I.turnedN (h':=h') (t':=t') r fun b m=>h b (.tail _ m);obtain⟨fc,⟨oc,gc⟩,o,g,fr⟩:=h c (.head _);have gh:∃o2,h2.get? c=some o2:=by
   by_cases m:c∈r
   ·exact⟨o,(e2 c m).trans g⟩
   ·exact⟨oc,(k2 c m).trans gc⟩
  obtain⟨o2,gh⟩:=gh;refine⟨h2.update c fun _=>o,by rw[Heap.size_update];exact z2,I2.turned (t':=t') (fun b o hb q=>(Heap.get?_update_other _ _ (Ne.symm hb)).trans q) fc.1 fc.2.1 fc.2.2.2.1 fc.2.2.2.2.1 fc.2.2.2.2.2,fun b m=>?_,fun b m=>?_⟩
  ·by_cases e:b=c
   ·subst e
    rw[Heap.get?_update_self _ gh fr,g]
   ·rw[Heap.get?_update_other _ _ (Ne.symm e)]
    exact e2 b ((zv.mp m).resolve_left e)
  ·rw[Heap.get?_update_other _ _ (fun e=>m (by rw[e];exact .head _))]
   exact k2 b fun z=>m (.tail _ z)
theorem Inv.turnedC{h':Heap}{t':Nat}{ch:List Addr}(I:Inv X pins σ H s)(k:∀b o,b∉ch->s.heap.get? b=some o->h'.get? b=some o)(hf:∀b∈ch,gb X pins H b):Inv X pins σ H { s with heap:=h',toks:=t' }:=by
 have nit:∀b u,H b=some u->b∉ch:=fun b u e m=>by rw[(hf b m).1]at e;cases e
 refine I.step (g':=s.gens) (d':=s.drawn) (ch:=ch) (fun b hb=>?_) (fun b o _ _ hc e _=>k b o hc e) (fun b o _ _ hc e _=>⟨o.slots,k b o hc e⟩) (fun _ _ _ _ n=>n)
  (fun b o hc e=>⟨o,k b o hc e⟩) (fun _ _ e=>e) (fun _ _ _ e=>e) (fun b ps e=>⟨#[],by rw[e];simp⟩) (fun m hm=>?_) (fun b u e=>?_) I.bare
 ·have f:=hf b hb
  exact⟨f.2.2.2.1,f.2.1,f.2.2.2.2.1,f.2.2.2.2.2⟩
 ·obtain⟨o,es,ep,ho,r⟩:=hm
  exact⟨o,es,ep,k _ o (fun m=>(hf _ m).2.1 rfl) ho,r⟩
 ·refine(I.hok b u e).stay (fun c v hc q=>k c v ?_ q) (fun _ q=>q) fun _ _ q=>q
  rcases hc with z|z
  ·rw[z];exact nit b u e
  ·exact nit c _ z
noncomputable def Itz(K:W.Frag)(a b:Addr):It:=
 ⟨fun i H=>∃xs ys x y,SqT K H a xs/\SqT K H b ys/\xs[i]? = some x/\ys[i]? = some y,fun i H v H'=>∃p x y,H p=none/\v = .ref p/\H'=upd H p (.tup [x,y])/\(∀xs,SqT K H a xs->xs[i]? = some x)/\∀ys,SqT K H b ys->ys[i]? = some y,fun i H=>∃xs,SqT K H a xs/\xs.length<=i⟩
theorem ZipAt.fp{h:Heap}{z TI TO i1 i2 l1 l2:Addr}{f:Value}{k:Nat}(Z:ZipAt h z TI TO i1 i2 l1 l2 f k):∀b∈[z,TI,TO,i1,i2],∃o,h.get? b=some o/\(∀v,o.data ≠ .cell v)/\o.isFreed=false:=by
 obtain⟨zp,ti,⟨a,b,to⟩,⟨o1,g1,_,d1⟩,⟨o2,g2,_,d2⟩⟩:=Z;intro b hb;simp only[zv,oO,or_false]at hb;rcases hb with rfl|rfl|rfl|rfl|rfl
 ·exact⟨_,zp,(fun v z=>nomatch z),rfl⟩
 ·exact⟨_,ti,(fun v z=>nomatch z),rfl⟩
 ·exact⟨_,to,(fun v z=>nomatch z),rfl⟩
 ·exact⟨_,g1,(fun v z=>by rw[d1]at z;cases z),Zr d1⟩
 ·exact⟨_,g2,(fun v z=>by rw[d2]at z;cases z),Zr d2⟩
theorem ZipAt.mv{h h':Heap}{z TI TO i1 i2 l1 l2:Addr}{f:Value}{k:Nat}(Z:ZipAt h z TI TO i1 i2 l1 l2 f k)(e:∀b∈[z,TI,TO,i1,i2],∀o,h.get? b=some o->h'.get? b=some o):ZipAt h' z TI TO i1 i2 l1 l2 f k:=by
 obtain⟨zp,ti,⟨a,b,to⟩,t1,t2⟩:=Z;exact⟨e z (by simp) _ zp,e TI (by simp) _ ti,⟨a,b,e TO (by simp) _ to⟩,t1.at fun o q=>e i1 (by simp) o q,t2.at fun o q=>e i2 (by simp) o q⟩
theorem uF{P:Program}{w:World}{K:W.Frag}{elts:List Expr}{cx:_}{pos:Pos}{a b z TI TO i1 i2:Addr}(D:ZipApart z TI TO i1 i2 a b) :
 ra P w K (.Tuple elts cx pos) (Itz K a b) [z,TI,TO,i1,i2] z (fun i h=>ZipAt h z TI TO i1 i2 a b .none i) where
 mem:=by simp
 obj:=fun i h Z c hc=>by
  obtain⟨o,g,n,_⟩:=Z.fp c hc;exact⟨o,g,n⟩
 keep:=fun i h h' Z k=>Z.mv k
 item:=by
  intro X hP hw hK hc i pins s σ H E I hf Z hg;subst hP hw hK;obtain⟨xs,ys,x,y,q1,q2,hx,hy⟩:=hg;obtain⟨v1,r1,p1,_⟩:=I.tuple q1;obtain⟨v2,r2,p2,_⟩:=I.tuple q2;obtain⟨u1,hu1,ru1⟩:=r1.get hx;obtain⟨u2,hu2,ru2⟩:=r2.get hy;have lt:∀c∈[z,TI,TO,i1,i2],c<s.heap.objs.size:=fun c hc=>by
   obtain⟨o,g,_⟩:=Z.fp c hc;exact xQ g
  refine uL D Z (show s.heap.IsTuple a v1.toArray from p1) (show s.heap.IsTuple b v2.toArray from p2) (x:=u1) (y:=u2) (by simpa using hu1) (by simpa using hu2) fun h' Z1 t1 n1 k1=>?_;obtain⟨h3,z3,I3,e3,k3⟩:=I.turnedN (h':=h') (t':=s.toks) [z,TI,TO,i1,i2] fun c hc=>by
   obtain⟨o,g,_⟩:=Z.fp c hc;obtain⟨o',g',_,f'⟩:=Z1.fp c hc;exact⟨hf c hc,⟨o,g⟩,o',g',f'⟩
  have kk:∀c o,h3.get? c=some o->h'.get? c=some o:=fun c o q=>by
   by_cases hc:c∈[z,TI,TO,i1,i2]
   ·rw[e3 c hc]at q;exact q
   ·rw[k3 c hc]at q
    simp only[zv,oO,or_false,not_or]at hc;exact k1 c o hc.1 hc.2.2.1 hc.2.2.2.1 hc.2.2.2.2 q
  have hn:=I.hok.fresh (xi s.heap.objs.size);have I4:Inv X pins σ (upd H s.heap.objs.size (.tup [x,y])) { s with heap:=h',toks:=s.toks }:=
   I3.laid (t':=s.toks) kk (Nat.le_of_eq z3) (show ObjOk X.prog X.w _ h' _ (.tup [x,y]) from⟨by show 2<=sizeLine;rw[wz];decide,[u1,u2],.cons ru1 (.cons ru2 .nil),⟨_,t1,rfl,0,rfl⟩⟩)
  have nH:∀c,c<s.heap.objs.size->upd H s.heap.objs.size (.tup [x,y]) c=H c:=fun c l=>aw (o6 l);have fz:=hf z (by simp);refine⟨_,rfl,wpAny_letOwnedTupleGo_zip (s:={ s with heap:=h' }) Z1.zp fun h5 e5 s5=>?_⟩;have I5:Inv X pins σ (upd H s.heap.objs.size (.tup [x,y])) { s with heap:=h5,toks:=s.toks }:=
   I4.turned (t':=s.toks) (fun c o hb q=>(s5.2 c hb).trans q) ((nH z (lt z (by simp))).trans fz.1) fz.2.1 fz.2.2.2.1 fz.2.2.2.2.1 fz.2.2.2.2.2
  have ex:=s5.extBut;obtain⟨c1,c2⟩:=Z1.to;obtain⟨c2,c3⟩:=c2;refine⟨.ref s.heap.objs.size,_,I5,rfl,⟨_,x,y,hn,rfl,rfl,(fun zs hz=>by rw[I.tuple_inj hz q1];exact hx),fun zs hz=>by rw[I.tuple_inj hz q2];exact hy⟩,⟨e5,ex _ _ D.TIz Z1.ti,⟨_,_,ex _ _ D.TOz c3⟩,Z1.t1.extBut ex D.i1z,Z1.t2.extBut ex D.i2z⟩,fun c hc=>(nH c (lt c hc)).trans (hf c hc).1⟩
 done:=by
  intro X hP hw hK hc i pins s σ H E I hf Z hg;subst hP hw hK;obtain⟨xs,hq,hx⟩:=hg;obtain⟨its,rv,p,_⟩:=I.tuple hq;have hl:=rv.length;exact mt (I.ok.hd hc) D Z (show s.heap.IsTuple a its.toArray from p) (by simp;lia) fun h' k1=>⟨rfl,I.turnedC (ch:=[z,TI,TO,i1,i2]) (t':=s.toks) (fun c o hc e=>k1 c o (fun y=>hc (by simp[y])) (fun y=>hc (by simp[y])) e) hf⟩
 self:=fun _ _ _ _ _ Z h=>wpAny_pyIter_zip Z.zp h
def wQ(K:W.Frag)(ta tb:TE):TI:=fun σ H R=>ta σ H fun x H1=>tb σ H1 fun y H2=>∃a b,x = .ref a/\y = .ref b/\(∃xs,SqT K H2 a xs)/\(∃ys,SqT K H2 b ys)/\R (Itz K a b) H2
theorem ug{x y:Expr}{ta tb:TE}{p pos:Pos}{elts:List Expr}{cx:_}{tp:Pos}(K:W.Frag)(hg:Gl X "zip")(hm:X.mg "zip" = none)(ha:PE X x ta)(hb:PE X y tb)(hs:starEach [x,y] X.env=(false,eval x X.env)::starEach [y] X.env:=by rfl)(hs2:starEach [y] X.env=[(false,eval y X.env)]:=by rfl)(hpl:(backTo pos (starEach [y] X.env)).any (·.1)=false:=by rfl)(hK:X.K=K:=by rfl) :
 PI X (.Tuple elts cx tp) (.Call (.Name "zip" p) [x,y] [] pos) (wQ K ta tb):=by
 subst hK;intro pins s σ H R I h;refine Call_ (fK I hg hm (show kc "zip" = some (.type "zip") by decide +kernel) (Zo ?_ hs hpl));rw[hs,hs2];refine Zf (thn (ha pins s σ H _ I h) fun v s1 ⟨x,H1,I1,rx,q1⟩=>Zf (thn (hb pins s1 σ H1 _ I1 q1) fun v2 s2 ⟨y,H2,I2,ry,a,b,ex,ey,⟨xs,hx⟩,⟨ys,hy⟩,q⟩=>?_));subst ex ey;cases (show v=qr a from rx);cases (show v2=qr b from ry);obtain⟨i1,r1,p1,_⟩:=I2.tuple hx;obtain⟨i2,r2,p2,_⟩:=I2.tuple hy;have t1:s2.heap.IsTuple a i1.toArray:=p1;have t2:s2.heap.IsTuple b i2.toArray:=p2;have l1:a<s2.heap.objs.size:=by obtain⟨_,e,_⟩:=t1;exact xQ e
 have l2:b<s2.heap.objs.size:=by obtain⟨_,e,_⟩:=t2;exact xQ e
 refine Calls.spliced_nil (u8 t1 t2 fun h' Z k=>wpAny_pyIter_zip (s:={ s2 with heap:=h' }) Z.zp ?_);refine⟨_,_,_,_,_,rfl,I2.kept (t':=s2.toks) k,uF (zipApart_new l1 l2),Z,fun c hc=>?_,q⟩;have le:s2.heap.objs.size<=c:=by
  simp only[zv,oO,or_false]at hc;rcases hc with rfl|rfl|rfl|rfl|rfl
  ·exact Zu _ _
  ·exact Zu _ _
  ·exact Zu _ _
  ·exact xi _
  ·exact Zu _ _
 exact I2.fpOk le (I2.hok.fresh le)
theorem ww{K:W.Frag}{ta tb:TE}{g:TG}{t:TS}{D:fi}{σ:St}{H:Hp}(h:ta σ H fun x H1=>tb σ H1 fun y H2=>∃a b,x = .ref a/\y = .ref b/\(∃xs,SqT K H2 a xs)/\(∃ys,SqT K H2 b ys)/\FE (Itz K a b) g t D σ H2):y6 (wQ K ta tb) g t D σ H:=h
theorem vU{K:W.Frag}{a b:Addr}{xs ys:List V}{g:TG}{tb:TS}{D:fi}{σ:St}{H:Hp}(hlen:xs.length=ys.length)(Pv:Nat->St->Hp->Prop)(h0:Pv 0 σ H)(hl:∀i σ H,Pv i σ H->SqT K H a xs/\SqT K H b ys)
 (hs:∀i x y σ H p,xs[i]? = some x->ys[i]? = some y->H p=none->Pv i σ H->g (.ref p) σ (upd H p (.tup [x,y])) fun σ2 H2=>tb { D with nx:=Pv (i+1),ct:=Pv (i+1),bk:=D.nx } σ2 H2) (hd:∀σ H,Pv xs.length σ H->D.nx σ H):FE (Itz K a b) g tb D σ H:=by
 refine⟨fun i m σ H=>m=xs.length-i/\i<=xs.length/\Pv i σ H,⟨_,rfl,uG _,h0⟩,?_⟩;rintro i m σ H ⟨rfl,hi,p⟩;obtain⟨q1,q2⟩:=hl i σ H p;rcases YY i xs.length with lt|ge
 ·have lt2:i<ys.length:=by lia
  refine .inr ⟨⟨xs,ys,xs[i],ys[i],q1,q2,by simp[lt],by simp[lt2]⟩,Pv (i+1),fun σ' H' p'=>⟨_,by lia,rfl,lt,p'⟩,?_⟩;rintro v H' ⟨r,x,y,hr,rfl,rfl,hx,hy⟩;exact hs i x y σ H r (hx xs q1) (hy ys q2) hr p
 ·obtain rfl:i=xs.length:=Nat.le_antisymm hi ge
  exact .inl ⟨⟨xs,q1,xi _⟩,hd σ H p⟩
end
section
variable{prog:Program}{w:World}{A:Around}{E:Value->Shared->Prop}{s:Shared}{z TI TO i1 i2 l1 l2:Addr}{k:Nat}{xs ys:Array Value}{x y a b:Value}
structure ZipMAt(h:Heap)(z TI TO i1 i2 l1 l2:Addr)(f:Value)(k:Nat):Prop where
 zp:IsZip h z TI TO f
 ti:IsPair h TI (.ref i1) (.ref i2)
 to:∃a b,IsPair h TO a b
 t1:h.IsTupleIter i1 l1 k
 t2:h.IsListIter i2 l2 k
theorem tz(D:ZipApart z TI TO i1 i2 l1 l2)(Z:ZipMAt s.heap z TI TO i1 i2 l1 l2 .none k)(p1:s.heap.IsTuple l1 xs)(p2:s.heap.IsList l2 ys)(hx:xs[k]? = some x)(hy:ys[k]? = some y)
 (q:∀h',ZipMAt h' z TI TO i1 i2 l1 l2 (rawInt s.heap.objs.size) (k+1)->IsPair h' s.heap.objs.size x y->h'.objs.size=s.heap.objs.size+1 ->
  (∀c o,c≠z->c≠TO->c≠i1->c≠i2->s.heap.get? c=some o->h'.get? c=some o)->Q (some (.ref s.heap.objs.size)) { s with heap:=h' }) :
 wpAny (model prog w) A (pyNext (.ref z)) Q E s:=by
 obtain⟨zp,ti,⟨a,b,to⟩,t1,t2⟩:=Z;have ty:s.TypeIs (.ref z) "zip":=⟨_,zp,rfl⟩;unfold pyNext;refine zz (wpAny_attempt (wpAny_callSpecial?_slot (name:=ka "__next__") ty ZP (ZH ZP ty F.entry_zip_next ?_ (F.args_zip_next_1 _))));show wpAny _ _ (field (.ref z) 2 >>= _) _ _ _;refine zz (oi zp rfl (x:=.bool false) rfl ?_);show wpAny _ _ (field (.ref z) 3 >>= _) _ _ _;refine zz (oi zp rfl (x:=.ref TI) rfl (zz (Zl ti rfl ?_)));show wpAny _ _ ((field (.ref z) 0 >>= _) >>= _) _ _ _;refine zz (zz (oi zp rfl (x:=.none) rfl (xJ ?_)));simp only[if_true];refine zz (wpAny_rule (zz (oi zp rfl (x:=.ref TO) rfl (zz (Zx zp (by simp) fun h1 z1 b1=>zz ?_)))));simp only[List.zipIdx_cons,List.zipIdx_nil,Yq,List.forIn_nil];have e1:=b1.extBut;refine zz (zz (YQ ?_));show wpAny _ _ (o8 (.ref i1) >>= _) _ _ _;refine zz (ja (t1.extBut e1 D.i1z) (p1.extBut e1 D.l1z) hx fun h2 u1 b2=>xJ ?_);have e2:=b2.extBut;have o2:IsPair h2 TO a b:=e2 _ _ D.TOi1 (e1 _ _ D.TOz to);refine zz (Zl o2 rfl (zz (Yc o2 fun h3 o3 b3=>zz (wpAny_letGo (xJ ?_)))));have e3:=b3.extBut;refine zz (zz (YQ ?_));show wpAny _ _ (o8 (.ref i2) >>= _) _ _ _;refine zz (wpAny_nextOf_list_item (((t2.extBut e1 D.i2z).extBut e2 D.i12.symm).extBut e3 D.TOi2.symm) (((p2.extBut e1 D.l2z).extBut e2 D.l2i1).extBut e3 D.l2TO) hy fun h4 u2 b4=>xJ ?_);have e4:=b4.extBut;have o4:IsPair h4 TO x b:=e4 _ _ D.TOi2 o3;refine zz (Zl o4 rfl (zz (Yc o4 fun h5 o5 b5=>zz (wpAny_letGo (xJ (xJ ?_))))));have e5:=b5.extBut
 replace o5:IsPair h5 TO x y:=o5
 refine zz (Zl o5 rfl (zz (wpAny_newTuple ?_)));have n5:h5.objs.size=s.heap.objs.size:=by rw[b5.1,b4.1,b3.1,b2.1,b1.1]
 have z5:=Heap.get?_push_of_some ({ cls:=.type "tuple",data:=.seq #[x,y] }:Obj) (e5 _ _ D.TOz.symm (e4 _ _ D.i2z.symm (e3 _ _ D.TOz.symm (e2 _ _ D.i1z.symm z1))));have v1:h5.IsTupleIter i1 l1 (k+1):=((u1.extBut e3 D.TOi1.symm).extBut e4 D.i12).extBut e5 D.TOi1.symm;have v2:h5.IsListIter i2 l2 (k+1):=u2.extBut e5 D.TOi2.symm;have kp:∀c o,c≠z->c≠TO->c≠i1->c≠i2->s.heap.get? c=some o->h5.get? c=some o:=fun c o c1 c2 c3 c4 e=>e5 _ _ c2 (e4 _ _ c4 (e3 _ _ c2 (e2 _ _ c3 (e1 _ _ c1 e))));show wpAny _ _ (Zj (.ref z) (.ref h5.objs.size) >>= _) _ _ _;refine zz ?_;unfold Zj;refine zz (Zx z5 (by simp) fun h6 z6 b6=>Zx z6 (by simp) fun h7 z7 b7=>?_);have up:∀c o,c≠z->(h5.push { cls:=.type "tuple",data:=.seq #[x,y] }).get? c=some o->h7.get? c=some o:=fun c o c1 e=>b7.extBut _ _ c1 (b6.extBut _ _ c1 e);have nz:h5.objs.size≠z:=Nat.ne_of_gt (by have:=xQ zp;rw[n5];exact this);have n7:h7.objs.size=h5.objs.size+1:=by rw[b7.1,b6.1,jw]
 have r7:=up _ _ nz (Heap.get?_push_size _ rfl);refine xJ ⟨_,rfl,?_⟩
 replace z7:IsZip h7 z TI TO (rawInt h5.objs.size):=z7
 rw[n5]at n7 z7 r7;show wpAny _ _ (pure (some (qr h5.objs.size))) _ _ _;rw[n5];exact xJ (q h7 ⟨z7,up _ _ D.TIz (Heap.get?_push_of_some _ (kp _ _ D.TIz D.TITO D.TIi1 D.TIi2 ti)),⟨_,_,up _ _ D.TOz (Heap.get?_push_of_some _ o5)⟩,v1.at fun o e=>up _ o D.i1z (Heap.get?_push_of_some _ e),v2.at fun o e=>up _ o D.i2z (Heap.get?_push_of_some _ e)⟩ r7 n7 fun c o c1 c2 c3 c4 e=>up c o c1 (Heap.get?_push_of_some _ (kp c o c1 c2 c3 c4 e)))
theorem lW(hh:A.handled=none)(D:ZipApart z TI TO i1 i2 l1 l2)(Z:ZipMAt s.heap z TI TO i1 i2 l1 l2 .none k)(p1:s.heap.IsTuple l1 xs)(hx:xs[k]? = none)
 (q:∀h',(∀c o,c≠z->c≠i1->s.heap.get? c=some o->h'.get? c=some o)->Q none { s with heap:=h' }):wpAny (model prog w) A (pyNext (.ref z)) Q E s:=by
 obtain⟨zp,ti,⟨a,b,to⟩,t1,t2⟩:=Z;have ty:s.TypeIs (.ref z) "zip":=⟨_,zp,rfl⟩;unfold pyNext;refine zz (wpAny_attempt (wpAny_callSpecial?_slot (name:=ka "__next__") ty ZP (ZH ZP ty F.entry_zip_next ?_ (F.args_zip_next_1 _))));show wpAny _ _ (field (.ref z) 2 >>= _) _ _ _;refine zz (oi zp rfl (x:=.bool false) rfl ?_);show wpAny _ _ (field (.ref z) 3 >>= _) _ _ _;refine zz (oi zp rfl (x:=.ref TI) rfl (zz (Zl ti rfl ?_)));show wpAny _ _ ((field (.ref z) 0 >>= _) >>= _) _ _ _;refine zz (zz (oi zp rfl (x:=.none) rfl (xJ ?_)));simp only[if_true];refine zz (wpAny_rule (zz (oi zp rfl (x:=.ref TO) rfl (zz (Zx zp (by simp) fun h1 z1 b1=>zz ?_)))));simp only[List.zipIdx_cons,List.zipIdx_nil,Yq,List.forIn_nil];have e1:=b1.extBut;refine zz (zz (YQ ?_));show wpAny _ _ (o8 (.ref i1) >>= _) _ _ _;refine zz (qy hh (t1.extBut e1 D.i1z) (p1.extBut e1 D.l1z) hx fun h2 e e2 he=>?_);obtain⟨oe,ge,ce⟩:=he;have z2:=e2 _ _ D.i1z.symm z1;have ez:e≠z:=fun y=>by subst y;rw[z2]at ge;cases ge;simp at ce
 refine Zx z2 (by simp) fun h3 _ b3=>?_;exact zz (wpAny_isInstance (T:="StopIteration") (b:=true) ⟨oe,b3.extBut _ _ ez ge,ce⟩ isSubtype_stop (xJ (q h3 fun c o c1 c2 y=>b3.extBut _ _ c1 (e2 _ _ c2 (e1 _ _ c1 y)))))
end
noncomputable abbrev zL(l:Addr):Obj:={ cls:=.type "list_iterator",data:=.fields #[.ref l,.int 0 0] }
noncomputable def mZ(h:Heap)(l1 l2:Addr):Heap:=((((h.push (zT l1)).push (zL l2)).push (zP (.ref h.objs.size) (.ref (h.objs.size+1)))).push (zP .none .none)).push { cls:=.type "zip",data:=.fields #[.none,.bool false,.bool false,.ref (h.objs.size+2),.ref (h.objs.size+3)] }
theorem wG(l1 l2:Addr)(xs ys:Array Value) :
 Meets (Builtin.«zip.__new__» ⟨[.type "zip",.ref l1,.ref l2],[]⟩) (fun _ R s=>s.heap.IsTuple l1 xs/\s.heap.IsList l2 ys/\R (.ok (.ret (.ref (s.heap.objs.size+4)))) { s with heap:=mZ s.heap l1 l2 }):=
 .of_wp fun prog w A R s ⟨p1,p2,h⟩=>by
  obtain⟨hp,g,d,tk,os⟩:=s;have sub:=sub_zip;have q1:Heap.IsTuple (Shared.heap ⟨hp,g,d,tk,os⟩) l1 xs:=p1;have q2:Heap.IsList (Shared.heap ⟨hp.push (zT l1),g,d,tk,os⟩) l2 ys:=Heap.IsList.push p2 _;have h2:R (.ok (.ret (.ref ((((hp.push (zT l1)).push (zL l2)).push (zP (.ref hp.objs.size) (.ref (hp.push (zT l1)).objs.size))).push (zP .none .none)).objs.size))) ⟨((((hp.push (zT l1)).push (zL l2)).push (zP (.ref hp.objs.size) (.ref (hp.push (zT l1)).objs.size))).push (zP .none .none)).push { cls:=.type "zip",data:=.fields #[.none,.bool false,.bool false,.ref ((hp.push (zT l1)).push (zL l2)).objs.size,.ref (((hp.push (zT l1)).push (zL l2)).push (zP (.ref hp.objs.size) (.ref (hp.push (zT l1)).objs.size))).objs.size] },g,d,tk,os⟩:=by
   simp only[jw];exact h
  wp_walk using YJ q1,wpAny_pyIter_list q2
  exact⟨_,rfl,h2⟩
section
variable{prog:Program}{w:World}{A:Around}{E:Value->Shared->Prop}{s:Shared}
theorem vB(p1:s.heap.IsTuple l1 xs)(p2:s.heap.IsList l2 ys)
 (h:∀h',ZipMAt h' (s.heap.objs.size+4) (s.heap.objs.size+2) (s.heap.objs.size+3) s.heap.objs.size (s.heap.objs.size+1) l1 l2 .none 0->(∀c o,s.heap.get? c=some o->h'.get? c=some o)->Q (.ref (s.heap.objs.size+4)) { s with heap:=h' }) :
 wpAny (model prog w) A (call (.type "zip") [.ref l1,.ref l2]) Q E s:=by
 refine callType_new F.called_zip (by decide) (F.typeCall_zip_2 _ _) (F.newCall_zip_2 _ _) (fun obj=>F.args_object_init_3 obj _ _) F.entry_zip_new (wG l1 l2 xs ys) ⟨p1,p2,?_⟩;have g5:(mZ s.heap l1 l2).get? (s.heap.objs.size+4)=some _:=Heap.get?_push_at (by simp only[jw]) rfl;have g4:(mZ s.heap l1 l2).get? (s.heap.objs.size+3)=some _:=Heap.get?_push_of_some _ (Heap.get?_push_at (by simp only[jw]) rfl);have g3:(mZ s.heap l1 l2).get? (s.heap.objs.size+2)=some _:=Heap.get?_push_of_some _ (Heap.get?_push_of_some _ (Heap.get?_push_at (by simp only[jw]) rfl));have g2:(mZ s.heap l1 l2).get? (s.heap.objs.size+1)=some _:=Heap.get?_push_of_some _ (Heap.get?_push_of_some _ (Heap.get?_push_of_some _ (Heap.get?_push_at (by simp only[jw]) rfl)));have g1:(mZ s.heap l1 l2).get? s.heap.objs.size=some _:=Heap.get?_push_of_some _ (Heap.get?_push_of_some _ (Heap.get?_push_of_some _ (Heap.get?_push_of_some _ (Heap.get?_push_at rfl rfl))));exact⟨⟨_,g5,rfl⟩,h _ ⟨g5,g3,⟨_,_,g4⟩,⟨_,g1,rfl,rfl⟩,⟨_,g2,rfl,rfl⟩⟩ fun c o x=>Heap.get?_push_of_some _ (Heap.get?_push_of_some _ (Heap.get?_push_of_some _ (Heap.get?_push_of_some _ (Heap.get?_push_of_some _ x))))⟩
end
section
variable{X:Cx}{pins:List (Addr × Obj)}{σ:St}{H:Hp}{s:Shared}
noncomputable def yL(K:W.Frag)(a b:Addr):It:=
 ⟨fun i H=>∃xs ys x y,SqT K H a xs/\SqL K H b ys/\xs[i]? = some x/\ys[i]? = some y,fun i H v H'=>∃p x y,H p=none/\v = .ref p/\H'=upd H p (.tup [x,y])/\(∀xs,SqT K H a xs->xs[i]? = some x)/\∀ys,SqL K H b ys->ys[i]? = some y,fun i H=>∃xs,SqT K H a xs/\xs.length<=i⟩
theorem ZipMAt.fp{h:Heap}{z TI TO i1 i2 l1 l2:Addr}{f:Value}{k:Nat}(Z:ZipMAt h z TI TO i1 i2 l1 l2 f k):∀b∈[z,TI,TO,i1,i2],∃o,h.get? b=some o/\(∀v,o.data ≠ .cell v)/\o.isFreed=false:=by
 obtain⟨zp,ti,⟨a,b,to⟩,⟨o1,g1,_,d1⟩,⟨o2,g2,_,d2⟩⟩:=Z;intro b hb;simp only[zv,oO,or_false]at hb;rcases hb with rfl|rfl|rfl|rfl|rfl
 ·exact⟨_,zp,(fun v z=>nomatch z),rfl⟩
 ·exact⟨_,ti,(fun v z=>nomatch z),rfl⟩
 ·exact⟨_,to,(fun v z=>nomatch z),rfl⟩
 ·exact⟨_,g1,(fun v z=>by rw[d1]at z;cases z),Zr d1⟩
 ·exact⟨_,g2,(fun v z=>by rw[d2]at z;cases z),Zr d2⟩
theorem ZipMAt.mv{h h':Heap}{z TI TO i1 i2 l1 l2:Addr}{f:Value}{k:Nat}(Z:ZipMAt h z TI TO i1 i2 l1 l2 f k)(e:∀b∈[z,TI,TO,i1,i2],∀o,h.get? b=some o->h'.get? b=some o):ZipMAt h' z TI TO i1 i2 l1 l2 f k:=by
 obtain⟨zp,ti,⟨a,b,to⟩,t1,t2⟩:=Z;exact⟨e z (by simp) _ zp,e TI (by simp) _ ti,⟨a,b,e TO (by simp) _ to⟩,t1.at fun o q=>e i1 (by simp) o q,t2.at fun o q=>e i2 (by simp) o q⟩
theorem uS{P:Program}{w:World}{K:W.Frag}{elts:List Expr}{cx:_}{pos:Pos}{a b z TI TO i1 i2:Addr}(D:ZipApart z TI TO i1 i2 a b) :
 ra P w K (.Tuple elts cx pos) (yL K a b) [z,TI,TO,i1,i2] z (fun i h=>ZipMAt h z TI TO i1 i2 a b .none i) where
 mem:=by simp
 obj:=fun i h Z c hc=>by
  obtain⟨o,g,n,_⟩:=Z.fp c hc;exact⟨o,g,n⟩
 keep:=fun i h h' Z k=>Z.mv k
 item:=by
  intro X hP hw hK hc i pins s σ H E I hf Z hg;subst hP hw hK;obtain⟨xs,ys,x,y,q1,q2,hx,hy⟩:=hg;obtain⟨v1,r1,p1,_⟩:=I.tuple q1;obtain⟨v2,r2,p2,_⟩:=I.list q2;obtain⟨u1,hu1,ru1⟩:=r1.get hx;obtain⟨u2,hu2,ru2⟩:=r2.get hy;have lt:∀c∈[z,TI,TO,i1,i2],c<s.heap.objs.size:=fun c hc=>by
   obtain⟨o,g,_⟩:=Z.fp c hc;exact xQ g
  refine tz D Z (show s.heap.IsTuple a v1.toArray from p1) (p2.isList:s.heap.IsList b v2.toArray) (x:=u1) (y:=u2) (by simpa using hu1) (by simpa using hu2) fun h' Z1 t1 n1 k1=>?_;obtain⟨h3,z3,I3,e3,k3⟩:=I.turnedN (h':=h') (t':=s.toks) [z,TI,TO,i1,i2] fun c hc=>by
   obtain⟨o,g,_⟩:=Z.fp c hc;obtain⟨o',g',_,f'⟩:=Z1.fp c hc;exact⟨hf c hc,⟨o,g⟩,o',g',f'⟩
  have kk:∀c o,h3.get? c=some o->h'.get? c=some o:=fun c o q=>by
   by_cases hc:c∈[z,TI,TO,i1,i2]
   ·rw[e3 c hc]at q;exact q
   ·rw[k3 c hc]at q
    simp only[zv,oO,or_false,not_or]at hc;exact k1 c o hc.1 hc.2.2.1 hc.2.2.2.1 hc.2.2.2.2 q
  have hn:=I.hok.fresh (xi s.heap.objs.size);have I4:Inv X pins σ (upd H s.heap.objs.size (.tup [x,y])) { s with heap:=h',toks:=s.toks }:=
   I3.laid (t':=s.toks) kk (Nat.le_of_eq z3) (show ObjOk X.prog X.w _ h' _ (.tup [x,y]) from⟨by show 2<=sizeLine;rw[wz];decide,[u1,u2],.cons ru1 (.cons ru2 .nil),⟨_,t1,rfl,0,rfl⟩⟩)
  have nH:∀c,c<s.heap.objs.size->upd H s.heap.objs.size (.tup [x,y]) c=H c:=fun c l=>aw (o6 l);have fz:=hf z (by simp);refine⟨_,rfl,wpAny_letOwnedTupleGo_zip (s:={ s with heap:=h' }) Z1.zp fun h5 e5 s5=>?_⟩;have I5:Inv X pins σ (upd H s.heap.objs.size (.tup [x,y])) { s with heap:=h5,toks:=s.toks }:=
   I4.turned (t':=s.toks) (fun c o hb q=>(s5.2 c hb).trans q) ((nH z (lt z (by simp))).trans fz.1) fz.2.1 fz.2.2.2.1 fz.2.2.2.2.1 fz.2.2.2.2.2
  have ex:=s5.extBut;obtain⟨c1,c2⟩:=Z1.to;obtain⟨c2,c3⟩:=c2;refine⟨.ref s.heap.objs.size,_,I5,rfl,⟨_,x,y,hn,rfl,rfl,(fun zs hz=>by rw[I.tuple_inj hz q1];exact hx),fun zs hz=>by rw[I.list_inj hz q2];exact hy⟩,⟨e5,ex _ _ D.TIz Z1.ti,⟨_,_,ex _ _ D.TOz c3⟩,Z1.t1.extBut ex D.i1z,Z1.t2.extBut ex D.i2z⟩,fun c hc=>(nH c (lt c hc)).trans (hf c hc).1⟩
 done:=by
  intro X hP hw hK hc i pins s σ H E I hf Z hg;subst hP hw hK;obtain⟨xs,hq,hx⟩:=hg;obtain⟨its,rv,p,_⟩:=I.tuple hq;have hl:=rv.length;exact lW (I.ok.hd hc) D Z (show s.heap.IsTuple a its.toArray from p) (by simp;lia) fun h' k1=>⟨rfl,I.turnedC (ch:=[z,TI,TO,i1,i2]) (t':=s.toks) (fun c o hc e=>k1 c o (fun y=>hc (by simp[y])) (fun y=>hc (by simp[y])) e) hf⟩
 self:=fun _ _ _ _ _ Z h=>wpAny_pyIter_zip Z.zp h
def Au(K:W.Frag)(ta tb:TE):TI:=fun σ H R=>ta σ H fun x H1=>tb σ H1 fun y H2=>∃a b,x = .ref a/\y = .ref b/\(∃xs,SqT K H2 a xs)/\(∃ys,SqL K H2 b ys)/\R (yL K a b) H2
theorem ut{x y:Expr}{ta tb:TE}{p pos:Pos}{elts:List Expr}{cx:_}{tp:Pos}(K:W.Frag)(hg:Gl X "zip")(hm:X.mg "zip" = none)(ha:PE X x ta)(hb:PE X y tb)(hs:starEach [x,y] X.env=(false,eval x X.env)::starEach [y] X.env:=by rfl)(hs2:starEach [y] X.env=[(false,eval y X.env)]:=by rfl)(hpl:(backTo pos (starEach [y] X.env)).any (·.1)=false:=by rfl)(hK:X.K=K:=by rfl) :
 PI X (.Tuple elts cx tp) (.Call (.Name "zip" p) [x,y] [] pos) (Au K ta tb):=by
 subst hK;intro pins s σ H R I h;refine Call_ (fK I hg hm (show kc "zip" = some (.type "zip") by decide +kernel) (Zo ?_ hs hpl));rw[hs,hs2];refine Zf (thn (ha pins s σ H _ I h) fun v s1 ⟨x,H1,I1,rx,q1⟩=>Zf (thn (hb pins s1 σ H1 _ I1 q1) fun v2 s2 ⟨y,H2,I2,ry,a,b,ex,ey,⟨xs,hx⟩,⟨ys,hy⟩,q⟩=>?_));subst ex ey;cases (show v=qr a from rx);cases (show v2=qr b from ry);obtain⟨i1,r1,p1,_⟩:=I2.tuple hx;obtain⟨i2,r2,p2,_⟩:=I2.list hy;have t1:s2.heap.IsTuple a i1.toArray:=p1;have t2:s2.heap.IsList b i2.toArray:=p2.isList;have l1:a<s2.heap.objs.size:=by obtain⟨_,e,_⟩:=t1;exact xQ e
 have l2:b<s2.heap.objs.size:=by obtain⟨_,e,_⟩:=t2;exact xQ e
 refine Calls.spliced_nil (vB t1 t2 fun h' Z k=>wpAny_pyIter_zip (s:={ s2 with heap:=h' }) Z.zp ?_);refine⟨_,_,_,_,_,rfl,I2.kept (t':=s2.toks) k,uS (zipApart_new l1 l2),Z,fun c hc=>?_,q⟩;have le:s2.heap.objs.size<=c:=by
  simp only[zv,oO,or_false]at hc;rcases hc with rfl|rfl|rfl|rfl|rfl
  ·exact Zu _ _
  ·exact Zu _ _
  ·exact Zu _ _
  ·exact xi _
  ·exact Zu _ _
 exact I2.fpOk le (I2.hok.fresh le)
theorem yx{K:W.Frag}{ta tb:TE}{g:TG}{t:TS}{D:fi}{σ:St}{H:Hp}(h:ta σ H fun x H1=>tb σ H1 fun y H2=>∃a b,x = .ref a/\y = .ref b/\(∃xs,SqT K H2 a xs)/\(∃ys,SqL K H2 b ys)/\FE (yL K a b) g t D σ H2):y6 (Au K ta tb) g t D σ H:=h
theorem yw{K:W.Frag}{a b:Addr}{xs ys:List V}{g:TG}{tb:TS}{D:fi}{σ:St}{H:Hp}(hlen:xs.length=ys.length)(Pv:Nat->St->Hp->Prop)(h0:Pv 0 σ H)(hl:∀i σ H,Pv i σ H->SqT K H a xs/\SqL K H b ys)
 (hs:∀i x y σ H p,xs[i]? = some x->ys[i]? = some y->H p=none->Pv i σ H->g (.ref p) σ (upd H p (.tup [x,y])) fun σ2 H2=>tb { D with nx:=Pv (i+1),ct:=Pv (i+1),bk:=D.nx } σ2 H2) (hd:∀σ H,Pv xs.length σ H->D.nx σ H):FE (yL K a b) g tb D σ H:=by
 refine⟨fun i m σ H=>m=xs.length-i/\i<=xs.length/\Pv i σ H,⟨_,rfl,uG _,h0⟩,?_⟩;rintro i m σ H ⟨rfl,hi,p⟩;obtain⟨q1,q2⟩:=hl i σ H p;rcases YY i xs.length with lt|ge
 ·have lt2:i<ys.length:=by lia
  refine .inr ⟨⟨xs,ys,xs[i],ys[i],q1,q2,by simp[lt],by simp[lt2]⟩,Pv (i+1),fun σ' H' p'=>⟨_,by lia,rfl,lt,p'⟩,?_⟩;rintro v H' ⟨r,x,y,hr,rfl,rfl,hx,hy⟩;exact hs i x y σ H r (hx xs q1) (hy ys q2) hr p
 ·obtain rfl:i=xs.length:=Nat.le_antisymm hi ge
  exact .inl ⟨⟨xs,q1,xi _⟩,hd σ H p⟩
end
namespace Srt
end Srt
open Lean Meta Simp
end L2
namespace L2
structure Qr where
 d:Int
 a:List Nat
 p:Int
 b:List Nat
 q:Int
abbrev Wt:=Int × Int
noncomputable def hit(r:Qr)(x y:List Nat):Option Wt:=if r.a=x/\r.b=y then some (r.p,r.q) else if r.a=y/\r.b=x then some (r.q,r.p) else none
noncomputable def Ek(r:Qr)(x y:List Nat)(D:Int)(o:Option Wt):Option Wt:=if r.d=D then (hit r x y).or o else o
noncomputable def val(R:List Qr)(x y:List Nat)(D:Int):Option Wt:=R.foldl (fun o r=>Ek r x y D o) none
def Dx(R:List Qr):Prop:=∀r∈R,r.a≠r.b
section
variable{N:Type}{A:N->N->Prop}{g:N}
def Wk(A:N->N->Prop)(g:N):Nat->N->Prop
 |0,x=>x=g
 |k+1,x=>∃y,Wk A g k y/\A y x
def Far(A:N->N->Prop)(g:N)(k:Nat)(x:N):Prop:=Wk A g k x/\∀j,j<k -> ¬ Wk A g j x
end
section
variable{A:List Nat->List Nat->Prop}{g:List Nat}
def Nx(A:List Nat->List Nat->Prop)(g x y:List Nat):Prop:=∃k,Far A g (k+1) x/\Far A g k y/\A x y/\∀z,Far A g k z->A x z -> ¬ z<y
def Chn(A:List Nat->List Nat->Prop)(g:List Nat):List (List Nat)->Prop
 | []=>False
 | [x]=>x=g
 |x::y::r=>Nx A g x y/\Chn A g (y::r)
end
section
variable{N:Type}{A:N->N->Prop}{g:N}
def Up(A:N->N->Prop)(g:N)(k:Nat)(F:List N)(x:N)(n:Nat):Prop:=(n<=k/\Far A g n x)\/(n=k+1/\x∈F)
end
def pr(r:Qr)(x y:List Nat):Prop:=(r.a=x/\r.b=y)\/(r.a=y/\r.b=x)
def Lk(R:List Qr)(d:Int)(x y:List Nat):Prop:=∃r∈R,r.d<=d/\pr r x y
def Cov(R:List Qr)(C:List (List Nat)):Prop:=∀r∈R,r.a∈C/\r.b∈C
structure SD(m:List (Key × V))(P:List Nat->Nat->Prop):Prop where
 nd:(m.map (·.1)).Nodup
 to:∀k v,(k,v)∈m->∃(x:List Nat) (n:Nat),k = .inr ⟨⟨x⟩⟩/\v = .int n/\P x n
 fr:∀x (n:Nat),P x n->((.inr ⟨⟨x⟩⟩:Key),V.int n)∈m
def Rows(R:List Qr)(C:List (List Nat)):Prop:=∀r∈R,(0<=r.d/\r.d<=146096)/\r.a∈C/\r.b∈C/\r.a≠r.b/\(1<=r.p/\r.p<=1000000000)/\1<=r.q/\r.q<=1000000000
end L2
namespace L2
open PySem PyProof.Rows
section
variable{P:Program}{w:World}{A:Around}{E:Value->Shared->Prop}{s:Shared}
abbrev skd(P:Program)(w:World):=PySem.strKind P w
def EJ(P:Program)(w:World)(h:Heap)(a:Addr)(ls:List (List Nat))(ld:Bool):Prop:=∃o es ep t,h.get? a=some o/\o.ExactSet/\o.data = .set es ep t/\ElemsOf (skd P w) es.toList/\es.size<scanBound/\t.fits es.size=true/\t.led=ld/\(0<es.size->t.plain=false)/\(es.toList.map fun e=>yU e.2).Nodup/\∀l,l∈es.toList.map (fun e=>yU e.2)↔l∈ls
end
section
variable{P:Program}{w:World}{A:Around}{E:Value->Shared->Prop}{s:Shared}{a:Addr}{ls:List (List Nat)}
def EN(ls:List (List Nat))(vs:List Value):Prop:=(∀v∈vs,IsS v)/\(vs.map yU).Nodup/\(∀l,l∈vs.map yU↔l∈ls)/\vs.length<scanBound
end
end L2
namespace L2
open PySem
noncomputable def kI:Key->Int
 | .inl i=>i
 | .inr _=>0
noncomputable def vI:V->Int
 | .int i=>i
 |_=>0
noncomputable def sE(P:Int->Bool):List (Key × V)->Int
 | []=>0
 |e::m=>(if P (kI e.1)=true then vI e.2 else 0)+sE P m
noncomputable def gM(m:List (Key × V))(d:Int):Int:=match Cz m (.inl d) with
 |some v=>vI v
 |none=>0
def Ev(m:List (Key × V)):Prop:=∀k v,(k,v)∈m->∃D a,k = .inl D/\v = .int a
abbrev PR:=Int × List Nat × List Nat × Int
noncomputable def sR(x y:List Nat)(P:Int->Bool):List PR->Int
 | []=>0
 |z::R=>(if z.2.1=x/\z.2.2.1=y/\P z.1=true then z.2.2.2 else 0)+sR x y P R
structure MM(m:List (Key × V))(x y:List Nat)(R:List PR):Prop where
 nd:(m.map (·.1)).Nodup
 it:Ev m
 sm:∀P,sE P m=sR x y P R
end L2
namespace L2
open PySem PyProof.Rows
section
variable{X:Cx}
noncomputable def zd(x:Str):Value->Bool
 | .str y _=>y==x
 |_=>false
def Al(K:W.Frag):V->List V->Hp->VK->Prop:=fun x vs H Q=>∃(p:Addr) (ls:List (List Nat)) (l:List Nat) (j:Nat),x = .ref p/\vs=[T l]/\SqL K H p (ls.map T)/\ls[j]? = some l/\(∀i,i<j->ls[i]? ≠ some l)/\Q (.int j) H
theorem fk{x:List Nat}:∀ {ls:List (List Nat)} {its:List Value},Vals (ls.map T) its->∀ {j:Nat} {l:List Nat},ls[j]? = some l->∃h:j<its.length,zd ⟨⟨x⟩⟩ its[j]=decide (l=x)
 | [],_,.nil,j,b,h=>by simp at h
 |c::r,_,.cons e t,j,b,h=>by
  obtain⟨t',rfl⟩:=(show ∃t',_=YZ ⟨⟨c⟩⟩ t' from e);cases j with
  |zero=>
   cases h;refine⟨by simp,?_⟩;show((⟨⟨c⟩⟩:Str)==⟨⟨x⟩⟩)=decide (c=x);by_cases h:c=x
   ·subst h;simp
   ·rw[decide_eq_false h]
    simpa using h
  |succ j=>
   obtain⟨h1,h2⟩:=fk t (j:=j) (by simpa using h);exact⟨by simp;lia,by simpa using h2⟩
theorem mV{x:List Nat}{ls:List (List Nat)}{its:List Value}{t:Tok}(r:Vals (ls.map T) its):∀y,y∈its.toArray->SeqAt.EqAt A s y (.str ⟨⟨x⟩⟩ t) (zd ⟨⟨x⟩⟩ y):=fun y hy=>by
 have m:y∈its:=by simpa using hy
 clear hy
 induction ls generalizing its with
 |nil=>cases r;cases m
 |cons c q ih=>
  cases r with
  |cons e r=>
   rcases zv.mp m with rfl|m
   ·obtain⟨t',rfl⟩:=(show ∃t',_=YZ ⟨⟨c⟩⟩ t' from e)
    exact SeqAt.EqAt.str_str _ _ _ _
   ·exact ih r m
theorem zS(K:W.Frag)(hK:X.K=K:=by rfl):MtM X "list.index" (Al K):=by
 subst hK;intro pins s σ H x vs v us Q I rx rv h;obtain⟨p,ls,l,j,rfl,rfl,hq,hj,hi,q⟩:=h;cases rx;obtain⟨u,rfl,ru⟩:=rv.one;obtain⟨t,rfl⟩:=(show ∃t,u=YZ ⟨⟨l⟩⟩ t from ru);obtain⟨its,r,pl,hz⟩:=I.list hq;obtain⟨⟨oc,od,ot,os⟩,e,c,n,d⟩:=pl.isList;simp only at c d;subst c;subst d;obtain⟨jl,jt⟩:=fk (x:=l) r hj;have hl:=r.length;refine ZG F.slot_list_index ⟨_,e,rfl⟩ F.entry_list_index (F.args_list_index_2 _ _) (SeqAt.list_indexAt p its.toArray n od os (.str ⟨⟨l⟩⟩ t) (zd ⟨⟨l⟩⟩) j (by simpa using jl) (by have:sizeLine<2 ^ 62:=(by rw[wz];decide);lia) (by simpa using jt) fun m hm lt=>?_) ⟨e,mV r,?_⟩
 ·have hm':m<ls.length:=by
   have:m<its.length:=by simpa using hm
   rw[yV]at hl;lia
  obtain⟨_,h2⟩:=fk (x:=l) r (List.getElem?_eq_getElem hm');have:ls[m]≠l:=fun z=>hi m lt (by rw[List.getElem?_eq_getElem hm',z])
  simpa [this] using h2
 ·exact⟨.int _,H,I.tok _,⟨_,rfl⟩,q⟩
end
end L2
namespace L2
open PySem PySem.Spec PyProof.Rows
theorem i6{M:Model}{A:Around}{E:Value->Shared->Prop}{s:Shared}{β:Type}(f:Nat->β->Sem (ForInStep β))(I:Nat->β->Shared->Prop)(Q:β->Shared->Prop)(n:Nat)
 (turn:∀i b s,i<n->I i b s->wpAny M A (f i b) (fun r s'=>match r with | .yield b'=>I (i+1) b' s' | .done b'=>Q b' s') E s)
 (fin:∀b s,I n b s->Q b s) (b:β) (h:I 0 b s):wpAny M A (forIn [:n] b f) Q E s:=by
 rw[Std.Legacy.Range.forIn_eq_forIn_range'];simp only[Std.Legacy.Range.size,Nat.sub_zero,Nat.add_sub_cancel,Nat.div_one];refine wpAny_forIn_list f (fun rest b s=>∃i,i<=n/\rest=List.range' i (n-i)/\I i b s) Q (fun x rest b s hI=>?_) (fun b s hI=>?_) _ b ⟨0,uG _,by simp,h⟩
 ·obtain⟨i,hi,hr,hI⟩:=hI
  have lt:i<n:=by
   rcases YY i n with h|h
   ·exact h
   ·rw[Nat.sub_eq_zero_of_le h]at hr;simp at hr
  have e:n-i=(n-(i+1))+1:=by omega
  rw[e,List.range'_succ]at hr;injection hr with h1 h2
  subst h1 h2;refine tu (turn x b s lt hI) (fun r s' hr=>?_) fun _ _ z=>z;cases r with
  |yield b'=>exact⟨x+1,lt,rfl,hr⟩
  |done b'=>exact hr
 ·obtain⟨i,hi,hr,hI⟩:=hI
  have:i=n:=by
   have:=congrArg mF hr;simp at this;omega
  subst this;exact fin b s hI
open SeqAt in
theorem mE(l:Addr)(items:Array Value)(n:Nat)(dd:Option Addr)(sl:Array (Option Value))(x:Value)(e:Value->Bool)(j:Nat)(hj:j<items.size)(hit:e items[j]=true)(hno:∀m (hm:m<items.size),m<j->e items[m]=false) :
 Meets (Builtin.«tuple.index» ⟨[.ref l,x],[]⟩)
  (fun A R s=>s.heap.get? l=some { cls:=.type "tuple",dict:=dd,data:=.seq items n,slots:=sl }/\(∀y,y∈items->EqAt A.in1 s y x (e y))/\R (.ok (.ret (.int j s.toks))) { s with toks:=s.toks+1 }):=
 .of_wp fun prog w A R s h=>by
  obtain⟨hp,g,d,tk,os⟩:=s;obtain⟨hl,he,h⟩:=h
  wp_walk using wpAny_loadPart' hl,i6 _ (fun i b s'=>b.1=none/\s'=⟨hp,g,d,tk,os⟩/\i<=j) _ _
  case turn=>
   rintro i b s' hi ⟨hb,rfl,hij⟩;have hi':i<items.size:=by simpa using hi
   rw[Array.getElem?_eq_getElem hi'];refine zz (he _ (Array.getElem_mem hi') prog w _ _ ?_);by_cases q:i=j
   ·subst q
    rw[hit]
    wp_walk
    exact⟨_,rfl,h⟩
   ·rw[hno i hi' (by omega)]
    wp_walk
    exact⟨rfl,rfl,by omega⟩
  case fin=>
   rintro⟨b1,b2⟩ s' ⟨hb,rfl,hij⟩;exact absurd hij (by simp;omega)
  case h=>
   exact⟨rfl,rfl,uG _⟩
section
variable{X:Cx}
def Af(K:W.Frag):V->List V->Hp->VK->Prop:=fun x vs H Q=>∃(p:Addr) (ls:List (List Nat)) (l:List Nat) (j:Nat),x = .ref p/\vs=[T l]/\SqT K H p (ls.map T)/\ls[j]? = some l/\(∀i,i<j->ls[i]? ≠ some l)/\Q (.int j) H
theorem zg(K:W.Frag)(hK:X.K=K:=by rfl):MtM X "tuple.index" (Af K):=by
 subst hK;intro pins s σ H x vs v us Q I rx rv h;obtain⟨p,ls,l,j,rfl,rfl,hq,hj,hi,q⟩:=h;cases rx;obtain⟨u,rfl,ru⟩:=rv.one;obtain⟨t,rfl⟩:=(show ∃t,u=YZ ⟨⟨l⟩⟩ t from ru);obtain⟨its,r,pl,hz⟩:=I.tuple hq;obtain⟨⟨oc,od,ot,os⟩,e,c,n,d⟩:=pl;simp only at c d;subst c;subst d;obtain⟨jl,jt⟩:=fk (x:=l) r hj;have hl:=r.length;refine ZG F.slot_tuple_index ⟨_,e,rfl⟩ F.entry_tuple_index (F.args_tuple_index_2 _ _) (mE p its.toArray n od os (.str ⟨⟨l⟩⟩ t) (zd ⟨⟨l⟩⟩) j (by simpa using jl) (by simpa using jt) fun m hm lt=>?_) ⟨e,mV r,?_⟩
 ·have hm':m<ls.length:=by
   have:m<its.length:=by simpa using hm
   rw[yV]at hl;lia
  obtain⟨_,h2⟩:=fk (x:=l) r (List.getElem?_eq_getElem hm');have:ls[m]≠l:=fun z=>hi m lt (by rw[List.getElem?_eq_getElem hm',z])
  simpa [this] using h2
 ·exact⟨.int _,H,I.tok _,⟨_,rfl⟩,q⟩
end
section
variable{M:Model}{A:Around}{E:Value->Shared->Prop}{s:Shared}
theorem w_{hb:Heap}{env:Env}{outer:List Env}{L e:Addr}{c a0 fl:Value}{Q:Unit->Shared->Prop}
 (ha:A.frames=some (env::outer)) (hl:s.heap.FunFrames hb (env::outer)) (hf:env.frame=some L) (ht:s.heap.TracedAtW hb e c a0 fl) (kb:hb.StaysIn s.heap) (nb:hb.get? e=none)
 (k:∀h',Heap.HeldW hb (env::outer) e c a0 L h'->s.heap.UpToSlots h'->Q () { s with heap:=h' }):wpAny M A (Yo (.ref e) env) Q E s:=by
 by_cases hfl:fl=rawInt L
 ·subst hfl
  exact wpAny_noteFrame_againW hf ht (k s.heap ⟨kb,nb,hl,ht⟩ (Heap.UpToSlots.refl _))
 ·obtain⟨oe,vs,tb,ot,ts,g1,⟨g2,g3⟩,g4,g5,g6,g7,g8,g9,g10⟩:=ht
  subst g2;have nof:∀b ob,s.heap.get? b=some ob->(∀ws,ob.data ≠ .fields ws)->b≠tb:=fun b ob z n q=>by
   rw[q,g8]at z;cases z;exact n ts g9
  have oth:∀b,b≠tb->(s.heap.update tb (Obj.mapFields (·.setIfInBounds 3 Zz))).get? b=s.heap.get? b:=fun b n=>Heap.get?_update_other _ _ (Ne.symm n);unfold Yo;rw[hf];refine zz (oi g1 g4 g5 ?_);rw[if_pos (show(qr tb != Zz)=true by simp)];refine zz (oi g8 g9 g10 ?_);rw[if_neg (show ¬ (fl==rawInt L)=true from fun z=>hfl (by simpa using z))];refine zz (wpAny_setField g8 g9 (Array.getElem?_eq_some_iff.mp g10).1 ?_);refine wpAny_entryW ha (hl.of_keeps fun b ob z n=>⟨ob,(oth b (nof b ob z n)).trans z,rfl⟩) hf ((oth e (Ne.symm g7)).trans g1) (fun b ob z=>(oth b fun q=>by rw[q,g6]at z;cases z).trans (kb b ob z)) nb g4 (Array.getElem?_eq_some_iff.mp g5).1 g3 fun h' hN=>?_;obtain⟨k1,k2,k3,k4⟩:=hN;exact k h' ⟨k1,nb,k2,k3⟩ fun b ob z n=>k4 b ob ((oth b (nof b ob z n)).trans z) n
theorem tj{hb:Heap}{l:List Env}{e:Addr}{c a0 fl:Value}{fr:Option Addr}{Q:Unit->Shared->Prop}
 (kb:hb.StaysIn s.heap) (hl:s.heap.FunFrames hb l) (ht:s.heap.TracedAtW hb e c a0 fl)
 (k:∀h' fl',hb.StaysIn h'->h'.FunFrames hb l->h'.TracedAtW hb e c a0 fl'->s.heap.UpToSlots h'->Q () { s with heap:=h' }):wpAny M A (setFlight (.ref e) fr) Q E s:=by
 obtain⟨oe,vs,tb,ot,ts,g1,g2,g4,g5,g6,g7,g8,g9,g10⟩:=ht;have n3:3<ts.size:=(Array.getElem?_eq_some_iff.mp g10).1;have nof:∀b ob,s.heap.get? b=some ob->(∀ws,ob.data ≠ .fields ws)->b≠tb:=fun b ob z n q=>by
  rw[q,g8]at z;cases z;exact n ts g9
 have oth:∀b,b≠tb->(s.heap.update tb (Obj.mapFields (·.setIfInBounds 3 (fr.elim Zz fun f=>rawInt f)))).get? b=s.heap.get? b:=fun b n=>Heap.get?_update_other _ _ (Ne.symm n);unfold setFlight;refine zz (oi g1 g4 g5 ?_);rw[if_pos (show(qr tb != Zz)=true by simp)];refine wpAny_setField g8 g9 n3 (k _ (fr.elim Zz fun f=>rawInt f) (fun b ob z=>(oth b fun q=>by rw[q,g6]at z;cases z).trans (kb b ob z)) (hl.of_keeps fun b ob z n=>⟨ob,(oth b (nof b ob z n)).trans z,rfl⟩) ?_ fun b ob z n=>⟨ob.slots,(oth b (nof b ob z n)).trans z⟩);exact⟨oe,vs,tb,_,_,(oth e (Ne.symm g7)).trans g1,g2,g4,g5,g6,g7,Heap.get?_update_self _ g8 (Zr (ZW g9 _)),ZW g9 _,by simp[n3]⟩
end
theorem j6{e:Value}{env env':Env}(h:env.frame=env'.frame):Yo e env=Yo e env':=by
 unfold Yo PySem.frameOf;rw[h]
def pk(X:Cx)(E:XK):Prop:=∀(pins:List (Addr × Obj)) (σ:St) (H:Hp) (s:Shared) (e:Addr) (C:Value) (oc:Option Addr) (rs:List Addr) (a0 fl:Value),Inv X pins σ H s->(∀b∈rs,X.s₀.heap.get? b=none/\H b=none)->e∈rs ->
 (hid s.heap X.stack rs).StaysIn s.heap->s.heap.FunFrames (hid s.heap X.stack rs) X.stack->s.heap.TracedAtW (hid s.heap X.stack rs) e C a0 fl->F2v (cxV oc) s.heap e->E C oc H->X.xe (.ref e) s
section
variable{P:Program}{w:World}{K:W.Frag}{mg:Str->Option Value}{base:Heap}{N:List Str}{qual:Str}{scope:Scope}{f:Addr}{cd:Value}{A:Around}{outer:List Env}{s₀:Shared}{H₀:Hp}{E:XK}
theorem AJ:pk (bE (XE P w) P w K mg base N qual scope f cd A outer s₀ H₀ E) E:=by
 intro pins σ H s e C oc rs a0 fl J hrs her t1 t2 t3 g0 q;show wpAny (model P w) (A.deeper (envOfC qual scope s₀.heap.objs.size f cd)) (leaving (envOfC qual scope s₀.heap.objs.size f cd) (.ref e)) (fun _ s''=>XE P w outer H₀ s₀ E (.ref e) s'') (fun e' s''=>XE P w outer H₀ s₀ E e' s'') s;have hst:s.heap.FunFrames base (envOfC qual scope s₀.heap.objs.size f cd::outer):=J.stack;refine be (e:=e) (eY _ _) g0 ?_;unfold leaving;refine zz (w_ (hb:=hid s.heap (envOfC qual scope s₀.heap.objs.size f cd::outer) rs) J.ok.frames t2 rfl t3 t1 (dv her) fun h1 hh up1=>?_);refine wpAny_landsW hh fun h'' fl' up2 g2=>?_;have up:=up1.trans up2;obtain⟨f1,f2,f3,oe,vs,T,oT,ts,he,hc,hd,h1,hnT,hTe,hT,hdT,h3⟩:=fl';have nT:=fZ hst up hnT hT hdT;have stay:∀b o,s.heap.get? b=some o->b∉frs (envOfC qual scope s₀.heap.objs.size f cd::outer)->b∉T::rs->h''.get? b=some o:=fun b o z hb hr=>f1 b o (cV z hb fun y=>hr (.tail _ y));have n1:∀b∈T::rs,s₀.heap.get? b=none:=fun b hb=>by
  rcases zv.mp hb with r|r
  ·rw[r]
   rcases nT with z|z
   ·exact J.s0_none rfl z
   ·exact(hrs T z).1
  ·exact(hrs b r).1
 have n2:∀b∈T::rs,H b=none:=fun b hb=>by
  rcases zv.mp hb with r|r
  ·rw[r]
   rcases nT with z|z
   ·exact J.hok.none_of z
   ·exact(hrs T z).2
  ·exact(hrs b r).2
 refine⟨e,C,oc,T::rs,H,rfl,J.os,J.bare,J.noteUn rfl n1 stay up,J.noteOk n2 stay,fun b hb=>⟨n1 b hb,n2 b hb⟩,⟨.tail _ her,a0,?_,g2⟩,q⟩;obtain⟨_,_,f3⟩:=f3;exact⟨fun b o z=>fw z,dv (.tail _ her),cc f3,oe,vs,T,oT,ts,he,hc,hd,h1,dv (.head _),hTe,hT,hdT,h3⟩
end
noncomputable def bj(X:Cx)(N:List Str)(scope:Scope)(cl:List (Str × Addr))(fnc:Str->Bool)(C:Addr)(s₂:Shared)(H₂:Hp)(ex:List Addr)(pn:List (Addr × Obj))(xe:Value->Shared->Prop):Cx:=
 { bR X N scope cl fnc C s₂ H₂ ex pn with xe:=xe }
def xeR(X:Cx)(scope:Scope)(cl:List (Str × Addr))(use:Option (Value->Sem Unit))(Qp:Value->Shared->Prop)(D C:Addr):Value->Shared->Prop:=
 notedBy (model X.prog X.w) X.A (compEnvC scope cl C X.env) fun e s'=>compPost (model X.prog X.w) X.A X.xe use Qp (.ref D) C (.error e) s'
theorem vj(hc:∀C s₂ H₂ ex pn xe,gd (bj X (xs++fr) scope (cl2 C) fnc C s₂ H₂ ex pn xe))(S:fW X scope cl cl2 fnc fr)
 (hks:ks.map (fun k=>X.N[k]?)=fr.map some) (hi:PIG gd X tg iter wi) (hp:pk X E) (hex:X.ex=[]) (hst:X.stack=X.env::X.outer) (hfr:X.env.frame=some X.env.locals)
 (hg:∀C s₂ H₂ ex pn xe,bp (XE X.prog X.w) (bj X (xs++fr) scope (cl2 C) fnc C s₂ H₂ ex pn xe) (fun _=>E)->PG (bj X (xs++fr) scope (cl2 C) fnc C s₂ H₂ ex pn xe) tg g)
 (ht:∀C s₂ H₂ ex pn xe,bp (XE X.prog X.w) (bj X (xs++fr) scope (cl2 C) fnc C s₂ H₂ ex pn xe) (fun _=>E)->PTs (bj X (xs++fr) scope (cl2 C) fnc C s₂ H₂ ex pn xe) ifs tt)
 (he:∀C s₂ H₂ ex pn xe,bp (XE X.prog X.w) (bj X (xs++fr) scope (cl2 C) fnc C s₂ H₂ ex pn xe) (fun _=>E)->PE (bj X (xs++fr) scope (cl2 C) fnc C s₂ H₂ ex pn xe) elt te)
 (hs:∀x,ZR iter X.env x=pure x:=by intro _;rfl)
 (I:Inv X pins σ H s) (h:cQ wi xs.length g ks tt te σ H Q) (use:Option (Value->Sem Unit)) (Qp:Value->Shared->Prop)
 (hend:∀(D C:Addr) (H':Hp) (s':Shared) (mC:Str->Option Value) (f:Flow),Inv X pins σ H' s'->gb X pins H' C->s'.heap.Ns C mC->Q (.ref D) H'->compPost (model X.prog X.w) X.A X.xe use Qp (.ref D) C (.ok f) s') :
 wpAny (model X.prog X.w) X.A (comprehension (.ListComp elt [⟨tg,iter,ifs,0⟩] scope pos) scope X.env (firstIterPos [⟨tg,iter,ifs,0⟩] pos) (newList []) false (firstIter [⟨tg,iter,ifs,0⟩] X.env) use) Qp X.xe s:=by
 refine wpAny_comprehension_free (use:=use) rfl hs S.clos S.kind S.names (thn (hi pins s σ H _ I h) fun v s1 h1=>thn h1 fun itv s2 h2=>?_);obtain⟨it,fp,tn,J,H2,e,I2,T,st2,f2,hW⟩:=h2;subst e;refine Zi ?_;have hD0:H2 s2.heap.objs.size=none:=I2.hok.fresh (xi _);obtain⟨W,⟨m0,w0⟩,turn⟩:=hW s2.heap.objs.size hD0;generalize hs3:s2.heap.push { cls:=.type "list",dict:=none,data:=.seq ([]:List Value).toArray }=g3;have hsz3:g3.objs.size=s2.heap.objs.size+1:=by rw[<- hs3,jw]
 have up3:∀b o,s2.heap.get? b=some o->g3.get? b=some o:=fun b o e=>by rw[<- hs3];exact Heap.get?_push_of_some _ e
 have gD:g3.get? s2.heap.objs.size=some { cls:=.type "list",dict:=none,data:=.seq ([]:List Value).toArray }:=by rw[<- hs3];exact Heap.get?_push_size _ rfl
 have I3:Inv X pins σ (upd H2 s2.heap.objs.size (.lst [])) { s2 with heap:=g3 }:=I2.laid (t':=s2.toks) up3 (xi _) ⟨by simp,[],0,.nil,gD⟩;refine S.lay _ _ _ _ _ fun h₁ t₁ m₁ hns₁ keep4 hnew=>?_;dsimp only at hns₁ keep4 hnew |-
 have hsub:∀y c,(cl2 g3.objs.size).lookup y=some c->X.env.cells.lookup y=some c\/(fnc y=true/\g3.objs.size<c/\h₁.IsCell c none):=fun y c e=>by
  cases hf:fnc y with
  |false=>exact .inl (S.sub _ y c e hf)
  |true=>exact .inr ⟨rfl,hnew y c hf e⟩
 have hCn:(upd H2 s2.heap.objs.size (.lst [])) g3.objs.size=none:=I3.hok.fresh (xi _);have fpD:∀b∈fp,b≠s2.heap.objs.size:=fun b hb z=>by
  obtain⟨o,e,_⟩:=T.obj 0 _ st2 b hb;exact absurd (xQ e) (by rw[z];exact Zv _)
 have fpC:∀b∈fp,b≠g3.objs.size:=fun b hb z=>by
  obtain⟨o,e,_⟩:=T.obj 0 _ st2 b hb;exact absurd (xQ (up3 b o e)) (by rw[z];exact Zv _)
 have fpN:∀b∈fp,(upd H2 s2.heap.objs.size (.lst [])) b=none:=fun b hb=>by rw[aw (fpD b hb)];exact(f2 b hb).1
 have old:∀y c,X.env.cells.lookup y=some c->c<g3.objs.size:=fun y c e=>by
  obtain⟨v,q⟩:=I3.cell y c e;exact q.lt
 have cfp:∀b∈fp,∀y c,(cl2 g3.objs.size).lookup y=some c->c≠b:=fun b hb y c e=>by
  rcases hsub y c e with q|⟨_,l,_⟩
  ·exact(f2 b hb).2.2.2.2.1 y c q
  ·obtain⟨o,e,_⟩:=T.obj 0 _ st2 b hb
   exact fun z=>absurd (xQ (up3 b o e)) (by rw[<- z];exact YK.mpr (Zh l))
 have Ok:(bj X (xs++fr) scope (cl2 g3.objs.size) fnc g3.objs.size { s2 with heap:=g3 } (upd H2 s2.heap.objs.size (.lst [])) fp (X.pn++pins) (xeR X scope (cl2 g3.objs.size) use Qp s2.heap.objs.size g3.objs.size)).Ok:=by
  refine⟨I.ok.mod,S.kind,I.ok.glob,I.ok.blt,xi _,fun y z c e1 e2=>?_,fun y hy=>?_,fun y c z e=>Zh (hnew y c z e).1,I.ok.hd,I.ok.frames,.inl rfl,fun b hb=>⟨fpC b hb,cfp b hb⟩,I3.bs,wx I.ok.bsz I3.sz,fun b o e hb=>?_,fun b hb z=>?_,I3.stack,I3.stkFree⟩
  ·rcases hsub y c e1 with q|⟨q,l,_⟩ <;> rcases hsub z c e2 with q'|⟨q',l',_⟩
   ·exact I.ok.inj y z c q q'
   ·exact absurd (old y c q) (YK.mpr (Zh l'))
   ·exact absurd (old z c q') (YK.mpr (Zh l))
   ·exact S.inj _ y z c q q' e1 e2
  ·rcases S.only _ y hy with hy|hy
   ·obtain⟨c,e⟩:=I.ok.has y (S.kinds y hy)
    exact⟨c,(S.cell _ y hy).trans e⟩
   ·exact hy
  ·rcases(f2 b hb).2.2.2.1 with q|q
   ·exact I.ok.noex b o e q
   ·exact absurd (xQ e) (YK.mpr (wx I.ok.bsz q))
  ·rcases zv.mp (I3.stkSub b z) with q|q
   ·exact(f2 b hb).2.1 q
   ·exact(f2 b hb).2.2.1 q
 have I4:Inv (bj X (xs++fr) scope (cl2 g3.objs.size) fnc g3.objs.size { s2 with heap:=g3 } (upd H2 s2.heap.objs.size (.lst [])) fp (X.pn++pins) (xeR X scope (cl2 g3.objs.size) use Qp s2.heap.objs.size g3.objs.size)) [] ((xs.map fun _=>none)++ks.map fun k=>(σ[k]?).join) (upd H2 s2.heap.objs.size (.lst [])) { s2 with heap:=h₁,toks:=t₁ }:=by
  refine⟨Ok,rfl,I3.bare,Un.kept keep4,⟨_,hns₁,fun i y v e1 e2 e3=>?_⟩,fun y c e=>?_,hCn,fun y c e=>?_,fun p hp=>?_,I3.hok.kept keep4,?_⟩
  ·have e1':(xs++fr)[i]? = some y:=e1
   by_cases hix:i<xs.length
   ·rw[List.getElem?_append_left (by simpa using hix)]at e2
    simp[hix]at e2
   ·obtain⟨i,rfl⟩:∃i',i=xs.length+i':=⟨i-xs.length,by lia⟩
    rw[List.getElem?_append_right (by lia)]at e1';rw[List.getElem?_append_right (by simp)]at e2;have e1':fr[i]? = some y:=by simpa using e1'
    have e2:(ks.map fun k=>(σ[k]?).join)[i]? = some (some v):=by simpa using e2
    have hy:y∈fr:=oH e1';have ek:(ks.map (fun k=>X.N[k]?))[i]? = (fr.map some)[i]?:=by rw[hks]
    rw[List.getElem?_map,List.getElem?_map,e1']at ek;have e2':=e2;rw[List.getElem?_map]at e2';cases hk:ks[i]? with
    |none=>rw[hk]at ek;cases ek
    |some k=>
     rw[hk]at ek e2';have ek':X.N[k]? = some y:=by simpa using ek
     have e2'':(σ[k]?).join=some v:=by simpa using e2'
     have es:σ[k]? = some (some v):=by
      cases q:σ[k]? with
      |none=>rw[q]at e2'';cases e2''
      |some z=>rw[q]at e2'';rw[show z=some v from e2'']
     obtain⟨m,hn,hl⟩:=I3.loc;have hkd:=S.kinds y hy;obtain⟨u,r,lk⟩:=hl k y v ek' es (by rcases hkd with q|q;exact .inr (.inl q);exact .inr (.inr q));refine⟨u,r,.inr ⟨S.kin y hy,?_⟩⟩;rcases lk with ⟨q,_⟩|⟨_,c,ec,hcell⟩
     ·rcases hkd with z|z <;> (rw[q]at z;cases z)
     ·obtain⟨o,ho,hd⟩:=hcell
      exact⟨c,(S.cell _ y hy).trans ec,o,keep4 _ _ ho,hd⟩
  ·rcases hsub y c e with q|⟨_,_,q⟩
   ·obtain⟨v,o,ho,hd⟩:=I3.cell y c q
    exact⟨v,o,keep4 _ _ ho,hd⟩
   ·exact⟨_,q⟩
  ·rcases hsub y c e with q|⟨_,l,_⟩
   ·exact I3.freeC y c q
   ·exact I3.hok.fresh (Zh l)
  ·have hp':p∈X.pn++pins:=by simpa [bj,bR,dO] using hp
   obtain⟨a1,a2,a3,a4,a5⟩:=I3.pin p hp';refine⟨keep4 _ _ a1,a2,o6 (xQ a1),fun z=>?_,a5⟩;rcases zv.mp (I3.stkSub p.1 z) with q|q
   ·exact a3 q
   ·exact a4 q
  ·show((xs.map fun _=>none)++ks.map _).length=(xs++fr).length
   have:=congrArg mF hks;simp at this;simp[this]
 have st4:tn 0 h₁:=T.keep 0 _ _ st2 fun b hb o e=>keep4 _ _ (up3 _ _ e);have vH:∀ {pins' σ' H' s6},Inv (bj X (xs++fr) scope (cl2 g3.objs.size) fnc g3.objs.size { s2 with heap:=g3 } (upd H2 s2.heap.objs.size (.lst [])) fp (X.pn++pins) (xeR X scope (cl2 g3.objs.size) use Qp s2.heap.objs.size g3.objs.size)) pins' σ' H' s6->Inv X pins σ H' s6:=by
  intro pins' σ' H' s6 I6;have tr:∀b o,b≠g3.objs.size->s6.heap.get? b=some o->s6.heap.get? b=some o:=fun b o hb e=>e;have U:=I6.base;have neC:∀b o,g3.get? b=some o->b≠g3.objs.size:=fun b o e=>o6 (xQ e);have U':Un (frs X.stack) fp (upd H2 s2.heap.objs.size (.lst [])) H' g3 s6.heap:=⟨fun b o q n hb hx=>tr b o (neC b o q) (U.keep b o q n hb hx),fun b o q n hb hx=>let ⟨sl,e⟩:=U.slot b o q n hb hx;⟨sl,tr _ _ (neC b o q) e⟩,U.free,fun b o q hx=>let ⟨o',e⟩:=U.there b o q hx;⟨o',tr _ _ (neC b o q) e⟩,U.tups,U.frzs,U.tbls⟩;have ok':HOk X.prog X.w H' s6.heap:=fun a o e=>(I6.hok a o e).stay (fun b u hb q=>tr b u (fun z=>by
   have fC:H' g3.objs.size=none:=I6.free;rcases hb with r|r
   ·rw[<- z,r,e]at fC;cases fC
   ·rw[<- z,r]at fC;cases fC) q) (fun _ q=>q) fun _ _ q=>q
  exact I3.call' (s':=s6) (ch:=fp) I6.os U' ok' I6.bare fun b hb=>⟨(f2 b hb).2.2.2.1,(f2 b hb).2.1,(f2 b hb).2.2.2.2.1,(f2 b hb).2.2.2.2.2⟩
 have PX:bp (XE X.prog X.w) (bj X (xs++fr) scope (cl2 g3.objs.size) fnc g3.objs.size { s2 with heap:=g3 } (upd H2 s2.heap.objs.size (.lst [])) fp (X.pn++pins) (xeR X scope (cl2 g3.objs.size) use Qp s2.heap.objs.size g3.objs.size)) (fun _=>E):=by
  intro pins' σ' H9 s9 ev s' I9 hq_;obtain⟨e,Ce,oc,rs,H',rfl,os,bare,un,hok,hrs,⟨her,a0,fl,g0⟩,q⟩:=hq_;have J1:Inv (bj X (xs++fr) scope (cl2 g3.objs.size) fnc g3.objs.size { s2 with heap:=g3 } (upd H2 s2.heap.objs.size (.lst [])) fp (X.pn++pins) (xeR X scope (cl2 g3.objs.size) use Qp s2.heap.objs.size g3.objs.size)) pins' σ' H' s':=I9.call' os un hok bare (fun b z=>nomatch z);have J:=vH J1;have I0:=vH I9;have hn0:∀b∈rs,X.s₀.heap.get? b=none/\H' b=none:=fun b hb=>by
   refine⟨?_,(hrs b hb).2⟩;cases q:X.s₀.heap.get? b with
   |none=>rfl
   |some o=>
    obtain⟨o',z⟩:=I0.base.there b o q (by rw[hex];simp);rw[(hrs b hb).1]at z;cases z
  have hpin:∀p∈X.pn++pins,p.1∉rs:=fun p hp z=>by
   have:=(I0.pin p hp).1;rw[(hrs _ z).1]at this;cases this
  have hfrm:X.A.frames=some (X.env::X.outer):=by rw[<- hst];exact I.ok.frames
  have hstk:s'.heap.FunFrames X.base (X.env::X.outer):=by rw[<- hst];exact J.stack
  have fl':Heap.FlyingW (hid s'.heap (X.env::X.outer) rs) (X.env::X.outer) e Ce a0 s'.heap:=by
   have z:Heap.FlyingW (hid s'.heap X.stack rs) X.stack e Ce a0 s'.heap:=fl;rw[hst]at z;exact z
  obtain⟨mC,hnC,_⟩:=id J1.loc;have hn9:∃oC,s9.heap.get? g3.objs.size=some oC:=by
   obtain⟨_,⟨oC,_,_,z,_⟩,_⟩:=id I9.loc;exact⟨oC,z⟩
  have hn1:∃oC,s'.heap.get? g3.objs.size=some oC:=by
   obtain⟨oC,_,_,z,_⟩:=id hnC;exact⟨oC,z⟩
  have nrs:g3.objs.size∉rs:=fun z=>by
   obtain⟨oC,w⟩:=hn9;rw[(hrs _ z).1]at w;cases w
  show wpAny (model X.prog X.w) X.A (Yo (.ref e) (compEnvC scope (cl2 g3.objs.size) g3.objs.size X.env)) _ _ s';rw[j6 (env:=compEnvC scope (cl2 g3.objs.size) g3.objs.size X.env) (env':=X.env) rfl];refine be (e:=e) (kq _ _) g0 (wpAny_looks_onW (base:=hid s'.heap (X.env::X.outer) rs) hfrm hfr fl' fun h₄ held up4 g4=>?_);obtain⟨d1,d2,d3,oe,vs,T,oT,ts,ge,gc,gd,g1,gnT,gTe,gT,gdT,gl⟩:=held;have stay4:∀b o,s'.heap.get? b=some o->b∉frs X.stack->b∉rs->h₄.get? b=some o:=fun b o z hb hr=>d1 b o (cV z (by rw[<- hst];exact hb) hr);have I4':Inv X pins σ H' { s' with heap:=h₄,toks:=s'.toks }:=J.noted hn0 hpin stay4 up4;have nT:=fZ hstk up4 gnT gT gdT;have nTC:T≠g3.objs.size:=fun z=>by
   rcases nT with w|w
   ·obtain⟨oC,w'⟩:=hn1
    rw[z,w']at w;cases w
   ·exact nrs (z ▸ w)
  have neC:e≠g3.objs.size:=fun z=>nrs (z ▸ her);refine⟨mC,up4.ns hnC,fun h₅ sb cenv' _=>?_⟩;have fpC':gb X pins H' g3.objs.size:=I3.fpOk (xi _) J1.free;obtain⟨f0,f1,f2',f3,f4,f5⟩:=fpC';have I5':Inv X pins σ H' { s' with heap:=h₅,toks:=s'.toks }:=I4'.turned (t':=s'.toks) (fun b o hb z=>(sb.2 b hb).trans z) f0 f1 f3 f4 f5;have ge5:=(sb.2 e neC).trans ge;have gT5:=(sb.2 T nTC).trans gT;have g45:F2v (cxV oc) h₅ e:=by
   obtain⟨o1,w1,z1,z2,z3⟩:=g4;exact⟨o1,w1,(sb.2 e neC).trans z1,z2,z3⟩
  have hn2:∀b∈T::rs,X.s₀.heap.get? b=none/\H' b=none:=fun b hb=>by
   rcases zv.mp hb with r|r
   ·rw[r]
    rcases nT with z|z
    ·exact⟨J.s0_none hex z,J.hok.none_of z⟩
    ·exact hn0 T z
   ·exact hn0 b r
  have hpin2:∀p∈X.pn++pins,p.1∉T::rs:=fun p hp z=>by
   rcases zv.mp z with r|r
   ·rcases nT with w|w
    ·have:=(J.pin p hp).1
     rw[r,w]at this;cases this
    ·exact hpin p hp (r ▸ w)
   ·exact hpin p hp r
  have hst5:h₅.FunFrames X.base X.stack:=I5'.stack;unfold PySem.passOn;refine zz (oi ge5 gd g1 ?_);rw[if_neg (show ¬ (qr T==Zz)=true by simp)];refine zz (be (e:=e) (dB _ _) g45 (tj (hb:=hid h₅ X.stack (T::rs)) (l:=X.stack) (fun b o z=>fw z) (cc hst5) ⟨oe,vs,T,oT,ts,ge5,gc,gd,g1,dv (.head _),gTe,gT5,gdT,gl⟩ fun h₆ fl6 k1 k2 k3 up6 g6=>?_));have I6':Inv X pins σ H' { s' with heap:=h₆,toks:=s'.toks }:=I5'.noted hn2 hpin2 (fun b o z hb hr=>k1 b o (cV z hb hr)) up6;obtain⟨oe6,vs6,T6,oT6,ts6,z1,z2,z3,z4,z5,z6,z7,z8,z9⟩:=k3;have nT6:h₅.get? T6=none\/T6∈T::rs:=fZ hst5 up6 z5 z7 z8;have hn3:∀b∈T6::T::rs,X.s₀.heap.get? b=none/\H' b=none:=fun b hb=>by
   rcases zv.mp hb with r|r
   ·rw[r]
    rcases nT6 with z|z
    ·exact⟨I5'.s0_none hex z,I5'.hok.none_of z⟩
    ·exact hn2 _ z
   ·exact hn2 b r
  exact wpAny_throw (hp pins σ H' _ e Ce oc (T6::T::rs) a0 fl6 I6' hn3 (.tail _ (.tail _ her)) (fun b o z=>fw z) (cc I6'.stack) ⟨oe6,vs6,T6,oT6,ts6,z1,z2,z3,z4,dv (.head _),z6,z7,z8,z9⟩ g6 q)
 have stat:∀ {H':Hp},(∀b∈fp,H' b=none)->∀b∈fp,gb (bj X (xs++fr) scope (cl2 g3.objs.size) fnc g3.objs.size { s2 with heap:=g3 } (upd H2 s2.heap.objs.size (.lst [])) fp (X.pn++pins) (xeR X scope (cl2 g3.objs.size) use Qp s2.heap.objs.size g3.objs.size)) [] H' b:=fun hn b hb=>
  ⟨hn b hb,fpC b hb,Ok.exfs b hb,.inl hb,cfp b hb,fun p hp=>(f2 b hb).2.2.2.2.2 p (by simpa [bj,bR,dO] using hp)⟩
 have loop:codeAny (model X.prog X.w) X.A (.compLoop (.ListComp elt [⟨tg,iter,ifs,0⟩] scope pos) 0 (.ref it) (.ref s2.heap.objs.size) (compEnvC scope (cl2 g3.objs.size) g3.objs.size X.env))
  (compPost (model X.prog X.w) X.A X.xe use Qp (.ref s2.heap.objs.size) g3.objs.size) { s2 with heap:=h₁,toks:=t₁ }:=by
  refine iy (fun n s'=>∃i ys σ' H',Inv (bj X (xs++fr) scope (cl2 g3.objs.size) fnc g3.objs.size { s2 with heap:=g3 } (upd H2 s2.heap.objs.size (.lst [])) fp (X.pn++pins) (xeR X scope (cl2 g3.objs.size) use Qp s2.heap.objs.size g3.objs.size)) [] σ' H' s'/\(∃zs,zs.length=xs.length/\σ'=zs++ks.map fun k=>(σ[k]?).join)/\tn i s'.heap/\(∀b∈fp,H' b=none)/\W i n ys H') ?_ m0
   ⟨0,[],_,_,I4,⟨xs.map fun _=>none,by simp,rfl⟩,st4,fpN,w0⟩
  rintro n s' ⟨i,ys,σ',H',I5,⟨zs,hzs,rfl⟩,st5,fr5,w5⟩;obtain⟨hD,hor⟩:=turn i n ys H' w5;rcases hor with ⟨stop,qn⟩|⟨go,step⟩
  ·refine tu (T.done (bj X (xs++fr) scope (cl2 g3.objs.size) fnc g3.objs.size { s2 with heap:=g3 } (upd H2 s2.heap.objs.size (.lst [])) fp (X.pn++pins) (xeR X scope (cl2 g3.objs.size) use Qp s2.heap.objs.size g3.objs.size)) rfl rfl rfl (hc _ _ _ _ _ _) i [] s' _ H' (fun _ _=>False) I5 (stat fr5) st5 stop) (fun r s6 hq_=>?_) (fun _ _ f=>f.elim)
   obtain⟨hr,I6⟩:=hq_;subst hr;obtain⟨mC,hnC,_⟩:=id I6.loc;have J6:=vH I6;exact hend s2.heap.objs.size g3.objs.size H' s6 mC _ J6 (I3.fpOk (xi _) I6.free) hnC qn
  ·refine tu (T.item (bj X (xs++fr) scope (cl2 g3.objs.size) fnc g3.objs.size { s2 with heap:=g3 } (upd H2 s2.heap.objs.size (.lst [])) fp (X.pn++pins) (xeR X scope (cl2 g3.objs.size) use Qp s2.heap.objs.size g3.objs.size)) rfl rfl rfl (hc _ _ _ _ _ _) i [] s' _ H' (fun _ _=>False) I5 (stat fr5) st5 go) (fun r s6 hq_=>?_) (fun _ _ f=>f.elim)
   obtain⟨u,hr,h6⟩:=hq_;subst hr;refine tu h6 (fun _ s7 hq_=>?_) (fun _ _ f=>f.elim);obtain⟨xv,H7,I7,r7,y7,st7,fr7⟩:=hq_;have I7':=I7.pinned (stat fr7) (T.obj _ _ st7);have pinsTo:∀ {σ9:St} {H9:Hp} {s9:Shared},Inv (bj X (xs++fr) scope (cl2 g3.objs.size) fnc g3.objs.size { s2 with heap:=g3 } (upd H2 s2.heap.objs.size (.lst [])) fp (X.pn++pins) (xeR X scope (cl2 g3.objs.size) use Qp s2.heap.objs.size g3.objs.size)) ([]++iW fp s7.heap) σ9 H9 s9->tn (i+1) s9.heap/\∀b∈fp,H9 b=none:=fun {σ9 H9 s9} I9=>
    ⟨T.keep _ _ _ st7 fun b hb o e=>(I9.pin (b,o) (uj _ (uj _ (cZ hb e)))).1,fun b hb=>by
     obtain⟨o,e,d⟩:=T.obj _ _ st7 b hb;exact(I9.pin (b,o) (uj _ (uj _ (cZ hb e)))).2.1⟩
   refine tu (hg _ _ _ _ _ _ PX _ s7 _ H7 xv u _ I7' r7 (step xv H7 y7 zs hzs)) (fun _ s8 hq_=>?_) (fun _ _ z=>z);obtain⟨σ8,H8,I8,⟨zs4,hz4,e8⟩,q8⟩:=hq_;subst e8;refine tu (ht _ _ _ _ _ _ PX _ s8 _ H8 _ I8 q8) (fun ok s9 hq_=>?_) (fun _ _ z=>z);obtain⟨H9,I9,q9⟩:=hq_;cases ok with
   |false=>
    rw[if_neg vy]at q9 |-
    obtain⟨m',hm,w9⟩:=q9;obtain⟨t9,f9⟩:=pinsTo I9;exact⟨m',hm,i+1,ys,_,H9,I9.unpinned,⟨zs4,hz4,rfl⟩,t9,f9,w9⟩
   |true=>
    rw[if_pos rfl]at q9 |-
    refine tu (he _ _ _ _ _ _ PX _ s9 _ H9 _ I9 q9) (fun yv s10 hq_=>?_) (fun _ _ z=>z);obtain⟨y,H10,I10,r10,hD10,hlen,m',hm,w10⟩:=hq_;refine tu (bP (X:=bj X (xs++fr) scope (cl2 g3.objs.size) fnc g3.objs.size { s2 with heap:=g3 } (upd H2 s2.heap.objs.size (.lst [])) fp (X.pn++pins) (xeR X scope (cl2 g3.objs.size) use Qp s2.heap.objs.size g3.objs.size)) _ s10 _ H10 (.ref s2.heap.objs.size) [y] (.ref s2.heap.objs.size) [yv]
     (fun _ H'=>H'=upd H10 s2.heap.objs.size (.lst (ys++[y]))) I10 rfl (.cons r10 .nil) ⟨_,ys,y,rfl,rfl,hD10,hlen,rfl⟩) (fun _ s11 ⟨_,H11,I11,_,e11⟩=>?_) (fun _ _ z=>z)
    subst e11;obtain⟨t11,f11⟩:=pinsTo I11;exact⟨m',hm,i+1,ys++[y],_,_,I11.unpinned,⟨zs4,hz4,rfl⟩,t11,f11,w10⟩
 exact codeAny_compStart_list loop (T.self X.A 0 _ _ _ st4 loop)
theorem rm(hc:X.calm=true)(hp:pk X E)(hex:X.ex=[])(hst:X.stack=X.env::X.outer)(hfr:X.env.frame=some X.env.locals)(S:CompScope X scope cl x fr)
 (hks:ks.map (fun k=>X.N[k]?)=fr.map some) (hi:PI X tg iter wi)
 (hg:∀C s₂ H₂ ex pn xe,bp (XE X.prog X.w) (bj X (xs++fr) scope cl (fun _=>false) C s₂ H₂ ex pn xe) (fun _=>E)->PG (bj X (xs++fr) scope cl (fun _=>false) C s₂ H₂ ex pn xe) tg g)
 (ht:∀C s₂ H₂ ex pn xe,bp (XE X.prog X.w) (bj X (xs++fr) scope cl (fun _=>false) C s₂ H₂ ex pn xe) (fun _=>E)->PTs (bj X (xs++fr) scope cl (fun _=>false) C s₂ H₂ ex pn xe) ifs tt)
 (he:∀C s₂ H₂ ex pn xe,bp (XE X.prog X.w) (bj X (xs++fr) scope cl (fun _=>false) C s₂ H₂ ex pn xe) (fun _=>E)->PE (bj X (xs++fr) scope cl (fun _=>false) C s₂ H₂ ex pn xe) elt te)
 (hs:∀x,ZR iter X.env x=pure x:=by intro _;rfl):PE X (.ListComp elt [⟨tg,iter,ifs,0⟩] scope pos) (cQ wi xs.length g ks tt te):=by
 intro pins s σ H Q I h;rw[eval_ListComp];refine vj (gd:=fun X=>X.calm=true) (cl2:=fun _=>cl) (fnc:=fun _=>false) (fun _ _ _ _ _ _=>hc) S.cs hks (nZ hi) hp hex hst hfr hg ht he hs I h none _ fun D C H' s' mC f J fp hn q=>⟨mC,hn,fun h' sb=>?_⟩;obtain⟨f0,f1,f2,f3,f4,f5⟩:=fp;exact⟨.ref D,H',J.turned (t':=s'.toks) (fun b o hb e=>(sb.2 b hb).trans e) f0 f1 f3 f4 f5,rfl,q⟩
end L2
namespace L2
open PySem
def MkAt{β:Type}(mk:β->List V)(H:Hp)(v:V)(b:β):Prop:=∃t,v = .ref t/\H t=some (.tup (mk b))
theorem MkAt.mv{β:Type}{mk:β->List V}{H H':Hp}(k:∀t l,H t=some (.tup l)->H' t=some (.tup l)){vs:List V}{R:List β}(h:A2 (MkAt mk H) vs R):A2 (MkAt mk H') vs R:=by
 induction h with
 |nil=>exact .nil
 |cons h _ ih=>
  obtain⟨t,e,h⟩:=h;exact .cons ⟨t,e,k _ _ h⟩ ih
end L2
namespace K19
open PySem L2
structure Row where
 pa:List Nat
 cu:List Nat
 am:Int
noncomputable def sg(a s:Int)(k:Nat):Nat:=97+((a+s*k) % 26).toNat
noncomputable def wd(a s:Int)(n:Nat):List Nat:=(rL n).map fun k=>sg a s k
noncomputable def Eg(d:List (Pt × Int))(k:Pt)(v:Int):List (Pt × Int):=if (d.any fun e=>decide (e.1=k))=true then d.map (fun e=>if e.1=k then (e.1,v) else e) else d++[(k,v)]
noncomputable def DQ(d:List (Pt × Int))(k:Pt):Option Int:=(d.find? fun e=>decide (e.1=k)).map (·.2)
noncomputable def stp(d:List (Pt × Int))(r:Row):List (Pt × Int):=Eg d (r.pa,r.cu) ((DQ d (r.pa,r.cu)).getD 0+r.am)
noncomputable def dk(rs:List Row):List (Pt × Int):=rs.foldl stp []
noncomputable def val(rs:List Row)(k:Pt):Int:=(DQ (dk rs) k).getD 0
noncomputable def res(rs:List Row)(out:List Pt):List Row:=(out.filter fun k=>decide (val rs k≠0)).map fun k=>⟨k.1,k.2,val rs k⟩
end K19
namespace K22
open PySem L2 K19
noncomputable def sm(rs:List Row)(k:Pt):Int:=match rs with
 | []=>0
 |r::q=>(if (r.pa,r.cu)=k then r.am else 0)+sm q k
theorem pP(h:tl σ H fun x H1=>∃a,x = .ref a/\(∃xs,SqT K H1 a xs)/\CEl (Itt K a) n g ks tt te σ H1 Q):cQ (A_ K tl) n g ks tt te σ H Q:=h
end K22
namespace L2
open PySem PySem.Spec PyProof.Rows
def Tp(H:Hp)(xs:List V)(Q:VK):Prop:=∀p H',H' p=some (.tup xs)->Same H H'->(NoT H->NoT H')->Q (.ref p) H'
end L2
namespace L2
open Lean Meta Simp PySem
def CD(e:Lean.Expr):MetaM (Option Lean.Expr):=do
 let .const n _:=e.getAppFn|return none
 let as:=e.getAppArgs
 match n with
 | `L2.fH=>
  if as.size<6 then return none
  let h (e:Lean.Expr):Name:=match e.getAppFn with | .const m _=>if m == `L2.T then `L2.V.str else m|_=>.anonymous
  let p:=(h as[2]!,h as[3]!)
  let some th:=[((`L2.V.int,`L2.V.int),`L2.yJ),((`L2.V.bl,`L2.V.bl),`L2.CI),((`L2.V.str,`L2.V.str),`L2.zb),((`L2.V.ref,`L2.V.ref),`L2.zZ),((`L2.V.non,`L2.V.non),`L2.Cl),((`L2.V.non,`L2.V.int),`L2.BB),((`L2.V.int,`L2.V.non),`L2.BP),((`L2.V.int,`L2.V.str),`L2.Ba),((`L2.V.str,`L2.V.int),`L2.BL)].lookup p|return none
  let c <- mkConstWithFreshMVarLevels th
  let (_,_,b) <- forallMetaTelescope (<- inferType c)
  let some (_,l,r):=b.eq? | return none
  if <- isDefEq l e then return some (<- instantiateMVars r) else return none
 | `HSub.hSub | `HAdd.hAdd=>
  if as.size != 6 then return none
  unless as[0]!.isConstOf `Nat do return none
  let some a:=as[4]!.nat? | return none
  let some b:=as[5]!.nat? | return none
  return some (mkNatLit (if n == `HSub.hSub then a-b else a+b))
 | `id=>return if as.size==2 then some as[1]! else none
 | `List.length=>
  if as.size != 2 then return none
  let mut l:=as[1]!
  let mut k:=0
  while l.isAppOfArity `List.cons 3 do
   k:=k+1
   l:=l.appArg!
  if l.isAppOfArity `List.nil 1 then return some (mkNatLit k)
  if k==0 then return none
  let mut r:=mkApp (e.appFn!) l
  for _ in [0:k] do r:=mkNatAdd r (mkNatLit 1)
  return some r
 | `List.map | `List.set | `List.replicate | `L2.dC=>nl e
 | `HAppend.hAppend=>if as.size==6&&(as[0]!.isAppOf `List || as[0]!.isConstOf `L2.St) then nl e else return none
 | `Option.bind=>
  if as.size != 4 then return none
  if as[2]!.isAppOfArity `Option.some 2 then return some (mkApp as[3]! as[2]!.appArg!).headBeta
  if as[2]!.isAppOfArity `Option.none 1 then return some (mkApp (mkConst `Option.none [e.getAppFn.constLevels![1]!]) as[1]!)
  return none
 | `GetElem?.getElem?=>
  if as.size != 7 then return none
  unless as[0]!.isAppOf `List || as[0]!.isConstOf `L2.St do return none
  let some k:=as[6]!.nat? | return none
  let mut l:=as[5]!
  let mut k:=k
  while l.isAppOfArity `List.cons 3 do
   if k==0 then return some (mkApp2 (mkConst `Option.some [l.getAppFn.constLevels![0]!]) (l.getArg! 0) (l.getArg! 1))
   k:=k-1
   l:=l.appArg!
  if l.isAppOfArity `List.nil 1 then return some (mkApp (mkConst `Option.none [l.getAppFn.constLevels![0]!]) (l.getArg! 0))
  return none
 |_=>return none
where
 nl (e:Lean.Expr):MetaM (Option Lean.Expr):=do
  let r <- norm 200 e
  return if r.isAppOfArity `List.cons 3 || r.isAppOfArity `List.nil 1 then some r else none
 norm (k:Nat) (e:Lean.Expr):MetaM Lean.Expr:=do
  let k+1:=k|return e
  let r <- whnfD e
  if r.isAppOfArity `List.cons 3 then
   return mkApp3 r.getAppFn (r.getArg! 0) (r.getArg! 1).headBeta (<- norm k r.appArg!)
  if r.isAppOfArity `List.nil 1 then return r
  if e.isAppOfArity `List.append 3 then return <- mkAppM `HAppend.hAppend #[e.getArg! 1,e.getArg! 2]
  return e
def CJ:List Name:=[`L2.gLstU,`L2.tRaiseI,`L2.sFldE,`L2.gPutE,`L2.gCatU,`L2.gSlU,`L2.tSeqH,`L2.rIns,`L2.Al,`L2.Af,`L2.tFz,`L2.sFz,`L2.rExtL,`L2.AM,`L2.AI,`L2.Ag,`L2.As,`L2.DE,`L2.Cm,`L2.Bl,`L2.xX,`L2.sY]
def yP(e:Lean.Expr):MetaM (Option Lean.Expr):=do
 if let some r <- zr e then return some r
 let .const n us:=e.getAppFn|return none
 unless CJ.contains n do return <- CD e
 let some (.defnInfo d):=(<- getEnv).find? n|return none
 let v:=d.value.instantiateLevelParams d.levelParams us
 if e.getAppNumArgs<v.getNumHeadLambdas then return none
 let b:=v.beta e.getAppArgs
 match <- reduceMatcher? b with
 | .reduced r=>return some r
 | .notMatcher=>return some b
 |_=>return none
dsimproc_decl yb (_):=fun e=>do
 match <- yP e with
 |some r=>return .visit r
 |none=>return .continue
theorem rdY:(∀i j:Int,(V.int i=V.int j)=(i=j))/\(∀p q:Addr,(V.ref p=V.ref q)=(p=q))/\(∀ {α:Type} (l:List α),l++[]=l)/\(∀ {α:Type} (a:α) (l:List α) (b:α) (m:List α),(a::l=b::m)=(a=b/\l=m))/\(∀ {α:Type} {p:α->Prop} {a':α},(∃a,a'=a/\p a)↔p a')/\(∀ {α:Type} {p:α->Prop} {a':α},(∃a,a=a'/\p a)↔p a')/\(∀ {α:Type} (a:α),(a=a)=True)/\(∀(p:Prop) [Decidable p] (x y:Prop),ite (¬ p) x y=ite p y x):=
 ⟨V.int.injEq,V.ref.injEq,Z3,List.cons.injEq,exists_eq_left',exists_eq_left,eq_self,ite_not⟩
end L2
namespace L2
theorem Ey{α β:Type}{p q r:α->β->Prop}{C:Prop}(z:∃a b,p a b/\q a b/\r a b)(k:∀a b,p a b->q a b->r a b->C):C:=by obtain⟨a,b,h0,h1,h2⟩:=z;exact k a b h0 h1 h2
end L2
namespace L2
open PySem PySem.Spec PyProof.Rows
section
variable{X:Cx}
def Aw:List V->Hp->VK->Prop
 | [.str x],H,Q=>(MT.fg (cs x)≠[]/\(∀c∈MT.fg (cs x),MT.isD c=true)/\(cs x).length<=640)/\Q (.int (MT.NI (cs x))) H
 |_,_,_=>False
theorem m6(l:List Nat):Yv l=MT.vl l:=by
 unfold Yv MT.vl
 congr 1
 funext a c;lia
theorem tX{l:List Nat}(h:∀c∈l,MT.isD c=true):MT.nin l=MT.vl l:=by
 rw[MT.nin_filter,Zs.mpr h]
theorem yX:CallR X (.type "int") Aw:=by
 intro pins s σ H xs us Q I r h;rcases xs with _|⟨e_1,r_1⟩
 ·exact(id h:False).elim
 cases e_1 with
 |str x=>
  cases r_1 with
  |nil=>
   obtain⟨⟨h0,hd,hl⟩,q⟩:=h;obtain⟨u,rfl,t,rfl⟩:=dq r;have hl':x.length<=640:=by simpa [cs,Zk] using hl
   refine PySem.W.KIN.call_text (n:=MT.NI (cs x)) ?_ hl' ⟨.int _,H,I.tok _,⟨_,rfl⟩,q⟩;rcases MT.fg_cases (cs x) with ⟨g1,g2⟩|⟨g1,g2⟩
   ·rw[PySem.intText_neg (x:=x) g2 (fun c hc=>by have:=hd c hc;simpa [MT.isD] using this) h0 (by lia),m6]
    unfold MT.NI;rw[if_pos g1];have:MT.nin (cs x)=MT.vl (MT.fg (cs x)):=by
     rw[<- tX hd]
     conv=>lhs;rw[g2]
     rfl
    rw[this]
   ·rw[g2]at h0 hd
    rw[PySem.intText_digits (x:=x) (fun c hc=>by have:=hd c hc;simpa [MT.isD] using this) h0 (by lia),m6];unfold MT.NI;rw[if_neg g1,tX hd]
    rfl
  |cons=>exact(id h:False).elim
 |_=>exact(id h:False).elim
end
end L2
namespace K29
open PySem L2
inductive K9 where
 |word
 |currency
 |keeper
 |shelf
 |number
 |day
 |month
 |weights
 |rows
 |note
deriving DecidableEq
noncomputable def kn:K9->List Nat
 | .word=>[119,111,114,100]
 | .currency=>[99,117,114,114,101,110,99,121]
 | .keeper=>[107,101,101,112,101,114]
 | .shelf=>[115,104,101,108,102]
 | .number=>[110,117,109,98,101,114]
 | .day=>[100,97,121]
 | .month=>[109,111,110,116,104]
 | .weights=>[119,101,105,103,104,116,115]
 | .rows=>[114,111,119,115]
 | .note=>[110,111,116,101]
def rnm:K9->Str
 | .word=>"read_word"
 | .currency=>"read_currency"
 | .keeper=>"read_keeper"
 | .shelf=>"read_shelf"
 | .number=>"read_number"
 | .day=>"read_day"
 | .month=>"read_month"
 | .weights=>"read_weights"
 | .rows=>"read_rows"
 | .note=>"read_note"
def wnm:K9->Str
 | .word=>"write_word"
 | .currency=>"write_currency"
 | .keeper=>"write_keeper"
 | .shelf=>"write_word"
 | .number=>"write_number"
 | .day=>"write_day"
 | .month=>"month_text"
 | .weights=>"write_weights"
 | .rows=>"write_rows"
 | .note=>"write_note"
noncomputable def aV:List (List Nat × List K9):=([116,111,112],[.word,.word])::([97,100,100],[.word,.currency,.day])::([115,104,117,116],[.word,.day])::([113,117,111,116,101],[.day,.word,.number,.word,.number])::([98,111,111,107],[.day,.rows,.note])::([117,110,100,111],[.number,.day,.note])::([99,108,111,115,101],[.month,.keeper])::([98,117,100,103,101,116],[.word,.word,.word,.month,.month,.number,.weights])::([115,116,97,110,100,105,110,103],[.word,.day,.number,.number,.rows,.note])::([100,114,111,112],[.shelf,.word])::([114,117,110],[.day])::([97,99,99,111,117,110,116,115],[])::([114,101,112,111,114,116],[.day,.day])::([98,97,108,97,110,99,101,115],[.day])::([115,116,97,116,101,109,101,110,116],[.word,.word,.day,.day])::([109,111,110,116,104,115],[.word,.word,.month,.month])::([119,111,114,116,104],[.word,.day])::([108,101,102,116],[.word,.month])::([111,118,101,114],[.month])::([115,101,97,108,115],[])::[]
noncomputable def Ed:List (List Nat × K9):=([119,111,114,100],.word)::([99,117,114,114,101,110,99,121],.currency)::([107,101,101,112,101,114],.keeper)::([115,104,101,108,102],.shelf)::([110,117,109,98,101,114],.number)::([100,97,121],.day)::([109,111,110,116,104],.month)::([119,101,105,103,104,116,115],.weights)::([114,111,119,115],.rows)::([110,111,116,101],.note)::[]
noncomputable def Df:List (List Nat × K9):=([119,111,114,100],.word)::([99,117,114,114,101,110,99,121],.currency)::([107,101,101,112,101,114],.keeper)::([115,104,101,108,102],.shelf)::([110,117,109,98,101,114],.number)::([100,97,121],.day)::([109,111,110,116,104],.month)::([119,101,105,103,104,116,115],.weights)::([114,111,119,115],.rows)::([110,111,116,101],.note)::[]
def RF(K:W.Frag)(v:List K9)(t:Addr):Prop:=CsT K t (v.map fun k=>L2.T (kn k))
def RM(mg:Str->Option Value)(n:K9->Str)(k:K9)(f:Addr):Prop:=mg (n k)=some (.ref f)
noncomputable abbrev Az:List Str:=["_law_script","_law_order_here","_law_line_here","_law_turn","_law_cell","_law_odd"]
structure Adr where
 nB:Addr
 eT:Addr
 f_:Addr
 aY:Addr
 iG:Addr
 ar:Addr
 cK:Addr
 ck:Addr
 c_:Addr
 eC:Addr
abbrev zzK(K:W.Frag)(a b:Addr)(c:Bool):Prop:=nK K (.ref a) (.ref b)=some c
abbrev zzX(K:W.Frag)(a:Addr):Prop:=Yk K a [.type "ValueError",.type "Exception",.type "BaseException",.type "object"] "ValueError.__new__" = true
structure Txt(w:World)(K:W.Frag)(mg:Str->Option Value)(a:Adr):Prop where
 si:DfN K mg "is_whole" (top 8)
 sh:DfN K mg "is_among" (top 9)
 qR:DfN K mg "signs_lie" (top 10)
 u_:DfN K mg "is_note" (top 11)
 oU:DfN K mg "figures_of" (top 12)
 lX:DfN K mg "number_text" (top 13)
 qP:DfN K mg "number_in" (top 14)
 rh:DfN K mg "number_of" (top 15)
 qK:DfN K mg "leap_days" (top 18)
 rB:DfN K mg "first_day" (top 19)
 tB:DfN K mg "last_day" (top 20)
 sd:DfN K mg "month_of" (top 21)
 wF:DfN K mg "day_at" (top 22)
 rR:DfN K mg "parts_of" (top 23)
 rN:DfN K mg "day_text" (top 24)
 wR:DfN K mg "day_of" (top 25)
 oP:DfN K mg "month_text" (top 28)
 qO:DfN K mg "read_word" (top 29)
 jZ:DfN K mg "read_currency" (top 30)
 mh:DfN K mg "read_keeper" (top 31)
 oR:DfN K mg "read_shelf" (top 32)
 my:DfN K mg "read_number" (top 33)
 sW:DfN K mg "read_day" (top 34)
 pD:DfN K mg "read_month" (top 35)
 lN:DfN K mg "read_weights" (top 36)
 qB:DfN K mg "read_rows" (top 37)
 qD:DfN K mg "read_note" (top 38)
 pT:DfN K mg "pieces_of" bT
 sJ:DfN K mg "order_of" (top 41)
 pC:DfN K mg "write_word" (top 42)
 jb:DfN K mg "write_currency" (top 43)
 ll:DfN K mg "write_keeper" (top 44)
 j3:DfN K mg "write_weights" (top 45)
 rn:DfN K mg "write_row" (top 46)
 oY:DfN K mg "write_rows" (top 47)
 pb:DfN K mg "write_note" (top 48)
 lO:DfN K mg "write_number" (top 49)
 pG:DfN K mg "write_day" (top 50)
 uI:DfN K mg "line_of" (top 52)
 vh:DfN K mg "_law_at" (top 54)
 n8:DfN K mg "_law_words" (top 55)
 pK:DfN K mg "_law_form" (top 56)
 pv:DfN K mg "_law_signs" (top 57)
 ou:DfN K mg "_law_mixed" (top 58)
 rg:DfN K mg "_law_text" (top 59)
 qM:DfN K mg "_law_note" (top 60)
 mz:DfN K mg "_law_number" (top 61)
 qL:DfN K mg "_law_rows" (top 62)
 pM:DfN K mg "_law_part" (top 63)
 n9:DfN K mg "_law_order" bH
 i7:DfN K mg "_law_part_text" (top 65)
 p7:DfN K mg "_law_line" (top 66)
 rj:DfN K mg "_law_bent" (top 67)
 gO:DfN K mg "_law_read_number" (top 68)
 j4:DfN K mg "_law_read_day" (top 69)
 jn:DfN K mg "_law_read_text" (top 70)
 je:DfN K mg "_law_read_part" (top 71)
 jj:DfN K mg "_law_read_rows" (top 72)
 iR:DfN K mg "_law_read_parts" (top 73)
 pY:DfN K mg "_law_read" bi
 qd:DfN K mg "_law_told" (top 75)
 iL:DfN K mg "_law_kinds" (top 76)
 lJ:DfN K mg "_law_is_read" (top 77)
 CU:∃fd,Fun K "law" "law" jC a.nB fd
 on:mg "HouseError" = some (.ref a.eT)
 ve:mg "BadNote" = some (.ref a.f_)
 iP:mg "BadDay" = some (.ref a.aY)
 wn:mg "BadRow" = some (.ref a.iG)
 bg:mg "BadOrder" = some (.ref a.ar)
 qH:zzX K a.aY
 C9:cH K a.aY
 j8:Zd K (.ref a.aY) (.ref a.aY)=some true
 rH:Zd K (.ref a.aY) (.ref a.eT)=some true
 vQ:zzK K a.aY a.aY true
 vP:zzK K a.aY a.f_ false
 tO:zzK K a.aY a.ar false
 vR:zzK K a.aY a.iG false
 rJ:nK K (.ref a.aY) (.type "ValueError")=some true
 bv:zzX K a.ar
 dJ:cH K a.ar
 t5:Zd K (.ref a.ar) (.ref a.aY)=some false
 fb:Zd K (.ref a.ar) (.ref a.eT)=some true
 hU:zzK K a.ar a.aY false
 gG:zzK K a.ar a.f_ false
 gf:zzK K a.ar a.ar true
 hX:zzK K a.ar a.iG false
 e_:nK K (.ref a.ar) (.type "ValueError")=some true
 uV:mg "LENGTHS" = some (.ref a.cK)
 cK:∃(o:Obj) (its:Array Value) (n:Nat),K.lookup a.cK=some o/\o.cls = .type "tuple" /\ o.data = .seq its n/\its.size<=sizeLine/\Vals (([31,28,31,30,31,30,31,31,30,31,30,31]:List Int).map V.int) its.toList
 g_:mg "FORMS" = some (.ref a.ck)
 ck:Tbl K w.params (RF K) a.ck aV
 mL:mg "READERS" = some (.ref a.c_)
 c_:Tbl K w.params (RM mg rnm) a.c_ Ed
 uO:mg "WRITERS" = some (.ref a.eC)
 eC:Tbl K w.params (RM mg wnm) a.eC Df
 oV:mg "ValueError" = none
 AN:mg "all" = none
 wU:mg "bool" = none
 dZ:mg "int" = none
 aK:mg "isinstance" = none
 bD:mg "len" = none
 dh:mg "range" = none
 rT:mg "reversed" = none
 dW:mg "str" = none
 Ec:mg "sum" = none
 cG:mg "tuple" = none
 uu:mg "zip" = none
theorem lZ:kc "ValueError" = some (.type "ValueError"):=by decide +kernel
theorem xB:kc "all" = some (.builtin "all"):=by decide +kernel
theorem uD:kc "bool" = some (.type "bool"):=by decide +kernel
theorem cM:kc "int" = some (.type "int"):=by decide +kernel
theorem aH:kc "isinstance" = some (.builtin "isinstance"):=by decide +kernel
theorem bd:kc "len" = some (.builtin "len"):=by decide +kernel
theorem cO:kc "str" = some (.type "str"):=by decide +kernel
theorem Bx:kc "sum" = some (.builtin "sum"):=by decide +kernel
theorem bY:kc "tuple" = some (.type "tuple"):=by decide +kernel
theorem wo:dz ["_law_script","_law_order_here","_law_line_here","_law_turn","_law_cell","_law_odd"] ["_law_script"] (au jC):=⟨rfl,rfl,rfl,by decide +kernel,rfl,by decide +kernel,by decide +kernel⟩
seal L2.PE L2.PT L2.PW L2.PA L2.PS L2.PSs L2.PI L2.PG L2.PGs L2.PO
open PySem L2 K3 M2 K22
local macro_rules | `(tactic| walk_at "cq") => `(tactic| exact ⟨rfl, by decide +kernel, rfl, by decide +kernel, rfl, bz rfl, rfl, aI rfl, aI (k := fun y => List.lookup y _) rfl, bA rfl⟩)
local macro_rules | `(tactic| walk_at "sc") => `(tactic| exact ⟨rfl, rfl, rfl, by decide +kernel, rfl, by decide +kernel, by decide +kernel⟩)
local macro_rules | `(tactic| walk_at "b") => `(tactic| (intro _ _ _ _ _ _ us hl; first | (obtain ⟨_, e⟩ := ex1 hl; subst e; rfl) | (obtain ⟨_, _, e⟩ := ex2 hl; subst e; rfl) | (obtain ⟨_, _, _, e⟩ := ex3 hl; subst e; rfl) | (obtain ⟨_, _, _, _, e⟩ := ex4 hl; subst e; rfl) | (obtain ⟨_, _, _, _, _, e⟩ := ex5 hl; subst e; rfl) | (obtain ⟨_, _, _, _, _, _, e⟩ := ex6 hl; subst e; rfl) | (obtain ⟨_, _, _, _, _, _, _, e⟩ := ex7 hl; subst e; rfl) | (obtain ⟨_, _, _, _, _, _, _, _, e⟩ := ex8 hl; subst e; rfl) | (cases List.eq_nil_of_length_eq_zero hl; rfl)))
local macro_rules | `(tactic| walk_at "rd") => `(tactic| try simp only [yb, rdI, rdY, Int.reduceLT, Int.reduceLE, Int.reducePow, Int.reduceNeg, Nat.reducePow, if_false, if_true, ↓reduceIte, forall_const])
local macro_rules | `(tactic| walk_at "om") => `(tactic| first | exact wx (by decide) (by assumption : 1000 <= sizeLine) | lia)
section
variable{pS:Addr}{ns:List Int}{P:Program}{w:World}{K:W.Frag}{mg:Str->Option Value}{base:Heap}{a:Adr}
theorem szl:1000<=sizeLine:=by rw[wz];decide
theorem EQ:1000<sizeLine:=by rw[wz];decide
theorem itp{c:Prop}[Decidable c]{t e:Prop}(h:c)(x:t):ite c t e:=by rw[if_pos h];exact x
theorem itn{c:Prop}[Decidable c]{t e:Prop}(h:¬ c)(x:e):ite c t e:=by rw[if_neg h];exact x
def sp_qQ:Sp:=sp1 fun x H Q _=>NoT H/\asK H x fun _=>Q (.bl (isI x)) H
theorem qz(T:Txt w K mg a):Fo P w K mg base "is_whole" 1 sp_qQ:=by
 refine T.si.hg ["thing"] (gG1 fun x0 fA cdv A outer s H Q E ND HU hr h=>?_);obtain⟨hN,h1⟩:=h;obtain⟨t,ht,hb,k⟩:=oJ h1;refine⟨hN,_,(af (ai (js (ay (bW K) rfl T.aK aH (fa2 (fv 0) (bM (v:=.ty "int") rfl T.dZ cM rfl))) (lC (xO (ay (bW K) rfl T.aK aH (fa2 (fv 0) (bM (v:=.ty "bool") rfl T.wU uD rfl)))))))),?_⟩;walk_at "rd";simp only[ht];rw[<- wL ht]at k;rcases hb with rfl|rfl|rfl|rfl|rfl|rfl|rfl
 all_goals first
  |exact xC k
  |exact xr k
noncomputable def amg(x:V)(lo hi:Int):Bool:=match x with
 | .int i=>decide (lo<=i)&&decide (i<=hi)
 |_=>false
theorem yG{x:V}{lo hi:Int}(h:isI x=false):amg x lo hi=false:=by
 unfold amg;split
 ·cases h
 ·rfl
def sp_rz:Sp:=sp3 fun x y z H Q _=>NoT H/\asI y fun lo=>asI z fun hi=>asK H x fun _=>Q (.bl (amg x lo hi)) H
theorem fq(T:Txt w K mg a):Fo P w K mg base "is_among" 2 sp_rz:=by
 refine T.sh.hg ["thing","least","most"] (gG3 fun x0 x1 x2 fA cdv A outer s H Q E ND HU hr h=>?_);obtain⟨hN,h1⟩:=h;obtain⟨lo,rfl,h2⟩:=bu h1;obtain⟨hi,rfl,h3⟩:=bu h2;obtain⟨t,ht,hb,k⟩:=oJ h3;refine⟨hN,_,(af (ai (js (az (qz T) hr aB (fa1 (fv 0))) (lC (rE d5 d5 (fv 1) (fv 0) (fv 2)))))),?_⟩;walk_at "rd";refine⟨hN,asK.of ht ?_⟩;cases e:isI x0 with
 |false=>
  rw[yG e]at k;exact xr k
 |true=>
  cases x0 with
  |int i=>
   refine xC ?_;walk_at "rd";split
   ·rename_i h1
    have e:amg (.int i) lo hi=decide (i<=hi):=by simp[amg,h1]
    rw[e]at k;exact k
   ·rename_i h1
    have e:amg (.int i) lo hi=false:=by simp[amg,h1]
    rw[e]at k;exact k
  |_=>cases e
theorem w8(a b:Nat):leN [a] [b]=decide (a<=b):=by
 unfold leN;have h:([b]<[a])↔b<a:=by
  rw[List.cons_lt_cons_iff];simp
 rw[decide_eq_decide.mpr h];by_cases h2:b<a
 ·rw[decide_eq_true h2,decide_eq_false (by walk_at "om")];rfl
 ·rw[decide_eq_false h2,decide_eq_true (by walk_at "om")];rfl
local macro_rules | `(tactic| walk_at "rd") => `(tactic| try simp only [yb, rdI, rdY, Int.reduceLT, Int.reduceLE, Int.reducePow, Int.reduceNeg, Nat.reducePow, if_false, if_true, ↓reduceIte, forall_const, w8])
def ok(l:List Nat):Prop:=(∀c∈l,c<128)/\l.length<=1000
theorem bN{l:List Nat}(h:ok l):l.length<=sizeLine:=wx h.2 (by rw[wz];decide)
noncomputable def lie(l:List Nat)(a b:Nat):Bool:=l.all fun c=>decide (a<=c)&&decide (c<=b)
def sp_nY:Sp:=sp3 fun x y z H Q _=>NoT H/\asT x fun l=>asT y fun lo=>asT z fun hi=>ok l/\∃a b,lo=[a]/\hi=[b]/\Q (.bl (lie l a b)) H
theorem hV(T:Txt w K mg a):Fo P w K mg base "signs_lie" 1 sp_nY:=by
 refine T.qR.hg ["text","least","most"] (gG3 fun x0 x1 x2 fA cdv A outer s H Q E ND HU hr h=>?_);obtain⟨hN,h1⟩:=h;obtain⟨l,rfl,h2⟩:=ba h1;obtain⟨lo,rfl,h3⟩:=ba h2;refine dQ (ba h3) fun hi yy1 hl yz=>Ey yz fun a b yy2 yy3 k=>?_;subst yy1 yy2 yy3;refine⟨hN,_,(af (ai (ay (uC K rfl) rfl T.AN xB (fa1 (bG rfl (cl:=_) (x:="sign") (xs:=["sign"]) (fr:=["least","most"]) (ks:=[1,2]) (by walk_at "cq") rfl (i8 (fv 0)) (fun _ _ _ _ _=>(aR (i:=0) (cT (l:=["sign","least","most"]) (by decide)) rfl (Or.inl rfl))) (fun _ _ _ _ _=>b9) (fun _ _ _ _ _=>(rE d5 d5 (fv 1) (fv 0) (fv 2)))))))),?_⟩;walk_at "rd";refine cmS (fun _=>True) (fun _ _ _=>trivial) l (fun _=>true) (fun c=>.bl (decide (a<=c)&&decide (c<=b))) (fun R r=>r) hl.1 (bN hl) (fun c _ H R _ r=>r) (fun c _ _ H R _ r=>?_) (fun D hD=>?_)
 ·walk_at "rd"
  by_cases h1:a<=c
  ·simp only[h1,decide_true,Bool.true_and]at r |-
   exact r
  ·simp only[h1,decide_false,Bool.false_and]at r |-
   exact r
 ·refine⟨l.map fun c=>decide (a<=c)&&decide (c<=b),aL (by rw[ad,Zs.mpr (by simp),ZM];rfl),H,Gc.none (ag _ hD),?_⟩
  have e:(l.map fun c=>decide (a<=c)&&decide (c<=b)).all id=lie l a b:=by
   rw[List.all_map];rfl
  rw[e];exact k
theorem Aa{H:Hp}{x:V}{t:String}(ht:bL H x=some t)(h:¬ ∃l,x = .str ⟨⟨l⟩⟩):bB t "str" = false:=by
 unfold bL at ht;split at ht
 case h_4 y=>exact absurd ⟨y.cps.toList,rfl⟩ h
 case h_5=>split at ht <;> cases ht <;> decide
 all_goals (cases ht <;> decide)
theorem nd_{p:Prop}[Decidable p](h:¬ decide p=true):¬ p:=fun z=>h (decide_eq_true z)
noncomputable def nt(l:List Nat):Bool:=decide (l.length<=40) && !fD l [32]&&decide (l.getLast? ≠ some 32)&&lie l 32 126
def sp_rL:Sp:=sp1 fun x H Q _=>NoT H/\asT x fun l=>ok l/\Q (.bl (nt l)) H
theorem sK(T:Txt w K mg a):Fo P w K mg base "is_note" 2 sp_rL:=by
 refine T.u_.hg ["thing"] (gG1 fun x0 fA cdv A outer s H Q E ND HU hr h=>?_);obtain⟨hN,h1⟩:=h;refine dQ (ba h1) fun l yy1 hl k=>?_;subst yy1;unfold nt at k;refine⟨hN,_,(aa (aE (L2.PW.pt (bS (cP (bt (ay (bW K) rfl T.aK aH (fa2 (fv 0) (bM (v:=.ty "str") rfl T.dW cO rfl))))) (bK (ak mX (ay (aS K) rfl T.bD bd (fa1 (fv 0))) ae)))) (af (ai jH)) ao)
  (aa (aE (L2.PW.pt (bS (bt (aP K xn Yh Yi dE (fv 0) (fa1 (ac [32])))) (bK (bt (aP K xn PySem.F.slot_str_endswith PySem.F.type_str_endswith pF (fv 0) (fa1 (ac [32]))))))) (af (ai jH)) ao)
  (af (ai (az (hV T) hr aB (fa3 (fv 0) (ac [32]) (ac [126]))))))),?_⟩
 walk_at "rd";refine⟨bN hl,?_⟩;split
 ·rename_i h1
  rw[decide_eq_false (by lia:¬ l.length<=40)]at k;exact k
 ·rename_i h1
  rw[decide_eq_true (by lia:l.length<=40)]at k;cases h2:fD l [32] with
  |true=>rw[h2]at k;exact itp rfl k
  |false=>
   rw[h2]at k;refine itn (by decide) ?_;split
   ·rename_i h3
    rw[decide_eq_false (fun z=>z (of_decide_eq_true h3):¬ l.getLast? ≠ some 32)]at k;exact k
   ·rename_i h3
    rw[decide_eq_true (nd_ h3:l.getLast? ≠ some 32)]at k;exact⟨hN,hl,32,126,rfl,rfl,k⟩
end
open PySem L2 K3 M2 K22
section
open MT
variable{pS:Addr}{ns:List Int}{P:Program}{w:World}{K:W.Frag}{mg:Str->Option Value}{base:Heap}{a:Adr}
theorem xS{i:Int}(h0:0<=i)(h:i<10 ^ 240):i.natAbs.log2<1920:=by
 by_cases hz:i.natAbs=0
 ·rw[hz];decide
 ·rw[Nat.log2_lt hz]
  have e:(10:Int) ^ 240=((10 ^ 240:Nat):Int):=by decide +kernel
  have h2:i.natAbs<10 ^ 240:=by lia
  exact Nat.lt_trans h2 (by decide +kernel)
theorem jU(n:Nat):(dg n).head? ≠ some 43:=by
 intro z;have h:=jc n 43 (List.mem_of_head? z);simp[MT.isD]at h
theorem rl:∀(ps:List (List Nat)),(∀x∈ps,x.length=60)->ps.flatten.length=ps.length*60
 | [],_=>rfl
 |x::r,h=>by
  rw[List.flatten_cons,zx,h x (by simp),rl r fun y hy=>h y (xM _ hy),xR];lia
theorem tP:∀(ps:List (List Nat)),(∀x∈ps,x.length=60)->(ps.map mF).sum=ps.length*60
 | [],_=>rfl
 |x::r,h=>by
  rw[rS,ZJ,h x (by simp),tP r fun y hy=>h y (xM _ hy),xR];lia
def sp_l_:Sp:=sp1 fun x H Q _=>NoT H/\asI x fun n=>(0<=n/\n<10 ^ 240)/\Q (.str ⟨⟨dg n.toNat⟩⟩) H
theorem gA(T:Txt w K mg a):Fo P w K mg base "figures_of" 1 sp_l_:=by
 refine T.oU.hg ["number","piece","pieces"] (gG1 fun x0 fA cdv A outer s H Q E ND HU hr h=>?_);obtain⟨hN,h1⟩:=h;obtain⟨n,rfl,⟨h0,h9⟩,k⟩:=bu h1;obtain⟨n,rfl⟩:∃z:Nat,n=z:=⟨n.toNat,by lia⟩;have hn9:n<10 ^ 240:=by
  have e:(10:Int) ^ 240=((10 ^ 240:Nat):Int):=by decide +kernel
  lia
 refine⟨hN,_,(aa (aC 1 ND (ah s_ ae ae))
  (aa (aC 2 ND (aX (FA.pa bw)))
  (aa (lF (by passes_own) (ak AB (fv 0) (fv 1)) (aa (dy (aP K mw lI lh bP (fv 2) (fa1 (aP K xn PySem.F.slot_str_zfill PySem.F.type_str_zfill qx (aM kG rfl T.dW cO (fa1 (ah aU (fv 0) (fv 1)))) (fa1 ae)))))
  (af (aC 0 ND (ah wT (fv 0) (fv 1))))))
  (aa (dy (aP K mw lI lh bP (fv 2) (fa1 (aM kG rfl T.dW cO (fa1 (fv 0))))))
  (af (ai (sN K rfl rfl rfl T.rT (ac []) (fv 2)))))))),?_⟩
 walk_at "rd";refine⟨by decide,uG _,fun p hp=>?_⟩;refine⟨fun m σ H'=>∃(n':Nat) (ps:List (List Nat)),σ=[some (.int n'),some (.int (10 ^ Int.toNat 60)),some (.ref p)]/\H'=upd H p (.lst (ps.map L2.T))/\n'=m/\n'<=n/\(∀x∈ps,x.length=60)/\dg n=dg n'++ps.reverse.flatten,
  ⟨n,n,[],rfl,rfl,rfl,xi _,by simp,by simp⟩,?_⟩
 rintro _ σ H' ⟨n',ps,rfl,rfl,rfl,hle,hps,hd⟩;have lps:(dg n').length+ps.length*60<=240:=by
  have h1:=congrArg mF hd;rw[zx,rl _ (fun x hx=>hps x (List.mem_reverse.mp hx)),List.length_reverse]at h1;have h2:=lQ 240 n hn9 (by decide);lia
 have bn:(n':Int)<10 ^ 240:=by
  have e:(10:Int) ^ 240=((10 ^ 240:Nat):Int):=by decide +kernel
  lia
 have e60:(10:Int) ^ Int.toNat 60=((10 ^ 60:Nat):Int):=by decide +kernel
 have hsz:ps.length<sizeLine:=by rw[wz];lia
 have em:((n':Int) % ((10 ^ 60:Nat):Int))=((n' % 10 ^ 60:Nat):Int):=by lia
 have lt60:n' % 10 ^ 60<10 ^ 60:=Nat.mod_lt _ (by decide +kernel);have l240:((n' % 10 ^ 60:Nat):Int)<10 ^ 240:=by
  have e:(10:Int) ^ 240=((10 ^ 240:Nat):Int):=by decide +kernel
  have:(10:Nat) ^ 60<10 ^ 240:=by decide +kernel
  lia
 have ent:∀z:Nat,NT (z:Int)=dg z:=fun z=>by unfold NT;rw[if_neg (by lia),qa]
 walk_at "rd";rw[e60];split
 ·rename_i hc
  have hc':10 ^ 60<=n':=by lia
  refine⟨fun σ' H'=>σ'=[some (.int ((n' / 10 ^ 60:Nat):Int)),some (.int (10 ^ Int.toNat 60)),some (.ref p)]/\H'=upd H p (.lst ((ps++[pd 60 (n' % 10 ^ 60)]).map L2.T)),fun σ' H' ⟨z1,z2⟩=>
   ⟨n' / 10 ^ 60,Nat.div_lt_self (by lia) (by decide +kernel),n' / 10 ^ 60,ps++[pd 60 (n' % 10 ^ 60)],z1,z2,rfl,wx (Nat.div_le_self _ _) hle,?_,?_⟩,.inl ⟨_,aL ad⟩,?_,?_,?_,p,ps.map L2.T,_,rfl,rfl,ad,?_,⟨?_,?_⟩,?_,?_⟩
  ·intro x hx
   rcases vY.mp hx with h|h
   ·exact hps x h
   ·rw[uH.mp h,cI]
  ·rw[List.reverse_append,List.reverse_singleton,List.flatten_append,<- Zp]
   rw[hd,wg 60 n' hc'];simp
  ·lia
  ·rw[em];exact xS (by lia) l240
  ·rw[em,ent];exact⟨jU _,eV _⟩
  ·simpa using hsz
  ·lia
  ·decide +kernel
  ·rw[e60]
   congr 3
  ·rw[em,ent,ur,ms]
   rw[show Int.toNat 60=60 from rfl,fU 60 (n' % 10 ^ 60) lt60 (by decide)]
   rfl
 ·rename_i hc
  refine⟨.inl ⟨_,aL ad⟩,xS (by lia) bn,p,ps.map L2.T,_,rfl,rfl,ad,by simpa using hsz,ps++[dg n'],aL ?_,?_,H,Gc.none ?_,?_⟩
  ·rw[ad,ms,ent];rfl
  ·unfold k7
   rw[ms,List.sum_append,tP ps hps];simp only[rS,YX,ZJ,List.sum_nil,YM,Nat.mul_zero];lia
  ·rw[ur];exact ag _ hp
  ·rw[iY,List.reverse_append,List.reverse_singleton,List.flatten_append]
   have e:[dg n'].flatten++ps.reverse.flatten=dg n:=by rw[hd];simp
   rw[e];exact k
def sp_lh:Sp:=sp1 fun x H Q _=>NoT H/\asI x fun n=>(-10 ^ 240<n/\n<10 ^ 240)/\Q (.str ⟨⟨NT n⟩⟩) H
theorem cf(T:Txt w K mg a):Fo P w K mg base "number_text" 2 sp_lh:=by
 refine T.lX.hg ["number"] (gG1 fun x0 fA cdv A outer s H Q E ND HU hr h=>?_);obtain⟨hN,h1⟩:=h;obtain⟨n,rfl,⟨h0,h9⟩,k⟩:=bu h1;refine⟨hN,_,(aa (aE (ak qS (fv 0) ae) (af (ai (ah av (ac [45]) (az (gA T) hr aB (fa1 (jV fF (fv 0))))))) ao)
  (af (ai (az (gA T) hr aB (fa1 (fv 0)))))),?_⟩
 walk_at "rd";unfold NT at k;split
 ·rename_i hc
  rw[if_pos hc]at k;refine⟨hN,⟨by lia,by lia⟩,?_,k⟩;have e:(10:Int) ^ 240=((10 ^ 240:Nat):Int):=by decide +kernel
  have h2:=lQ 240 (-n).toNat (by lia) (by decide);rw[wz];lia
 ·rename_i hc
  rw[if_neg hc]at k;exact⟨hN,⟨by lia,by lia⟩,k⟩
theorem CM(l:List Nat)(c:Nat):fD l [c]=decide (l.head? = some c):=by
 cases l with
 |nil=>rfl
 |cons x r=>
  by_cases h:x=c
  ·subst h;simp[fD]
  ·simp[fD,h,Ne.symm h]
theorem yi(t:List Nat)(c:Nat):nin (t++[c])=if MT.isD c=true then 10*nin t+(c-48) else nin t:=by
 unfold nin;rw[List.foldl_append];rfl
def sp_oX:Sp:=sp1 fun x H Q _=>NoT H/\asT x fun l=>ok l/\Q (.int (NI l)) H
theorem dA(T:Txt w K mg a):Fo P w K mg base "number_in" 1 sp_oX:=by
 refine T.qP.hg ["text","number","sign"] (gG1 fun x0 fA cdv A outer s H Q E ND HU hr h=>?_);obtain⟨hN,h1⟩:=h;obtain⟨l,rfl,hl,k⟩:=ba h1;refine⟨hN,_,(aa (aC 1 ND ae)
  (aa (eW (by passes_own) rfl (i8 (fv 0)) (aR (i:=2) ND rfl (Or.inl rfl)) (af (aE (io d5 d5 (ac [48]) (fv 2) (ac [57])) (af (aC 1 ND (ah av (ah bJ ae (fv 1)) (aM cX rfl T.dZ cM (fa1 (fv 2)))))) ao)))
  (aa (aE (bt (aP K xn Yh Yi dE (fv 0) (fa1 (ac [45])))) (af (ai (jV fF (fv 1)))) ao)
  (af (ai (fv 1)))))),?_⟩
 walk_at "rd";refine⟨hl.1,yY (fun i σ H'=>∃z,σ=[some (L2.T l),some (.int (nin (l.take i))),z]/\H'=H) ⟨none,rfl,rfl⟩ ?_ ?_⟩
 ·rintro i c σ H' hc ⟨z,rfl,rfl⟩
  walk_at "rd";have tk:l.take (i+1)=l.take i++[c]:=by rw[Ye,hc];rfl
  rw[tk,yi];simp only[w8,decide_eq_true_eq];split
  ·rename_i h1
   split
   ·rename_i h2
    have hd:MT.isD c=true:=by simp only[MT.isD,mx];exact⟨decide_eq_true h1,decide_eq_true h2⟩
    refine⟨⟨by simp,by intro x hx;simp at hx;subst hx;exact hd,by decide⟩,_,?_,rfl⟩;rw[if_pos hd];have e:vl [c]=c-48:=by simp[vl]
    rw[e]
    congr 2
   ·rename_i h2
    have hd:¬ MT.isD c=true:=by simp only[MT.isD,mx];exact fun z=>h2 (of_decide_eq_true z.2)
    exact⟨_,by rw[if_neg hd],rfl⟩
  ·rename_i h1
   have hd:¬ MT.isD c=true:=by simp only[MT.isD,mx];exact fun z=>h1 (of_decide_eq_true z.1)
   exact⟨_,by rw[if_neg hd],rfl⟩
 ·rintro σ H' ⟨z,rfl,rfl⟩
  walk_at "rd";rw[List.take_length];have k':Q (.int (NI l)) H':=k;unfold NI at k';rw[CM];split
  ·rename_i h1
   rw[if_pos (of_decide_eq_true h1)]at k';exact k'
  ·rename_i h1
   rw[if_neg (fun z=>h1 (decide_eq_true z))]at k';exact k'
noncomputable instance (t:List Nat):Decidable (good t):=by unfold good;infer_instance
noncomputable def nof(l:List Nat):Option Int:=if l.length<=30/\good l then some (NI l) else none
theorem Ai:∀(n:Nat) (t:List Nat),t.length=n->(∀c∈t,MT.isD c=true)->vl t<10 ^ n
 |0,t,hl,_=>by rw[Zy.mp hl];decide
 |n+1,t,hl,hd=>by
  have h0:t≠[]:=fun z=>by rw[z]at hl;cases hl
  obtain⟨i,c,rfl⟩:∃i c,t=i++[c]:=⟨t.dropLast,t.getLast h0,(Zg h0).symm⟩;rw[iJ];have:=Ai n i (by simpa using hl) fun c hc=>hd c (qQ _ hc);have dc:48<=c/\c<=57:=by simpa [MT.isD] using hd c (by simp)
  have e10:10 ^ (n+1)=10 ^ n*10:=Nat.pow_succ ..;lia
theorem BI{l:List Nat}(h:l.length<=240):nin l<10 ^ 240:=by
 rw[nin_filter];refine rz (Ai (l.filter MT.isD).length _ rfl fun c hc=>(List.mem_filter.mp hc).2) ?_;exact Nat.pow_le_pow_right (by decide) (wx (List.length_filter_le _ _) h)
theorem D4{l:List Nat}(h:l.length<=240):-10 ^ 240<NI l/\NI l<10 ^ 240:=by
 have:=BI h;have e:(10:Int) ^ 240=((10 ^ 240:Nat):Int):=by decide +kernel
 unfold NI;split <;> lia
noncomputable def ov:Option Int->V
 |none=>.non
 |some i=>.int i
def sp_oO:Sp:=sp1 fun x H Q _=>NoT H/\asT x fun l=>ok l/\Q (ov (nof l)) H
theorem oG(T:Txt w K mg a):Fo P w K mg base "number_of" 3 sp_oO:=by
 refine T.rh.hg ["word","number"] (gG1 fun x0 fA cdv A outer s H Q E ND HU hr h=>?_);obtain⟨hN,h1⟩:=h;refine dQ (ba h1) fun l yy1 hl k=>?_;subst yy1;refine⟨hN,_,(aa (aE (L2.PW.pt (cU (bt (ay (bW K) rfl T.aK aH (fa2 (fv 0) (bM (v:=.ty "str") rfl T.dW cO rfl)))) (b8 (ak d5 (ay (aS K) rfl T.bD bd (fa1 (fv 0))) ae)))) (aa (aC 1 ND (az (dA T) hr aB (fa1 (fv 0))))
  (af (aE (ak (aF K HU) (az (cf T) hr aB (fa1 (fv 1))) (fv 0)) (af (ai (fv 1))) ao))) ao)
  (af (ai bb))),?_⟩
 unfold nof at k;walk_at "rd";refine⟨bN hl,?_⟩;split
 ·rename_i h1
  refine⟨hN,hl,hN,D4 (by lia),?_⟩;split
  ·rename_i h2
   rw[if_pos ⟨by lia,(pQ l).mp h2⟩]at k;exact k
  ·rename_i h2
   rw[if_neg (fun z=>h2 ((pQ l).mpr z.2))]at k;exact k
 ·rename_i h1
  rw[if_neg (fun z=>h1 (by have:=z.1;lia))]at k;exact k
end
open PySem L2 K3 M2 K22
section
open MT
variable{pS:Addr}{ns:List Int}{P:Program}{w:World}{K:W.Frag}{mg:Str->Option Value}{base:Heap}{a:Adr}
def sp_nK:Sp:=sp1 fun x H Q _=>asI x fun y=>NoT H/\Q (.int (LD y)) H
theorem ie(T:Txt w K mg a):Fo P w K mg base "leap_days" 1 sp_nK:=by
 refine T.qK.hg ["years"] (gG1 fun x0 fA cdv A outer s H Q E ND HU hr h=>?_);obtain⟨y,rfl,hN,k⟩:=bu h;refine⟨hN,_,(af (ai (ah av (ah cv (ah bI (ah av (fv 0) ae) ae) (ah bI (ah av (fv 0) ae) ae)) (ah bI (ah av (fv 0) ae) ae)))),?_⟩;walk_at "rd";exact k
theorem v_(xs:List V){i:Int}(h:0<=i):bX xs none (some i)=xs.take i.toNat:=by
 unfold bX;have e:i=((i.toNat:Nat):Int):=by lia
 rw[e,HT.sIx_none,HT.sIx_nat,Yd,Nat.sub_zero];by_cases hl:i.toNat<=xs.length
 ·rw[Ys hl];rfl
 ·rw[Yx (by lia),vL (by lia),vL (by simp;lia)]
noncomputable def LEN:List Int:=[31,28,31,30,31,30,31,31,30,31,30,31]
theorem xj{i:Int}(h0:0<=i)(h1:i<12):(LEN.take i.toNat).sum=S i:=by
 have hc:i=0\/i=1\/i=2\/i=3\/i=4\/i=5\/i=6\/i=7\/i=8\/i=9\/i=10\/i=11:=by lia
 rcases hc with h|h|h|h|h|h|h|h|h|h|h|h <;> subst h <;> decide
theorem DB(T:Txt w K mg a)(H:Hp):SqT K H a.cK (LEN.map V.int):=.inr T.cK
def sp_o8:Sp:=sp1 fun x H Q _=>asI x fun m=>NoT H/\Q (.int (FD m)) H
theorem bU(T:Txt w K mg a):Fo P w K mg base "first_day" 2 sp_o8:=by
 refine T.rB.hg ["month","years","ahead","leaps"] (gG1 fun x0 fA cdv A outer s H Q E ND HU hr h=>?_);obtain⟨m,rfl,hN,k⟩:=bu h;refine⟨hN,_,(aa (aC 1 ND (ah bI (fv 0) ae))
  (aa (aC 2 ND (ah aU (fv 0) ae))
  (aa (aC 3 ND (cg (ak mX (fv 2) ae) (az (ie T) hr aB (fa1 (ah av (fv 1) ae))) (az (ie T) hr aB (fa1 (fv 1)))))
  (af (ai (ah av (ah av (ah bJ ae (fv 1)) (fv 3)) (ay (zm K rfl) rfl T.Ec Bx (fa1 (aA (uk K) (cp (v:=.ref a.cK) rfl T.uV rfl) aJ (aD (fv 2))))))))))),?_⟩
 walk_at "rd";have b0:0<=m % 12:=qX _ (by decide);have b1:m % 12<12:=vb _ (by decide);have nw:¬ (HT.sIx (LEN.map V.int).length 0 none=0/\HT.sIx (LEN.map V.int).length (LEN.map V.int).length (some (m % 12))=(LEN.map V.int).length):=fun⟨_,z⟩=>by
  have e:m % 12=(((m % 12).toNat:Nat):Int):=by lia
  rw[e,HT.sIx_nat]at z;have l:(LEN.map V.int).length=12:=rfl;rw[l]at z;lia
 have fin:∀(p:Addr),(upd H p (.tup (bX (LEN.map V.int) none (some (m % 12))))) p=some (.tup ((LEN.take (m % 12).toNat).map V.int)):=fun p=>by
  rw[ad,v_ _ b0,Yj]
 split
 ·rename_i h1
  refine⟨hN,a.cK,_,rfl,DB T _,nw,fun p hp=>⟨LEN.take (m % 12).toNat,.inr (bc (fin p)),H,Gc.none (ag _ hp),?_⟩⟩;have e:365*(m / 12)+LD (m / 12+1)+(LEN.take (m % 12).toNat).sum=FD m:=by
   rw[xj b0 b1];unfold FD;rw[if_pos h1]
  rw[e];exact k
 ·rename_i h1
  refine⟨hN,a.cK,_,rfl,DB T _,nw,fun p hp=>⟨LEN.take (m % 12).toNat,.inr (bc (fin p)),H,Gc.none (ag _ hp),?_⟩⟩;have e:365*(m / 12)+LD (m / 12)+(LEN.take (m % 12).toNat).sum=FD m:=by
   rw[xj b0 b1];unfold FD;rw[if_neg h1]
  rw[e];exact k
def sp_qX:Sp:=sp1 fun x H Q _=>asI x fun m=>NoT H/\Q (.int (FD (m+1)-1)) H
theorem jF(T:Txt w K mg a):Fo P w K mg base "last_day" 3 sp_qX:=by
 refine T.tB.hg ["month"] (gG1 fun x0 fA cdv A outer s H Q E ND HU hr h=>?_);obtain⟨m,rfl,hN,k⟩:=bu h;refine⟨hN,_,(af (ai (ah cv (az (bU T) hr aB (fa1 (ah av (fv 0) ae))) ae))),?_⟩;walk_at "rd";exact⟨hN,k⟩
def sp_qT:Sp:=sp1 fun x H Q _=>asI x fun d=>NoT H/\(0<=d/\d<=146096)/\Q (.int (MO d)) H
theorem jA(T:Txt w K mg a):Fo P w K mg base "month_of" 4 sp_qT:=by
 refine T.sd.hg ["day","month"] (gG1 fun x0 fA cdv A outer s H Q E ND HU hr h=>?_);refine sy (bu h) fun d yy1 hN yy2 k=>?_;subst yy1;obtain⟨d0,d1⟩:=yy2;refine⟨hN,_,(aa (aC 1 ND (ah bI (ah bJ (fv 0) ae) ae))
  (aa (lF (by passes_own) (ak mX (az (bU T) hr aB (fa1 (fv 1))) (fv 0)) (af (aC 1 ND (ah cv (fv 1) ae))))
  (aa (lF (by passes_own) (ak qS (az (jF T) hr aB (fa1 (fv 1))) (fv 0)) (af (aC 1 ND (ah av (fv 1) ae))))
  (af (ai (fv 1)))))),?_⟩
 walk_at "rd";refine⟨fun n σ H1=>∃m,σ=[some (.int d),some (.int m)]/\H=H1/\0<=m/\m<=4799/\n=m.toNat,⟨_,_,rfl,rfl,by lia,by lia,rfl⟩,?_⟩;rintro n σ H1 ⟨m,rfl,rfl,m0,m1,rfl⟩;walk_at "rd";refine⟨hN,?_⟩;split
 ·rename_i h2
  have hm:1<=m:=by
   by_cases z:m=0
   ·rw[z,A4]at h2;lia
   ·lia
  refine⟨_,fun σ' H' z=>z,(m-1).toNat,by lia,m-1,rfl,rfl,by lia,by lia,rfl⟩
 ·rename_i h2
  refine⟨fun n σ H1=>∃m,σ=[some (.int d),some (.int m)]/\H=H1/\0<=m/\m<=4799/\FD m<=d/\n=(4800-m).toNat,⟨_,_,rfl,rfl,m0,m1,by lia,rfl⟩,?_⟩;rintro n σ H1 ⟨m',rfl,rfl,m0',m1',h3,rfl⟩;walk_at "rd";refine⟨hN,?_⟩;split
  ·rename_i h4
   have hm:m'+1<=4799:=by
    by_cases z:m'=4799
    ·rw[z]at h4
     have e:(4799:Int)+1=4800:=by decide
     rw[e,rW]at h4;lia
    ·lia
   exact⟨_,fun σ' H' z=>z,(4800-(m'+1)).toNat,by lia,m'+1,rfl,rfl,by lia,hm,by lia,rfl⟩
  ·rename_i h4
   rw[uB h3 (by lia)]at k;exact k
def sp_qr:Sp:=sp1 fun x H Q _=>asI x fun d=>NoT H/\(0<=d/\d<=146096)/\∀p,H p=none->Q (.ref p) (upd H p (.tup [.int (2000+MO d / 12),.int (MO d % 12+1),.int (d-FD (MO d)+1)]))
theorem pR(T:Txt w K mg a):Fo P w K mg base "parts_of" 5 sp_qr:=by
 refine T.rR.hg ["day","month"] (gG1 fun x0 fA cdv A outer s H Q E ND HU hr h=>?_);obtain⟨d,rfl,hN,hd,k⟩:=bu h;refine⟨hN,_,(aa (aC 1 ND (az (jA T) hr aB (fa1 (fv 0))))
  (af (ai (eS (fa3 (ah av ae (ah bI (fv 1) ae)) (ah av (ah aU (fv 1) ae) ae) (ah av (ah cv (fv 0) (az (bU T) hr aB (fa1 (fv 1)))) ae)))))),?_⟩
 walk_at "rd";exact⟨hN,hd,hN,by show 3<=sizeLine;decide,fun p hp=>⟨_,Gc.one (ag _ hp) hp ad rfl,k p hp⟩⟩
theorem fu{K:W.Frag}{H H':Hp}{a:Addr}{xs:List V}(s:Same H H')(h:SqT K H a xs):SqT K H' a xs:=by
 rcases h with h|h
 ·rcases h with h|⟨o,h⟩
  ·exact .inl (.inl (s _ _ h))
  ·exact .inl (.inr ⟨o,s _ _ h⟩)
 ·exact .inr h
noncomputable def rO:V->V->V->Option Int
 | .int y,.int m,.int p=>DA y m p
 |_,_,_=>none
theorem AT{x y z:V}(h:amg x 2000 2399=false):rO x y z=none:=by
 unfold rO;split
 ·rename_i i j k
  unfold DA;rw[if_neg];rintro⟨g,_⟩;simp[amg]at h;lia
 ·rfl
theorem Ch{x y z:V}(h:amg y 1 12=false):rO x y z=none:=by
 unfold rO;split
 ·rename_i i j k
  unfold DA;rw[if_neg];rintro⟨_,g,_⟩;simp[amg]at h;lia
 ·rfl
theorem pi{x:V}{lo hi:Int}(h:amg x lo hi=true):∃i,x = .int i/\lo<=i/\i<=hi:=by
 unfold amg at h;split at h
 ·rename_i i;simp at h;exact⟨i,rfl,h.1,h.2⟩
 ·cases h
theorem CF{i j:Int}{z:V}(h1:2000<=i/\i<=2399)(h2:1<=j/\j<=12):rO (.int i) (.int j) z=if amg z 1 (LG i j)=true then (match z with | .int k=>some (DAY i j k)|_=>none) else none:=by
 unfold rO;split
 ·rename_i i j k e1 e2
  cases e1;cases e2;unfold DA;by_cases g:1<=k/\k<=LG i j
  ·rw[if_pos ⟨h1,h2,g⟩,if_pos (by simp[amg,g.1,g.2])]
  ·rw[if_neg (fun z=>g z.2.2),if_neg (by simp[amg];lia)]
 ·rename_i hx
  unfold amg;split
  ·rename_i k
   exact(hx i j k rfl rfl rfl).elim
  ·rfl
def sp_vy(c:Addr):Sp:=sp3 fun x y z H Q E=>NoT H/\asI x fun i=>asI y fun j=>asI z fun k=>match DA i j k with
 |some d=>Q (.int d) H
 |none=>E (.ref c) none H
theorem u9(T:Txt w K mg a):Fo P w K mg base "day_at" 4 (sp_vy a.aY):=by
 refine T.wF.hg ["year","month","place","whole_month","first"] (gG3 fun x0 x1 x2 fA cdv A outer s H Q E ND HU hr h=>?_);obtain⟨hN,h1⟩:=h;refine de (bu h1) fun i0 yy1 h2=>?_;subst yy1;refine de (bu h2) fun j0 yy1 h3=>?_;subst yy1;refine de (bu h3) fun l0 yy1 k=>?_;subst yy1;have k:match rO (.int i0) (.int j0) (.int l0) with|some d=>Q (.int d) H|none=>E (.ref a.aY) none H:=k
 refine⟨hN,_,(aa (aE (L2.PW.pt (cU (bt (az (fq T) hr aB (fa3 (fv 0) ae ae))) (b8 (bt (az (fq T) hr aB (fa3 (fv 1) ae ae)))))) (aa (aC 3 ND (ah cv (ah av (ah bJ ae (ah cv (fv 0) ae)) (fv 1)) ae))
  (aa (aC 4 ND (az (bU T) hr aB (fa1 (fv 3))))
  (af (aE (bt (az (fq T) hr aB (fa3 (fv 2) ae (ah av (ah cv (az (jF T) hr aB (fa1 (fv 3))) (fv 4)) ae)))) (af (ai (ah cv (ah av (fv 4) (fv 2)) ae))) ao)))) ao)
  (af (eH T.qH T.iP cr))),?_⟩
 walk_at "rd";have one:1<=sizeLine:=by rw[wz];decide
 refine⟨hN,?_⟩;cases e0:amg (.int i0) 2000 2399 with
 |false=>
  rw[AT e0]at k;exact xr ⟨one,k⟩
 |true=>
  obtain⟨i,yy,p0,p1⟩:=pi e0;cases yy;refine xC ⟨hN,?_⟩;cases e1:amg (.int j0) 1 12 with
  |false=>
   rw[Ch e1]at k;exact xr ⟨one,k⟩
  |true=>
   obtain⟨j,yy,q0,q1⟩:=pi e1;cases yy;refine xC ?_;walk_at "rd";refine⟨hN,hN,hN,?_⟩;have hs:=t7 (y:=i0) ⟨q0,q1⟩;have es:FD (12*(i0-2000)+j0-1+1)-1-FD (12*(i0-2000)+j0-1)+1=LG i0 j0:=by lia
   rw[es];rw[CF ⟨p0,p1⟩ ⟨q0,q1⟩]at k;cases e2:amg (.int l0) 1 (LG i0 j0) with
   |false=>
    rw[if_neg (by rw[e2];decide)]at k;exact xr ⟨one,k⟩
   |true=>
    rw[if_pos e2]at k;obtain⟨l,yy,_,_⟩:=pi e2;cases yy;refine xC ?_;walk_at "rd";exact k
theorem C3{K:W.Frag}{ks:List Nat}{σ:St}{H1:Hp}{Q:VK}{tt:TT}{te:TE}(a:Addr)(vs:List V)(C:Hp->Prop)(hC:∀D ys,H1 D=none->C (upd H1 D (.lst ys)))(hT:∀H,C H->SqT K H a vs)(p:V->Bool)(f:V->V)(hz:vs.length<=sizeLine)
 (hp:∀x∈vs,∀H (R:Bool->Hp->Prop),C H->R (p x) H->tt (some x::ks.map fun k=>(σ[k]?).join) H R) (hf:∀x∈vs,p x=true->∀H (R:VK),C H->R (f x) H->te (some x::ks.map fun k=>(σ[k]?).join) H R)
 (q:∀D,H1 D=none->Q (.ref D) (upd H1 D (.lst ((vs.filter p).map f)))):CEl (Itt K a) 1 (dU 0) ks tt te σ H1 Q:=
 fun D hD=>iT (gR C (fM hT) p f hz hp hf D hD (fun ys=>hC D ys hD) (q D hD))
def sp_qa:Sp:=sp1 fun x H Q _=>asI x fun d=>NoT H/\(0<=d/\d<=146096)/\Q (.str ⟨⟨DT d⟩⟩) H
theorem cJ(T:Txt w K mg a):Fo P w K mg base "day_text" 6 sp_qa:=by
 refine T.rN.hg ["day"] (gG1 fun x0 fA cdv A outer s H Q E ND HU hr h=>?_);obtain⟨d,rfl,hN,hd,k⟩:=bu h;refine⟨hN,_,(af (ai (aP K xn pV qC (bQ K) (ac [45]) (fa1 (bG rfl (cl:=_) (x:="part") (xs:=["part"]) (fr:=[]) (ks:=[]) (by walk_at "cq") rfl (gW K (az (pR T) hr aB (fa1 (fv 0)))) (fun _ _ _ _ _=>(aR (i:=0) (cT (l:=["part"]) (by decide)) rfl (Or.inl rfl))) (fun _ _ _ _ _=>b9) (fun _ _ _ _ _=>(aP K xn PySem.F.slot_str_zfill PySem.F.type_str_zfill qx (az (cf T) hr iE (fa1 (fv 0))) (fa1 ae)))))))),?_⟩;walk_at "rd";obtain⟨g,_⟩:=gU hd.1 hd.2;obtain⟨y,m,q,ey,em,eq,by0,by1,bm,bq⟩:=kF g;have k':Q (.str ⟨⟨TX y m q⟩⟩) H:=by
  unfold DT at k;rw[ey,em,eq]at k;exact k
 unfold PY at ey;unfold PM at em;unfold PP at eq;have ent:∀z:Nat,NT (z:Int)=dg z:=fun z=>by unfold NT;rw[if_neg (by lia),qa]
 have b240:∀z:Nat,z<10000 -> -10 ^ 240<(z:Int)/\(z:Int)<10 ^ 240:=fun z hz=>by
  have e:(10:Int) ^ 240=((10 ^ 240:Nat):Int):=by decide +kernel
  have:(10000:Nat)<10 ^ 240:=by decide +kernel
  lia
 refine pP ?_;walk_at "rd";refine⟨hN,hd,fun p hp=>?_⟩;rw[ey,em,eq];have sm:=ag (HO.tup [V.int (y:Int),V.int (m:Int),V.int (q:Int)]) hp;have hz:3<=sizeLine:=by rw[wz];decide
 refine⟨⟨_,bc ad⟩,?_⟩;refine C3 p [V.int (y:Int),V.int (m:Int),V.int (q:Int)] (fun H'=>NoT H'/\SqT K H' p [V.int (y:Int),V.int (m:Int),V.int (q:Int)]) (fun D ys hD=>⟨aj (aj hN rfl) rfl,fu (ag _ hD) (bc ad)⟩) (fun H' c=>c.2) (fun _=>true)
  (fun x=>match x with | .int i=>L2.T (nY (2-(NT i).length) 48++NT i)|_=>.non) hz (fun x _ H' R _ r=>r) (fun x hx _ H' R c r=>?_) (fun D hD=>?_)
 ·obtain⟨z,rfl,hz⟩:∃z:Nat,x = .int z/\z<10000:=by
   simp only[zv,oO,or_false]at hx;rcases hx with rfl|rfl|rfl
   ·exact⟨y,rfl,by lia⟩
   ·exact⟨m,rfl,by lia⟩
   ·exact⟨q,rfl,by lia⟩
  walk_at "rd";refine⟨c.1,b240 z hz,?_,r⟩;rw[ent];exact⟨jU _,eV _⟩
 ·have sD:=ag (HO.lst (List.map (fun x=>match x with|V.int i=>L2.T (nY (2-(NT i).length) 48++NT i)|_=>V.non) (List.filter (fun _=>true) [V.int (y:Int),V.int (m:Int),V.int (q:Int)]))) hD
  refine⟨[pd 4 y,pd 2 m,pd 2 q],aL ?_,?_,H,Gc.none (sm.trans sD),?_⟩
  ·rw[ad]
   have f1:nY (2-(dg y).length) 48++dg y=pd 4 y:=by
    have l:(dg y).length=4:=by rw[dg4 by0 by1,cI]
    rw[l,dg4 by0 by1];rfl
   have f2:=fU 2 m (by lia) (by decide);have f3:=fU 2 q (by lia) (by decide);rw[Zs.mpr (by simp)];simp only[rS,YX,ent,f1,f2,f3]
  ·simp only[k7,cs,rS,YX,cI,ZJ,List.sum_nil,xR,YM]
   decide
  ·have e:aG [45] [pd 4 y,pd 2 m,pd 2 q]=TX y m q:=by simp[aG,TX]
   show Q (L2.T (aG [45] [pd 4 y,pd 2 m,pd 2 q])) H;rw[e];exact k'
def sp_vv(c:Addr):Sp:=sp1 fun x H Q E=>NoT H/\asT x fun l=>ok l/\match DO l with
 |some d=>Q (.int d) H
 |none=>E (.ref c) none H
theorem vk(T:Txt w K mg a):Fo P w K mg base "day_of" 7 (sp_vv a.aY):=by
 refine T.wR.hg ["text","day"] (gG1 fun x0 fA cdv A outer s H Q E ND HU hr h=>?_);obtain⟨hN,h1⟩:=h;refine dQ (ba h1) fun l yy1 hl k=>?_;subst yy1;have one:1<=sizeLine:=by rw[wz];decide
 refine⟨hN,_,(aa (aE (L2.PW.pt (cU (bt (ay (bW K) rfl T.aK aH (fa2 (fv 0) (bM (v:=.ty "str") rfl T.dW cO rfl)))) (b8 (ak (aF K HU) (ay (aS K) rfl T.bD bd (fa1 (fv 0))) ae)))) (aa (aC 1 ND (az (u9 T) hr aB (fa3 (az (dA T) hr aB (fa1 (aA aT (fv 0) aJ (aD ae)))) (az (dA T) hr aB (fa1 (aA aT (fv 0) (aD ae) (aD ae)))) (az (dA T) hr aB (fa1 (aA aT (fv 0) (aD ae) aJ))))))
  (af (aE (ak (aF K HU) (az (cJ T) hr aB (fa1 (fv 1))) (fv 0)) (af (ai (fv 1))) ao))) ao)
  (af (eH T.qH T.iP cr))),?_⟩
 have sz:=bN hl;have okc:∀x:List Nat,(∀c∈x,c∈l)->x.length<=l.length->ok x:=fun x h1 h2=>⟨fun c hc=>hl.1 c (h1 c hc),wx h2 hl.2⟩;have k':match DO l with|some d=>Q (.int d) H|none=>E (.ref a.aY) none H:=k
 walk_at "rd";refine⟨sz,?_⟩;split
 ·rename_i z
  have hl10:l.length=10:=by lia
  have c1:bh l none (some 4)=l.take 4:=by unfold bh HT.sIx;rw[hl10];rfl
  have c2:bh l (some 5) (some 7)=(l.drop 5).take 2:=by unfold bh HT.sIx;rw[hl10];rfl
  have c3:bh l (some 8) none=l.drop 8:=by
   unfold bh HT.sIx;rw[hl10];show(l.drop 8).take 2=l.drop 8;rw[vL (by simp;lia)]
  rw[c1,c2,c3];refine⟨sz,hN,okc _ (fun c h=>oX h) (by simp;lia),sz,hN,okc _ (fun c h=>vv (oX h)) (by simp;lia),sz,hN,okc _ (fun c h=>vv h) (by simp),hN,?_⟩;unfold DO at k';rw[if_pos hl10]at k';show match DA (NI (l.take 4)) (NI ((l.drop 5).take 2)) (NI (l.drop 8)) with|some d=>NoT H/\(0<=d/\d<=146096)/\if DT d=l then Q (V.int d) H else 1<=sizeLine/\E (qr a.aY) none H|none=>E (qr a.aY) none H
  cases e:DA (NI (l.take 4)) (NI ((l.drop 5).take 2)) (NI (l.drop 8)) with
  |none=>rw[e]at k';exact k'
  |some d=>
   rw[e]at k';dsimp only at k' |-
   have hd:0<=d/\d<=146096:=by
    unfold DA at e;split at e
    ·rename_i g;cases e;exact(lT g).1
    ·cases e
   refine⟨hN,hd,?_⟩;split
   ·rename_i c
    rw[if_pos c]at k';exact k'
   ·rename_i c
    rw[if_neg c]at k';exact⟨one,k'⟩
 ·rename_i z
  have hl10:¬ l.length=10:=fun h=>z (by lia);unfold DO at k';rw[if_neg hl10]at k';exact⟨one,k'⟩
end
open PySem L2 K3 M2 K22
section
variable{pS:Addr}{ns:List Int}{P:Program}{w:World}{K:W.Frag}{mg:Str->Option Value}{base:Heap}{a:Adr}
open MT
inductive Pt where
 |w (l:List Nat)
 |i (n:Int)
 |no
 |l (ns:List Int)
 |r (rs:List (List Nat × List Nat × Int))
noncomputable def rw(l:List Nat):Bool:=decide (l.length≠0)&&(lie l 33 126&&decide (124∉l))
abbrev KWe(c:Addr)(E:XK)(H:Hp):Prop:=∀o,E (.ref c) o H
def sp_n_(c:Addr):Sp:=sp1 fun x H Q E=>NoT H/\asT x fun l=>ok l/\(if rw l=true then Q (L2.T l) H else KWe c E H)
theorem cR(T:Txt w K mg a):Fo P w K mg base "read_word" 2 (sp_n_ a.ar):=by
 refine T.qO.hg ["text"] (gG1 fun x0 fA cdv A outer s H Q E ND HU hr h=>?_);obtain⟨hN,h1⟩:=h;refine dQ (ba h1) fun l yy1 hl k=>?_;subst yy1;refine⟨hN,_,(aa (aE (L2.PW.pt (bS (ak (aF K HU) (ay (aS K) rfl T.bD bd (fa1 (fv 0))) ae) (bS (cP (bt (az (hV T) hr aB (fa3 (fv 0) (ac [33]) (ac [126]))))) (bK (cw AE (ac [124]) (fv 0) (by with_unfolding_all rfl)))))) (af (eH T.bv T.bg cr)) ao)
  (af (ai (fv 0)))),?_⟩
 walk_at "rd";have one:1<=sizeLine:=by rw[wz];decide
 unfold rw at k;refine⟨bN hl,?_⟩;split
 ·rename_i h1
  rw[decide_eq_false (fun z=>z (by lia):¬ l.length≠0)]at k;exact⟨one,k none⟩
 ·rename_i h1
  rw[decide_eq_true (by lia:l.length≠0)]at k;refine⟨hN,hl,33,126,rfl,rfl,?_⟩;cases e:lie l 33 126 with
  |false=>rw[e]at k;exact⟨one,k none⟩
  |true=>
   rw[e]at k;refine itn (by decide) ?_;by_cases h2:124∈l
   ·rw[decide_eq_false (fun z=>z h2)]at k
    exact itp (decide_eq_true h2) ⟨one,k none⟩
   ·rw[decide_eq_true h2]at k
    exact itn (fun z=>h2 (of_decide_eq_true z)) k
def sp_iZ(c:Addr):Sp:=sp1 fun x H Q E=>NoT H/\asT x fun l=>ok l/\(if l=[97,110,121] then Q .non H else if rw l=true then Q (L2.T l) H else KWe c E H)
theorem iX(T:Txt w K mg a):Fo P w K mg base "read_currency" 3 (sp_iZ a.ar):=by
 refine T.jZ.hg ["text"] (gG1 fun x0 fA cdv A outer s H Q E ND HU hr h=>?_);obtain⟨hN,h1⟩:=h;refine dQ (ba h1) fun l yy1 hl k=>?_;subst yy1;refine⟨hN,_,(af (ai (cg (ak (aF K HU) (fv 0) (ac [97,110,121])) bb (az (cR T) hr aB (fa1 (fv 0)))))),?_⟩;walk_at "rd";split
 ·rename_i h1
  rw[if_pos h1]at k;exact k
 ·rename_i h1
  rw[if_neg h1]at k;refine⟨hN,hl,?_⟩;split
  ·rename_i h2;rw[if_pos h2]at k;exact k
  ·rename_i h2;rw[if_neg h2]at k;exact fun o=>⟨H,Gc.refl,k o⟩
def sp_lI(c:Addr):Sp:=sp1 fun x H Q E=>NoT H/\asT x fun l=>ok l/\(if l=[45] then Q .non H else if rw l=true then Q (L2.T l) H else KWe c E H)
theorem lb(T:Txt w K mg a):Fo P w K mg base "read_keeper" 3 (sp_lI a.ar):=by
 refine T.mh.hg ["text"] (gG1 fun x0 fA cdv A outer s H Q E ND HU hr h=>?_);obtain⟨hN,h1⟩:=h;refine dQ (ba h1) fun l yy1 hl k=>?_;subst yy1;refine⟨hN,_,(af (ai (cg (ak (aF K HU) (fv 0) (ac [45])) bb (az (cR T) hr aB (fa1 (fv 0)))))),?_⟩;walk_at "rd";split
 ·rename_i h1
  rw[if_pos h1]at k;exact k
 ·rename_i h1
  rw[if_neg h1]at k;refine⟨hN,hl,?_⟩;split
  ·rename_i h2;rw[if_pos h2]at k;exact k
  ·rename_i h2;rw[if_neg h2]at k;exact fun o=>⟨H,Gc.refl,k o⟩
def cq(l:List Nat):Prop:=l=[98,117,100,103,101,116]\/l=[115,116,97,110,100,105,110,103]
noncomputable instance (l:List Nat):Decidable (cq l):=by unfold cq;infer_instance
def sp_mG(c:Addr):Sp:=sp1 fun x H Q E=>NoT H/\asT x fun l=>ok l/\(if cq l then Q (L2.T l) H else KWe c E H)
theorem mo(T:Txt w K mg a):Fo P w K mg base "read_shelf" 2 (sp_mG a.ar):=by
 refine T.oR.hg ["text"] (gG1 fun x0 fA cdv A outer s H Q E ND HU hr h=>?_);obtain⟨hN,h1⟩:=h;refine dQ (ba h1) fun l yy1 hl k=>?_;subst yy1;refine⟨hN,_,(aa (aE (L2.PW.pt (cU (ak (bO K HU) (fv 0) (ac [98,117,100,103,101,116])) (b8 (ak (bO K HU) (fv 0) (ac [115,116,97,110,100,105,110,103]))))) (af (eH T.bv T.bg cr)) ao)
  (af (ai (fv 0)))),?_⟩
 walk_at "rd";have one:1<=sizeLine:=by rw[wz];decide
 split
 ·rename_i h1
  rw[if_pos (.inl h1)]at k;exact k
 ·rename_i h1
  split
  ·rename_i h2
   rw[if_pos (.inr h2)]at k;exact k
  ·rename_i h2
   rw[if_neg (fun z=>z.elim h1 h2)]at k;exact⟨one,k none⟩
def sp_kJ(c:Addr):Sp:=sp1 fun x H Q E=>NoT H/\asT x fun l=>ok l/\(match nof l with
 |some i=>Q (.int i) H
 |none=>KWe c E H)
theorem dG(T:Txt w K mg a):Fo P w K mg base "read_number" 4 (sp_kJ a.ar):=by
 refine T.my.hg ["text","number"] (gG1 fun x0 fA cdv A outer s H Q E ND HU hr h=>?_);obtain⟨hN,h1⟩:=h;refine dQ (ba h1) fun l yy1 hl k=>?_;subst yy1;refine⟨hN,_,(aa (aC 1 ND (az (oG T) hr aB (fa1 (fv 0))))
  (aa (aE (eJ (du (fv 1))) (af (eH T.bv T.bg cr)) ao)
  (af (ai (fv 1))))),?_⟩
 walk_at "rd";have one:1<=sizeLine:=by rw[wz];decide
 refine⟨hN,hl,?_⟩;rcases ZY (nof l) with e|⟨i,e⟩
 ·rw[e]at k
  exact itp (by rw[e];rfl) ⟨one,k none⟩
 ·rw[e]at k
  exact itn (by rw[e];exact fun z=>nomatch z) (by rw[e];exact k)
def sp_pU(c:Addr):Sp:=sp1 fun x H Q E=>NoT H/\asT x fun l=>ok l/\(match DO l with
 |some d=>Q (.int d) H
 |none=>KWe c E H)
theorem jz(T:Txt w K mg a):Fo P w K mg base "read_day" 8 (sp_pU a.ar):=by
 refine T.sW.hg ["text"] (gG1 fun x0 fA cdv A outer s H Q E ND HU hr h=>?_);obtain⟨hN,h1⟩:=h;refine dQ (ba h1) fun l yy1 hl k=>?_;subst yy1;refine⟨hN,_,(af (zI rfl T.iP rfl rfl rfl (fun pn Ee Ex PX=>(af (ai (az (vk T) hr PX (fa1 (fv 0)))))) T.bv rfl T.bg zf (fun _=>by passes_own))),?_⟩;walk_at "rd";refine⟨hN,hl,?_⟩;cases e:DO l with
 |none=>rw[e]at k;exact⟨_,rfl,T.j8,fun e=>k (some e)⟩
 |some d=>rw[e]at k;exact k
def sp_mw(c:Addr):Sp:=sp1 fun x H Q E=>NoT H/\asT x fun l=>ok l/\l.length<=900/\(match DO (l++[45,48,49]) with
 |some d=>Q (.int (MO d)) H
 |none=>KWe c E H)
theorem lY(T:Txt w K mg a):Fo P w K mg base "read_month" 9 (sp_mw a.ar):=by
 refine T.pD.hg ["text"] (gG1 fun x0 fA cdv A outer s H Q E ND HU hr h=>?_);obtain⟨hN,h1⟩:=h;refine sy (ba h1) fun l yy1 hl hz k=>?_;subst yy1;refine⟨hN,_,(af (ai (az (jA T) hr aB (fa1 (az (jz T) hr aB (fa1 (ah av (fv 0) (ac [45,48,49])))))))),?_⟩;walk_at "rd";have sz:=szl;refine⟨by lia,hN,⟨fun c hc=>?_,by rw[zx];show l.length+3<=1000;lia⟩,?_⟩
 ·rcases vY.mp hc with h|h
  ·exact hl.1 c h
  ·simp only[zv,oO,or_false]at h
   lia
 cases e:DO (l++[45,48,49]) with
 |none=>rw[e]at k;exact fun o=>⟨H,Gc.refl,k o⟩
 |some d=>rw[e]at k;exact⟨hN,(tT e).1,k⟩
end
open PySem L2 K3 M2 K22
section
variable{pS:Addr}{ns:List Int}{P:Program}{w:World}{K:W.Frag}{mg:Str->Option Value}{base:Heap}{a:Adr}
open MT
noncomputable def mO{β γ:Type}(f:β->Option γ):List β->Option (List γ)
 | []=>some []
 |b::r=>(f b).bind fun c=>(mO f r).bind fun cs=>some (c::cs)
theorem ii{β γ:Type}(f:β->Option γ)(b:β):∀l:List β,mO f (l++[b])=(mO f l).bind fun cs=>(f b).bind fun c=>some (cs++[c])
 | []=>by cases e:f b <;> simp[mO,e]
 |x::r=>by
  rw[nN];unfold mO;rw[ii f b r];cases f x with
  |none=>rfl
  |some c=>cases mO f r with
   |none=>rfl
   |some cs=>cases f b <;> rfl
theorem cmT{J:It}{vs:List V}{β γ:Type}{ks:List Nat}{tt:TT}{te:TE}{σ:St}{H:Hp}{Q:VK}(En:kM (fun G=>Same H G) J vs)(R:List β)(Rel:V->β->Prop)(hR:A2 Rel vs R)(S:Hp->V->γ->Prop)(hS:∀G G' v c,(∀t l,G t=some (.tup l)->G' t=some (.tup l))->S G v c->S G' v c)(T:β->γ->Prop)(hN:NoT H)(hz:vs.length<sizeLine)
 (htt:∀σ G (R:Bool->Hp->Prop),R true G->tt σ G R)
 (hs:∀v b,b∈R->Rel v b->∀G (N1:VK),Same H G->NoT G->(∀c,T b c->∀u G',Same G G'->NoT G'->S G' u c->N1 u G')->te (some v::ks.map fun k=>(σ[k]?).join) G N1)
 (q:∀cs,A2 T R cs->∀D ws G,H D=none->Same H G->NoT G->G D=some (.lst ws)->A2 (S G) ws cs->Q (.ref D) G):CEl J 1 (dU 0) ks tt te σ H Q:=by
 intro D hD;refine⟨fun i m ys G=>m=vs.length-i/\i<=vs.length/\Same H G/\NoT G/\G D=some (.lst ys)/\ys.length<=i/\∃cs,A2 T (R.take i) cs/\A2 (S G) ys cs,⟨_,rfl,uG _,ag _ hD,aj hN rfl,ad,xi _,[],.nil,.nil⟩,?_⟩;rintro i m ys G ⟨rfl,hi,sm,nG,gd,ly,cs,hcs,A⟩;refine⟨gd,?_⟩;rcases YY i vs.length with lt|ge
 ·refine .inr ⟨En.go i G sm lt,fun x H3 y zs hz1=>?_⟩
  obtain⟨rfl,hx⟩:=En.yld i G x H3 sm lt y;obtain⟨z,rfl⟩:=ex1 hz1;obtain⟨b,hb,rb⟩:=hR.at_ hx;refine⟨⟨[some x],rfl,rfl⟩,htt _ _ _ ?_⟩;rw[if_pos rfl];refine hs x b (oH hb) rb H3 _ sm nG fun c hc u G' s' nG' hu=>?_;have gd':=s' _ _ gd;have kt:∀t l,G' t=some (.tup l)->upd G' D (.lst (ys++[u])) t=some (.tup l):=fun t l e=>by
   rw[aw fun z=>by rw[z,gd']at e;cases e];exact e
  refine⟨gd',by lia,vs.length-(i+1),by lia,rfl,lt,fun c' o e=>?_,aj nG' rfl,ad,by rw[zx];exact Nat.succ_le_succ ly,cs++[c],?_,?_⟩
  ·rw[aw (aq e hD)];exact s' _ _ (sm _ _ e)
  ·rw[Ye,hb]
   exact hcs.snoc hc
  ·refine A2.snoc (A.imp fun v c _ _ h=>hS G' _ _ _ kt (hS H3 G' _ _ (fun t l e=>s' _ _ e) h)) (hS _ _ _ _ kt hu)
 ·obtain rfl:i=vs.length:=Nat.le_antisymm hi ge
  have e:R.take vs.length=R:=by rw[hR.len];exact List.take_length
  rw[e]at hcs;exact .inl ⟨En.stop G sm,q cs hcs D ys G hD sm nG gd A⟩
theorem v8{β γ:Type}{f:β->Option γ}{R:List β}{cs:List γ}(h:A2 (fun b c=>f b=some c) R cs):mO f R=some cs:=by
 induction h with
 |nil=>rfl
 |cons h _ ih=>unfold mO;rw[h,ih];rfl
theorem cmO{J:It}{vs:List V}{β γ:Type}{ks:List Nat}{tt:TT}{te:TE}{σ:St}{H:Hp}{Q:VK}(En:kM (fun G=>Same H G) J vs)(R:List β)(Rel:V->β->Prop)(hR:A2 Rel vs R)(S:Hp->V->γ->Prop)(hS:∀G G' v c,(∀t l,G t=some (.tup l)->G' t=some (.tup l))->S G v c->S G' v c)(fO:β->Option γ)(hN:NoT H)(hz:vs.length<sizeLine)
 (htt:∀σ G (R:Bool->Hp->Prop),R true G->tt σ G R)
 (hs:∀v b,b∈R->Rel v b->∀G (N1:VK),Same H G->NoT G->(∀c,fO b=some c->∀u G',Same G G'->NoT G'->S G' u c->N1 u G')->te (some v::ks.map fun k=>(σ[k]?).join) G N1)
 (q:∀cs,mO fO R=some cs->∀D ws G,Same H G->NoT G->G D=some (.lst ws)->A2 (S G) ws cs->Q (.ref D) G):CEl J 1 (dU 0) ks tt te σ H Q:=
 cmT En R Rel hR S hS (fun b c=>fO b=some c) hN hz htt hs fun cs h D ws G _=>q cs (v8 h) D ws G
theorem bf{K:W.Frag}{H G:Hp}{p:Addr}{xs:List V}(s:Same H G)(h:SqL K H p xs):SqL K G p xs:=by
 rcases h with h|h
 ·rcases h with h|⟨o,h⟩
  ·exact .inl (.inl (s _ _ h))
  ·exact .inl (.inr ⟨o,s _ _ h⟩)
 ·exact .inr h
theorem gS{α β:Type}{Rel:β->α->Prop}{g:α->β}(h:∀x,Rel (g x) x):∀l:List α,A2 Rel (l.map g) l
 | []=>.nil
 |x::r=>.cons (h x) (gS h r)
theorem uh{ws:List V}{is:List Int}(h:A2 (fun v c=>v=V.int c) ws is):ws=is.map V.int:=by
 induction h with
 |nil=>rfl
 |cons h _ ih=>rw[h,ih];rfl
theorem f8{β γ:Type}{f:β->Option γ}{b:β}(hb:f b=none):∀ {R:List β},b∈R->mO f R=none
 |x::r,h=>by
  unfold mO;rcases zv.mp h with rfl|h
  ·rw[hb];rfl
  ·rw[f8 hb h]
   cases f x <;> rfl
theorem sp_ok{l:List Nat}{c:Nat}(hl:ok l):∀b∈spN c l,ok b:=fun b hb=>by
 obtain⟨m1,m2⟩:=dX c l b hb;exact⟨fun x hx=>hl.1 x (m2 x hx),wx m1 hl.2⟩
def sp_kc(c:Addr):Sp:=sp1 fun x H Q E=>NoT H/\asT x fun l=>ok l/\(match mO nof (spN 44 l) with
 |some is=>∀p G,Same H G->NoT G->G p=some (.tup (is.map V.int))->Q (.ref p) G
 |none=>∀G,Same H G->NoT G->KWe c E G)
theorem j7(T:Txt w K mg a):Fo P w K mg base "read_weights" 5 (sp_kc a.ar):=by
 refine T.lN.hx ["text"] (gX1 fun x0 fA cdv A outer s H Q E ND HU hr h=>?_);obtain⟨hN,h1⟩:=h;refine dQ (ba h1) fun l yy1 hl k=>?_;subst yy1;have sz:2000<=sizeLine:=by rw[wz];decide
 have sl:=cF 44 l;have l2:=hl.2;refine⟨_,(af (ai (aM (cA K) rfl T.cG bY (fa1 (rm rfl AJ rfl rfl rfl (cl:=_) (x:="weight") (xs:=["weight"]) (fr:=[]) (ks:=[]) (by walk_at "cq") rfl (qc K (aP K xn mG mK cE (fv 0) (fa1 (ac [44])))) (fun _ _ _ _ _ _ PX=>(aR (i:=0) (cT (l:=["weight"]) (by decide)) rfl (Or.inl rfl))) (fun _ _ _ _ _ _ PX=>b9) (fun _ _ _ _ _ _ PX=>(az (dG T) hr PX (fa1 (fv 0))))))))),?_⟩;walk_at "rd";refine Av ?_;walk_at "rd";refine⟨by lia,fun p hp=>⟨⟨_,aL ad⟩,?_⟩⟩;have sm:=ag (HO.lst ((spN 44 l).map L2.T)) hp;refine cmO (qN fun G s=>bf s (aL ad)) (spN 44 l) (fun v b=>v=L2.T b) (gS (g:=L2.T) (fun _=>rfl) _) (fun _ v c=>v=V.int c) (fun _ _ _ _ _ h=>h) nof (aj hN rfl) (by rw[yV];lia) (fun _ _ _ r=>r) (fun v b hb e G N1 sG nG n1=>?_) fun cs hcs D ws G sG nG gD A=>?_
 ·subst e
  walk_at "rd";refine⟨nG,sp_ok hl b hb,?_⟩;cases e:nof b with
  |none=>rw[f8 e hb]at k;exact k G (sm.trans sG) nG
  |some i=>exact n1 i e _ G (Same.refl _) nG rfl
 ·rw[hcs]at k
  have ew:=uh A;walk_at "rd";exact⟨_,.inl ⟨aL gD,fun q hq=>k q _ ((sm.trans sG).trans (ag _ hq)) (aj nG rfl) (by rw[ad,ew])⟩⟩
noncomputable def mD(x y z:List Nat):Option (List Nat × List Nat × Int):=if rw x=true/\rw y=true then (nof z).map fun i=>(x,y,i) else none
noncomputable def mm(ws:List (List Nat))(k:Nat):Option (List Nat × List Nat × Int):=mD (ws.getD (3*k) []) (ws.getD (3*k+1) []) (ws.getD (3*k+2) [])
noncomputable def dR(ws:List (List Nat)):Option (List (List Nat × List Nat × Int)):=if ws.length % 3=0 then mO (mm ws) (rL (ws.length / 3)) else none
noncomputable def rwL(r:List Nat × List Nat × Int):List V:=[L2.T r.1,L2.T r.2.1,.int r.2.2]
def sp_nN(c:Addr):Sp:=sp1 fun x H Q E=>NoT H/\asT x fun l=>ok l/\(match dR (spN 32 l) with
 |some rs=>∀p vs G,Same H G->NoT G->G p=some (.tup vs)->A2 (MkAt rwL G) vs rs->Q (.ref p) G
 |none=>∀G,Same H G->NoT G->KWe c E G)
theorem uE(C:Hp->Prop)(n:Nat):kM C (su 0 3 n) ((rL n).map fun k=>V.int (0+(k:Nat)*3)):=by
 refine⟨fun i H _ h=>by simpa [su] using h,fun i H x H' _ h y=>?_,fun H _=>by simp[su]⟩;obtain⟨e,rfl⟩:=y;refine⟨e,?_⟩;have hi:i<n:=by simpa using h
 simp[hi]
theorem kr{α:Type}{ws:List α}{d:α}{j:Nat}(h:j<ws.length):ws.getD j d=ws[j]:=by simp[List.getD,h]
theorem i9(ws:List (List Nat)){i:Int}{j:Nat}(e:i=(j:Nat))(h:j<ws.length):atI (ws.map L2.T) i=some (L2.T (ws.getD j [])):=by
 subst e;rw[kr h];exact aO (by simp[h])
theorem Bu{n:Nat}{g:TG}{ks:List Nat}{tt:TT}{te:TE}{ta:TA}{σ:St}{H:Hp}{Q:VK}(h:ta σ H fun vs H1=>∃i j c:Int,vs=[.int i,.int j,.int c]/\(0<=i/\i<1000000 /\ -1000000<=j/\j<1000000/\1<=c/\c<1000000)/\CEl (su i c (rsz i j c)) n g ks tt te σ H1 Q):cQ (we ta) n g ks tt te σ H Q:=h
theorem og(T:Txt w K mg a):Fo P w K mg base "read_rows" 5 (sp_nN a.ar):=by
 refine T.qB.hx ["text","words"] (gX1 fun x0 fA cdv A outer s H Q E ND HU hr h=>?_);obtain⟨hN,h1⟩:=h;refine dQ (ba h1) fun l yy1 hl k=>?_;subst yy1;have sz:2000<=sizeLine:=by rw[wz];decide
 have sl:=cF 32 l;have l2:=hl.2;refine⟨_,(aa (aC 1 ND (aP K xn mG mK cE (fv 0) (fa1 (ac [32]))))
  (aa (aE (ak (bO K HU) (ah aU (ay (aS K) rfl T.bD bd (fa1 (fv 1))) ae) ae) (af (eH T.bv T.bg cr)) ao)
  (af (ai (aM (cA K) rfl T.cG bY (fa1 (rm rfl AJ rfl rfl rfl (cl:=_) (x:="at") (xs:=["at"]) (fr:=["words"]) (ks:=[1]) (by walk_at "cq") rfl (tf rfl T.dh (fa3 ae (ay (aS K) rfl T.bD bd (fa1 (fv 1))) ae)) (fun _ _ _ _ _ _ PX=>(aR (i:=0) (cT (l:=["at","words"]) (by decide)) rfl (Or.inl rfl))) (fun _ _ _ _ _ _ PX=>b9) (fun _ _ _ _ _ _ PX=>(eS (fa3 (az (cR T) hr PX (fa1 (aN K (fv 1) (fv 0)))) (az (cR T) hr PX (fa1 (aN K (fv 1) (ah av (fv 0) ae)))) (az (dG T) hr PX (fa1 (aN K (fv 1) (ah av (fv 0) ae)))))))))))))),?_⟩
 walk_at "rd";refine⟨by lia,fun p hp=>⟨_,.inl (aL ad),?_⟩⟩;have sm:=ag (HO.lst ((spN 32 l).map L2.T)) hp;rw[yV];unfold dR at k;split
 ·rename_i h3
  rw[if_pos (by lia)]at k;refine Bu ?_;walk_at "rd";have er:rsz 0 ((spN 32 l).length:Int) 3=(spN 32 l).length / 3:=by unfold rsz;split <;> lia
  refine⟨_,.inl (aL ad),0,_,3,⟨rfl,rfl,rfl⟩,⟨by decide,by decide,by rw[yV];lia,by rw[yV];lia,by decide,by decide⟩,?_⟩;rw[yV,er];refine cmO (uE _ _) (rL ((spN 32 l).length / 3)) (fun v b=>v=V.int (0+(b:Nat)*3)) (gS (g:=fun b:Nat=>V.int (0+(b:Nat)*3)) (fun _=>rfl) _) (fun G v c=>∃t,v = .ref t/\G t=some (.tup (rwL c))) (fun G G' v c h ⟨t,e,z⟩=>⟨t,e,h _ _ z⟩) (mm (spN 32 l)) (aj hN rfl) (by rw[yV,iZ];lia) (fun _ _ _ r=>r) (fun v b hb e G N1 sG nG n1=>?_) fun cs hcs D ws G sG nG gD A=>?_
  ·subst e
   have hb':=ZE.mp hb;have hp':SqL K G p ((spN 32 l).map L2.T):=bf sG (aL ad);have no:mm (spN 32 l) b=none->KWe a.ar E G:=fun e=>by
    rw[f8 e hb]at k;exact k G (sm.trans sG) nG
   have okw:∀j,j<(spN 32 l).length->ok ((spN 32 l).getD j []):=fun j hj=>by
    rw[kr hj];exact sp_ok hl _ (Ze hj)
   have m0:=okw (3*b) (by lia);have m1:=okw (3*b+1) (by lia);have m2:=okw (3*b+2) (by lia);have a0:=i9 (spN 32 l) (i:=0+(b:Nat)*3) (j:=3*b) (by lia) (by lia);have a1:=i9 (spN 32 l) (i:=0+(b:Nat)*3+1) (j:=3*b+1) (by lia) (by lia);have a2:=i9 (spN 32 l) (i:=0+(b:Nat)*3+2) (j:=3*b+2) (by lia) (by lia);unfold mm mD at no n1;generalize (spN 32 l).getD (3*b) []=w0 at m0 a0 no n1;generalize (spN 32 l).getD (3*b+1) []=w1 at m1 a1 no n1;generalize (spN 32 l).getD (3*b+2) []=w2 at m2 a2 no n1;walk_at "rd";refine⟨_,_,.inl hp',a0,nG,m0,?_⟩;split
   ·rename_i h0
    refine⟨_,_,.inl hp',a1,nG,m1,?_⟩;split
    ·rename_i h1
     rw[if_pos ⟨h0,h1⟩]at no n1;refine⟨_,_,.inl hp',a2,nG,m2,?_⟩;change match nof w2 with|some i=>3<=sizeLine/\∀(p:Addr),G p=none->N1 (V.ref p) (upd G p (HO.tup [L2.T w0,L2.T w1,V.int i]))|none=>KWe a.ar E G
     cases e:nof w2 with
     |none=>rw[e]at no;exact no rfl
     |some i=>rw[e]at n1;exact⟨by lia,fun q hq=>n1 _ rfl _ _ (ag _ hq) (aj nG rfl) ⟨q,rfl,ad⟩⟩
    ·rename_i h1
     exact no (if_neg fun z=>h1 z.2)
   ·rename_i h0
    exact no (if_neg fun z=>h0 z.1)
  ·rw[hcs]at k
   walk_at "rd";exact⟨_,.inl ⟨aL gD,fun q hq=>k q _ _ ((sm.trans sG).trans (ag _ hq)) (aj nG rfl) ad (MkAt.mv (fun t l e=>by rw[aw (aq e hq)];exact e) A)⟩⟩
 ·rename_i h3
  rw[if_neg (by lia)]at k;exact⟨by lia,k _ sm (aj hN rfl) none⟩
noncomputable def bx(l:List Nat):Option (List Nat):=if l=[124] then some [] else if fD l [124,32]=true/\l.drop 2≠[]/\nt (l.drop 2)=true then some (l.drop 2) else none
def sp_oH(c:Addr):Sp:=sp1 fun x H Q E=>NoT H/\asT x fun l=>ok l/\(match bx l with
 |some n=>Q (L2.T n) H
 |none=>KWe c E H)
theorem fe(l:List Nat)(k:Nat):bh l (some (k:Int)) none=l.drop k:=by
 unfold bh;rw[HT.sIx_none,HT.sIx_nat];by_cases h:k<=l.length
 ·rw[Ys h,vL (by simp)]
 ·rw[Yx (by lia),Za (xi _),Za (by lia),List.take_nil]
theorem o0(T:Txt w K mg a):Fo P w K mg base "read_note" 3 (sp_oH a.ar):=by
 refine T.qD.hg ["text","note"] (gG1 fun x0 fA cdv A outer s H Q E ND HU hr h=>?_);obtain⟨hN,h1⟩:=h;refine dQ (ba h1) fun l yy1 hl k=>?_;subst yy1;have one:1<=sizeLine:=by rw[wz];decide
 unfold bx at k;refine⟨hN,_,(aa (aE (ak (aF K HU) (fv 0) (ac [124])) (af (ai (ac []))) ao)
  (aa (aC 1 ND (aA aT (fv 0) (aD ae) aJ))
  (aa (aE (L2.PW.pt (bS (cP (bt (aP K xn Yh Yi dE (fv 0) (fa1 (ac [124,32]))))) (bS (ak (aF K HU) (fv 1) (ac [])) (bK (cP (bt (az (sK T) hr aB (fa1 (fv 1))))))))) (af (eH T.bv T.bg cr)) ao)
  (af (ai (fv 1)))))),?_⟩
 walk_at "rd";have c2:bh l (some 2) none=l.drop 2:=fe l 2;rw[c2];split
 ·rename_i h1
  rw[if_pos h1]at k;exact k
 ·rename_i h1
  rw[if_neg h1]at k;refine⟨bN hl,?_⟩;cases h2:fD l [124,32] with
  |false=>
   rw[if_neg (fun z=>by rw[h2]at z;cases z.1)]at k;exact itp rfl ⟨one,k none⟩
  |true=>
   refine itn (by decide) ?_;split
   ·rename_i h3
    rw[if_neg (fun z=>z.2.1 h3)]at k;exact⟨one,k none⟩
   ·rename_i h3
    refine⟨hN,⟨fun c hc=>hl.1 c (vv hc),wx (by simp) hl.2⟩,?_⟩;cases h4:nt (l.drop 2) with
    |false=>
     rw[if_neg (fun z=>by rw[h4]at z;cases z.2.2)]at k;exact itp rfl ⟨one,k none⟩
    |true=>
     rw[if_pos ⟨h2,h3,h4⟩]at k;exact itn (by decide) k
end
open PySem L2 K3 M2 K22
section
variable{pS:Addr}{ns:List Int}{P:Program}{w:World}{K:W.Frag}{mg:Str->Option Value}{base:Heap}{a:Adr}
open MT
noncomputable def bar:List Nat->Option Nat
 | []=>none
 |c::r=>if c=32/\r.head? = some 124 then some 0 else (bar r).map (· + 1)
theorem oq(c:Nat)(r:List Nat):At (c::r) [32,124] 0↔c=32/\r.head? = some 124:=by
 unfold At;cases r with
 |nil=>simp
 |cons d r=>simp
theorem oh(c:Nat)(r:List Nat)(j:Nat):At (c::r) [32,124] (j+1)↔At r [32,124] j:=by
 unfold At;simp only[xR,YM,Yz];exact and_congr_left fun _=>by lia
theorem k9:∀ {l:List Nat},bar l=none->∀j,¬ At l [32,124] j
 | [],_,j=>fun h=>by have:=h.1;simp at this
 |c::r,h,j=>by
  unfold bar at h;split at h
  ·cases h
  ·rename_i h1
   cases j with
   |zero=>exact fun z=>h1 ((oq c r).mp z)
   |succ j=>exact fun z=>k9 (by simpa using h) j ((oh c r j).mp z)
theorem dM:∀ {l:List Nat} {i:Nat},bar l=some i->At l [32,124] i/\∀j,j<i -> ¬ At l [32,124] j
 | [],_,h=>nomatch h
 |c::r,i,h=>by
  unfold bar at h;split at h
  ·rename_i h1
   cases h;exact⟨(oq c r).mpr h1,fun j hj=>absurd hj (Nat.not_lt_zero _)⟩
  ·rename_i h1
   obtain⟨k,hk,rfl⟩:=fS.mp h;obtain⟨h2,h3⟩:=dM hk;refine⟨(oh c r k).mpr h2,fun j hj=>?_⟩;cases j with
   |zero=>exact fun z=>h1 ((oq c r).mp z)
   |succ j=>exact fun z=>h3 j (by lia) ((oh c r j).mp z)
noncomputable def c8:K9->Bool
 | .note=>true
 |_=>false
noncomputable def aZ:K9->Bool
 | .rows=>true
 |_=>false
noncomputable def a_(l:List Nat):List Nat × List Nat:=match bar l with
 |some i=>(l.take i,124::l.drop (i+2))
 |none=>(l,[])
noncomputable def pcs(f:List K9)(l:List Nat):List (List Nat):=if f.any c8=true then
 (if f.any aZ=true then ((spN 32 (a_ l).1).drop 1).take (f.findIdx aZ)++[aG [32] (((spN 32 (a_ l).1).drop 1).drop (f.findIdx aZ))] else (spN 32 (a_ l).1).drop 1)++[(a_ l).2]
 else (spN 32 l).drop 1
def sp_vJ(K:W.Frag):Sp:=sp2 fun x y H Q _=>NoT H/\asR x fun t=>asT y fun l=>ok l/\∃f:List K9,CsT K t (f.map fun k=>L2.T (kn k))/\f.length<=10/\∀p G,Same H G->NoT G->G p=some (.lst ((pcs f l).map L2.T))->Q (.ref p) G
theorem nu(xs:List V)(j:Nat):bX xs none (some (j:Int))=xs.take j:=by
 unfold bX;rw[HT.sIx_none,HT.sIx_nat,Yd,Nat.sub_zero];by_cases hl:j<=xs.length
 ·rw[Ys hl]
 ·rw[Yx (by lia),vL (xi _),vL (by lia)]
theorem gs(xs:List V)(j:Nat):bX xs (some (j:Int)) none=xs.drop j:=by
 unfold bX;rw[HT.sIx_none,HT.sIx_nat];by_cases h:j<=xs.length
 ·rw[Ys h,vL (by simp)]
 ·rw[Yx (by lia),Za (xi _),Za (by lia),List.take_nil]
theorem um(n:Nat):∀(ls:List (List Nat)),(∀l∈ls,l.length<=n)->(ls.map mF).sum<=n*ls.length
 | [],_=>by simp
 |l::r,h=>by
  have:=um n r fun x hx=>h x (xM _ hx);have h1:=h l (by simp);simp only[rS,ZJ,xR,Nat.mul_add,Nat.mul_one];lia
theorem p9{s:Nat}{ls:List (List Nat)}(h:∀l∈ls,l.length<=1000)(hl:ls.length<=1900):k7 [s] ls:=by
 have:=um 1000 ls h;have h2:1000*ls.length<=1000*1900:=Nat.mul_le_mul_left _ hl;unfold k7;simp only[xR,YM];lia
theorem sQ{α:Type}(g:α->List Nat)(l:List α):(l.map fun k=>L2.T (g k)).all cD=true:=by
 rw[List.all_map,Zt];exact fun _ _=>rfl
theorem sF{α:Type}(g:α->List Nat)(p:α->Bool)(m:List Nat)(h:∀k,eqV (L2.T (g k)) (L2.T m)=p k)(l:List α):inV (L2.T m) (l.map fun k=>L2.T (g k))=l.any p:=by
 unfold inV;rw[List.any_map]
 congr 1
 funext k;exact h k
theorem y4(f:List K9):inV (L2.T [110,111,116,101]) (f.map fun k=>L2.T (kn k))=f.any c8:=sF kn c8 _ (fun k=>by cases k <;> decide) f
theorem zj(f:List K9):inV (L2.T [114,111,119,115]) (f.map fun k=>L2.T (kn k))=f.any aZ:=sF kn aZ _ (fun k=>by cases k <;> decide) f
theorem tY(k:K9):kn k=[114,111,119,115]↔aZ k=true:=by cases k <;> decide
theorem v4:∀ {f:List K9},f.any aZ=true->(f.map kn)[f.findIdx aZ]? = some [114,111,119,115]/\∀i,i<f.findIdx aZ->(f.map kn)[i]? ≠ some [114,111,119,115]:=by
 intro f h;obtain⟨k,hk,hr⟩:=YV.mp h;have lt:f.findIdx aZ<f.length:=List.findIdx_lt_length_of_exists ⟨k,hk,hr⟩;refine⟨?_,fun i hi z=>?_⟩
 ·rw[List.getElem?_map,List.getElem?_eq_getElem lt,Option.map_some]
  exact congrArg some ((tY _).mpr (List.findIdx_getElem (w:=lt)))
 ·have li:i<f.length:=Nat.lt_trans hi lt
  rw[List.getElem?_map,List.getElem?_eq_getElem li,Option.map_some]at z;have:=(tY _).mp (wj z);exact absurd this (by have:=List.not_of_lt_findIdx hi;simpa using this)
theorem iA(T:Txt w K mg a):Fo P w K mg base "pieces_of" 1 (sp_vJ K):=by
 refine T.pT.hx ["form","line","halves","pieces","ahead"] (gX2 fun x0 x1 fA cdv A outer s H Q E ND HU hr h=>?_);refine de (d6 h.2) fun t yy1 h2=>?_;subst yy1;refine dQ (ba h2) fun l yy1 hl h3=>?_;subst yy1;have hN:=h.1;refine dQ h3 fun f ht fl k=>?_;clear h h2 h3;have sz:2000<=sizeLine:=by rw[wz];decide
 have l2:=hl.2;have c4:∃u,PSs (bE (XE P w) P w K mg base ["form","line","halves","pieces","ahead"] "pieces_of" (au bT) fA cdv A outer s H E) (Zn 4 (aQ bT)) u/\∀G hp pp x4 h0 b1 b2 (ps:List (List Nat)),Same H G->NoT G->G hp=some (.tup [L2.T h0,L2.T b1,L2.T b2])->G pp=some (.lst (ps.map L2.T))->b1.length<=1000->b2.length<=1000->ps.length<=1998->pcs f l=ps++[b1.drop 1++b2]->u { nx:=fun _ H'=>Q .non H',rt:=Q } [some (.ref t),some (L2.T l),some (.ref hp),some (.ref pp),x4] G:=by
  refine⟨_,(af (ai (ah b_ (fv 3) (aX (fa1 (ah av (aA aT (aN K (fv 2) ae) (aD ae) aJ) (aN K (fv 2) ae))))))),fun G hp pp x4 h0 b1 b2 ps sG nG gh gp z1 z2 z3 ep=>?_⟩;walk_at "rd";refine⟨_,_,.inr (bc gh),aO (j:=1) rfl,?_⟩;walk_at "rd";rw[show bh b1 (some 1) none=b1.drop 1 from fe b1 1];refine⟨by lia,_,_,.inr (bc gh),aO (j:=2) rfl,?_⟩;walk_at "rd";refine⟨by rw[vJ];lia,by lia,fun q hq=>?_⟩;have nq:pp≠q:=aq gp hq;refine⟨_,_,(aw nq).trans gp,ad,by rw[yV];show ps.length+1<=_;lia,fun r hr=>k r _ ((sG.trans (ag _ hq)).trans (ag _ hr)) (aj (aj nG rfl) rfl) ?_⟩;rw[ad,ep,ms]
  rfl
 obtain⟨u4,hu4,c4⟩:=c4;have c3:∃u,PSs (bE (XE P w) P w K mg base ["form","line","halves","pieces","ahead"] "pieces_of" (au bT) fA cdv A outer s H E) (Zn 3 (aQ bT)) u/\∀G hp pp h0 b1 b2 (ps:List (List Nat)),Same H G->NoT G->G hp=some (.tup [L2.T h0,L2.T b1,L2.T b2])->G pp=some (.lst (ps.map L2.T))->b1.length<=1000->b2.length<=1000->(∀x∈ps,ok x)->ps.length<=1900->(pcs f l=(if f.any aZ=true then ps.take (f.findIdx aZ)++[aG [32] (ps.drop (f.findIdx aZ))] else ps)++[b1.drop 1++b2])->u { nx:=fun _ H'=>Q .non H',rt:=Q } [some (.ref t),some (L2.T l),some (.ref hp),some (.ref pp),none] G:=by
  refine⟨_,(aa (aE (cw (jo K) (ac [114,111,119,115]) (fv 0) (by with_unfolding_all rfl)) (aa (aC 4 ND (aP K PySem.F.plainAttrs_tuple PySem.F.slot_tuple_index PySem.F.type_tuple_index (zg K) (fv 0) (fa1 (ac [114,111,119,115]))))
   (af (aC 3 ND (ah b_ (aA (bZ K) (fv 3) aJ (aD (fv 4))) (aX (fa1 (aP K xn pV qC (bQ K) (ac [32]) (fa1 (aA (bZ K) (fv 3) (aD (fv 4)) aJ))))))))) ao)
   hu4),fun G hp pp h0 b1 b2 ps sG nG gh gp z1 z2 zo z3 ep=>?_⟩
  walk_at "rd";refine⟨_,.inr ht.sq,rfl,sQ kn f,?_⟩;rw[zj];split
  ·rename_i hr
   rw[if_pos hr]at ep;obtain⟨i1,i2⟩:=v4 hr;have i3:f.findIdx aZ<=10:=wx List.findIdx_le_length fl;generalize f.findIdx aZ=j at i1 i2 i3 ep;have hK:∃o,List.lookup t K=some o/\o.cls=Value.type "tuple" /\ o.dict=none:=by
    obtain⟨its,n,sl,e,_⟩:=ht;exact⟨_,e,rfl,rfl⟩
   have htt:SqT K G t ((f.map kn).map L2.T):=by rw[ZM];exact ht.sq
   refine⟨.inr (.inl hK),t,f.map kn,_,j,rfl,rfl,htt,i1,i2,pp,_,rfl,aL gp,fun q hq=>?_⟩;have s1:=ag (HO.lst (bX (ps.map L2.T) none (some (j:Int)))) hq;refine⟨pp,_,rfl,aL (s1 _ _ gp),fun r hr'=>?_⟩;have s2:=ag (HO.lst (bX (ps.map L2.T) (some (j:Int)) none)) hr';have gq:upd (upd G q (HO.lst (bX (ps.map L2.T) none (some (j:Int))))) r (HO.lst (bX (ps.map L2.T) (some (j:Int)) none)) q=some (.lst ((ps.take j).map L2.T)):=by
    rw[s2 _ _ ad,nu,Yj]
   have gr:upd (upd G q (HO.lst (bX (ps.map L2.T) none (some (j:Int))))) r (HO.lst (bX (ps.map L2.T) (some (j:Int)) none)) r=some (.lst ((ps.drop j).map L2.T)):=by
    rw[ad,gs,ZI]
   have n2:NoT (upd (upd G q (HO.lst (bX (ps.map L2.T) none (some (j:Int))))) r (HO.lst (bX (ps.map L2.T) (some (j:Int)) none))):=aj (aj nG rfl) rfl;have s3:=s1.trans s2;generalize upd (upd G q (HO.lst (bX (ps.map L2.T) none (some (j:Int))))) r (HO.lst (bX (ps.map L2.T) (some (j:Int)) none))=G2 at gq gr n2 s3 |-
   have tk:=List.length_take_le j ps;refine⟨ps.drop j,aL gr,p9 (fun x hx=>(zo x (vv hx)).2) (wx (vJ .. ▸ Nat.sub_le _ _) z3),?_⟩;walk_at "rd";refine⟨by lia,fun p1 h1=>⟨_,_,(aw (aq gq h1)).trans gq,ad,by rw[yV,r0];show min j ps.length+1<=_;lia,fun p2 h2=>?_⟩⟩;have s4:=(s3.trans (ag (HO.lst [L2.T (aG [32] (ps.drop j))]) h1)).trans (ag (HO.lst ((ps.take j).map L2.T++[L2.T (aG [32] (ps.drop j))])) h2);exact c4 _ hp p2 _ h0 b1 b2 (ps.take j++[aG [32] (ps.drop j)]) (sG.trans s4) (aj (aj n2 rfl) rfl) (s4 _ _ gh) (by rw[ad,ms];rfl) z1 z2 (by rw[zx,r0];show min j ps.length+1<=_;lia) ep
  ·rename_i hr
   rw[if_neg hr]at ep;exact c4 G hp pp none h0 b1 b2 ps sG nG gh gp z1 z2 (by lia) ep
 obtain⟨u3,hu3,c3⟩:=c3;have c2:∃u,PSs (bE (XE P w) P w K mg base ["form","line","halves","pieces","ahead"] "pieces_of" (au bT) fA cdv A outer s H E) (Zn 2 (aQ bT)) u/\∀G hp h0 b1 b2,f.any c8=true->Same H G->NoT G->G hp=some (.tup [L2.T h0,L2.T b1,L2.T b2])->ok h0->b1.length<=1000->b2.length<=1000->a_ l=(h0,b1.drop 1++b2)->u { nx:=fun _ H'=>Q .non H',rt:=Q } [some (.ref t),some (L2.T l),some (.ref hp),none,none] G:=by
  refine⟨_,(aa (aC 3 ND (aA (bZ K) (aP K xn mG mK cE (aN K (fv 2) ae) (fa1 (ac [32]))) (aD ae) aJ))
   hu3),fun G hp h0 b1 b2 hn sG nG gh zo z1 z2 eh=>?_⟩
  walk_at "rd";refine⟨_,_,.inr (bc gh),aO (j:=0) rfl,?_⟩;walk_at "rd";have zl:=zo.2;refine⟨by lia,fun q hq=>⟨q,_,rfl,aL ad,fun r hr=>?_⟩⟩;have s1:=(ag (HO.lst ((spN 32 h0).map L2.T)) hq).trans (ag (HO.lst (bX ((spN 32 h0).map L2.T) (some 1) none)) hr);have sl:=cF 32 h0;refine c3 _ hp r h0 b1 b2 ((spN 32 h0).drop 1) (sG.trans s1) (aj (aj nG rfl) rfl) (s1 _ _ gh) (by rw[ad,show bX ((spN 32 h0).map L2.T) (some 1) none=((spN 32 h0).map L2.T).drop 1 from gs _ 1,ZI]) z1 z2 (fun x hx=>sp_ok zo x (vv hx)) (by rw[vJ];lia) ?_;unfold pcs;rw[if_pos hn,eh]
 obtain⟨u2,hu2,c2⟩:=c2;refine⟨_,(aa (aE (cw (jk K) (ac [110,111,116,101]) (fv 0) (by with_unfolding_all rfl)) (af (ai (aA (bZ K) (aP K xn mG mK cE (fv 1) (fa1 (ac [32]))) (aD ae) aJ))) ao)
  (aa (aC 2 ND (aP K xn PySem.F.slot_str_partition PySem.F.type_str_partition zD (fv 1) (fa1 (ac [32,124]))))
  hu2)),?_⟩
 walk_at "rd";have sl:=cF 32 l;refine⟨_,.inr ht.sq,rfl,sQ kn f,?_⟩;rw[y4];split
 ·rename_i hn
  have hn':¬ f.any c8=true:=by rw[hn];decide
  refine⟨by lia,fun p hp=>⟨p,_,rfl,aL ad,fun r hr=>k r _ ((ag _ hp).trans (ag _ hr)) (aj (aj hN rfl) rfl) ?_⟩⟩;rw[ad,show bX ((spN 32 l).map L2.T) (some 1) none=((spN 32 l).map L2.T).drop 1 from gs _ 1,<- ZI];unfold pcs;rw[if_neg hn']
 ·rename_i hn
  have hn:f.any c8=true:=by simpa using hn
  refine⟨by decide,by lia,fun p hp=>⟨fun no=>?_,fun i hi lo=>?_⟩⟩
  ·have eb:bar l=none:=by
    cases e:bar l with
    |none=>rfl
    |some i=>exact absurd (dM e).1 (no i)
   exact c2 _ p l [] [] hn (ag _ hp) (aj hN rfl) ad hl (by decide) (by decide) (by unfold a_;rw[eb];rfl)
  ·have eb:bar l=some i:=by
    cases e:bar l with
    |none=>exact absurd hi (k9 e i)
    |some j=>
     obtain⟨h1,h2⟩:=dM e;rcases Nat.lt_trichotomy i j with h|h|h
     ·exact absurd hi (h2 i h)
     ·rw[h]
     ·exact absurd h1 (lo j h)
   have:=hi.1;exact c2 _ p (l.take i) [32,124] (l.drop (i+2)) hn (ag _ hp) (aj hN rfl) ad ⟨fun c hc=>hl.1 c (oX hc),by rw[r0];lia⟩ (by decide) (by rw[vJ];lia) (by unfold a_;rw[eb];rfl)
end
open PySem L2 K3 M2 K22
section
variable{pS:Addr}{ns:List Int}{P:Program}{w:World}{K:W.Frag}{mg:Str->Option Value}{base:Heap}{a:Adr}
open MT
noncomputable def rdP:K9->List Nat->Option Pt
 | .word,l=>if rw l=true then some (.w l) else none
 | .currency,l=>if l=[97,110,121] then some .no else if rw l=true then some (.w l) else none
 | .keeper,l=>if l=[45] then some .no else if rw l=true then some (.w l) else none
 | .shelf,l=>if cq l then some (.w l) else none
 | .number,l=>(nof l).map .i
 | .day,l=>(DO l).map .i
 | .month,l=>(DO (l++[45,48,49])).map fun d=>.i (MO d)
 | .weights,l=>(mO nof (spN 44 l)).map .l
 | .rows,l=>(dR (spN 32 l)).map .r
 | .note,l=>(bx l).map .w
def PtAt(G:Hp)(v:V):Pt->Prop
 | .w l=>v=L2.T l
 | .i n=>v = .int n
 | .no=>v = .non
 | .l is=>∃q,v = .ref q/\G q=some (.tup (is.map V.int))
 | .r rs=>∃q vs,v = .ref q/\G q=some (.tup vs)/\A2 (MkAt rwL G) vs rs
theorem PtAt.mv{G G':Hp}{v:V}{p:Pt}(k:∀t l,G t=some (.tup l)->G' t=some (.tup l))(h:PtAt G v p):PtAt G' v p:=by
 cases p with
 |l is=>obtain⟨q,e,h⟩:=h;exact⟨q,e,k _ _ h⟩
 |r rs=>obtain⟨q,vs,e,h,A⟩:=h;exact⟨q,vs,e,k _ _ h,MkAt.mv k A⟩
 |_=>exact h
def spR(c:Addr)(k:K9):Sp:=sp1 fun x H Q E=>NoT H/\asT x fun l=>ok l/\l.length<=900/\(match rdP k l with
 |some p=>∀v G,Same H G->NoT G->PtAt G v p->Q v G
 |none=>∀G,Same H G->NoT G->KWe c E G)
theorem FnAt.of{x:Str}{k:Nat}{sp sp':Sp}{f:Addr}(F:Fo P w K mg base x k sp)(h:mg x=some (.ref f))(i:∀vs H Q E,sp' vs H Q E->sp vs H Q E):FnAt P w K mg base k f sp':=by
 obtain⟨fd,ps,kp,b,F⟩:=F.at h;exact⟨fd,ps,kp,b,F.imp i⟩
theorem dD(T:Txt w K mg a):∀f sp,(∃k,mg (rnm k)=some (.ref f)/\sp=spR a.ar k)->∃k,k<=9/\FnAt P w K mg base k f sp:=by
 rintro f sp ⟨k,h,rfl⟩;have fin:∀ {vs:List V} {H:Hp} {Q:VK} {E:XK} {k:K9},spR a.ar k vs H Q E->∃l,vs=[L2.T l]/\NoT H/\ok l/\l.length<=900/\(match rdP k l with
  |some p=>∀v G,Same H G->NoT G->PtAt G v p->Q v G
  |none=>∀G,Same H G->NoT G->KWe a.ar E G):=fun z=>by
  obtain⟨x,rfl,hN,z⟩:=sp1.inv z;obtain⟨l,rfl,z1,z2,z3⟩:=ba z;exact⟨l,rfl,hN,z1,z2,z3⟩
 cases k
 ·refine⟨_,(by decide:2<=9),FnAt.of (cR T) h fun vs H Q E z=>?_⟩
  obtain⟨l,rfl,hN,h1,h2,k⟩:=fin z;simp only[rdP]at k;change NoT H/\ok l/\(if rw l=true then Q (L2.T l) H else KWe a.ar E H);refine⟨hN,h1,?_⟩;by_cases c:rw l=true
  ·rw[if_pos c]at k |-; exact k _ H (Same.refl _) hN rfl
  ·rw[if_neg c]at k |-; exact k H (Same.refl _) hN
 ·refine⟨_,(by decide:3<=9),FnAt.of (iX T) h fun vs H Q E z=>?_⟩
  obtain⟨l,rfl,hN,h1,h2,k⟩:=fin z;simp only[rdP]at k;change NoT H/\ok l/\(if l=[97,110,121] then Q .non H else if rw l=true then Q (L2.T l) H else KWe a.ar E H);refine⟨hN,h1,?_⟩;by_cases c:l=[97,110,121]
  ·rw[if_pos c]at k |-; exact k _ H (Same.refl _) hN rfl
  ·rw[if_neg c]at k |-
   by_cases c:rw l=true
   ·rw[if_pos c]at k |-; exact k _ H (Same.refl _) hN rfl
   ·rw[if_neg c]at k |-; exact k H (Same.refl _) hN
 ·refine⟨_,(by decide:3<=9),FnAt.of (lb T) h fun vs H Q E z=>?_⟩
  obtain⟨l,rfl,hN,h1,h2,k⟩:=fin z;simp only[rdP]at k;change NoT H/\ok l/\(if l=[45] then Q .non H else if rw l=true then Q (L2.T l) H else KWe a.ar E H);refine⟨hN,h1,?_⟩;by_cases c:l=[45]
  ·rw[if_pos c]at k |-; exact k _ H (Same.refl _) hN rfl
  ·rw[if_neg c]at k |-
   by_cases c:rw l=true
   ·rw[if_pos c]at k |-; exact k _ H (Same.refl _) hN rfl
   ·rw[if_neg c]at k |-; exact k H (Same.refl _) hN
 ·refine⟨_,(by decide:2<=9),FnAt.of (mo T) h fun vs H Q E z=>?_⟩
  obtain⟨l,rfl,hN,h1,h2,k⟩:=fin z;simp only[rdP]at k;change NoT H/\ok l/\(if cq l then Q (L2.T l) H else KWe a.ar E H);refine⟨hN,h1,?_⟩;by_cases c:cq l
  ·rw[if_pos c]at k |-; exact k _ H (Same.refl _) hN rfl
  ·rw[if_neg c]at k |-; exact k H (Same.refl _) hN
 ·refine⟨_,(by decide:4<=9),FnAt.of (dG T) h fun vs H Q E z=>?_⟩
  obtain⟨l,rfl,hN,h1,h2,k⟩:=fin z;simp only[rdP]at k;change NoT H/\ok l/\(match nof l with|some i=>Q (.int i) H|none=>KWe a.ar E H);refine⟨hN,h1,?_⟩;cases e:nof l with
  |some i=>rw[e]at k;exact k _ H (Same.refl _) hN rfl
  |none=>rw[e]at k;exact k H (Same.refl _) hN
 ·refine⟨_,(by decide:8<=9),FnAt.of (jz T) h fun vs H Q E z=>?_⟩
  obtain⟨l,rfl,hN,h1,h2,k⟩:=fin z;simp only[rdP]at k;change NoT H/\ok l/\(match DO l with|some i=>Q (.int i) H|none=>KWe a.ar E H);refine⟨hN,h1,?_⟩;cases e:DO l with
  |some i=>rw[e]at k;exact k _ H (Same.refl _) hN rfl
  |none=>rw[e]at k;exact k H (Same.refl _) hN
 ·refine⟨_,(by decide:9<=9),FnAt.of (lY T) h fun vs H Q E z=>?_⟩
  obtain⟨l,rfl,hN,h1,h2,k⟩:=fin z;simp only[rdP]at k;change NoT H/\ok l/\l.length<=900/\(match DO (l++[45,48,49]) with|some i=>Q (.int (MO i)) H|none=>KWe a.ar E H);refine⟨hN,h1,h2,?_⟩;cases e:DO (l++[45,48,49]) with
  |some i=>rw[e]at k;exact k _ H (Same.refl _) hN rfl
  |none=>rw[e]at k;exact k H (Same.refl _) hN
 ·refine⟨_,(by decide:5<=9),FnAt.of (j7 T) h fun vs H Q E z=>?_⟩
  obtain⟨l,rfl,hN,h1,h2,k⟩:=fin z;simp only[rdP]at k;change NoT H/\ok l/\(match mO nof (spN 44 l) with|some i=>∀p G,Same H G->NoT G->G p=some (.tup (i.map V.int))->Q (.ref p) G|none=>∀G,Same H G->NoT G->KWe a.ar E G);refine⟨hN,h1,?_⟩;cases e:mO nof (spN 44 l) with
  |some i=>rw[e]at k;exact fun p G s n g=>k _ G s n ⟨p,rfl,g⟩
  |none=>rw[e]at k;exact k
 ·refine⟨_,(by decide:5<=9),FnAt.of (og T) h fun vs H Q E z=>?_⟩
  obtain⟨l,rfl,hN,h1,h2,k⟩:=fin z;simp only[rdP]at k;change NoT H/\ok l/\(match dR (spN 32 l) with|some i=>∀p vs G,Same H G->NoT G->G p=some (.tup vs)->A2 (MkAt rwL G) vs i->Q (.ref p) G|none=>∀G,Same H G->NoT G->KWe a.ar E G);refine⟨hN,h1,?_⟩;cases e:dR (spN 32 l) with
  |some i=>rw[e]at k;exact fun p vs G s n g A=>k _ G s n ⟨p,vs,rfl,g,A⟩
  |none=>rw[e]at k;exact k
 ·refine⟨_,(by decide:3<=9),FnAt.of (o0 T) h fun vs H Q E z=>?_⟩
  obtain⟨l,rfl,hN,h1,h2,k⟩:=fin z;simp only[rdP]at k;change NoT H/\ok l/\(match bx l with|some i=>Q (L2.T i) H|none=>KWe a.ar E H);refine⟨hN,h1,?_⟩;cases e:bx l with
  |some i=>rw[e]at k;exact k _ H (Same.refl _) hN rfl
  |none=>rw[e]at k;exact k H (Same.refl _) hN
def OrAt(G:Hp)(v:V)(o:List Nat × List Pt):Prop:=∃q vs,v = .ref q/\G q=some (.tup (L2.T o.1::vs))/\A2 (PtAt G) vs o.2
noncomputable def gE(l:List Nat):Option (List Nat × List Pt):=(cj aV ((spN 32 l).headD [])).bind fun f=>if (pcs f l).length=f.length then (mO (fun z:K9 × List Nat=>rdP z.1 z.2) (f.zip (pcs f l))).map fun ps=>((spN 32 l).headD [],ps) else none
def sp_pV(c:Addr):Sp:=sp1 fun x H Q E=>NoT H/\((∃l,x=L2.T l/\ok l/\l.length<=900/\(match gE l with
 |some o=>∀v G,Same H G->NoT G->OrAt G v o->Q v G
 |none=>∀G,Same H G->NoT G->KWe c E G))\/((¬ ∃l,x = .str ⟨⟨l⟩⟩)/\asK H x fun _=>∀G,Same H G->NoT G->KWe c E G))
theorem dH{α:Type}{l:List (List Nat × α)}{k:List Nat}{x:α}(h:cj l k=some x):(k,x)∈l:=by
 unfold cj at h;obtain⟨p,hp,e⟩:=fS.mp h;have m:=List.mem_of_find?_eq_some hp;have:=List.find?_some hp;have e2:p.1=k:=by simpa using this
 obtain⟨p1,p2⟩:=p;cases e;cases e2;exact m
theorem db{w:List Nat}{f:List K9}(h:cj aV w=some f):f.length<=10:=by
 have m:=dH h;have:∀p∈aV,p.2.length<=10:=by decide
 exact this _ m
theorem gL{β γ:Type}{f:β->Option γ}:∀ {R:List β} {cs:List γ},mO f R=some cs->cs.length=R.length
 | [],_,h=>by cases h;rfl
 |b::r,cs,h=>by
  unfold mO at h;cases e:f b with
  |none=>rw[e]at h;cases h
  |some c=>
   rw[e]at h;cases e2:mO f r with
   |none=>rw[e2]at h;cases h
   |some ds=>rw[e2]at h;cases h;rw[xR,xR,gL e2]
theorem bo(s:Nat)(x y:List Nat)(r:List (List Nat)):aG [s] (x::y::r)=x++s::aG [s] (y::r):=by simp[aG]
theorem jg(s:Nat):∀(k:Nat) (xs:List (List Nat)),(aG [s] (xs.drop k)).length<=(aG [s] xs).length
 |0,xs=>xi _
 |k+1,[]=>xi _
 |k+1,[x]=>by rw[Yz,List.drop_nil];exact uG _
 |k+1,x::y::r=>by
  rw[Yz,bo,zx,xR];have:=jg s k (y::r);lia
theorem dt{s c:Nat}:∀ {xs:List (List Nat)},c∈aG [s] xs->c=s\/∃x∈xs,c∈x
 | [],h=>nomatch h
 | [x],h=>.inr ⟨x,by simp,h⟩
 |x::y::r,h=>by
  rw[bo]at h;rcases vY.mp h with h|h
  ·exact .inr ⟨x,by simp,h⟩
  ·rcases zv.mp h with h|h
   ·exact .inl h
   ·rcases dt h with h|⟨z,hz,h⟩
    ·exact .inl h
    ·exact .inr ⟨z,xM _ hz,h⟩
theorem uJ{l:List Nat}(hl:ok l)(h9:l.length<=900):(ok (a_ l).1/\(a_ l).1.length<=900)/\ok (a_ l).2/\(a_ l).2.length<=900:=by
 unfold a_;cases e:bar l with
 |none=>exact⟨⟨hl,h9⟩,(⟨(fun c h=>nomatch h),uG _⟩:ok []),(uG _:([]:List Nat).length<=900)⟩
 |some i=>
  have h1:=(dM e).1.1;have h1:i+2<=l.length:=h1;refine⟨⟨⟨fun c h=>hl.1 c (oX h),by rw[r0];lia⟩,by rw[r0];lia⟩,⟨fun c h=>?_,?_⟩,?_⟩
  ·rcases zv.mp h with h|h
   ·rw[h];decide
   ·exact hl.1 c (vv h)
  ·show(l.drop (i+2)).length+1<=1000
   rw[vJ];lia
  ·show(l.drop (i+2)).length+1<=900
   rw[vJ];lia
theorem rX{f:List K9}{l:List Nat}(hl:ok l)(h9:l.length<=900):∀m∈pcs f l,ok m/\m.length<=900:=by
 have one:∀ {h:List Nat},ok h->h.length<=900->∀x∈(spN 32 h).drop 1,ok x/\x.length<=900:=fun {h} ho h9 x hx=>
  ⟨sp_ok ho x (vv hx),wx (dX 32 h x (vv hx)).1 h9⟩
 obtain⟨⟨a1,a2⟩,b1,b2⟩:=uJ hl h9;intro m hm;unfold pcs at hm;split at hm
 ·rcases vY.mp hm with hm|hm
  ·split at hm
   ·rcases vY.mp hm with hm|hm
    ·exact one a1 a2 m (oX hm)
    ·rw[uH.mp hm]
     have e:=jg 32 1 (spN 32 (a_ l).1);have e2:=jg 32 (f.findIdx aZ) ((spN 32 (a_ l).1).drop 1);rw[iz]at e;refine⟨⟨fun c hc=>?_,by lia⟩,by lia⟩;rcases dt hc with h|⟨x,hx,h⟩
     ·rw[h];decide
     ·exact(one a1 a2 x (vv hx)).1.1 c h
   ·exact one a1 a2 m hm
  ·rw[uH.mp hm];exact⟨b1,b2⟩
 ·exact one hl h9 m hm
theorem qh(T:Txt w K mg a):Fo P w K mg base "order_of" 12 (sp_pV a.ar):=by
 refine T.sJ.hx ["line","word","form","pieces","parts","kind","piece","reader"] (gX1 fun x0 fA cdv A outer s H Q E ND HU hr h=>?_);obtain⟨hN,h1⟩:=h;have one:1<=sizeLine:=by rw[wz];decide
 rcases h1 with ⟨l,rfl,hl,l9,k⟩|⟨nx,k⟩
 ·have sz:2000<=sizeLine:=by rw[wz];decide
  refine⟨_,(aa (aE (cP (bt (ay (bW K) rfl T.aK aH (fa2 (fv 0) (bM (v:=.ty "str") rfl T.dW cO rfl))))) (af (eH T.bv T.bg cr)) ao)
   (aa (aC 1 ND (aN K (aP K xn mG mK cE (fv 0) (fa1 (ac [32]))) ae))
   (aa (aE (eJ (nv T.ck (fv 1) (cp (v:=.ref a.ck) rfl T.g_ rfl)) (by with_unfolding_all rfl)) (af (eH T.bv T.bg cr)) ao)
   (aa (aC 2 ND (fV T.ck (cp (v:=.ref a.ck) rfl T.g_ rfl) (fv 1) (fun _ _=>rfl)))
   (aa (aC 3 ND (az (iA T) hr aB (fa2 (fv 2) (fv 0))))
   (aa (aE (ak (bO K HU) (ay (aS K) rfl T.bD bd (fa1 (fv 3))) (ay (aS K) rfl T.bD bd (fa1 (fv 2)))) (af (eH T.bv T.bg cr)) ao)
   (aa (aC 4 ND (aX (FA.pa bw)))
   (aa (eW (by passes_own) rfl (ut K rfl T.uu (fv 2) (fv 3)) (kj K (n:=2) rfl (dm (aR (i:=5) ND rfl (Or.inl rfl)) (dm (aR (i:=6) ND rfl (Or.inl rfl)) ki))) (aa (aC 7 ND (fV T.c_ (cp (v:=.ref a.c_) rfl T.mL rfl) (fv 5) (fun _ _=>rfl)))
   (af (dy (aP K mw lI lh bP (fv 4) (fa1 (xW 7 (dD T) hr.mono aB (fa1 (fv 6)))))))))
   (af (ai (aM (cA K) rfl T.cG bY (fa1 (ah b_ (aX (fa1 (fv 1))) (fv 4)))))))))))))),?_⟩
  walk_at "rd";have sl:=cF 32 l;have sn:spN 32 l≠[]:=da 32 l;have a0:atI ((spN 32 l).map L2.T) 0=some (L2.T ((spN 32 l).headD [])):=by
   cases e:spN 32 l with
   |nil=>exact absurd e sn
   |cons x r=>exact aO (j:=0) rfl
  unfold gE at k;refine⟨by lia,fun p hp=>⟨_,_,.inl (aL ad),a0,?_⟩⟩;have s1:=ag (HO.lst ((spN 32 l).map L2.T)) hp;have n1:NoT (upd H p (HO.lst ((spN 32 l).map L2.T))):=aj hN rfl;generalize upd H p (HO.lst ((spN 32 l).map L2.T))=G1 at s1 n1 |-
  generalize (spN 32 l).headD []=wd at k |-
  walk_at "rd";rcases ZY (cj aV wd) with ef|⟨f,ef⟩
  ·rw[ef]at k
   exact itp (by rw[ef];rfl) ⟨one,k _ s1 n1 none⟩
  ·rw[ef]at k
   have fl:=db ef;refine itn (by rw[ef];exact fun z=>nomatch z) ⟨f,ef,fun t ht=>?_⟩;have ht:CsT K t (f.map fun k=>L2.T (kn k)):=ht;walk_at "rd";refine⟨n1,hl,f,ht,fl,fun pp G s2 n2 gp=>⟨_,.inl (aL gp),_,.inr ht.sq,?_⟩⟩;rw[yV,yV];split
   ·rename_i hlen
    have hlen:(pcs f l).length=f.length:=by lia
    replace k:match (mO (fun z:K9 × List Nat=>rdP z.1 z.2) (f.zip (pcs f l))).map fun ps=>(wd,ps) with
     |some o=>∀v G,Same H G->NoT G->OrAt G v o->Q v G
     |none=>∀G,Same H G->NoT G->KWe a.ar E G:=by
      rw[Option.bind_some,if_pos hlen]at k;exact k
    refine⟨uG _,fun q hq=>?_⟩;refine yx ?_;walk_at "rd";have s3:=ag (HO.lst []) hq;refine⟨_,_,rfl,rfl,⟨_,ht.sq⟩,⟨_,aL (s3 _ _ gp)⟩,yw (xs:=f.map fun k=>L2.T (kn k)) (ys:=(pcs f l).map L2.T) (by rw[yV,yV,hlen]) (fun i σ' G'=>∃x5 x6 x7 ds vs,σ'=[some (L2.T l),some (L2.T wd),some (.ref t),some (.ref pp),some (.ref q),x5,x6,x7]/\Same G G'/\NoT G'/\G' q=some (.lst vs)/\A2 (PtAt G') vs ds/\mO (fun z:K9 × List Nat=>rdP z.1 z.2) ((f.zip (pcs f l)).take i)=some ds) ?_ ?_ ?_ ?_⟩
    ·exact⟨none,none,none,[],[],rfl,s3,aj n2 rfl,ad,.nil,by rw[List.take_zero];rfl⟩
    ·rintro i σ' G' ⟨_,_,_,ds,vs,rfl,sG,nG,gq,A,em⟩
     exact⟨ht.sq,aL (sG _ _ gp)⟩
    ·rintro i x y σ' G' z hx hy hz ⟨x5,x6,x7,ds,vs,rfl,sG,nG,gq,A,em⟩
     walk_at "rd";rw[List.getElem?_map]at hx hy;obtain⟨kd,hk,rfl⟩:=fS.mp hx;obtain⟨m,hm,rfl⟩:=fS.mp hy;have s4:=ag (HO.tup [L2.T (kn kd),L2.T m]) hz;have n4:NoT (upd G' z (HO.tup [L2.T (kn kd),L2.T m])):=aj nG rfl;have hzz:(f.zip (pcs f l))[i]? = some (kd,m):=by rw[List.getElem?_zip_eq_some];exact⟨hk,hm⟩
     refine⟨z,_,rfl,bc ad,rfl,_,_,rfl,_,_,rfl,rfl,?_⟩;generalize upd G' z (HO.tup [L2.T (kn kd),L2.T m])=G4 at s4 n4 |-
     refine⟨kd,by cases kd <;> rfl,fun fa hfa=>⟨.inl ⟨_,aL (s4 _ _ gq)⟩,fa,_,rfl,⟨kd,hfa,rfl⟩,n4,(rX hl l9 m (oH hm)).1,(rX hl l9 m (oH hm)).2,?_⟩⟩;change match rdP kd m with|some p=>∀v G5,Same G4 G5->NoT G5->PtAt G5 v p->_|none=>∀G5,Same G4 G5->NoT G5->KWe a.ar E G5
     have s5:=(s1.trans s2).trans (sG.trans s4);cases e:rdP kd m with
     |none=>
      rw[f8 (b:=(kd,m)) e (oH hzz)]at k;exact fun G5 s6 n6=>k G5 (s5.trans s6) n6
     |some d=>
      intro v G5 s6 n6 hv;have gq5:=s6 _ _ (s4 _ _ gq);have kt:∀t' l',G5 t'=some (.tup l')->upd G5 q (.lst (vs++[v])) t'=some (.tup l'):=fun t' l' e=>by
       rw[aw fun z=>by rw[z,gq5]at e;cases e];exact e
      have kt0:∀t' l',G' t'=some (.tup l')->upd G5 q (.lst (vs++[v])) t'=some (.tup l'):=fun t' l' e=>kt _ _ (s6 _ _ (s4 _ _ e));have il:i<f.length:=by
       rcases YY i f.length with h|h
       ·exact h
       ·rw[List.getElem?_eq_none h]at hk;cases hk
      have dl:ds.length<=10:=by
       have h1:=gL em;have h2:=List.length_take_le i (f.zip (pcs f l));lia
      refine⟨q,vs,v,rfl,rfl,gq5,by rw[A.len];lia,_,_,_,ds++[d],vs++[v],⟨rfl,rfl,rfl⟩,fun c o e=>?_,aj n6 rfl,ad,A2.snoc (A.imp fun x y _ _ h=>PtAt.mv kt0 h) (PtAt.mv kt hv),?_⟩
      ·rw[aw (aq e hq)]
       exact s6 _ _ (s4 _ _ (sG _ _ e))
      ·rw[Ye,hzz]
       show mO _ (_++[(kd,m)])=_;rw[ii,em];show(rdP kd m).bind _=_;rw[e];rfl
    ·rintro σ' G' ⟨x5,x6,x7,ds,vs,rfl,sG,nG,gq,A,em⟩
     walk_at "rd";rw[vL (by rw[yV,List.length_zip];exact Nat.min_le_left _ _)]at em;rw[em]at k;have dl:ds.length<=10:=by
      have h1:=gL em;rw[List.length_zip]at h1;lia
     have vl':=A.len;refine⟨one,fun p1 h1=>⟨_,_,ad,(aw (aq gq h1)).trans gq,by show 1+vs.length<=_;lia,fun p2 h2=>⟨_,.inl ⟨aL ad,fun r hr=>?_⟩⟩⟩⟩;have s6:=((ag (HO.lst [L2.T wd]) h1).trans (ag (HO.lst ([L2.T wd]++vs)) h2)).trans (ag (HO.tup ([L2.T wd]++vs)) hr);exact k _ _ (((s1.trans s2).trans sG).trans s6) (aj (aj (aj nG rfl) rfl) rfl) ⟨r,vs,rfl,ad,A.imp fun x y _ _ h=>PtAt.mv (fun t' l' e=>s6 _ _ e) h⟩
   ·rename_i hlen
    rw[Option.bind_some,if_neg (by lia)]at k;exact⟨one,k _ (s1.trans s2) n2 none⟩
 ·obtain⟨t,ht,hb,k⟩:=oJ k
  refine⟨_,(aa (aE (cP (bt (ay (bW K) rfl T.aK aH (fa2 (fv 0) (bM (v:=.ty "str") rfl T.dW cO rfl))))) (af (eH T.bv T.bg cr)) ao)
   (aa (aC 1 ND (aN K (aP K xn mG mK cE (fv 0) (fa1 (ac [32]))) ae))
   (aa (aE (eJ (nv T.ck (fv 1) (cp (v:=.ref a.ck) rfl T.g_ rfl)) (by with_unfolding_all rfl)) (af (eH T.bv T.bg cr)) ao)
   (aa (aC 2 ND (fV T.ck (cp (v:=.ref a.ck) rfl T.g_ rfl) (fv 1) (fun _ _=>rfl)))
   (aa (aC 3 ND (az (iA T) hr aB (fa2 (fv 2) (fv 0))))
   (aa (aE (ak (bO K HU) (ay (aS K) rfl T.bD bd (fa1 (fv 3))) (ay (aS K) rfl T.bD bd (fa1 (fv 2)))) (af (eH T.bv T.bg cr)) ao)
   (aa (aC 4 ND (aX (FA.pa bw)))
   (aa (eW (by passes_own) rfl (ut K rfl T.uu (fv 2) (fv 3)) (kj K (n:=2) rfl (dm (aR (i:=5) ND rfl (Or.inl rfl)) (dm (aR (i:=6) ND rfl (Or.inl rfl)) ki))) (aa (aC 7 ND (fV T.c_ (cp (v:=.ref a.c_) rfl T.mL rfl) (fv 5) (fun _ _=>rfl)))
   (af (dy (aP K mw lI lh bP (fv 4) (fa1 (xW 7 (dD T) hr.mono aB (fa1 (fv 6)))))))))
   (af (ai (aM (cA K) rfl T.cG bY (fa1 (ah b_ (aX (fa1 (fv 1))) (fv 4)))))))))))))),?_⟩
  walk_at "rd";simp only[ht,Aa ht nx];exact itp trivial ⟨one,k H (Same.refl _) hN none⟩
end
open PySem L2 K3 M2 K22
section
variable{pS:Addr}{ns:List Int}{P:Program}{w:World}{K:W.Frag}{mg:Str->Option Value}{base:Heap}{a:Adr}
open MT
noncomputable def d7(r:List Nat × List Nat × Int):List Nat:=aG [32] [r.1,r.2.1,NT r.2.2]
noncomputable def wrP:K9->Pt->List Nat
 | .currency,.no=>[97,110,121]
 |_,.no=>[45]
 | .note,.w l=>if l=[] then [124] else [124,32]++l
 |_,.w l=>l
 | .day,.i n=>DT n
 | .month,.i n=>(DT (FD n)).take 7
 |_,.i n=>NT n
 |_,.l is=>aG [44] (is.map NT)
 |_,.r rs=>aG [32] (rs.map d7)
def wOk(l:List Nat):Prop:=rw l=true/\37∉l/\l.length<=14
def nOk(n:Int):Prop:=-10 ^ 29<n/\n<10 ^ 29
def dN:K9->Pt->Prop
 | .word,.w l=>wOk l
 | .currency,.w l=>wOk l/\l≠[97,110,121]
 | .keeper,.w l=>wOk l/\l≠[45]
 | .currency,.no=>True
 | .keeper,.no=>True
 | .shelf,.w l=>cq l
 | .number,.i n=>nOk n
 | .day,.i n=>0<=n/\n<=146096
 | .month,.i n=>0<=n/\n<=4799
 | .weights,.l is=>is≠[]/\is.length<=9/\∀n∈is,nOk n
 | .rows,.r rs=>rs≠[]/\rs.length<=5/\∀r∈rs,wOk r.1/\wOk r.2.1/\nOk r.2.2
 | .note,.w l=>nt l=true/\37∉l
 |_,_=>False
theorem nOk.wide{n:Int}(h:nOk n):-10 ^ 240<n/\n<10 ^ 240:=by
 have e:(10:Int) ^ 29<10 ^ 240:=by decide +kernel
 exact⟨by have:=h.1;lia,by have:=h.2;lia⟩
theorem fG{n:Int}(h:nOk n):(NT n).length<=30:=by
 have e:(10:Int) ^ 29=((10 ^ 29:Nat):Int):=by decide +kernel
 obtain⟨h0,h1⟩:=h;unfold NT;split
 ·have:=lQ 29 (-n).toNat (by lia) (by decide)
  rw[xR];lia
 ·have:=lQ 29 n.toNat (by lia) (by decide)
  lia
def pl(l:List Nat):Prop:=∀c∈l,c<128/\c≠37
theorem pl.app{l r:List Nat}(h:pl l)(g:pl r):pl (l++r):=fun c hc=>(vY.mp hc).elim (h c) (g c)
theorem Ac(n:Nat):pl (dg n):=fun c hc=>by
 have:=jc n c hc;simp[MT.isD]at this;lia
theorem wJ(n:Int):pl (NT n):=by
 unfold NT;split
 ·intro c hc
  rcases zv.mp hc with h|h
  ·rw[h];decide
  ·exact Ac _ c h
 ·exact Ac _
theorem wf(k n:Nat):pl (pd k n):=fun c hc=>by
 have:=gF k n c hc;simp[MT.isD]at this;lia
theorem AO(d:Int):pl (DT d):=by
 unfold DT TX;have h:pl [45]:=by unfold pl;decide
 exact((((wf _ _).app h).app (wf _ _)).app h).app (wf _ _)
theorem tD{l:List Nat}{a b:Nat}:lie l a b=true↔∀c∈l,a<=c/\c<=b:=by
 unfold lie;rw[Zt];simp
theorem eN{l:List Nat}:rw l=true↔l≠[]/\(∀c∈l,33<=c/\c<=126)/\124∉l:=by
 unfold rw;rw[mx,mx,tD,decide_eq_true_eq,decide_eq_true_eq];exact and_congr_left fun _=>not_congr Zy
theorem wOk.pl{l:List Nat}(h:wOk l):pl l:=fun c hc=>by
 have:=(eN.mp h.1).2.1 c hc;exact⟨by lia,fun e=>h.2.1 (e ▸ hc)⟩
theorem fT{s:Nat}(hs:s<128/\s≠37){xs:List (List Nat)}(h:∀x∈xs,pl x):pl (aG [s] xs):=fun c hc=>by
 rcases dt hc with h1|⟨x,hx,h1⟩
 ·rw[h1];exact hs
 ·exact h x hx c h1
theorem o9{s:Nat}(n:Nat):∀ {xs:List (List Nat)},(∀x∈xs,x.length<=n)->(aG [s] xs).length<=xs.length*(n+1)
 | [],_=>uG _
 | [x],h=>by
  have:=h x (by simp);show x.length<=_;simp;lia
 |x::y::r,h=>by
  rw[bo,zx,xR];have h1:=h x (by simp);have h2:=o9 (s:=s) n (xs:=y::r) fun z hz=>h z (xM _ hz);simp only[xR,Nat.add_mul,Nat.one_mul]at h2 |-
  lia
theorem oE{r:List Nat × List Nat × Int}(h:wOk r.1/\wOk r.2.1/\nOk r.2.2):(d7 r).length<=60:=by
 have h1:=h.1.2.2;have h2:=h.2.1.2.2;have h3:=fG h.2.2;unfold d7;rw[bo,bo,zx,xR,zx,xR];show r.1.length+(r.2.1.length+((NT r.2.2).length+1)+1)<=60;lia
theorem zi{r:List Nat × List Nat × Int}(h:wOk r.1/\wOk r.2.1/\nOk r.2.2):pl (d7 r):=
 fT (by decide) fun x hx=>by
  simp only[zv,oO,or_false]at hx;rcases hx with rfl|rfl|rfl
  ·exact h.1.pl
  ·exact h.2.1.pl
  ·exact wJ _
noncomputable def kl:K9->Nat
 | .weights=>279
 | .rows=>305
 | .note=>42
 | .number=>30
 |_=>14
theorem d9{n:Int}(h:0<=n/\n<=4799):0<=FD n/\FD n<=146096:=by
 have h1:=xa h.1;have h2:=AL h.2;have h3:=xw n;exact⟨h1,by lia⟩
theorem d8{l:List Nat}:nt l=true↔l.length<=40/\l.head? ≠ some 32/\l.getLast? ≠ some 32/\∀c∈l,32<=c/\c<=126:=by
 unfold nt;rw[mx,mx,mx,tD,decide_eq_true_eq,decide_eq_true_eq,CM,and_assoc,and_assoc];simp
theorem dY{l:List Nat}(h:cq l):l.length<=14/\pl l/\wOk l:=by
 rcases h with rfl|rfl
 ·exact⟨by decide,by unfold pl;decide,by decide,by decide,by decide⟩
 ·exact⟨by decide,by unfold pl;decide,by decide,by decide,by decide⟩
theorem o_{k:K9}{p:Pt}(h:dN k p):(wrP k p).length<=kl k/\pl (wrP k p):=by
 cases k <;> cases p <;> try exact qT h
 ·exact⟨h.2.2,h.pl⟩
 ·exact⟨h.1.2.2,h.1.pl⟩
 ·exact⟨by decide,show pl [97,110,121] by unfold pl;decide⟩
 ·exact⟨h.1.2.2,h.1.pl⟩
 ·exact⟨by decide,show pl [45] by unfold pl;decide⟩
 ·exact⟨(dY h).1,(dY h).2.1⟩
 ·exact⟨fG h,wJ _⟩
 ·have:=(lR h.1 h.2).2.1
  exact⟨show(DT _).length<=14 by lia,AO _⟩
 ·have:=(lR (d9 h).1 (d9 h).2).2.1
  exact⟨show((DT _).take 7).length<=14 by rw[r0];lia,fun c hc=>AO _ c (oX hc)⟩
 ·rename_i is
  refine⟨?_,fT (by decide) fun x hx=>by obtain⟨n,_,rfl⟩:=kJ.mp hx;exact wJ n⟩;have:=o9 (s:=44) 30 (xs:=is.map NT) fun x hx=>by obtain⟨n,hn,rfl⟩:=kJ.mp hx;exact fG (h.2.2 n hn)
  rw[yV]at this;have h2:=h.2.1;show(aG [44] (is.map NT)).length<=279;lia
 ·rename_i rs
  refine⟨?_,fT (by decide) fun x hx=>by obtain⟨n,hn,rfl⟩:=kJ.mp hx;exact zi (h.2.2 n hn)⟩;have:=o9 (s:=32) 60 (xs:=rs.map d7) fun x hx=>by obtain⟨n,hn,rfl⟩:=kJ.mp hx;exact oE (h.2.2 n hn)
  rw[yV]at this;have h2:=h.2.1;show(aG [32] (rs.map d7)).length<=305;lia
 ·rename_i l
  obtain⟨h1,h2⟩:=h;obtain⟨n1,_,_,n2⟩:=d8.mp h1;have pp:pl l:=fun c hc=>⟨by have:=n2 c hc;lia,fun e=>h2 (e ▸ hc)⟩;show(if l=[] then [124] else [124,32]++l).length<=42/\pl (if l=[] then [124] else [124,32]++l);split
  ·exact⟨by decide,by unfold pl;decide⟩
  ·exact⟨by rw[zx];show 2+l.length<=42;lia,pl.app (by unfold pl;decide) pp⟩
def vG(o:List Nat × List Pt):Prop:=∃f,cj aV o.1=some f/\A2 dN f o.2
noncomputable def dL(o:List Nat × List Pt):List Nat:=aG [32] (o.1::((cj aV o.1).getD []).zipWith wrP o.2)
theorem BF{β γ δ:Type}(g:β->γ->δ):∀ {i:Nat} {xs:List β} {ys:List γ} {z:δ},(xs.zipWith g ys)[i]? = some z->∃x y,xs[i]? = some x/\ys[i]? = some y/\z=g x y:=by
 intro i xs ys z h;rw[List.getElem?_zipWith]at h;split at h
 ·rename_i x y e1 e2
  exact⟨x,y,e1,e2,(wj h).symm⟩
 ·cases h
theorem zC{f:List K9}{ps:List Pt}(h:A2 dN f ps):((f.zipWith wrP ps).map mF).sum<=(f.map kl).sum:=by
 induction h with
 |nil=>decide
 |cons h _ ih=>
  have:=(o_ h).1;simp only[List.zipWith_cons_cons,rS,ZJ];lia
theorem B_{f:List K9}{ps:List Pt}(h:A2 dN f ps):∀x∈f.zipWith wrP ps,pl x:=by
 induction h with
 |nil=>exact fun _ h=>nomatch h
 |cons h _ ih=>
  intro x hx;rcases zv.mp hx with rfl|hx
  ·exact(o_ h).2
  ·exact ih x hx
theorem ik(s:Nat):∀ {xs:List (List Nat)},xs≠[]->(aG [s] xs).length+1=(xs.map mF).sum+xs.length
 | [],h=>(h rfl).elim
 | [x],_=>by show x.length+1=_;simp
 |x::y::r,_=>by
  rw[bo,zx,xR];have:=ik s (xs:=y::r) (fun z=>nomatch z);simp only[rS,ZJ,xR]at this |-
  lia
theorem uo{w:List Nat}{f:List K9}(h:cj aV w=some f):w.length+(f.map kl).sum+f.length<=449/\pl w:=by
 have m:=dH h;have:∀p∈aV,(p.1.length+(p.2.map kl).sum+p.2.length<=449)/\∀c∈p.1,c<128/\c≠37:=by decide
 exact this _ m
theorem tU{o:List Nat × List Pt}(h:vG o):pl (dL o)/\(dL o).length<=449:=by
 obtain⟨f,e,A⟩:=h;obtain⟨h1,h2⟩:=uo e;unfold dL;rw[e,YW];refine⟨fT (by decide) fun x hx=>?_,?_⟩
 ·rcases zv.mp hx with rfl|hx
  ·exact h2
  ·exact B_ A x hx
 ·have:=ik 32 (xs:=o.1::f.zipWith wrP o.2) (fun z=>nomatch z)
  have l:=zC A;have l2:(f.zipWith wrP o.2).length<=f.length:=by rw[Z9];exact Nat.min_le_left _ _
  simp only[rS,ZJ,xR]at this;lia
theorem pl.ok{l:List Nat}(h:pl l)(hl:l.length<=1000):ok l:=⟨fun c hc=>(h c hc).1,hl⟩
theorem Cj{l:List Nat}(h:l.length=10):bh l none (some (-3))=l.take 7:=by unfold bh HT.sIx;rw[h];rfl
def sp_mF:Sp:=sp1 fun x H Q _=>asI x fun m=>NoT H/\(0<=m/\m<=4799)/\Q (L2.T ((DT (FD m)).take 7)) H
theorem mI(T:Txt w K mg a):Fo P w K mg base "month_text" 7 sp_mF:=by
 refine T.oP.hg ["month"] (gG1 fun x0 fA cdv A outer s H Q E ND HU hr h=>?_);refine sy (bu h) fun m yy1 hN hm k=>?_;subst yy1;refine⟨hN,_,(af (ai (aA aT (az (cJ T) hr aB (fa1 (az (bU T) hr aB (fa1 (fv 0))))) aJ (aD (jV fF ae))))),?_⟩;walk_at "rd";have l10:=(lR (d9 hm).1 (d9 hm).2).2.1;refine⟨hN,hN,d9 hm,by rw[l10,wz];decide,?_⟩;rw[show bh (DT (FD m)) none (some (-3))=_ from Cj l10];exact k
def sp_ms:Sp:=sp1 fun x H Q _=>NoT H/\Q x H
theorem gi(T:Txt w K mg a):Fo P w K mg base "write_word" 1 sp_ms:=by
 refine T.pC.hg ["word"] (gG1 fun x0 fA cdv A outer s H Q E ND HU hr h=>?_);obtain⟨hN,k⟩:=h;refine⟨hN,_,(af (ai (fv 0))),?_⟩;walk_at "rd";exact k
def sp_h_:Sp:=sp1 fun x H Q _=>NoT H/\((x = .non/\Q (L2.T [97,110,121]) H)\/∃l,x=L2.T l/\Q (L2.T l) H)
theorem iQ(T:Txt w K mg a):Fo P w K mg base "write_currency" 1 sp_h_:=by
 refine T.jb.hg ["currency"] (gG1 fun x0 fA cdv A outer s H Q E ND HU hr h=>?_);obtain⟨hN,h⟩:=h;refine⟨hN,_,(af (ai (cg (eJ (du (fv 0))) (ac [97,110,121]) (fv 0)))),?_⟩;walk_at "rd";rcases h with ⟨rfl,k⟩|⟨l,rfl,k⟩
 ·exact itp rfl k
 ·exact itn (fun z=>nomatch z) k
def sp_ka:Sp:=sp1 fun x H Q _=>NoT H/\((x = .non/\Q (L2.T [45]) H)\/∃l,x=L2.T l/\Q (L2.T l) H)
theorem j9(T:Txt w K mg a):Fo P w K mg base "write_keeper" 1 sp_ka:=by
 refine T.ll.hg ["path"] (gG1 fun x0 fA cdv A outer s H Q E ND HU hr h=>?_);obtain⟨hN,h⟩:=h;refine⟨hN,_,(af (ai (cg (eJ (du (fv 0))) (ac [45]) (fv 0)))),?_⟩;walk_at "rd";rcases h with ⟨rfl,k⟩|⟨l,rfl,k⟩
 ·exact itp rfl k
 ·exact itn (fun z=>nomatch z) k
end
open PySem L2 K3 M2 K22
section
variable{pS:Addr}{ns:List Int}{P:Program}{w:World}{K:W.Frag}{mg:Str->Option Value}{base:Heap}{a:Adr}
open MT
theorem i4{β γ:Type}(g:β->γ):∀R:List β,mO (fun b=>some (g b)) R=some (R.map g)
 | []=>rfl
 |b::r=>by unfold mO;rw[i4 g r];rfl
theorem o7{ws:List V}{is:List (List Nat)}(h:A2 (fun v c=>v=L2.T c) ws is):ws=is.map L2.T:=by
 induction h with
 |nil=>rfl
 |cons h _ ih=>rw[h,ih];rfl
theorem fj{s:Nat}{ls:List (List Nat)}(h:∀l∈ls,l.length<=1000)(hl:ls.length<=1900):k7 [s] ls:=p9 h hl
def sp_jw:Sp:=sp1 fun x H Q _=>NoT H/\∃(p:Addr) (is:List Int),x = .ref p/\H p=some (.tup (is.map V.int))/\is.length<=9/\(∀n∈is,nOk n)/\Q (L2.T (aG [44] (is.map NT))) H
theorem jf(T:Txt w K mg a):Fo P w K mg base "write_weights" 3 sp_jw:=by
 refine T.j3.hg ["weights"] (gG1 fun x0 fA cdv A outer s H Q E ND HU hr h=>?_);obtain⟨hN,p,is,rfl,hp,hl,hn,k⟩:=h;have sz:2000<=sizeLine:=by rw[wz];decide
 refine⟨hN,_,(af (ai (aP K xn pV qC (bQ K) (ac [44]) (fa1 (bG rfl (cl:=_) (x:="weight") (xs:=["weight"]) (fr:=[]) (ks:=[]) (by walk_at "cq") rfl (gW K (fv 0)) (fun _ _ _ _ _=>(aR (i:=0) (cT (l:=["weight"]) (by decide)) rfl (Or.inl rfl))) (fun _ _ _ _ _=>b9) (fun _ _ _ _ _=>(az (cf T) hr iE (fa1 (fv 0))))))))),?_⟩;walk_at "rd";refine pP ?_;walk_at "rd";refine⟨⟨_,bc hp⟩,?_⟩;refine cmO (fM fun G s=>fu s (bc hp)) is (fun v b=>v=V.int b) (gS (g:=V.int) (fun _=>rfl) _) (fun _ v c=>v=L2.T c) (fun _ _ _ _ _ h=>h) (fun n=>some (NT n)) hN (by rw[yV];lia) (fun _ _ _ r=>r) (fun v b hb e G N1 sG nG n1=>?_) fun cs hcs D ws G sG nG gD A=>?_
 ·subst e
  walk_at "rd";exact⟨nG,(hn b hb).wide,n1 _ rfl _ G (Same.refl _) nG rfl⟩
 ·rw[i4]at hcs
  cases hcs;walk_at "rd";refine⟨is.map NT,aL (by rw[gD,o7 A]),fj (fun l hl=>?_) (by rw[yV];lia),H,Gc.none sG,k⟩;obtain⟨n,hm,rfl⟩:=kJ.mp hl;exact wx (fG (hn n hm)) (by decide)
def rOk(r:List Nat × List Nat × Int):Prop:=wOk r.1/\wOk r.2.1/\nOk r.2.2
def sp_oi:Sp:=sp1 fun x H Q _=>NoT H/\∃(p:Addr) (r:List Nat × List Nat × Int),x = .ref p/\H p=some (.tup (rwL r))/\rOk r/\Q (L2.T (d7 r)) H
theorem nQ(T:Txt w K mg a):Fo P w K mg base "write_row" 3 sp_oi:=by
 refine T.rn.hg ["row"] (gG1 fun x0 fA cdv A outer s H Q E ND HU hr h=>?_);obtain⟨hN,p,r,rfl,hp,hrr,k⟩:=h;have sz:2000<=sizeLine:=by rw[wz];decide
 refine⟨hN,_,(af (ai (aP K xn pV qC (bQ K) (ac [32]) (fa1 (aX (fa3 (aN K (fv 0) ae) (aN K (fv 0) ae) (az (cf T) hr aB (fa1 (aN K (fv 0) ae))))))))),?_⟩;walk_at "rd";refine⟨_,_,.inr (bc hp),aO (j:=0) rfl,_,_,.inr (bc hp),aO (j:=1) rfl,_,_,.inr (bc hp),aO (j:=2) rfl,hN,?_⟩;change _/\_;refine⟨hrr.2.2.wide,by lia,fun q hq=>⟨[r.1,r.2.1,NT r.2.2],aL ad,fj (fun l hl=>?_) (by show 3<=1900;decide),H,Gc.none (ag _ hq),k⟩⟩;simp only[zv,oO,or_false]at hl;rcases hl with rfl|rfl|rfl
 ·exact wx hrr.1.2.2 (by decide)
 ·exact wx hrr.2.1.2.2 (by decide)
 ·exact wx (fG hrr.2.2) (by decide)
def sp_mK:Sp:=sp1 fun x H Q _=>NoT H/\∃l,x=L2.T l/\l.length<=40/\Q (L2.T (if l=[] then [124] else [124,32]++l)) H
theorem l5(T:Txt w K mg a):Fo P w K mg base "write_note" 1 sp_mK:=by
 refine T.pb.hg ["note"] (gG1 fun x0 fA cdv A outer s H Q E ND HU hr h=>?_);obtain⟨hN,l,rfl,hl,k⟩:=h;have sz:2000<=sizeLine:=by rw[wz];decide
 refine⟨hN,_,(af (ai (cg (ak (aF K HU) (fv 0) (ac [])) (ac [124]) (ah av (ac [124,32]) (fv 0))))),?_⟩;walk_at "rd";split
 ·rename_i h1
  rw[if_pos h1]at k;exact k
 ·rename_i h1
  rw[if_neg h1]at k;exact⟨by lia,k⟩
def sp_j_:Sp:=sp1 fun x H Q _=>NoT H/\asI x fun n=>nOk n/\Q (L2.T (NT n)) H
theorem kf(T:Txt w K mg a):Fo P w K mg base "write_number" 3 sp_j_:=by
 refine T.lO.hg ["number"] (gG1 fun x0 fA cdv A outer s H Q E ND HU hr h=>?_);obtain⟨hN,h2⟩:=h;refine dQ (bu h2) fun n yy1 hn k=>?_;subst yy1;refine⟨hN,_,(af (ai (az (cf T) hr aB (fa1 (fv 0))))),?_⟩;walk_at "rd";exact⟨hN,hn.wide,k⟩
def sp_o6:Sp:=sp1 fun x H Q _=>NoT H/\asI x fun d=>(0<=d/\d<=146096)/\Q (L2.T (DT d)) H
theorem pc(T:Txt w K mg a):Fo P w K mg base "write_day" 7 sp_o6:=by
 refine T.pG.hg ["day"] (gG1 fun x0 fA cdv A outer s H Q E ND HU hr h=>?_);obtain⟨hN,h2⟩:=h;refine dQ (bu h2) fun d yy1 hd k=>?_;subst yy1;refine⟨hN,_,(af (ai (az (cJ T) hr aB (fa1 (fv 0))))),?_⟩;walk_at "rd";exact⟨hN,hd,k⟩
def sp_mx:Sp:=sp1 fun x H Q _=>NoT H/\∃(p:Addr) (vs:List V) (rs:List (List Nat × List Nat × Int)),x = .ref p/\H p=some (.tup vs)/\A2 (MkAt rwL H) vs rs/\rs.length<=5/\(∀r∈rs,rOk r)/\Q (L2.T (aG [32] (rs.map d7))) H
theorem me(T:Txt w K mg a):Fo P w K mg base "write_rows" 4 sp_mx:=by
 refine T.oY.hg ["rows"] (gG1 fun x0 fA cdv A outer s H Q E ND HU hr h=>?_);obtain⟨hN,p,vs,rs,rfl,hp,AA,hl,hrr,k⟩:=h;have sz:2000<=sizeLine:=by rw[wz];decide
 refine⟨hN,_,(af (ai (aP K xn pV qC (bQ K) (ac [32]) (fa1 (bG rfl (cl:=_) (x:="row") (xs:=["row"]) (fr:=[]) (ks:=[]) (by walk_at "cq") rfl (gW K (fv 0)) (fun _ _ _ _ _=>(aR (i:=0) (cT (l:=["row"]) (by decide)) rfl (Or.inl rfl))) (fun _ _ _ _ _=>b9) (fun _ _ _ _ _=>(az (nQ T) hr iE (fa1 (fv 0))))))))),?_⟩;walk_at "rd";refine pP ?_;walk_at "rd";refine⟨⟨_,bc hp⟩,?_⟩;refine cmO (fM fun G s=>fu s (bc hp)) rs (MkAt rwL H) AA (fun _ v c=>v=L2.T c) (fun _ _ _ _ _ h=>h) (fun r=>some (d7 r)) hN (by rw[AA.len];lia) (fun _ _ _ r=>r) (fun v b hb e G N1 sG nG n1=>?_) fun cs hcs D ws G sG nG gD A=>?_
 ·obtain⟨t,rfl,ht⟩:=e
  walk_at "rd";exact⟨nG,t,b,rfl,sG _ _ ht,hrr b hb,n1 _ rfl _ G (Same.refl _) nG rfl⟩
 ·rw[i4]at hcs
  cases hcs;walk_at "rd";refine⟨rs.map d7,aL (by rw[gD,o7 A]),fj (fun l hl=>?_) (by rw[yV];lia),H,Gc.none sG,k⟩;obtain⟨n,hm,rfl⟩:=kJ.mp hl;exact wx (oE (hrr n hm)) (by decide)
def spW(k:K9):Sp:=sp1 fun x H Q _=>NoT H/\∃p,dN k p/\PtAt H x p/\Q (L2.T (wrP k p)) H
theorem ip(T:Txt w K mg a):∀f sp,(∃k,mg (wnm k)=some (.ref f)/\sp=spW k)->∃k,k<=9/\FnAt P w K mg base k f sp:=by
 rintro f sp ⟨k,h,rfl⟩;have fin:∀ {vs:List V} {H:Hp} {Q:VK} {E:XK} {k:K9},spW k vs H Q E->∃x p,vs=[x]/\NoT H/\dN k p/\PtAt H x p/\Q (L2.T (wrP k p)) H:=fun z=>by
  obtain⟨x,rfl,hN,p,z⟩:=sp1.inv z;exact⟨x,p,rfl,hN,z⟩
 cases k
 ·refine⟨_,(by decide:1<=9),FnAt.of (gi T) h fun vs H Q E z=>?_⟩
  obtain⟨x,p,rfl,hN,h1,h2,k⟩:=fin z;cases p <;> try exact qT h1
  cases h2;exact⟨hN,k⟩
 ·refine⟨_,(by decide:1<=9),FnAt.of (iQ T) h fun vs H Q E z=>?_⟩
  obtain⟨x,p,rfl,hN,h1,h2,k⟩:=fin z;cases p <;> try exact qT h1
  ·cases h2;exact⟨hN,.inr ⟨_,rfl,k⟩⟩
  ·cases h2;exact⟨hN,.inl ⟨rfl,k⟩⟩
 ·refine⟨_,(by decide:1<=9),FnAt.of (j9 T) h fun vs H Q E z=>?_⟩
  obtain⟨x,p,rfl,hN,h1,h2,k⟩:=fin z;cases p <;> try exact qT h1
  ·cases h2;exact⟨hN,.inr ⟨_,rfl,k⟩⟩
  ·cases h2;exact⟨hN,.inl ⟨rfl,k⟩⟩
 ·refine⟨_,(by decide:1<=9),FnAt.of (gi T) h fun vs H Q E z=>?_⟩
  obtain⟨x,p,rfl,hN,h1,h2,k⟩:=fin z;cases p <;> try exact qT h1
  cases h2;exact⟨hN,k⟩
 ·refine⟨_,(by decide:3<=9),FnAt.of (kf T) h fun vs H Q E z=>?_⟩
  obtain⟨x,p,rfl,hN,h1,h2,k⟩:=fin z;cases p <;> try exact qT h1
  cases h2;exact⟨hN,h1,k⟩
 ·refine⟨_,(by decide:7<=9),FnAt.of (pc T) h fun vs H Q E z=>?_⟩
  obtain⟨x,p,rfl,hN,h1,h2,k⟩:=fin z;cases p <;> try exact qT h1
  cases h2;exact⟨hN,h1,k⟩
 ·refine⟨_,(by decide:7<=9),FnAt.of (mI T) h fun vs H Q E z=>?_⟩
  obtain⟨x,p,rfl,hN,h1,h2,k⟩:=fin z;cases p <;> try exact qT h1
  cases h2;exact⟨hN,h1,k⟩
 ·refine⟨_,(by decide:3<=9),FnAt.of (jf T) h fun vs H Q E z=>?_⟩
  obtain⟨x,p,rfl,hN,h1,h2,k⟩:=fin z;cases p <;> try exact qT h1
  obtain⟨q,rfl,hq⟩:=h2;exact⟨hN,q,_,rfl,hq,h1.2.1,h1.2.2,k⟩
 ·refine⟨_,(by decide:4<=9),FnAt.of (me T) h fun vs H Q E z=>?_⟩
  obtain⟨x,p,rfl,hN,h1,h2,k⟩:=fin z;cases p <;> try exact qT h1
  obtain⟨q,vs,rfl,hq,A⟩:=h2;exact⟨hN,q,vs,_,rfl,hq,A,h1.2.1,h1.2.2,k⟩
 ·refine⟨_,(by decide:1<=9),FnAt.of (l5 T) h fun vs H Q E z=>?_⟩
  obtain⟨x,p,rfl,hN,h1,h2,k⟩:=fin z;cases p <;> try exact qT h1
  cases h2;exact⟨hN,_,rfl,(d8.mp h1.1).1,k⟩
def sp_rS:Sp:=sp1 fun x H Q _=>NoT H/\∃o,vG o/\OrAt H x o/\Q (L2.T (dL o)) H
theorem so(T:Txt w K mg a):Fo P w K mg base "line_of" 10 sp_rS:=by
 refine T.uI.hg ["order","texts","kind","part","writer"] (gG1 fun x0 fA cdv A outer s H Q E ND HU hr h=>?_);obtain⟨hN,o,ho,⟨q,vs,rfl,hq,AA⟩,k⟩:=h;obtain⟨f,ef,B⟩:=ho;have fl:=db ef;have al:=AA.len;have bl:=B.len;have sz:2000<=sizeLine:=by rw[wz];decide
 unfold dL at k;rw[ef,YW]at k;refine⟨hN,_,(aa (aC 1 ND (aX (fa1 (aN K (fv 0) ae))))
  (aa (eW (by passes_own) rfl (ug K rfl T.uu (fV T.ck (cp (v:=.ref a.ck) rfl T.g_ rfl) (aN K (fv 0) ae) (fun _ _=>rfl)) (aA (uk K) (fv 0) (aD ae) aJ)) (kj K (n:=2) rfl (dm (aR (i:=2) ND rfl (Or.inl rfl)) (dm (aR (i:=3) ND rfl (Or.inl rfl)) ki))) (aa (aC 4 ND (fV T.eC (cp (v:=.ref a.eC) rfl T.uO rfl) (fv 2) (fun _ _=>rfl)))
  (af (dy (aP K mw lI lh bP (fv 1) (fa1 (xW 4 (ip T) hr.mono aB (fa1 (fv 3)))))))))
  (af (ai (aP K xn pV qC (bQ K) (ac [32]) (fa1 (fv 1))))))),?_⟩
 walk_at "rd";refine⟨_,_,.inr (bc hq),aO (j:=0) rfl,wx (by decide) sz,fun p hp=>?_⟩;have s1:=ag (HO.lst [L2.T o.1]) hp;have n1:NoT (upd H p (HO.lst [L2.T o.1])):=aj hN rfl;refine ww ?_;walk_at "rd";refine⟨_,_,.inr (bc (s1 _ _ hq)),aO (j:=0) rfl,f,ef,fun t ht=>?_⟩;have ht:CsT K t (f.map fun k=>L2.T (kn k)):=ht;have e1:bX (L2.T o.1::vs) (some 1) none=vs:=gs _ 1;refine⟨q,_,rfl,bc (s1 _ _ hq),?_,fun r hr'=>?_⟩
 ·rintro⟨z,_⟩
  have e:=HT.sIx_nat (L2.T o.1::vs).length 0 1;rw[show HT.sIx (L2.T o.1::vs).length 0 (some 1)=_ from e,xR]at z;lia
 rw[e1];have s2:=s1.trans (ag (HO.tup vs) hr');have n2:NoT (upd (upd H p (HO.lst [L2.T o.1])) r (HO.tup vs)):=aj n1 rfl;have gp:upd (upd H p (HO.lst [L2.T o.1])) r (HO.tup vs) p=some (.lst [L2.T o.1]):=(aw (aq ad hr')).trans ad;have gr:upd (upd H p (HO.lst [L2.T o.1])) r (HO.tup vs) r=some (.tup vs):=ad;generalize upd (upd H p (HO.lst [L2.T o.1])) r (HO.tup vs)=G2 at s2 n2 gp gr |-
 refine⟨t,r,rfl,rfl,⟨_,ht.sq⟩,⟨_,bc gr⟩,vU (xs:=f.map fun k=>L2.T (kn k)) (ys:=vs) (by rw[yV];lia) (fun i σ' G'=>∃x2 x3 x4,σ'=[some (.ref q),some (.ref p),x2,x3,x4]/\Same H G'/\NoT G'/\G' r=some (.tup vs)/\G' p=some (.lst ((o.1::(f.zipWith wrP o.2).take i).map L2.T))) ?_ ?_ ?_ ?_⟩
 ·exact⟨none,none,none,rfl,s2,n2,gr,gp⟩
 ·rintro i σ' G' ⟨x2,x3,x4,rfl,sG,nG,gr',gp'⟩
  exact⟨ht.sq,bc gr'⟩
 ·rintro i x y σ' G' z hx hy hz ⟨x2,x3,x4,rfl,sG,nG,gr',gp'⟩
  walk_at "rd";rw[List.getElem?_map]at hx;obtain⟨kd,hk,rfl⟩:=fS.mp hx;obtain⟨d,hd,hyd⟩:=AA.at_ hy;obtain⟨d',hd',hok⟩:=B.at_ hk;rw[hd]at hd';cases hd';have s4:=ag (HO.tup [L2.T (kn kd),y]) hz;have n4:NoT (upd G' z (HO.tup [L2.T (kn kd),y])):=aj nG rfl;have s5:=sG.trans s4;refine⟨z,_,rfl,bc ad,rfl,_,_,rfl,_,_,rfl,rfl,?_⟩;generalize upd G' z (HO.tup [L2.T (kn kd),y])=G4 at s4 n4 s5 |-
  have il:i<vs.length:=by
   rcases YY i vs.length with h|h
   ·exact h
   ·rw[List.getElem?_eq_none h]at hy;cases hy
  have tl:=List.length_take_le i (f.zipWith wrP o.2);have gp4:=s4 _ _ gp';have gr2:=s4 _ _ gr';refine⟨kd,by cases kd <;> rfl,fun fa hfa=>⟨.inl ⟨_,aL gp4⟩,fa,_,rfl,⟨kd,hfa,rfl⟩,n4,d,hok,PtAt.mv (fun t l e=>s5 _ _ e) hyd,p,_,_,rfl,rfl,gp4,?_,_,_,_,⟨rfl,rfl,rfl⟩,fun c o' e=>?_,aj n4 rfl,?_,?_⟩⟩
  ·rw[yV,xR];lia
  ·rw[aw (aq e hp)];exact s5 _ _ e
  ·rw[aw (fun e=>by rw[e,gp4]at gr2;cases gr2)];exact gr2
  ·rw[ad]
   have e:(f.zipWith wrP o.2)[i]? = some (wrP kd d):=by rw[List.getElem?_zipWith,hk,hd]
   rw[Ye,e,ms]
   rfl
 ·rintro σ' G' ⟨x2,x3,x4,rfl,sG,nG,gr',gp'⟩
  walk_at "rd";have l2:(f.zipWith wrP o.2).length<=f.length:=by rw[Z9];exact Nat.min_le_left _ _
  rw[vL (by rw[yV];exact l2)]at gp';obtain⟨w1,w2⟩:=uo ef;refine⟨_,aL gp',fj (fun l hl=>?_) (by rw[xR];lia),H,Gc.none sG,k⟩;rcases zv.mp hl with rfl|hl
  ·lia
  ·obtain⟨i,hi,e⟩:=YS hl
   obtain⟨kd,d,e1,e2,rfl⟩:=BF wrP (List.getElem?_eq_some_iff.mpr ⟨hi,e⟩);obtain⟨d',hd',hok⟩:=B.at_ e1;rw[e2]at hd';cases hd';exact wx (o_ hok).1 (by cases kd <;> decide)
end
open PySem L2 K3 M2 K22
section
variable{pS:Addr}{ns:List Int}{P:Program}{w:World}{K:W.Frag}{mg:Str->Option Value}{base:Heap}{a:Adr}
open MT
theorem gG0{N:List Str}{qual:Str}{st:Stmt}{k:Nat}{f:Hp->VK->XK->Prop}(h:BdG P w K mg base N qual st k [] f):BG P w K mg base N qual st k 0 (sp0 f):=⟨fun vs H Q E h=>by rw[(sp0.inv h).1];rfl,fun fA cdv A outer s H vs Q E ND HU hr hs=>by obtain⟨rfl,hs⟩:=sp0.inv hs;exact h fA cdv A outer s H Q E ND HU hr hs⟩
theorem gX0{N:List Str}{qual:Str}{st:Stmt}{k:Nat}{f:Hp->VK->XK->Prop}(h:BdX P w K mg base N qual st k [] f):BX P w K mg base N qual st k 0 (sp0 f):=⟨fun vs H Q E h=>by rw[(sp0.inv h).1];rfl,fun fA cdv A outer s H vs Q E ND HU hr hs=>by obtain⟨rfl,hs⟩:=sp0.inv hs;exact h fA cdv A outer s H Q E ND HU hr hs⟩
theorem xN{l:List Nat}{i:Int}(h0:0<=i)(h1:i<l.length):atI l i=some (l.getD i.toNat 0):=by
 obtain⟨j,rfl⟩:∃j:Nat,i=j:=⟨i.toNat,by lia⟩;have hj:j<l.length:=by lia
 exact aO (by simp[List.getD,hj])
theorem lp{l:List Nat}{i:Int}(h0:0<=i)(h1:i<l.length):l.getD i.toNat 0∈l:=oH (by
 have hj:i.toNat<l.length:=by lia
 show l[i.toNat]? = some (l.getD i.toNat 0);simp[List.getD,hj])
def sp_at(K:W.Frag):Sp:=sp2 fun x y H Q _=>NoT H/\asR x fun p=>asI y fun k=>∃ns:List Int,SqL K H p (ns.map V.int)/\0<=k/\∀c,Q (.int c) H
theorem ci(T:Txt w K mg a):Fo P w K mg base "_law_at" 1 (sp_at K):=by
 refine T.vh.hg ["_law_script","_law_k"] (gG2 fun x0 x1 fA cdv A outer s H Q E ND HU hr h=>?_);obtain⟨hN,h⟩:=h;refine de (d6 h) fun p yy1 h1=>?_;subst yy1;refine de (bu h1) fun k yy1 yz=>dQ yz fun ns hp k0 q=>?_;subst yy1;refine⟨hN,_,(aa (aE (ak qS (fv 1) (ay (aS K) rfl T.bD bd (fa1 (fv 0)))) (af (ai (aN K (fv 0) (fv 1)))) ao)
  (af (ai ae))),?_⟩
 walk_at "rd";refine⟨_,.inl hp,?_⟩;rw[yV];by_cases hk:k<ns.length
 ·exact itp hk ⟨_,_,.inl hp,Bo k0 hk,q _⟩
 ·exact itn hk (q _)
def sp_xn(K:W.Frag):Sp:=sp2 fun x y H Q _=>NoT H/\asR x fun p=>asI y fun k=>∃ns:List Int,SqL K H p (ns.map V.int)/\(0<=k/\k<=1000)/\∀c,0<=c->c<2147483647->Q (.int c) H
theorem cz(T:Txt w K mg a):Fo P w K mg base "_law_mixed" 2 (sp_xn K):=by
 refine T.ou.hg ["_law_script","_law_k"] (gG2 fun x0 x1 fA cdv A outer s H Q E ND HU hr h=>?_);obtain⟨hN,h⟩:=h;refine de (d6 h) fun p yy1 h1=>?_;subst yy1;refine de (bu h1) fun k yy1 yz=>dQ yz fun ns hp k0 q=>?_;subst yy1;refine⟨hN,_,(af (ai (ah aU (ah av (ah av (ah bJ (az (ci T) hr aB (fa2 (fv 0) (ah av ae (ah aU (fv 1) ae)))) ae) (ah bJ ae (fv 1))) (az (ci T) hr aB (fa2 (fv 0) ae))) ae))),?_⟩;walk_at "rd";exact⟨hN,ns,hp,by lia,fun c=>⟨hN,ns,hp,fun c'=>q _ (qX _ (by decide)) (vb _ (by decide))⟩⟩
noncomputable def SIG:List Nat:=[33,34,35,36,38,39,40,41,42,43,44,45,46,47,48,49,50,51,52,53,54,55,56,57,58,59,60,61,62,63,64,65,66,67,68,69,70,71,72,73,74,75,76,77,78,79,80,81,82,83,84,85,86,87,88,89,90,91,92,93,94,95,96,97,98,99,100,101,102,103,104,105,106,107,108,109,110,111,112,113,114,115,116,117,118,119,120,121,122,123,125,126]
theorem ku:SIG.length=92:=by decide
theorem fR{c:Nat}:c∈SIG↔(33<=c/\c<=126)/\c≠37/\c≠124:=by
 constructor
 ·have h:∀c∈SIG,(33<=c/\c<=126)/\c≠37/\c≠124:=by decide
  exact h c
 ·rintro⟨⟨h1,h2⟩,h3,h4⟩
  have h:(rL 127).all (fun k=>!(decide (33<=k)&&decide (k≠37)&&decide (k≠124)) || decide (k∈SIG))=true:=by decide +kernel
  have:=Zt.mp h c (ZE.mpr (by lia))
  simpa [h1,h3,h4] using this
def sp_xi:Sp:=sp0 fun H Q _=>NoT H/\Q (L2.T SIG) H
theorem cC(T:Txt w K mg a):Fo P w K mg base "_law_signs" 1 sp_xi:=by
 refine T.pv.hg ["_law_some"] (gG0 fun  fA cdv A outer s H Q E ND HU hr h=>?_);obtain⟨hN,k⟩:=h;refine⟨hN,_,(aa (aC 0 ND (ac [33,34,35,36,38,39,40,41,42,43,44,45,46,47,48,49,50,51,52,53,54,55,56,57,58,59,60,61,62,63,64,65,66,67,68,69,70,71,72,73,74,75,76,77,78,79,80,81,82,83,84,85,86,87,88,89,90,91,92,93,94,95,96]))
  (af (ai (ah av (fv 0) (ac [97,98,99,100,101,102,103,104,105,106,107,108,109,110,111,112,113,114,115,116,117,118,119,120,121,122,123,125,126]))))),?_⟩
 walk_at "rd";exact⟨by rw[wz];decide,k⟩
def sp_zx:Sp:=sp1 fun x H Q _=>NoT H/\asI x fun c=>0<=c/\∀l,wOk l->l.length<=14->Q (L2.T l) H
theorem eU(T:Txt w K mg a):Fo P w K mg base "_law_text" 2 sp_zx:=by
 refine T.rg.hg ["_law_cell","_law_size","_law_step"] (gG1 fun x0 fA cdv A outer s H Q E ND HU hr h=>?_);obtain⟨hN,h⟩:=h;refine de (bu h) fun c yy1 yz=>?_;subst yy1;obtain⟨c0,q⟩:=yz;have sz:2000<=sizeLine:=by rw[wz];decide
 refine⟨hN,_,(aa (aC 1 ND (ah av ae (ah aU (fv 0) ae)))
  (aa (aC 2 ND (ah bJ (ah aU (ah bI (fv 0) ae) ae) (ah av ae (ah aU (ah bI (fv 0) ae) ae))))
  (af (ai (aP K xn pV qC (bQ K) (ac []) (fa1 (bG rfl (cl:=_) (x:="_law_k") (xs:=["_law_k"]) (fr:=["_law_cell","_law_step"]) (ks:=[0,2]) (by walk_at "cq") rfl (cn rfl T.dh (fa1 (fv 1))) (fun _ _ _ _ _=>(aR (i:=0) (cT (l:=["_law_k","_law_cell","_law_step"]) (by decide)) rfl (Or.inl rfl))) (fun _ _ _ _ _=>b9) (fun _ _ _ _ _=>(aN K (eM (cC T) hr.mono rfl iE) (ah aU (ah av (ah bI (fv 1) ae) (ah bJ (fv 0) (fv 2))) ae)))))))))),?_⟩
 walk_at "rd";have a0:0<=c / 14 % 2:=qX _ (by decide);have a1:c / 14 % 2<2:=vb _ (by decide);generalize c / 14 % 2*(1+c / 28 % 91)=st;refine⟨.inl ⟨by lia,by lia⟩,?_⟩;have L92:=ku;have z0:∀j:Nat,0<=(c / 2548+(j:Int)*st) % 92:=fun j=>qX _ (by decide);have z1:∀j:Nat,(c / 2548+(j:Int)*st) % 92<SIG.length:=fun j=>by rw[L92];exact vb _ (by decide)
 refine cmR (fun G=>NoT G) (fun D ys hD=>aj hN rfl) (1+c % 14).toNat (fun _=>true) (fun j:Nat=>L2.T [SIG.getD ((c / 2548+(j:Int)*st) % 92).toNat 0]) (fun R r=>?_) (by lia) (fun j hj H R _ r=>r) (fun j hj _ H' R hC r=>?_) (fun D hD=>?_)
 ·walk_at "rd"
  rw[show((1+c % 14).toNat:Int)=1+c % 14 by lia]at r;exact r
 ·walk_at "rd"
  refine⟨hC,.inl (by lia),by rw[L92];lia,?_⟩;show match atI SIG ((c / 2548+(j:Int)*st) % 92) with|some c=>R (L2.T [c]) H'|none=>False
  rw[xN (z0 j) (z1 j)];exact r
 ·refine qm (rL (1+c % 14).toNat) (fun j:Nat=>SIG.getD ((c / 2548+(j:Int)*st) % 92).toNat 0) (by rw[ad,Zs.mpr (by simp)]) (by rw[iZ];lia) ?_
  have hm:∀x∈(rL (1+c % 14).toNat).map fun j:Nat=>SIG.getD ((c / 2548+(j:Int)*st) % 92).toNat 0,(33<=x/\x<=126)/\x≠37/\x≠124:=fun x hx=>by
   obtain⟨j,_,rfl⟩:=kJ.mp hx;exact fR.mp (lp (z0 j) (z1 j))
  have hl:((rL (1+c % 14).toNat).map fun j:Nat=>SIG.getD ((c / 2548+(j:Int)*st) % 92).toNat 0).length=(1+c % 14).toNat:=by simp
  refine⟨H,Gc.none (ag _ hD),q _ ⟨eN.mpr ⟨fun e=>by rw[e]at hl;simp at hl;lia,fun x hx=>(hm x hx).1,fun hx=>(hm _ hx).2.2 rfl⟩,fun hx=>(hm _ hx).2.1 rfl,by lia⟩ (by lia)⟩
theorem yE(l:List Nat):(bh l (some 1) (some (-1))).length<=l.length-2/\∀c∈bh l (some 1) (some (-1)),c∈l:=by
 refine⟨?_,fun c hc=>vv (oX hc)⟩;unfold bh;have h1:HT.sIx l.length 0 (some 1)=min 1 l.length:=HT.sIx_nat l.length 0 1;have h2:HT.sIx l.length l.length (some (-1))<=l.length-1:=by
  cases l with
  |nil=>decide
  |cons a r=>unfold HT.sIx;simp only[xR];lia
 rw[r0,vJ,h1];lia
theorem AD(l:List Nat):bh l none (some 1)=l.take 1:=by
 unfold bh;have h1:HT.sIx l.length l.length (some 1)=min 1 l.length:=HT.sIx_nat l.length l.length 1;rw[HT.sIx_none,h1,Yd,Nat.sub_zero];cases l with
 |nil=>rfl
 |cons a r=>simp
theorem qW{l:List Nat}{c:Nat}(h:l.getLast? = some c):bh l (some (-1)) none=[c]:=by
 obtain⟨i,rfl⟩:=List.getLast?_eq_some_iff.mp h;unfold bh;have h1:HT.sIx (i++[c]).length 0 (some (-1))=i.length:=by unfold HT.sIx;simp only[zx,List.length_singleton];lia
 rw[HT.sIx_none,h1,zx,List.drop_left];simp
def sp_xQ:Sp:=sp1 fun x H Q _=>NoT H/\asI x fun c=>0<=c/\∀l,nt l=true->37∉l->Q (L2.T l) H
theorem nI(T:Txt w K mg a):Fo P w K mg base "_law_note" 2 sp_xQ:=by
 refine T.qM.hg ["_law_cell","_law_size","_law_signs_here","_law_note_here"] (gG1 fun x0 fA cdv A outer s H Q E ND HU hr h=>?_);obtain⟨hN,h⟩:=h;refine de (bu h) fun c yy1 yz=>?_;subst yy1;obtain⟨c0,q⟩:=yz;have sz:2000<=sizeLine:=by rw[wz];decide
 refine⟨hN,_,(aa (aC 1 ND (ah aU (fv 0) ae))
  (aa (aC 2 ND (ah av (ac [32,124]) (eM (cC T) hr.mono rfl aB)))
  (aa (aC 3 ND (aP K xn pV qC (bQ K) (ac []) (fa1 (bG rfl (cl:=_) (x:="_law_k") (xs:=["_law_k"]) (fr:=["_law_signs_here","_law_cell"]) (ks:=[2,0]) (by walk_at "cq") rfl (cn rfl T.dh (fa1 (fv 1))) (fun _ _ _ _ _=>(aR (i:=0) (cT (l:=["_law_k","_law_signs_here","_law_cell"]) (by decide)) rfl (Or.inl rfl))) (fun _ _ _ _ _=>b9) (fun _ _ _ _ _=>(aN K (fv 1) (ah aU (ah av (ah bI (fv 2) ae) (ah bJ (fv 0) (ah av ae (ah aU (ah bI (fv 2) ae) ae)))) ae)))))))
  (aa (aE (L2.PW.pt (bS (ak (aF K HU) (aA aT (fv 3) aJ (aD ae)) (ac [32])) (bK (ak (aF K HU) (aA aT (fv 3) (aD (jV fF ae)) aJ) (ac [32]))))) (af (ai (ah av (ah av (ac [97]) (aA aT (fv 3) (aD ae) (aD (jV fF ae)))) (ah yk (ac [98]) (aM cX rfl T.dZ cM (fa1 (eO mX (fv 1) ae (fo _)))))))) ao)
  (af (ai (fv 3))))))),?_⟩
 walk_at "rd";have sL:=ku;generalize hst:1+c / 3854 % 93=st;have b0:0<=c / 3854 % 93:=qX _ (by decide);have b1:c / 3854 % 93<93:=vb _ (by decide);have SL:(32::124::SIG).length=94:=by rw[xR,xR,sL]
 have z0:∀j:Nat,0<=(c / 41+(j:Int)*st) % 94:=fun j=>qX _ (by decide);have z1:∀j:Nat,(c / 41+(j:Int)*st) % 94<(32::124::SIG).length:=fun j=>by rw[SL];exact vb _ (by decide)
 refine⟨hN,by rw[sL];lia,?_⟩;refine cmR (fun _=>True) (fun _ _ _=>trivial) (c % 41).toNat (fun _=>true) (fun j:Nat=>L2.T [(32::124::SIG).getD ((c / 41+(j:Int)*st) % 94).toNat 0]) (fun R r=>?_) (by lia) (fun j hj H R _ r=>r) (fun j hj _ H' R hC r=>?_) (fun D hD=>?_)
 ·walk_at "rd"
  rw[show((c % 41).toNat:Int)=c % 41 by lia]at r;exact r
 ·walk_at "rd"
  rw[hst];refine⟨.inl (by lia),by lia,?_⟩;show match atI (32::124::SIG) ((c / 41+(j:Int)*st) % 94) with|some c=>R (L2.T [c]) H'|none=>False
  rw[xN (z0 j) (z1 j)];exact r
 ·refine qm (rL (c % 41).toNat) (fun j:Nat=>(32::124::SIG).getD ((c / 41+(j:Int)*st) % 94).toNat 0) (by rw[ad,Zs.mpr (by simp)]) (by rw[iZ];lia) ?_
  have hm:∀x∈(rL (c % 41).toNat).map fun j:Nat=>(32::124::SIG).getD ((c / 41+(j:Int)*st) % 94).toNat 0,(32<=x/\x<=126)/\x≠37:=fun x hx=>by
   obtain⟨j,_,rfl⟩:=kJ.mp hx;have:=lp (z0 j) (z1 j);generalize (32::124::SIG).getD ((c / 41+(j:Int)*st) % 94).toNat 0=y at this |-
   rcases zv.mp this with rfl|this
   ·decide
   rcases zv.mp this with rfl|this
   ·decide
   have:=fR.mp this;exact⟨⟨by lia,this.1.2⟩,this.2.1⟩
  have hl:((rL (c % 41).toNat).map fun j:Nat=>(32::124::SIG).getD ((c / 41+(j:Int)*st) % 94).toNat 0).length=(c % 41).toNat:=by simp
  have sD:=ag (HO.lst (List.map (fun j:Nat=>L2.T [(32::124::SIG).getD ((c / 41+(j:Int)*st) % 94).toNat 0]) (List.filter (fun _=>true) (rL (c % 41).toNat)))) hD;generalize upd H D (HO.lst (List.map (fun j:Nat=>L2.T [(32::124::SIG).getD ((c / 41+(j:Int)*st) % 94).toNat 0]) (List.filter (fun _=>true) (rL (c % 41).toNat))))=G at sD |-
  generalize ((rL (c % 41).toNat).map fun j:Nat=>(32::124::SIG).getD ((c / 41+(j:Int)*st) % 94).toNat 0)=l at hm hl |-
  walk_at "rd";have c40:c % 41<41:=vb _ (by decide);obtain⟨m1,m2⟩:=yE l;have hb:(nY (if 1<c % 41 then (1:Int) else 0).toNat [98]).flatten=if 1<c % 41 then [98] else []:=by split <;> rfl
  rw[hb];have eb:(if 1<c % 41 then [98] else []).length<=1:=by split <;> decide
  have e1:(1:Nat)<=1/\(if 1<c % 41 then (1:Int) else 0)<=1000 /\ -1000<=if 1<c % 41 then (1:Int) else 0:=by split <;> decide
  have fin:l.length<=sizeLine/\1+(bh l (some 1) (some (-1))).length<=sizeLine/\((1:Nat)<=1/\(if 1<c % 41 then (1:Int) else 0)<=1000 /\ -1000<=if 1<c % 41 then (1:Int) else 0)/\([]++bh l (some 1) (some (-1))).length+1+(if 1<c % 41 then [98] else []).length<=sizeLine/\∃G_1,Gc H G_1 G/\Q (L2.T (97::([]++bh l (some 1) (some (-1))++if 1<c % 41 then [98] else []))) G_1:=by
   refine⟨by lia,by lia,e1,by rw[List.nil_append];lia,H,Gc.none sD,q _ (d8.mpr ⟨?_,fun z=>absurd (wj z) (by decide),?_,?_⟩) ?_⟩
   ·rw[List.nil_append,xR,zx]
    split
    ·show _+1+1<=40;lia
    ·show _+0+1<=40;lia
   ·split
    ·rw[List.nil_append,<- nN,List.getLast?_append]
     exact fun z=>absurd (wj z) (by decide)
    ·have:bh l (some 1) (some (-1))=[]:=Zy.mp (by lia)
     rw[this];exact fun z=>absurd (wj z) (by decide)
   ·intro x hx
    rcases zv.mp hx with rfl|hx
    ·decide
    rcases vY.mp hx with hx|hx
    ·exact(hm x (m2 x hx)).1
    ·split at hx
     ·rw[uH.mp hx];decide
     ·cases hx
   ·intro hx
    rcases zv.mp hx with hx|hx
    ·cases hx
    rcases vY.mp hx with hx|hx
    ·exact(hm _ (m2 _ hx)).2 rfl
    ·split at hx
     ·cases uH.mp hx
     ·cases hx
  refine⟨by lia,?_⟩;split
  ·exact fin
  rename_i h1;refine⟨by lia,?_⟩;split
  ·exact fin
  rename_i h2;rw[AD]at h1;refine⟨H,Gc.none sD,q _ (d8.mpr ⟨by lia,fun z=>h1 ?_,fun z=>h2 (qW z),fun x hx=>(hm x hx).1⟩) fun hx=>(hm _ hx).2 rfl⟩;cases l with
  |nil=>cases z
  |cons a r=>cases z;rfl
def sp_zv(K:W.Frag):Sp:=sp2 fun x y H Q _=>NoT H/\asR x fun p=>asI y fun k=>∃ns:List Int,SqL K H p (ns.map V.int)/\(0<=k/\k<=1000)/\∀n,nOk n->Q (.int n) H
theorem dP(T:Txt w K mg a):Fo P w K mg base "_law_number" 3 (sp_zv K):=by
 refine T.mz.hg ["_law_script","_law_k","_law_cell"] (gG2 fun x0 x1 fA cdv A outer s H Q E ND HU hr h=>?_);obtain⟨hN,h⟩:=h;refine de (d6 h) fun p yy1 h1=>?_;subst yy1;refine de (bu h1) fun k yy1 yz=>dQ yz fun ns hp k0 q=>?_;subst yy1;refine⟨hN,_,(aa (aC 2 ND (az (cz T) hr aB (fa2 (fv 0) (fv 1))))
  (aa (aE (ak (aF K HU) (ah aU (fv 2) ae) ae) (af (ai (ah cv (ah aU (ah bI (fv 2) ae) ae) ae))) ao)
  (af (ai (ah av (ah cv (ah aU (az (ci T) hr aB (fa2 (fv 0) (ah av ae (ah aU (fv 1) ae)))) (ah cv (ah bJ ae (ah s_ ae ae)) ae)) (ah s_ ae ae)) ae))))),?_⟩
 walk_at "rd";refine⟨hN,ns,hp,k0,fun c c0 c1=>?_⟩;split
 ·refine q _ ?_
  have e:(10:Int) ^ 29 > 100:=by decide +kernel
  exact⟨by lia,by lia⟩
 ·refine⟨hN,ns,hp,by lia,fun c=>⟨by decide,by decide +kernel,by decide,q _ ?_⟩⟩
  have e:(0:Int)<2*10 ^ Int.toNat 29-1:=by decide +kernel
  have h0:=qX c (Int.ne_of_gt e);have h1:=vb c e;have e2:(10:Int) ^ Int.toNat 29=10 ^ 29:=rfl;rw[e2]at h0 h1 |-
  exact⟨by lia,by lia⟩
noncomputable def fB:List (List Nat):=aV.map (·.1)
def WL(ws:List (List Nat)):Prop:=ws=fB++[[98,111,111,107]]
def sp_xR:Sp:=sp0 fun H Q _=>NoT H/\∀p ws G,WL ws->Same H G->NoT G->G p=some (.lst (ws.map L2.T))->Q (.ref p) G
theorem dj(T:Txt w K mg a):Fo P w K mg base "_law_words" 1 sp_xR:=by
 refine T.n8.hx ["_law_some"] (gX0 fun  fA cdv A outer s H Q E ND HU hr h=>?_);obtain⟨hN,k⟩:=h;refine⟨_,(aa (aC 0 ND (aX (FA.pa (ap (ac [116,111,112]) (ap (ac [97,100,100]) (ap (ac [115,104,117,116]) (ap (ac [113,117,111,116,101]) (ap (ac [98,111,111,107]) (ap (ac [117,110,100,111]) (ap (ac [99,108,111,115,101]) (ap (ac [98,117,100,103,101,116]) (ap (ac [115,116,97,110,100,105,110,103]) (ap (ac [100,114,111,112]) (ap (ac [114,117,110]) (ap (ac [97,99,99,111,117,110,116,115]) bw)))))))))))))))
  (af (ai (ah b_ (fv 0) (aX (FA.pa (ap (ac [114,101,112,111,114,116]) (ap (ac [98,97,108,97,110,99,101,115]) (ap (ac [115,116,97,116,101,109,101,110,116]) (ap (ac [109,111,110,116,104,115]) (ap (ac [119,111,114,116,104]) (ap (ac [108,101,102,116]) (ap (ac [111,118,101,114]) (ap (ac [115,101,97,108,115]) (ap (ac [98,111,111,107]) bw))))))))))))))),?_⟩
 walk_at "rd";have sz:2000<=sizeLine:=by rw[wz];decide
 refine⟨by lia,fun p hp=>⟨by lia,fun q hq=>?_⟩⟩;have s1:=(ag (HO.lst ((fB.take 12).map L2.T)) hp).trans (ag (HO.lst ((fB.drop 12++[[98,111,111,107]]).map L2.T)) hq);refine⟨(fB.take 12).map L2.T,(fB.drop 12++[[98,111,111,107]]).map L2.T,(aw (aq ad hq)).trans ad,ad,by show 21<=sizeLine;lia,fun r hr'=>k r _ _ rfl (s1.trans (ag _ hr')) (aj (aj (aj hN rfl) rfl) rfl) ad⟩
end
open PySem L2 K3 M2 K22
section
variable{pS:Addr}{ns:List Int}{P:Program}{w:World}{K:W.Frag}{mg:Str->Option Value}{base:Heap}{a:Adr}
open MT
theorem fI{ta:TA}{g:TG}{tb:TS}{D:fi}{σ:St}{H:Hp}(h:ta σ H fun vs H1=>∃j:Int,vs=[.int j] /\ -(2 ^ 62)<=j/\j<2 ^ 62/\FE (Itr 0 j.toNat) g tb D σ H1):y6 (t8 ta) g tb D σ H:=h
noncomputable def lt:K9->Nat
 | .word=>119
 | .currency=>99
 | .keeper=>112
 | .shelf=>119
 | .number=>110
 | .day=>100
 | .month=>109
 | .weights=>108
 | .rows=>114
 | .note=>0
noncomputable def dk(f:List K9):List K9:=f.filterMap fun k=>match k with
 | .note=>none
 | .shelf=>some .word
 |k=>some k
noncomputable def lfm(f:List K9):List Nat:=(dk f).map lt
noncomputable def ofm:Option (List K9)->V
 |some f=>L2.T (lfm f)
 |none=>.non
def sp_zz:Sp:=sp1 fun x H Q _=>NoT H/\asT x fun l=>Q (ofm (cj aV l)) H
noncomputable def FRA:List (List Nat):=[[119,119],[119,99,100],[119,100],[100,119,110,119,110],[100,114],[110,100],[109,112],[119,119,119,109,109,110,108],[119,100,110,110,114],[119,119],[100],[],[100,100],[100],[119,119,100,100],[119,119,109,109]]
noncomputable def FRB:List (List Nat):=[[119,100],[119,109],[109],[],[100,114]]
def FL(fs:List (List Nat)):Prop:=fs=FRA++FRB
theorem FL.eq{fs:List (List Nat)}(h:FL fs):fs=FRA++FRB:=h
theorem WL.eq{ws:List (List Nat)}(h:WL ws):ws=fB++[[98,111,111,107]]:=h
theorem Ah{ws fs:List (List Nat)}(hw:WL ws)(hf:FL fs){j:Nat}{l:List Nat}(h:ws[j]? = some l):∃f,cj aV l=some f/\fs[j]? = some (lfm f):=by
 have hj:j<21:=by
  have:=(List.getElem?_eq_some_iff.mp h).1;rw[hw.eq]at this;exact this
 have key:(rL 21).all (fun j=>match cj aV ((fB++[[98,111,111,107]]).getD j []) with|some f=>decide ((FRA++FRB)[j]? = some (lfm f))|none=>false)=true:=by decide +kernel
 have:=Zt.mp key j (ZE.mpr hj);rw[WL.eq hw]at h;have e0:(fB++[[98,111,111,107]]).getD j []=l:=by simp only[List.getD];rw[h];rfl
 rw[e0]at this;cases e:cj aV l with
 |none=>rw[e]at this;cases this
 |some f=>rw[e]at this;exact⟨f,rfl,by rw[hf.eq];exact of_decide_eq_true this⟩
theorem B7{ws:List (List Nat)}(hw:WL ws){l:List Nat}(h:l∉ws):cj aV l=none:=by
 cases e:cj aV l with
 |none=>rfl
 |some f=>exact absurd (by rw[hw.eq];exact qQ _ (kJ.mpr ⟨_,dH e,rfl⟩)) h
theorem Bv(k l:List Nat):eqV (L2.T k) (L2.T l)=decide (k=l):=by
 show(({ cps:={ toList:=k } }:Str) == { cps:={ toList:=l } })=decide (k=l);by_cases h:k=l
 ·subst h;simp
 ·rw[decide_eq_false h,beq_eq_false_iff_ne]
  intro z;cases z;exact h rfl
theorem ny{l:List Nat}:∀ {ws:List (List Nat)},l∈ws->∃j:Nat,ws[j]? = some l/\∀i,i<j->ws[i]? ≠ some l
 |x::r,h=>by
  by_cases e:x=l
  ·exact⟨0,by rw[e];rfl,fun i hi=>absurd hi (Nat.not_lt_zero _)⟩
  ·obtain⟨j,h1,h2⟩:=ny (ws:=r) ((zv.mp h).resolve_left (Ne.symm e))
   refine⟨j+1,h1,fun i hi=>?_⟩;cases i with
   |zero=>exact fun z=>e (wj z)
   |succ i=>exact h2 i (Nat.lt_of_succ_lt_succ hi)
theorem lq(l:List Nat)(ws:List (List Nat)):inV (L2.T l) (ws.map L2.T)=decide (l∈ws):=by
 have h:inV (L2.T l) (ws.map fun k=>L2.T k)=ws.any fun k=>decide (k=l):=sF (fun k=>k) (fun k=>decide (k=l)) l (fun k=>Bv k l) ws;rw[show ws.map L2.T=ws.map fun k=>L2.T k from rfl,h,ZO,YV,decide_eq_true_eq];constructor
 ·rintro⟨x,hx,e⟩
  rw[<- of_decide_eq_true e];exact hx
 ·exact fun h=>⟨l,h,decide_eq_true rfl⟩
theorem eL(T:Txt w K mg a):Fo P w K mg base "_law_form" 2 sp_zz:=by
 refine T.pK.hg ["_law_word","_law_forms"] (gG1 fun x0 fA cdv A outer s H Q E ND HU hr h=>?_);obtain⟨hN,h⟩:=h;refine de (ba h) fun l yy1 k=>?_;subst yy1;have sz:2000<=sizeLine:=by rw[wz];decide
 have c2:∃u,PSs (bE (XE P w) P w K mg base ["_law_word","_law_forms"] "_law_form" (au (top 56)) fA cdv A outer s H (gcE H E)) (Zn 2 (aQ (top 56))) u/\∀G p fs,FL fs->Same H G->NoT G->G p=some (.lst (fs.map L2.T))->u { nx:=fun _ H'=>∃G,Gc H G H'/\Q .non G,rt:=fun v H'=>∃G,Gc H G H'/\Q v G } [some (L2.T l),some (.ref p)] G:=by
  refine⟨_,(aa (aE (cw (jk K) (fv 0) (eM (dj T) hr.mono rfl aB) (by with_unfolding_all rfl)) (af (ai bb)) ao)
   (af (ai (aN K (fv 1) (aP K mw PySem.F.slot_list_index PySem.F.type_list_index (zS K) (eM (dj T) hr.mono rfl aB) (fa1 (fv 0))))))),fun G p fs hf sG nG gp=>?_⟩
  walk_at "rd";refine⟨nG,fun p1 ws G1 hw s1 n1 g1=>⟨_,.inl (aL g1),rfl,sQ (fun k=>k) ws,?_⟩⟩;rw[lq];split
  ·rename_i h1
   rw[B7 hw (of_decide_eq_false h1)]at k;exact⟨H,Gc.none (sG.trans s1),k⟩
  ·rename_i h1
   refine⟨n1,fun p2 ws2 G2 hw2 s2 n2 g2=>⟨.inl ⟨_,aL g2⟩,p2,ws2,l,?_⟩⟩;have hm:l∈ws2:=by
    have:l∈ws:=Classical.byContradiction fun z=>h1 (decide_eq_false z);rw[hw2.eq,<- hw.eq];exact this
   obtain⟨j,j1,j2⟩:=ny hm;obtain⟨f,f1,f2⟩:=Ah hw2 hf j1;rw[f1]at k;have ss:=s1.trans s2;exact⟨j,rfl,rfl,aL g2,j1,j2,_,_,.inl (aL (ss _ _ gp)),aO (by rw[List.getElem?_map,f2];rfl),H,Gc.none (sG.trans ss),k⟩
 obtain⟨u2,hu2,c2⟩:=c2;refine⟨hN,_,(aa (aC 1 ND (aX (FA.pa (ap (ac [119,119]) (ap (ac [119,99,100]) (ap (ac [119,100]) (ap (ac [100,119,110,119,110]) (ap (ac [100,114]) (ap (ac [110,100]) (ap (ac [109,112]) (ap (ac [119,119,119,109,109,110,108]) (ap (ac [119,100,110,110,114]) (ap (ac [119,119]) (ap (ac [100]) (ap (ac []) (ap (ac [100,100]) (ap (ac [100]) (ap (ac [119,119,100,100]) (ap (ac [119,119,109,109]) bw)))))))))))))))))))
  (aa (aC 1 ND (ah b_ (fv 1) (aX (fa5 (ac [119,100]) (ac [119,109]) (ac [109]) (ac []) (ac [100,114])))))
  hu2)),?_⟩
 walk_at "rd";refine⟨by lia,fun p hp=>⟨by lia,fun q hq=>?_⟩⟩;have s1:=(ag (HO.lst (FRA.map L2.T)) hp).trans (ag (HO.lst (FRB.map L2.T)) hq);refine⟨FRA.map L2.T,FRB.map L2.T,(aw (aq ad hq)).trans ad,ad,by show 21<=sizeLine;lia,fun r hr'=>?_⟩;have s2:=s1.trans (ag (HO.lst ((FRA++FRB).map L2.T)) hr');exact c2 _ r _ rfl s2 (aj (aj (aj hN rfl) rfl) rfl) ad
def sp_xM(K:W.Frag):Sp:=sp2 fun x y H Q _=>NoT H/\asR x fun p=>asI y fun k=>∃ns:List Int,SqL K H p (ns.map V.int)/\(0<=k/\k<=300)/\∀rs,dN .rows (.r rs)->∀v G,Same H G->NoT G->PtAt G v (.r rs)->Q v G
theorem oy(T:Txt w K mg a):Fo P w K mg base "_law_rows" 4 (sp_xM K):=by
 refine T.qL.hx ["_law_script","_law_k","_law_found","_law_j","_law_path","_law_currency"] (gX2 fun x0 x1 fA cdv A outer s H Q E ND HU hr h=>?_);obtain⟨hN,h⟩:=h;refine de (d6 h) fun p yy1 h1=>?_;subst yy1;refine de (bu h1) fun k yy1 yz=>dQ yz fun ns hp k0 q=>?_;subst yy1;have sz:2000<=sizeLine:=by rw[wz];decide
 refine⟨_,(aa (aC 2 ND (aX (FA.pa bw)))
  (aa (eW (by passes_own) rfl (cn rfl T.dh (fa1 (ah av ae (ah aU (az (ci T) hr aB (fa2 (fv 0) ae)) ae)))) (aR (i:=3) ND rfl (Or.inl rfl)) (aa (aC 4 ND (az (eU T) hr aB (fa1 (az (cz T) hr aB (fa2 (fv 0) (ah av (fv 1) (ah bJ ae (fv 3))))))))
  (aa (aC 5 ND (az (eU T) hr aB (fa1 (az (cz T) hr aB (fa2 (fv 0) (ah av (ah av (fv 1) (ah bJ ae (fv 3))) ae))))))
  (af (dy (aP K mw lI lh bP (fv 2) (fa1 (eS (fa3 (fv 4) (fv 5) (az (dP T) hr aB (fa2 (fv 0) (ah av (ah av (fv 1) (ah bJ ae (fv 3))) ae))))))))))))
  (af (ai (aM (cA K) rfl T.cG bY (fa1 (fv 2))))))),?_⟩
 walk_at "rd";refine⟨uG _,fun q1 hq=>fI ?_⟩;walk_at "rd";have s0:=ag (HO.lst []) hq;have n0:NoT (upd H q1 (HO.lst [])):=aj hN rfl;have g0:upd H q1 (HO.lst []) q1=some (.lst []):=ad;generalize upd H q1 (HO.lst [])=G0 at s0 n0 g0 |-
 refine⟨n0,ns,bf s0 hp,fun c=>?_⟩;have c5:0<=c % 5/\c % 5<5:=⟨qX _ (by decide),vb _ (by decide)⟩;refine⟨by lia,by lia,eG (lo:=0) (n:=(1+c % 5).toNat) (fun i σ' G=>∃x3 x4 x5 vs rs,σ'=[some (.ref p),some (.int k),some (.ref q1),x3,x4,x5]/\Same H G/\NoT G/\G q1=some (.lst vs)/\A2 (MkAt rwL G) vs rs/\rs.length=i/\∀r∈rs,rOk r) ⟨none,none,none,[],[],rfl,s0,n0,g0,.nil,rfl,fun _ h=>nomatch h⟩ ?_ ?_⟩
 ·rintro i σ' G hi ⟨x3,x4,x5,vs,rs,rfl,sG,nG,gq,AA,li,hrs⟩
  walk_at "rd";have hpG:=bf sG hp;refine⟨nG,ns,hpG,by lia,fun c c0 c1=>⟨nG,c0,fun l1 w1 _=>⟨nG,ns,hpG,by lia,fun c c0 c1=>⟨nG,c0,fun l2 w2 _=>⟨.inl ⟨_,aL gq⟩,nG,ns,hpG,by lia,fun n hn=>⟨by lia,fun t ht=>?_⟩⟩⟩⟩⟩⟩;have s2:=ag (HO.tup [L2.T l1,L2.T l2,V.int n]) ht;have lv:=AA.len;have gq2:=s2 _ _ gq;have gt:upd G t (HO.tup [L2.T l1,L2.T l2,V.int n]) t=some (.tup (rwL (l1,l2,n))):=ad;have n2:NoT (upd G t (HO.tup [L2.T l1,L2.T l2,V.int n])):=aj nG rfl;have s3:=sG.trans s2;generalize upd G t (HO.tup [L2.T l1,L2.T l2,V.int n])=G2 at s2 gq2 gt n2 s3 |-
  have kt:∀t' l',G2 t'=some (.tup l')->upd G2 q1 (.lst (vs++[.ref t])) t'=some (.tup l'):=fun t' l' e=>by
   rw[aw fun z=>by rw[z,gq2]at e;cases e];exact e
  refine⟨q1,vs,_,rfl,rfl,gq2,by lia,_,_,_,vs++[.ref t],rs++[(l1,l2,n)],⟨rfl,rfl,rfl⟩,fun c o e=>?_,aj n2 rfl,ad,A2.snoc (MkAt.mv (fun t l e=>kt _ _ (s2 _ _ e)) AA) ⟨t,rfl,kt _ _ gt⟩,by rw[zx,li];rfl,fun r hr'=>?_⟩
  ·rw[aw (aq e hq)];exact s3 _ _ e
  ·rcases vY.mp hr' with h|h
   ·exact hrs r h
   ·rw[uH.mp h];exact⟨w1,w2,hn⟩
 ·rintro σ' G ⟨x3,x4,x5,vs,rs,rfl,sG,nG,gq,AA,li,hrs⟩
  walk_at "rd";refine⟨vs,.inl ⟨aL gq,fun r hr'=>?_⟩⟩;have s2:=ag (HO.tup vs) hr';refine q rs ⟨fun e=>by rw[e]at li;have:([]:List (List Nat × List Nat × Int)).length=0:=rfl;lia,by lia,hrs⟩ _ _ (sG.trans s2) (aj nG rfl) ⟨r,vs,rfl,ad,MkAt.mv (fun t l e=>s2 _ _ e) AA⟩
end
open PySem L2 K3 M2 K22
section
variable{pS:Addr}{ns:List Int}{P:Program}{w:World}{K:W.Frag}{mg:Str->Option Value}{base:Heap}{a:Adr}
open MT
theorem xo{n:Nat}{g:TG}{ks:List Nat}{tt:TT}{te:TE}{ta:TA}{σ:St}{H:Hp}{Q:VK}(h:ta σ H fun vs H1=>∃j:Int,vs=[.int j] /\ -(2 ^ 62)<=j/\j<2 ^ 62/\CEl (Itr 0 j.toNat) n g ks tt te σ H1 Q):cQ (t8 ta) n g ks tt te σ H Q:=h
theorem rk(n:Nat):A2 (fun(v:V) (b:Nat)=>v=V.int (0+(b:Nat))) ((rL n).map fun k=>V.int (0+(k:Nat))) (rL n):=gS (g:=fun b:Nat=>V.int (0+(b:Nat))) (fun _=>rfl) _
theorem A2.ofAt{α γ:Type}{R:α->γ->Prop}:∀ {xs:List α} {cs:List γ},xs.length=cs.length->(∀(i:Nat) (x:α) (c:γ),xs[i]? = some x->cs[i]? = some c->R x c)->A2 R xs cs
 | [],[],_,_=>.nil
 |x::r,c::s,hl,h=>.cons (h 0 x c rfl rfl) (A2.ofAt (Nat.succ.inj hl) fun i x c h1 h2=>h (i+1) x c h1 h2)
theorem Ck{α γ:Type}{R:α->γ->Prop}{xs:List α}{cs:List γ}(h:A2 (fun b d=>∃k,xs[b]? = some k/\R k d) (rL xs.length) cs):A2 R xs cs:=by
 have hl:=h.len;rw[iZ]at hl;refine A2.ofAt hl fun i x c h1 h2=>?_;have il:=(List.getElem?_eq_some_iff.mp h1).1;obtain⟨c',h3,k,h4,h5⟩:=h.at_ (i:=i) (a:=i) (by rw[List.getElem?_range il]);rw[h2]at h3;cases h3;rw[h1]at h4;cases h4;exact h5
def drawn:K9->Prop
 | .shelf=>False
 | .note=>False
 |_=>True
def sp_xp(K:W.Frag):Sp:=sp3 fun x y z H Q _=>NoT H/\asR x fun p=>asT y fun l=>asI z fun k=>∃(ns:List Int) (kd:K9),SqL K H p (ns.map V.int)/\drawn kd/\l=[lt kd]/\(0<=k/\k<=90)/\∀d,dN kd d->∀v G,Same H G->NoT G->PtAt G v d->Q v G
theorem oK(T:Txt w K mg a):Fo P w K mg base "_law_part" 5 (sp_xp K):=by
 refine T.pM.hx ["_law_script","_law_kind","_law_k","_law_cell","_law_text_here"] (gX3 fun x0 x1 x2 fA cdv A outer s H Q E ND HU hr h=>?_);obtain⟨hN,h⟩:=h;refine de (d6 h) fun p yy1 h1=>?_;subst yy1;refine de (ba h1) fun l yy1 h2=>?_;subst yy1;refine de (bu h2) fun k yy1 yz=>CT yz fun ns kd hp hd yl hk q=>?_;subst yy1 yl;have sz:2000<=sizeLine:=by rw[wz];decide
 have wt:∀l,wOk l->l.length<=14->l.length+1<=sizeLine:=fun l _ h=>by lia
 refine⟨_,(aa (aC 3 ND (az (cz T) hr aB (fa2 (fv 0) (fv 2))))
  (aa (aE (ak (aF K HU) (fv 1) (ac [100])) (af (ai (ah aU (fv 3) ae))) ao)
  (aa (aE (ak (aF K HU) (fv 1) (ac [109])) (af (ai (ah aU (fv 3) ae))) ao)
  (aa (aE (ak (aF K HU) (fv 1) (ac [110])) (af (ai (az (dP T) hr aB (fa2 (fv 0) (fv 2))))) ao)
  (aa (aE (ak (aF K HU) (fv 1) (ac [108])) (af (ai (aM (cA K) rfl T.cG bY (fa1 (bG rfl (cl:=_) (x:="_law_j") (xs:=["_law_j"]) (fr:=["_law_script","_law_k"]) (ks:=[0,2]) (by walk_at "cq") rfl (cn rfl T.dh (fa1 (ah av ae (ah aU (fv 3) ae)))) (fun _ _ _ _ _=>(aR (i:=0) (cT (l:=["_law_j","_law_script","_law_k"]) (by decide)) rfl (Or.inl rfl))) (fun _ _ _ _ _=>b9) (fun _ _ _ _ _=>(az (dP T) hr iE (fa2 (fv 1) (ah av (fv 2) (fv 0)))))))))) ao)
  (aa (aE (ak (aF K HU) (fv 1) (ac [114])) (af (ai (az (oy T) hr aB (fa2 (fv 0) (fv 2))))) ao)
  (aa (aE (L2.PW.pt (cU (ak (bO K HU) (fv 1) (ac [119])) (b8 (ak (aF K HU) (ah aU (fv 3) ae) ae)))) (af (ai bb)) ao)
  (aa (aC 4 ND (az (eU T) hr aB (fa1 (ah bI (fv 3) ae))))
  (aa (aE (L2.PW.pt (bS (L2.PW.pt (cU (ak (aF K HU) (fv 1) (ac [99])) (b8 (ak (aF K HU) (fv 4) (ac [97,110,121]))))) (bK (L2.PW.pt (cU (ak (aF K HU) (fv 1) (ac [112])) (b8 (ak (aF K HU) (fv 4) (ac [45])))))))) (af (ai (ah av (fv 4) (ac [120])))) ao)
  (af (ai (fv 4)))))))))))),?_⟩
 walk_at "rd";have qw:∀d v,dN kd d->PtAt H v d->Q v H:=fun d v h1 h2=>q d h1 v H (Same.refl _) hN h2;refine⟨hN,ns,hp,by lia,fun c c0 c1=>?_⟩;have c3:0<=c / 3:=by lia
 cases kd <;> try exact hd.elim
 ·refine itn (by decide) (itn (by decide) (itn (by decide) (itn (by decide) (itn (by decide) (itp rfl ⟨hN,c3,fun l w1 l14=>itn (by decide) (itn (by decide) (qw (.w l) _ w1 rfl))⟩)))))
 ·refine itn (by decide) (itn (by decide) (itn (by decide) (itn (by decide) (itn (by decide) (itn (by decide) ?_)))))
  split
  ·exact qw .no _ trivial rfl
  ·refine⟨hN,c3,fun l w1 l14=>itp rfl ?_⟩
   split
   ·rename_i h1
    subst h1;exact⟨by lia,qw (.w _) _ ⟨⟨by decide,by decide,by decide⟩,by decide⟩ rfl⟩
   ·rename_i h1
    exact itn (by decide) (qw (.w l) _ ⟨w1,h1⟩ rfl)
 ·refine itn (by decide) (itn (by decide) (itn (by decide) (itn (by decide) (itn (by decide) (itn (by decide) ?_)))))
  split
  ·exact qw .no _ trivial rfl
  ·refine⟨hN,c3,fun l w1 l14=>itn (by decide) (itp rfl ?_)⟩
   split
   ·rename_i h1
    subst h1;exact⟨by lia,qw (.w _) _ ⟨⟨by decide,by decide,by decide⟩,by decide⟩ rfl⟩
   ·rename_i h1
    exact qw (.w l) _ ⟨w1,h1⟩ rfl
 ·refine itn (by decide) (itn (by decide) (itp rfl ⟨hN,ns,hp,by lia,fun n hn=>qw (.i n) _ hn rfl⟩))
 ·exact itp rfl (qw (.i _) _ ⟨qX _ (by decide),by have:=vb c (by decide:(0:Int)<146097);lia⟩ rfl)
 ·exact itn (by decide) (itp rfl (qw (.i _) _ ⟨qX _ (by decide),by have:=vb c (by decide:(0:Int)<4800);lia⟩ rfl))
 ·refine itn (by decide) (itn (by decide) (itn (by decide) (itp rfl (xo ?_))))
  walk_at "rd";have c9:0<=c % 9/\c % 9<9:=⟨qX _ (by decide),vb _ (by decide)⟩;refine⟨by lia,by lia,cmT ((nc 0 (1+c % 9).toNat).c _) (rL (1+c % 9).toNat) (fun v b=>v=V.int (0+(b:Nat))) (rk _) (fun _ v c=>v=V.int c) (fun _ _ _ _ _ h=>h) (fun _ n=>nOk n) hN (by rw[yV,iZ];lia) (fun _ _ _ r=>r) (fun v b hb e G N1 sG nG n1=>?_) fun cs hcs D vs G _ sG nG gD A=>?_⟩
  ·subst e
   walk_at "rd";have:=ZE.mp hb;exact⟨nG,ns,bf sG hp,by lia,fun n hn=>n1 n hn _ G (Same.refl _) nG rfl⟩
  ·walk_at "rd"
   have l1:=hcs.len;rw[iZ]at l1;refine⟨_,.inl ⟨aL gD,fun r hr'=>q (.l cs) ⟨fun e=>by rw[e]at l1;simp at l1;lia,by lia,fun n hn=>?_⟩ _ _ (sG.trans (ag _ hr')) (aj nG rfl) ⟨r,rfl,by rw[ad,uh A]⟩⟩⟩;obtain⟨i,hi,e⟩:=YS hn;have h2:=(List.getElem?_eq_some_iff.mpr ⟨(by rw[iZ];lia:i<(rL (1+c % 9).toNat).length),rfl⟩:(rL (1+c % 9).toNat)[i]? = some _);obtain⟨n',h3,h4⟩:=hcs.at_ h2;rw[List.getElem?_eq_some_iff.mpr ⟨hi,e⟩]at h3;cases h3;exact h4
 ·refine itn (by decide) (itn (by decide) (itn (by decide) (itn (by decide) (itp rfl ⟨hN,ns,hp,by lia,fun rs hr' v G s n h=>q (.r rs) hr' v G s n h⟩))))
noncomputable def cY:List Nat:=[100,114,111,112]
noncomputable def NT3:List (List Nat):=[[98,111,111,107],[117,110,100,111],[115,116,97,110,100,105,110,103]]
theorem lM{l:List Nat}{f:List K9}(h:cj aV l=some f):(l=cY/\f=[.shelf,.word])\/(l≠cY/\l∈NT3/\f=dk f++[.note])\/(l≠cY/\l∉NT3/\f=dk f):=by
 have m:=dH h;have:∀p∈aV,(p.1=cY/\p.2=[.shelf,.word])\/(p.1≠cY/\p.1∈NT3/\p.2=dk p.2++[.note])\/(p.1≠cY/\p.1∉NT3/\p.2=dk p.2):=by decide +kernel
 exact this _ m
theorem rd(f:List K9):∀k∈dk f,drawn k:=by
 intro k hk;obtain⟨x,_,e⟩:=YI.mp hk;cases x <;> cases e <;> exact trivial
def sp_uG(K:W.Frag):Sp:=sp1 fun x H Q _=>NoT H/\asR x fun p=>∃ns:List Int,SqL K H p (ns.map V.int)/\∀o,vG o->∀v G,Same H G->NoT G->OrAt G v o->Q v G
theorem mi(T:Txt w K mg a):Fo P w K mg base "_law_order" 6 (sp_uG K):=by
 refine T.n9.hx ["_law_script","_law_word","_law_form_here","_law_parts"] (gX1 fun x0 fA cdv A outer s H Q E ND HU hr h=>?_);obtain⟨hN,h⟩:=h;refine de (d6 h) fun p yy1 yz=>?_;subst yy1;obtain⟨ns,hp,q⟩:=yz;have sz:2000<=sizeLine:=by rw[wz];decide
 have c5:∃u,PSs (bE (XE P w) P w K mg base ["_law_script","_law_word","_law_form_here","_law_parts"] "_law_order" (au bH) fA cdv A outer s H E) (Zn 5 (aQ bH)) u/\∀l x2 G q1 vs ds,vG (l,ds)->Same H G->NoT G->G q1=some (.lst vs)->A2 (PtAt G) vs ds->vs.length<=20->u { nx:=fun _ H'=>Q .non H',rt:=Q } [some (.ref p),some (L2.T l),x2,some (.ref q1)] G:=by
  refine⟨_,(af (ai (aM (cA K) rfl T.cG bY (fa1 (ah b_ (aX (fa1 (fv 1))) (fv 3)))))),fun l x2 G q1 vs ds oo sG nG gq A lv=>?_⟩;walk_at "rd";refine⟨by lia,fun r h1=>⟨_,_,ad,(aw (aq gq h1)).trans gq,by show 1+vs.length<=_;lia,fun r2 h2=>⟨_,.inl ⟨aL ad,fun r3 h3=>?_⟩⟩⟩⟩;have s2:=((ag (HO.lst [L2.T l]) h1).trans (ag (HO.lst ([L2.T l]++vs)) h2)).trans (ag (HO.tup ([L2.T l]++vs)) h3);exact q (l,ds) oo _ _ (sG.trans s2) (aj (aj (aj nG rfl) rfl) rfl) ⟨r3,vs,rfl,ad,A.imp fun x y _ _ h=>PtAt.mv (fun t' l' e=>s2 _ _ e) h⟩
 obtain⟨u5,hu5,c5⟩:=c5;have c4:∃u,PSs (bE (XE P w) P w K mg base ["_law_script","_law_word","_law_form_here","_law_parts"] "_law_order" (au bH) fA cdv A outer s H E) (Zn 4 (aQ bH)) u/\∀l f g x2 G q1 vs ds,cj aV l=some f->(l∈NT3/\f=g++[.note])\/(l∉NT3/\f=g)->A2 dN g ds->Same H G->NoT G->G q1=some (.lst vs)->H q1=none->A2 (PtAt G) vs ds->u { nx:=fun _ H'=>Q .non H',rt:=Q } [some (.ref p),some (L2.T l),x2,some (.ref q1)] G:=by
  refine⟨_,(aa (aE (jB (cw (jo K) (fv 1) (eS (fa3 (ac [98,111,111,107]) (ac [117,110,100,111]) (ac [115,116,97,110,100,105,110,103]))) (by with_unfolding_all rfl))) (af (dy (aP K mw lI lh bP (fv 3) (fa1 (az (nI T) hr aB (fa1 (az (cz T) hr aB (fa2 (fv 0) ae)))))))) ao)
   hu5),fun l f g x2 G q1 vs ds ef hc B sG nG gq hq A=>?_⟩
  have fl:=db ef;have lA:=A.len;have lB:=B.len;walk_at "rd";refine⟨nG,by lia,fun r h1=>⟨NT3.map L2.T,.inr (bc ad),rfl,rfl,G,Gc.none (ag _ h1),?_⟩⟩;rw[lq];rcases hc with ⟨h2,rfl⟩|⟨h2,rfl⟩
  ·rw[zx]at fl
   refine itp (decide_eq_true h2) ⟨.inl ⟨_,aL gq⟩,nG,ns,bf sG hp,fun c c0 c1=>⟨nG,c0,fun n n1 n2=>⟨q1,vs,_,rfl,rfl,gq,by lia,?_⟩⟩⟩;have kt:∀t' l',G t'=some (.tup l')->upd G q1 (.lst (vs++[L2.T n])) t'=some (.tup l'):=fun t' l' e=>by
    rw[aw fun z=>by rw[z,gq]at e;cases e];exact e
   refine c5 l x2 _ q1 _ (ds++[.w n]) ⟨_,ef,B.snoc (show dN .note (.w n) from⟨n1,n2⟩)⟩ (fun c o e=>?_) (aj nG rfl) ad (A2.snoc (A.imp fun x y _ _ h=>PtAt.mv kt h) (show PtAt _ (L2.T n) (.w n) from rfl)) (by rw[zx];show _+1<=20;lia);rw[aw (aq e hq)];exact sG _ _ e
  ·exact itn (fun z=>h2 (of_decide_eq_true z)) (c5 l x2 G q1 vs ds ⟨_,ef,B⟩ sG nG gq A (by lia))
 obtain⟨u4,hu4,c4⟩:=c4;have c3:∃u,PSs (bE (XE P w) P w K mg base ["_law_script","_law_word","_law_form_here","_law_parts"] "_law_order" (au bH) fA cdv A outer s H E) (Zn 3 (aQ bH)) u/\∀l f x2 G q1 vs ds,cj aV l=some f->Same H G->NoT G->G q1=some (.lst vs)->H q1=none->A2 (PtAt G) vs ds->A2 dN (dk f) ds->u { nx:=fun _ H'=>Q .non H',rt:=Q } [some (.ref p),some (L2.T l),x2,some (.ref q1)] G:=by
  refine⟨_,(aa (aE (ak (aF K HU) (fv 1) (ac [100,114,111,112])) (af (Cr (eB (fa2 (ac [98,117,100,103,101,116]) (ac [115,116,97,110,100,105,110,103])) (ah aU (az (ci T) hr aB (fa2 (fv 0) ae)) ae) (fun _ _=>rfl)) (BU (fv 3) ae wM))) ao)
   hu4),fun l f x2 G q1 vs ds ef sG nG gq hq A B=>?_⟩
  walk_at "rd";rcases lM ef with ⟨rfl,rfl⟩|⟨h1,h2,h3⟩|⟨h1,h2,h3⟩
  ·refine itp rfl ⟨nG,by lia,fun r h1=>⟨aj nG rfl,ns,bf (sG.trans (ag _ h1)) hp,fun c=>jq (ls:=[[98,117,100,103,101,116],[115,116,97,110,100,105,110,103]]) (qX _ (by decide)) (vb c (by decide:(0:Int)<2)) fun s hs=>?_⟩⟩
   have hs:cq s:=by
    simp only[zv,oO,or_false]at hs;exact hs
   have kt:∀(vs':List V) t' l',G t'=some (.tup l')->upd G q1 (.lst vs') t'=some (.tup l'):=fun vs' t' l' e=>by
    rw[aw fun z=>by rw[z,gq]at e;cases e];exact e
   cases B with
   |cons b1 B=>cases B with
    |cons b2 B=>cases B with
     |nil=>
      rename_i d1 d2;cases A with
      |cons a1 A=>cases A with
       |cons a2 A=>cases A with
        |nil=>
         refine⟨q1,_,0,0,rfl,rfl,gq,rfl,c4 cY [.shelf,.word] [.shelf,.word] x2 _ q1 _ [.w s,d2] ef (.inr ⟨by decide,rfl⟩) (.cons hs (.cons b2 .nil)) (fun c o e=>?_) (aj nG rfl) ad hq (.cons rfl (.cons (PtAt.mv (kt _) a2) .nil))⟩;rw[aw (aq e hq)];exact sG _ _ e
  ·exact itn h1 (c4 l f (dk f) x2 G q1 vs ds ef (.inl ⟨h2,h3⟩) B sG nG gq hq A)
  ·exact itn h1 (c4 l f (dk f) x2 G q1 vs ds ef (.inr ⟨h2,h3⟩) B sG nG gq hq A)
 obtain⟨u3,hu3,c3⟩:=c3;refine⟨_,(aa (aC 1 ND (aN K (eM (dj T) hr.mono rfl aB) (ah aU (az (ci T) hr aB (fa2 (fv 0) ae)) ae)))
  (aa (aC 2 ND (az (eL T) hr aB (fa1 (fv 1))))
  (aa (rC (i0:=3) ND rfl (Or.inl rfl) rfl (cl:=_) (x:="_law_k") (xs:=["_law_k"]) (fr:=["_law_script","_law_form_here"]) (ks:=[0,2]) (by walk_at "cq") rfl (cn rfl T.dh (fa1 (ay (aS K) rfl T.bD bd (fa1 (fv 2))))) (fun _ _ _ _ _=>(aR (i:=0) (cT (l:=["_law_k","_law_script","_law_form_here"]) (by decide)) rfl (Or.inl rfl))) (fun _ _ _ _ _=>b9) (fun _ _ _ _ _=>(az (oK T) hr iE (fa3 (fv 1) (aN K (fv 2) (fv 0)) (ah bJ ae (fv 0))))))
  hu3))),?_⟩
 walk_at "rd";refine⟨hN,fun p1 ws G hw sG nG gp=>⟨nG,ns,bf sG hp,fun c=>?_⟩⟩;have c1:0<=c % 21/\c % 21<21:=⟨qX _ (by decide),vb _ (by decide)⟩;have lw:ws.length=21:=by rw[hw.eq];rfl
 obtain⟨j,hj⟩:∃j:Nat,c % 21=j:=⟨(c % 21).toNat,by lia⟩;rw[hj];have jl:j<ws.length:=by lia
 have ej:ws[j]? = some ws[j]:=List.getElem?_eq_some_iff.mpr ⟨jl,rfl⟩;obtain⟨f,ef,_⟩:=Ah hw (fs:=FRA++FRB) rfl ej;refine⟨_,_,.inl (aL gp),aO (by rw[List.getElem?_map,ej];rfl),nG,?_⟩;generalize ws[j]=l at ef |-
 have fl:=db ef;have ld:(dk f).length<=10:=wx (List.length_filterMap_le _ _) fl;have hdr:=rd f;walk_at "rd";rw[ef];have e5:ofm (some f)=L2.T ((dk f).map lt):=rfl;have c3':=fun G q1 vs ds=>c3 l f (some (L2.T (lfm f))) G q1 vs ds ef;rw[show L2.T (lfm f)=L2.T ((dk f).map lt) from rfl]at c3';rw[e5];clear c3 e5 ef;generalize dk f=df at ld hdr c3' |-
 refine xo ?_;walk_at "rd";rw[yV];refine⟨by lia,by lia,by lia,?_⟩;rw[qa];refine cmT ((nc 0 df.length).c _) (rL df.length) (fun v b=>v=V.int (0+(b:Nat))) (rk _) (fun G v d=>PtAt G v d) (fun _ _ _ _ k h=>PtAt.mv k h) (fun b d=>∃kd,df[b]? = some kd/\dN kd d) nG (by rw[yV,iZ];lia) (fun _ _ _ r=>r) (fun v b hb e G2 N1 s2 n2 nn=>?_) fun cs hcs D vs G2 hD s2 n2 gD A=>?_
 ·subst e
  have hb:=ZE.mp hb;walk_at "rd";have eb:df[b]? = some df[b]:=List.getElem?_eq_some_iff.mpr ⟨hb,rfl⟩;rw[show((0:Int)+(b:Int))=(b:Nat) by lia,aO (v:=lt df[b]) (by rw[List.getElem?_map,eb];rfl)];exact⟨by rw[yV];lia,n2,ns,df[b],bf (sG.trans s2) hp,hdr _ (Ze hb),rfl,by lia,fun d hd v G3 s3 n3 h3=>nn d ⟨_,eb,hd⟩ v G3 s3 n3 h3⟩
 ·exact c3' G2 D vs cs (sG.trans s2) n2 gD (sG.free hD) A (Ck hcs)
end
open PySem L2 K3 M2 K22
section
variable{pS:Addr}{ns:List Int}{P:Program}{w:World}{K:W.Frag}{mg:Str->Option Value}{base:Heap}{a:Adr}
open MT
theorem yB{n:Int}(h:nOk n):n.natAbs.log2<1920:=by
 by_cases hz:n.natAbs=0
 ·rw[hz];decide
 ·rw[Nat.log2_lt hz]
  have e:(10:Int) ^ 29=((10 ^ 29:Nat):Int):=by decide +kernel
  obtain⟨h0,h1⟩:=h;have h2:n.natAbs<10 ^ 29:=by lia
  exact Nat.lt_trans h2 (by decide +kernel)
theorem kh{xs:List V}{H H1:Hp}{Q:VK}{i:Int}{v:V}(h:atI xs i=some v)(f:cD v=true)(q:Q v H):gC xs H H1 Q (.int i):=by
 unfold gC;simp only[h];cases v <;> first|exact q|cases f
def sp_xJ:Sp:=sp2 fun x y H Q _=>NoT H/\asT x fun l=>∃kd d,kd ≠ .note/\l=[lt kd]/\dN kd d/\PtAt H y d/\Q (L2.T (wrP kd d)) H
theorem iK(T:Txt w K mg a):Fo P w K mg base "_law_part_text" 7 sp_xJ:=by
 refine T.i7.hg ["_law_kind","_law_part_here"] (gG2 fun x0 x1 fA cdv A outer s H Q E ND HU hr h=>?_);obtain⟨hN,h⟩:=h;refine de (ba h) fun l yy1 h1=>CT h1 fun kd d hn yl hd hp k=>?_;subst yy1 yl;have sz:2000<=sizeLine:=by rw[wz];decide
 refine⟨hN,_,(aa (aE (ak (aF K HU) (fv 0) (ac [100])) (af (ai (az (cJ T) hr aB (fa1 (fv 1))))) ao)
  (aa (aE (ak (aF K HU) (fv 0) (ac [109])) (af (ai (aA aT (az (cJ T) hr aB (fa1 (az (bU T) hr aB (fa1 (fv 1))))) aJ (aD ae)))) ao)
  (aa (aE (ak (aF K HU) (fv 0) (ac [110])) (af (ai (aM kG rfl T.dW cO (fa1 (fv 1))))) ao)
  (aa (aE (ak (aF K HU) (fv 0) (ac [108])) (af (ai (aP K xn pV qC (bQ K) (ac [44]) (fa1 (bG rfl (cl:=_) (x:="_law_one") (xs:=["_law_one"]) (fr:=[]) (ks:=[]) (by walk_at "cq") rfl (gW K (fv 1)) (fun _ _ _ _ _=>(aR (i:=0) (cT (l:=["_law_one"]) (by decide)) rfl (Or.inl rfl))) (fun _ _ _ _ _=>b9) (fun _ _ _ _ _=>(aM kG rfl T.dW cO (fa1 (fv 0))))))))) ao)
  (aa (aE (ak (aF K HU) (fv 0) (ac [114])) (af (ai (aP K xn pV qC (bQ K) (ac [32]) (fa1 (bG rfl (cl:=_) (x:="_law_row") (xs:=["_law_row"]) (fr:=[]) (ks:=[]) (by walk_at "cq") rfl (gW K (fv 1)) (fun _ _ _ _ _=>(aR (i:=0) (cT (l:=["_law_row"]) (by decide)) rfl (Or.inl rfl))) (fun _ _ _ _ _=>b9) (fun _ _ _ _ _=>(ah av (ah av (ah av (ah av (aN K (fv 0) ae) (ac [32])) (aN K (fv 0) ae)) (ac [32])) (aM kG rfl T.dW cO (fa1 (aN K (fv 0) ae)))))))))) ao)
  (aa (aE (eJ (du (fv 1))) (af (ai (eB (fa2 (ac [45]) (ac [97,110,121])) (aM cX rfl T.dZ cM (fa1 (eO (aF K HU) (fv 0) (ac [99]) (fo _)))) (fun _ _=>rfl)))) ao)
  (af (ai (fv 1))))))))),?_⟩
 walk_at "rd";have lg:∀n,nOk n->n.natAbs.log2<1920:=fun n h=>yB h;cases kd
 ·cases d <;> try exact qT hd
  cases hp;exact itn (by decide) (itn (by decide) (itn (by decide) (itn (by decide) (itn (by decide) (itn (fun z=>nomatch z) k)))))
 ·refine itn (by decide) (itn (by decide) (itn (by decide) (itn (by decide) (itn (by decide) ?_))))
  cases d <;> try exact qT hd
  ·cases hp
   exact itn (fun z=>nomatch z) k
  ·cases hp
   exact itp rfl ⟨hN,by lia,fun p h1=>kh (v:=L2.T [97,110,121]) rfl rfl ⟨H,Gc.refl,k⟩⟩
 ·refine itn (by decide) (itn (by decide) (itn (by decide) (itn (by decide) (itn (by decide) ?_))))
  cases d <;> try exact qT hd
  ·cases hp
   exact itn (fun z=>nomatch z) k
  ·cases hp
   exact itp rfl ⟨hN,by lia,fun p h1=>kh (v:=L2.T [45]) rfl rfl ⟨H,Gc.refl,k⟩⟩
 ·cases d <;> try exact qT hd
  cases hp;exact itn (by decide) (itn (by decide) (itn (by decide) (itn (by decide) (itn (by decide) (itn (fun z=>nomatch z) k)))))
 ·cases d <;> try exact qT hd
  cases hp;exact itn (by decide) (itn (by decide) (itp rfl ⟨lg _ hd,H,Gc.refl,k⟩))
 ·cases d <;> try exact qT hd
  cases hp;exact itp rfl ⟨hN,hd,k⟩
 ·cases d <;> try exact qT hd
  cases hp;have l10:=(lR (d9 hd).1 (d9 hd).2).2.1;refine itn (by decide) (itp rfl ⟨hN,hN,d9 hd,by lia,?_⟩);rename_i n;rw[show bh (DT (FD n)) none (some 7)=(DT (FD n)).take 7 by unfold bh HT.sIx;rw[l10];rfl];exact k
 ·cases d <;> try exact qT hd
  rename_i is;obtain⟨p,rfl,hp⟩:=hp;obtain⟨_,hl,hn⟩:=hd;refine itn (by decide) (itn (by decide) (itn (by decide) (itp rfl (pP ?_))));walk_at "rd";refine⟨⟨_,bc hp⟩,?_⟩;refine cmO (fM fun G s=>fu s (bc hp)) is (fun v b=>v=V.int b) (gS (g:=V.int) (fun _=>rfl) _) (fun _ v c=>v=L2.T c) (fun _ _ _ _ _ h=>h) (fun n=>some (NT n)) hN (by rw[yV];lia) (fun _ _ _ r=>r) (fun v b hb e G N1 sG nG n1=>?_) fun cs hcs D ws G sG nG gD A=>?_
  ·subst e
   walk_at "rd";exact⟨lg _ (hn b hb),n1 _ rfl _ G (Same.refl _) nG rfl⟩
  ·rw[i4]at hcs
   cases hcs;walk_at "rd";refine⟨is.map NT,aL (by rw[gD,o7 A]),fj (fun l hl=>?_) (by rw[yV];lia),H,Gc.none sG,k⟩;obtain⟨n,hm,rfl⟩:=kJ.mp hl;exact wx (fG (hn n hm)) (by decide)
 ·cases d <;> try exact qT hd
  rename_i rs;obtain⟨p,vs,rfl,hp,AA⟩:=hp;obtain⟨_,hl,hrr⟩:=hd;refine itn (by decide) (itn (by decide) (itn (by decide) (itn (by decide) (itp rfl (pP ?_)))));walk_at "rd";refine⟨⟨_,bc hp⟩,?_⟩;refine cmO (fM fun G s=>fu s (bc hp)) rs (MkAt rwL H) AA (fun _ v c=>v=L2.T c) (fun _ _ _ _ _ h=>h) (fun r=>some (d7 r)) hN (by rw[AA.len];lia) (fun _ _ _ r=>r) (fun v b hb e G N1 sG nG n1=>?_) fun cs hcs D ws G sG nG gD A=>?_
  ·obtain⟨t,rfl,ht⟩:=e
   obtain⟨w1,w2,w3⟩:=hrr b hb;have l1:=w1.2.2;have l2:=w2.2.2;have l3:=fG w3;walk_at "rd";have ht':=bc (K:=K) (sG _ _ ht);refine⟨_,_,.inr ht',aO (j:=0) rfl,?_⟩;walk_at "rd";refine⟨by lia,_,_,.inr ht',aO (j:=1) rfl,?_⟩;walk_at "rd";refine⟨by rw[zx];show _+1+_<=_;lia,by rw[zx,zx];show _+1+_+1<=_;lia,_,_,.inr ht',aO (j:=2) rfl,?_⟩;walk_at "rd";refine⟨lg _ w3,by simp only[zx];show _+1+_+1+_<=_;lia,n1 _ rfl _ G (Same.refl _) nG ?_⟩;simp[d7,aG]
  ·rw[i4]at hcs
   cases hcs;walk_at "rd";refine⟨rs.map d7,aL (by rw[gD,o7 A]),fj (fun l hl=>?_) (by rw[yV];lia),H,Gc.none sG,k⟩;obtain⟨n,hm,rfl⟩:=kJ.mp hl;exact wx (oE (hrr n hm)) (by decide)
 ·exact(hn rfl).elim
theorem mM(s:Nat)(x:List Nat):∀ys:List (List Nat),aG [s] (x::ys)=x++(ys.map fun y=>s::y).flatten
 | []=>by simp[aG]
 |y::r=>by
  rw[bo,mM s y r];simp
theorem iM{α β:Type}{R:α->β->Prop}{x:α}:∀ {g:List α} {bs:List β},A2 R (g++[x]) bs->∃bs' b,bs=bs'++[b]/\A2 R g bs'/\R x b
 | [],_,.cons h .nil=>⟨[],_,rfl,.nil,h⟩
 |y::r,_,.cons h t=>by
  obtain⟨bs',b,rfl,h1,h2⟩:=iM t;exact⟨_::bs',b,rfl,.cons h h1,h2⟩
theorem qi{α β:Type}{R:α->β->Prop}{x:β}:∀ {g:List β} {as:List α},A2 R as (g++[x])->∃as' b,as=as'++[b]/\A2 R as' g/\R b x
 | [],_,.cons h .nil=>⟨[],_,rfl,.nil,h⟩
 |y::r,_,.cons h t=>by
  obtain⟨bs',b,rfl,h1,h2⟩:=qi t;exact⟨_::bs',b,rfl,.cons h h1,h2⟩
noncomputable def Bh(k:K9):Bool:=decide (k = .note)
theorem sA{l:List Nat}{f:List K9}(h:cj aV l=some f):∃g:List K9,lfm f=g.map lt/\(∀k∈g,k ≠ .note)/\f=g++if l∈NT3 then [.note] else []:=by
 have m:=dH h;have:∀p∈aV,lfm p.2=(p.2.filter fun k=>!Bh k).map lt/\(∀k∈p.2.filter fun k=>!Bh k,k ≠ .note)/\p.2=(p.2.filter fun k=>!Bh k)++if p.1∈NT3 then [.note] else []:=by decide +kernel
 exact⟨_,this _ m⟩
theorem jv(h:List Nat->List Nat):∀(n:Nat) (xs:List (List Nat)),((xs.take n).map h).flatten.length<=(xs.map h).flatten.length
 |0,_=>uG _
 |n+1,[]=>xi _
 |n+1,x::r=>by
  simp only[List.take_succ_cons,rS,List.flatten_cons,zx];exact Nat.add_le_add_left (jv h n r) _
def sp_xV:Sp:=sp1 fun x H Q _=>NoT H/\∃o,vG o/\OrAt H x o/\Q (L2.T (dL o)) H
theorem ow(T:Txt w K mg a):Fo P w K mg base "_law_line" 8 sp_xV:=by
 refine T.p7.hg ["_law_order_here","_law_form_here","_law_line_here","_law_k"] (gG1 fun x0 fA cdv A outer s H Q E ND HU hr h=>?_);obtain⟨hN,o,ho,⟨q,vs,rfl,hq,AA⟩,k⟩:=h;obtain⟨f,ef,B⟩:=ho;have fl:=db ef;have al:=AA.len;have bl:=B.len;have sz:2000<=sizeLine:=by rw[wz];decide
 obtain⟨g,eg,hg,hc⟩:=sA ef;have gl:g.length<=f.length:=by rw[hc];split <;> simp
 have hq':SqT K H q (L2.T o.1::vs):=bc hq;have tot:=(tU ⟨f,ef,B⟩).2;unfold dL at tot k;rw[ef,YW,mM]at tot k;rw[zx]at tot;have c3:∃u,PSs (bE (XE P w) P w K mg base ["_law_order_here","_law_form_here","_law_line_here","_law_k"] "_law_line" (au (top 66)) fA cdv A outer s H (gcE H E)) (Zn 3 (aQ (top 66))) u/\∀l x1 x3,l=o.1++(((f.zipWith wrP o.2).take g.length).map fun y=>32::y).flatten->u { nx:=fun _ H'=>∃G,Gc H G H'/\Q .non G,rt:=fun v H'=>∃G,Gc H G H'/\Q v G } [some (.ref q),x1,some (L2.T l),x3] H:=by
  refine⟨_,(aa (aE (jB (cw (jo K) (aN K (fv 0) ae) (eS (fa3 (ac [98,111,111,107]) (ac [117,110,100,111]) (ac [115,116,97,110,100,105,110,103]))) (by with_unfolding_all rfl))) (aa (aC 2 ND (ah av (fv 2) (ac [32,124])))
   (af (aE (ak (bO K HU) (aN K (fv 0) (jV fF ae)) (ac [])) (af (aC 2 ND (ah av (ah av (fv 2) (ac [32])) (aN K (fv 0) (jV fF ae))))) ao))) ao)
   (af (ai (fv 2)))),fun l x1 x3 el=>?_⟩
  walk_at "rd";refine⟨hN,L2.T o.1::vs,L2.T o.1,.inr hq',aO (j:=0) rfl,by lia,fun p hp=>⟨NT3.map L2.T,.inr (bc ad),rfl,rfl,H,Gc.none (ag _ hp),?_⟩⟩;rw[lq];have lf:l.length<=449:=by
   rw[el,zx];have:=jv (fun y=>32::y) g.length (f.zipWith wrP o.2);lia
  by_cases h3:o.1∈NT3
  ·rw[if_pos h3]at hc
   refine itp (decide_eq_true h3) ⟨by lia,?_⟩;rw[hc]at B;obtain⟨ps,d,eo,B1,B2⟩:=iM B;rw[eo]at AA;obtain⟨vs',v,rfl,A1,A2'⟩:=qi AA;cases d <;> try exact qT B2
   rename_i n;cases A2';have el':=wI (L2.T o.1::vs') (L2.T n);refine⟨_,_,.inr hq',el',?_⟩;have nl:=(d8.mp B2.1).1;have gB:=B1.len;have ez:(f.zipWith wrP o.2)=g.zipWith wrP ps++[wrP .note (.w n)]:=by rw[hc,eo,List.zipWith_append gB];rfl
   have lz:(g.zipWith wrP ps).length=g.length:=by rw[Z9,<- gB];exact Nat.min_self _
   rw[ez]at el k;rw[ZS (Nat.le_of_eq lz.symm),vL (Nat.le_of_eq lz)]at el;rw[ms,List.flatten_append,<- Zp,<- el]at k;walk_at "rd";split
   ·rename_i h1
    subst h1
    simpa [wrP] using k
   ·rename_i h1
    refine⟨by rw[zx];show _+2+1<=_;lia,_,_,.inr hq',el',?_⟩;walk_at "rd";refine⟨by rw[zx,zx];show _+2+1+_<=_;lia,?_⟩
    simpa [wrP,h1] using k
  ·rw[if_neg h3,Z3]at hc
   refine itn (fun z=>h3 (of_decide_eq_true z)) ⟨H,Gc.refl,?_⟩;rw[el,hc.symm,vL (by rw[Z9];exact Nat.min_le_left _ _)];exact k
 obtain⟨u3,hu3,c3⟩:=c3;refine⟨hN,_,(aa (aC 1 ND (az (eL T) hr aB (fa1 (aN K (fv 0) ae))))
  (aa (aC 2 ND (aN K (fv 0) ae))
  (aa (eW (by passes_own) rfl (cn rfl T.dh (fa1 (ay (aS K) rfl T.bD bd (fa1 (fv 1))))) (aR (i:=3) ND rfl (Or.inl rfl)) (af (aC 2 ND (ah av (ah av (fv 2) (ac [32])) (az (iK T) hr aB (fa2 (aN K (fv 1) (fv 3)) (aN K (fv 0) (ah av ae (fv 3)))))))))
  hu3))),?_⟩
 walk_at "rd";refine⟨L2.T o.1::vs,L2.T o.1,.inr hq',aO (j:=0) rfl,hN,?_⟩;walk_at "rd";refine⟨L2.T o.1::vs,L2.T o.1,.inr hq',aO (j:=0) rfl,fI ?_⟩;rw[ef,show ofm (some f)=L2.T (g.map lt) from congrArg L2.T eg];walk_at "rd";rw[yV];have xf:f.length<=10:=fl;refine⟨by lia,by lia,by lia,?_⟩;rw[qa];refine eG (lo:=0) (n:=g.length) (fun i σ' G=>∃x3,σ'=[some (.ref q),some (L2.T (g.map lt)),some (L2.T (o.1++(((f.zipWith wrP o.2).take i).map fun y=>32::y).flatten)),x3]/\H=G) ⟨none,by simp,rfl⟩ ?_ ?_
 ·rintro i σ' G hi ⟨x3,rfl,rfl⟩
  walk_at "rd";have ig:i<f.length:=by lia
  have e1:g[i]? = some g[i]:=List.getElem?_eq_some_iff.mpr ⟨hi,rfl⟩;have e2:f[i]? = some g[i]:=by
   conv=>lhs;rw[hc]
   rw[List.getElem?_append_left hi,e1]
  obtain⟨d,hd,hok⟩:=B.at_ e2;have iv:i<vs.length:=by lia
  have e3:vs[i]? = some vs[i]:=List.getElem?_eq_some_iff.mpr ⟨iv,rfl⟩;obtain⟨d',hd',hpt⟩:=AA.at_ e3;rw[hd]at hd';cases hd';have t1:=jv (fun y=>32::y) i (f.zipWith wrP o.2);have t2:=(o_ hok).1;have t3:kl g[i]<=400:=by cases g[i] <;> decide
  rw[show((0:Int)+(i:Int))=(i:Nat) by lia,aO (v:=lt g[i]) (by rw[List.getElem?_map,e1];rfl)];rw[show(1:Int)+(i:Int)=((i+1:Nat):Int) by lia];refine⟨by rw[zx];lia,by rw[yV];lia,_,_,.inr hq',aO (v:=vs[i]) (j:=i+1) e3,hN,g[i],d,hg _ (Ze hi),rfl,hok,hpt,by rw[zx,zx];show _+_+1+_<=_;lia,_,?_,rfl⟩;have ez:(f.zipWith wrP o.2)[i]? = some (wrP g[i] d):=by rw[List.getElem?_zipWith,e2,hd]
  rw[Ye,ez];simp
 ·rintro σ' G ⟨x3,rfl,rfl⟩
  exact c3 _ _ _ rfl
end
open PySem L2 K3 M2 K22
section
variable{pS:Addr}{ns:List Int}{P:Program}{w:World}{K:W.Frag}{mg:Str->Option Value}{base:Heap}{a:Adr}
open MT
noncomputable def SZ(xs:List (List Nat)):Nat:=(xs.map mF).sum+xs.length
theorem iU(xs ys:List (List Nat)):SZ (xs++ys)=SZ xs+SZ ys:=by
 unfold SZ;rw[ms,List.sum_append,zx];lia
theorem oZ(xs:List (List Nat))(i:Nat):SZ (xs.take i)+SZ (xs.drop i)=SZ xs:=by rw[<- iU,List.take_append_drop]
theorem yI(xs:List (List Nat))(i:Nat):SZ (xs.drop (i+1))<=SZ (xs.drop i):=by
 rw[<- List.drop_drop,<- oZ (xs.drop i) 1];exact Nat.le_add_left _ _
theorem DI(l:List Nat):SZ (spN 32 l)=l.length+1:=by
 have:=ik 32 (da 32 l);rw[iz]at this;exact this.symm
theorem uq(s:Nat)(xs:List (List Nat)):(aG [s] xs).length<=SZ xs-1:=by
 cases xs with
 |nil=>exact uG _
 |cons x r=>
  have:=ik s (xs:=x::r) (fun z=>nomatch z);unfold SZ;lia
theorem t6{x:List Nat}:∀ {xs:List (List Nat)},x∈xs->x.length<=(xs.map mF).sum
 |y::r,h=>by
  rw[rS,ZJ];rcases zv.mp h with rfl|h
  ·exact Zu _ _
  ·exact wx (t6 h) (Nat.le_add_left _ _)
theorem wu{xs:List (List Nat)}{n:Nat}(h:SZ xs<=n):xs.length<=n/\∀x∈xs,x.length<=n:=by
 unfold SZ at h;refine⟨by lia,fun x hx=>?_⟩;have:=t6 hx;lia
theorem ud{G:Hp}{q1:Addr}{ws:List (List Nat)}{R:VK}(nG:NoT G)(gq:G q1=some (.lst (ws.map L2.T)))(i j:Nat)(hz:SZ (ws.take i)+SZ (ws.drop j)<=1000)(h:∀G',Same G G'->R (L2.T (aG [32] (ws.take i++ws.drop j))) G'):zq K (.ref q1) none (some (i:Int)) G fun x H1=>zq K (.ref q1) (some (j:Int)) none H1 fun y H2=>Bk x y H2 fun x H1=>yf K (L2.T [32]) [x] H1 R:=by
 have sz:2000<=sizeLine:=by rw[wz];decide
 rw[<- iU]at hz;obtain⟨z1,z2⟩:=wu hz;refine⟨q1,_,rfl,aL gq,fun p hp=>?_⟩;have s1:=ag (HO.lst (bX (ws.map L2.T) none (some (i:Int)))) hp;refine⟨q1,_,rfl,aL (s1 _ _ gq),fun r hr=>?_⟩;have s2:=ag (HO.lst (bX (ws.map L2.T) (some (j:Int)) none)) hr;refine⟨_,_,s2 _ _ ad,ad,?_,fun t ht=>⟨ws.take i++ws.drop j,aL ?_,fj (fun x hx=>z2 x hx) (by lia),h _ ((s1.trans s2).trans (ag _ ht))⟩⟩
 ·rw[nu,gs,<- Yj,<- ZI,<- zx,<- ms,yV]
  lia
 ·rw[ad,nu,gs,ms,Yj,ZI]
noncomputable def Dt:List (List Nat):=[[97,110,121],[45],[124],[],[50,48,50,52,45,48,50,45,51,48],[50,48,50,52,45,49,51],[48,48,55],[45,48],[49,44,44,50],[110,111,117,103,104,116],[50,48,48,48,45,48,49],[48]]
noncomputable def Dr:List (List Nat):=[[98,111,111,107,32,50,48,50,52,45,48,49,45,48,49,32,124],[115,116,97,110,100,105,110,103,32,97,32,50,48,50,52,45,48,49,45,48,49,32,49,32,49,32,124],[117,110,100,111,32,49,32,50,48,50,52,45,48,49,45,48,49,32,124,32],[117,110,100,111,32,49,32,50,48,50,52,45,48,49,45,48,49,32,124,32,32,120],[98,111,111,107],[117,110,100,111,32,49,32,50,48,50,52,45,48,49,45,48,49,124],[117,110,100,111,32,49,32,50,48,50,52,45,48,49,45,48,49,32,124,120],[98,111,111,107,32,50,48,50,52,45,48,49,45,48,49,32,97,32,66,32,49,32,50,32,124],[97,99,99,111,117,110,116,115,32,124],[98,111,111,107,32,50,48,50,52,45,48,49,45,48,49,32,97,32,66,32,49,32,124,32],[99,108,111,115,101,32,50,48,50,52,45,48,49],[114,117,110,32,50,48,50,52,45,48,49,45,48,49,32,124],[117,110,100,111,32,49,32,50,48,50,52,45,48,49,45,48,49,32,124,32,120,124,121],[111,118,101,114,32,50,48,50,52,45,49],[],[124]]
theorem yo:∀d∈Dr,d.length<=30/\pl d:=by unfold pl;decide
noncomputable def AF:List (List Nat):=[[32],[32,124],[32,124,32],[32,32],[32,120],[32,124,32,120],[124],[32,48]]
theorem ze:∀d∈Dt,d.length<=10/\pl d:=by unfold pl;decide
theorem wB:∀d∈AF,d.length<=4/\pl d:=by unfold pl;decide
theorem Dd{ws:List (List Nat)}(h:WL ws):∀d∈ws,d.length<=9/\pl d:=by
 rw[h.eq];unfold pl
 decide
theorem tM(l:List Nat)(j:Nat):bh l none (some (j:Int))=l.take j:=by
 unfold bh;rw[HT.sIx_none,HT.sIx_nat,Yd,Nat.sub_zero];by_cases hl:j<=l.length
 ·rw[Ys hl]
 ·rw[Yx (by lia),vL (xi _),vL (by lia)]
theorem fk{ls:List (List Nat)}{i:Int}(h0:0<=i)(h1:i<ls.length):∃d∈ls,atI (ls.map L2.T) i=some (L2.T d):=by
 obtain⟨j,rfl⟩:∃j:Nat,i=j:=⟨i.toNat,by lia⟩;have hj:j<ls.length:=by lia
 exact⟨ls[j],Ze hj,aO (by rw[List.getElem?_map,List.getElem?_eq_some_iff.mpr ⟨hj,rfl⟩];rfl)⟩
def sp_yV:Sp:=sp3 fun x y z H Q _=>NoT H/\asT x fun l=>asI y fun _=>asI z fun _=>pl l/\l.length<=449/\∀l',pl l'->l'.length<=900->Q (L2.T l') H
theorem nR(T:Txt w K mg a):Fo P w K mg base "_law_bent" 3 sp_yV:=by
 refine T.rj.hg ["_law_line_here","_law_cell","_law_other","_law_at_here","_law_sign","_law_words_here","_law_spot","_law_way","_law_some","_law_odd"] (gG3 fun x0 x1 x2 fA cdv A outer s H Q E ND HU hr h=>?_);obtain⟨hN,h⟩:=h;refine de (ba h) fun l yy1 h1=>?_;subst yy1;refine de (bu h1) fun c yy1 h2=>sy (bu h2) fun o yy2 hl l6 k=>?_;subst yy1 yy2;have sz:2000<=sizeLine:=by rw[wz];decide
 have c6:∃u,PSs (bE (XE P w) P w K mg base ["_law_line_here","_law_cell","_law_other","_law_at_here","_law_sign","_law_words_here","_law_spot","_law_way","_law_some","_law_odd"] "_law_bent" (au (top 67)) fA cdv A outer s H (gcE H E)) (Zn 6 (aQ (top 67))) u/\∀(n m y:Int) s q1 x8 x9 G,0<=n->n<=l.length->(s<128/\s≠37)->Same H G->NoT G->G q1=some (.lst ((spN 32 l).map L2.T))->0<=m->m<(spN 32 l).length->u { nx:=fun _ H'=>∃G,Gc H G H'/\Q .non G,rt:=fun v H'=>∃G,Gc H G H'/\Q v G } [some (L2.T l),some (.int c),some (.int o),some (.int n),some (L2.T [s]),some (.ref q1),some (.int m),some (.int y),x8,x9] G:=by
  refine⟨_,(aa (aE (ak (aF K HU) (fv 7) ae) (af (ai (ah av (ah av (aA aT (fv 0) aJ (aD (fv 3))) (fv 4)) (aA aT (fv 0) (aD (fv 3)) aJ)))) ao)
   (aa (aE (ak (aF K HU) (fv 7) ae) (af (ai (ah av (aA aT (fv 0) aJ (aD (fv 3))) (aA aT (fv 0) (aD (ah av (fv 3) ae)) aJ)))) ao)
   (aa (aE (ak (aF K HU) (fv 7) ae) (af (ai (ah av (ah av (aA aT (fv 0) aJ (aD (fv 3))) (fv 4)) (aA aT (fv 0) (aD (ah av (fv 3) ae)) aJ)))) ao)
   (aa (aE (ak (aF K HU) (fv 7) ae) (af (ai (aP K xn pV qC (bQ K) (ac [32]) (fa1 (ah b_ (aA (bZ K) (fv 5) aJ (aD (fv 6))) (aA (bZ K) (fv 5) (aD (ah av (fv 6) ae)) aJ)))))) ao)
   (aa (aE (ak (aF K HU) (fv 7) ae) (af (ai (aP K xn pV qC (bQ K) (ac [32]) (fa1 (ah b_ (aA (bZ K) (fv 5) aJ (aD (ah av (fv 6) ae))) (aA (bZ K) (fv 5) (aD (fv 6)) aJ)))))) ao)
   (aa (aE (ak (aF K HU) (fv 7) ae) (aa (aC 9 ND (eB (FA.pa (ap (ac [97,110,121]) (ap (ac [45]) (ap (ac [124]) (ap (ac []) (ap (ac [50,48,50,52,45,48,50,45,51,48]) (ap (ac [50,48,50,52,45,49,51]) (ap (ac [48,48,55]) (ap (ac [45,48]) (ap (ac [49,44,44,50]) (ap (ac [110,111,117,103,104,116]) (ap (ac [50,48,48,48,45,48,49]) (ap (ac [48]) bw))))))))))))) (ah aU (fv 2) ae) (fun _ _=>rfl)))
   (af (ai (aP K xn pV qC (bQ K) (ac [32]) (fa1 (ah b_ (ah b_ (aA (bZ K) (fv 5) aJ (aD (fv 6))) (aX (fa1 (fv 9)))) (aA (bZ K) (fv 5) (aD (ah av (fv 6) ae)) aJ))))))) ao)
   (aa (aE (ak (aF K HU) (fv 7) ae) (af (ai (ah av (aN K (eM (dj T) hr.mono rfl aB) (ah aU (fv 2) ae)) (aA aT (fv 0) (aD (ay (aS K) rfl T.bD bd (fa1 (aN K (fv 5) ae)))) aJ)))) ao)
   (af (ai (ah av (fv 0) (eB (FA.pa (ap (ac [32]) (ap (ac [32,124]) (ap (ac [32,124,32]) (ap (ac [32,32]) (ap (ac [32,120]) (ap (ac [32,124,32,120]) (ap (ac [124]) (ap (ac [32,48]) bw))))))))) (ah aU (fv 2) ae) (fun _ _=>rfl)))))))))))),fun n m y s q1 x8 x9 G n0 n1 hs sG nG gq m0 m1=>?_⟩
  walk_at "rd";have sw:=DI l;have L1:l.length<=sizeLine:=by lia
  obtain⟨n,rfl⟩:∃z:Nat,n=z:=⟨n.toNat,by lia⟩;obtain⟨m,rfl⟩:∃z:Nat,m=z:=⟨m.toNat,by lia⟩;have e1:bh l none (some (n:Int))=l.take n:=tM l n;have e2:bh l (some (n:Int)) none=l.drop n:=fe l n;have e3:bh l (some ((n:Int)+1)) none=l.drop (n+1):=fe l (n+1);have p1:pl (l.take n):=fun c hc=>hl c (oX hc);have p2:∀j,pl (l.drop j):=fun j c hc=>hl c (vv hc);have ps:pl [s]:=fun c hc=>by rw[uH.mp hc];exact hs
  have z1:(l.take n).length=n:=by rw[r0];lia
  have z2:(l.drop n).length=l.length-n:=vJ;have z3:(l.drop (n+1)).length=l.length-(n+1):=vJ;have pw:∀x∈spN 32 l,pl x:=fun x hx c hc=>hl c ((dX 32 l x hx).2 c hc);have t1:=oZ (spN 32 l) m;have t2:=oZ (spN 32 l) (m+1);have t3:=yI (spN 32 l) m;have b1:=fun(i j:Nat)=>uq 32 ((spN 32 l).take i++(spN 32 l).drop j);have pj:∀(i j:Nat),pl (aG [32] ((spN 32 l).take i++(spN 32 l).drop j)):=fun i j=>fT (by decide) fun x hx=>(vY.mp hx).elim (fun h=>pw x (oX h)) fun h=>pw x (vv h);split
  ·rw[e1,e2]
   refine⟨L1,by lia,L1,by rw[zx,z1,z2];show n+1+_<=_;lia,H,Gc.none sG,k _ ((p1.app ps).app (p2 n)) ?_⟩;rw[zx,zx,z1,z2];show n+1+_<=_;lia
  split
  ·rw[e1,e3]
   refine⟨L1,L1,by lia,H,Gc.none sG,k _ (p1.app (p2 _)) ?_⟩;rw[zx];lia
  split
  ·rw[e1,e3]
   refine⟨L1,by lia,L1,by rw[zx,z1,z3];show n+1+_<=_;lia,H,Gc.none sG,k _ ((p1.app ps).app (p2 _)) ?_⟩;rw[zx,zx,z1,z3];show n+1+_<=_;lia
  split
  ·refine ud nG gq m (m+1) (by lia) fun G' s'=>⟨H,Gc.none (sG.trans s'),k _ (pj _ _) ?_⟩
   have:=b1 m (m+1);rw[iU]at this;lia
  split
  ·refine ud nG gq (m+1) m (by lia) fun G' s'=>⟨H,Gc.none (sG.trans s'),k _ (pj _ _) ?_⟩
   have:=b1 (m+1) m;rw[iU]at this;lia
  split
  ·refine⟨nG,by lia,fun p hp=>jq (ls:=Dt) (qX _ (by decide)) (vb o (by decide:(0:Int)<12)) fun d hd=>?_⟩
   obtain⟨d1,d2⟩:=ze d hd;have hz:SZ ((spN 32 l).take m++[d]++(spN 32 l).drop (m+1))<=462:=by
    rw[iU,iU,show SZ [d]=d.length+1 by simp[SZ]];lia
   obtain⟨w1,w2⟩:=wu hz;have w3:=uq 32 ((spN 32 l).take m++[d]++(spN 32 l).drop (m+1));have w0:=w1;rw[zx,zx]at w1;have w4:((spN 32 l).take m).length+1+((spN 32 l).drop (m+1)).length<=462:=w1;refine⟨q1,_,rfl,aL gq,fun p hp=>⟨by lia,fun r hr'=>?_⟩⟩;have s1:=(ag (HO.lst (bX ((spN 32 l).map L2.T) none (some (m:Int)))) hp).trans (ag (HO.lst [L2.T d]) hr');refine⟨_,_,(aw (aq ad hr')).trans ad,ad,?_,fun t ht=>?_⟩
   ·rw[nu,<- Yj,yV];show _+1<=_;lia
   have s2:=s1.trans (ag (HO.lst (bX ((spN 32 l).map L2.T) none (some (m:Int))++[L2.T d])) ht);refine⟨q1,_,rfl,aL (s2 _ _ gq),fun r2 hr2=>⟨_,_,(aw (aq ad hr2)).trans ad,ad,?_,fun t2 ht2=>⟨(spN 32 l).take m++[d]++(spN 32 l).drop (m+1),aL ?_,fj (fun x hx=>wx (w2 x hx) (by decide)) (wx w0 (by decide)),H,Gc.none ((sG.trans s2).trans ((ag _ hr2).trans (ag _ ht2))),k _ (fT (by decide) fun x hx=>?_) (wx w3 (by lia))⟩⟩⟩
   ·rw[nu,show bX ((spN 32 l).map L2.T) (some ((m:Int)+1)) none=_ from gs _ (m+1),<- Yj,<- ZI,zx,yV,yV]
    show _+1+_<=_;lia
   ·rw[ad,nu,show bX ((spN 32 l).map L2.T) (some ((m:Int)+1)) none=_ from gs _ (m+1),ms,ms,Yj,ZI]
    rfl
   ·rcases vY.mp hx with hx|hx
    ·rcases vY.mp hx with hx|hx
     ·exact pw x (oX hx)
     ·rw[uH.mp hx];exact d2
    ·exact pw x (vv hx)
  split
  ·refine⟨nG,fun p ws G1 hw s1 n1 gp=>?_⟩
   have lw:ws.length=21:=by rw[hw.eq];rfl
   obtain⟨d,hd,ed⟩:=fk (ls:=ws) (qX o (by decide:(21:Int)≠0)) (by rw[lw];exact vb o (by decide));obtain⟨d1,d2⟩:=Dd hw d hd;obtain⟨x,r,ex⟩:∃x r,spN 32 l=x::r:=by
    cases e:spN 32 l with
    |nil=>exact absurd e (da 32 l)
    |cons x r=>exact⟨x,r,rfl⟩
   have gq1:=s1 _ _ gq;rw[ex]at gq1;refine⟨_,_,.inl (aL gp),ed,_,_,.inl (aL gq1),aO (j:=0) rfl,?_⟩;walk_at "rd";have xl:=(dX 32 l x (by rw[ex];exact ZV)).1;rw[show bh l (some ((x.length:Nat):Int)) none=_ from fe l x.length];have z4:(l.drop x.length).length=l.length-x.length:=vJ;exact⟨by lia,L1,by lia,H,Gc.none (sG.trans s1),k _ (d2.app (p2 _)) (by rw[zx];lia)⟩
  ·refine⟨nG,by lia,fun p hp=>jq (ls:=AF) (qX _ (by decide)) (vb o (by decide:(0:Int)<8)) fun d hd=>?_⟩
   obtain⟨d1,d2⟩:=wB d hd;walk_at "rd";refine⟨by lia,H,Gc.none sG,k _ (hl.app d2) (by rw[zx];lia)⟩
 obtain⟨u6,hu6,c6⟩:=c6;have c5:∃u,PSs (bE (XE P w) P w K mg base ["_law_line_here","_law_cell","_law_other","_law_at_here","_law_sign","_law_words_here","_law_spot","_law_way","_law_some","_law_odd"] "_law_bent" (au (top 67)) fA cdv A outer s H (gcE H E)) (Zn 5 (aQ (top 67))) u/\∀(n m y:Int) s q1 x8 x9 G,0<=n->n<=l.length->(s<128/\s≠37)->Same H G->NoT G->G q1=some (.lst ((spN 32 l).map L2.T))->0<=m->m<(spN 32 l).length->u { nx:=fun _ H'=>∃G,Gc H G H'/\Q .non G,rt:=fun v H'=>∃G,Gc H G H'/\Q v G } [some (L2.T l),some (.int c),some (.int o),some (.int n),some (L2.T [s]),some (.ref q1),some (.int m),some (.int y),x8,x9] G:=by
  refine⟨_,(aa (aE (ak (aF K HU) (fv 7) ae) (aa (aC 8 ND (aX (fa4 (ac [98,111,111,107,32,50,48,50,52,45,48,49,45,48,49,32,124]) (ac [115,116,97,110,100,105,110,103,32,97,32,50,48,50,52,45,48,49,45,48,49,32,49,32,49,32,124]) (ac [117,110,100,111,32,49,32,50,48,50,52,45,48,49,45,48,49,32,124,32]) (ac [117,110,100,111,32,49,32,50,48,50,52,45,48,49,45,48,49,32,124,32,32,120]))))
   (aa (aC 8 ND (ah b_ (fv 8) (aX (fa5 (ac [98,111,111,107]) (ac [117,110,100,111,32,49,32,50,48,50,52,45,48,49,45,48,49,124]) (ac [117,110,100,111,32,49,32,50,48,50,52,45,48,49,45,48,49,32,124,120]) (ac [98,111,111,107,32,50,48,50,52,45,48,49,45,48,49,32,97,32,66,32,49,32,50,32,124]) (ac [97,99,99,111,117,110,116,115,32,124])))))
   (aa (aC 8 ND (ah b_ (fv 8) (aX (fa4 (ac [98,111,111,107,32,50,48,50,52,45,48,49,45,48,49,32,97,32,66,32,49,32,124,32]) (ac [99,108,111,115,101,32,50,48,50,52,45,48,49]) (ac [114,117,110,32,50,48,50,52,45,48,49,45,48,49,32,124]) (ac [117,110,100,111,32,49,32,50,48,50,52,45,48,49,45,48,49,32,124,32,120,124,121])))))
   (af (ai (aN K (ah b_ (fv 8) (aX (fa3 (ac [111,118,101,114,32,50,48,50,52,45,49]) (ac []) (ac [124])))) (ah aU (fv 2) ae))))))) ao)
   hu6),fun n m y s q1 x8 x9 G n0 n1 hs sG nG gq m0 m1=>?_⟩
  walk_at "rd";split
  ·refine⟨by lia,fun p hp=>⟨by lia,fun q hq=>⟨_,_,(aw (aq ad hq)).trans ad,ad,by show 4+5<=_;lia,fun r h1=>⟨by lia,fun p2 hp2=>⟨_,_,(aw (aq ad hp2)).trans ad,ad,by show 9+4<=_;lia,fun r2 h2=>⟨by lia,fun p3 hp3=>⟨_,_,(aw (aq ad hp3)).trans ad,ad,by show 13+3<=_;lia,fun r3 h3=>?_⟩⟩⟩⟩⟩⟩⟩
   obtain⟨d,hd,ed⟩:=fk (ls:=Dr) (qX o (by decide:(16:Int)≠0)) (vb o (by decide:(0:Int)<16));obtain⟨d1,d2⟩:=yo d hd;exact⟨_,_,.inl (aL ad),ed,H,Gc.none ((sG.trans ((ag _ hp).trans ((ag _ hq).trans (ag _ h1)))).trans ((ag _ hp2).trans ((ag _ h2).trans ((ag _ hp3).trans (ag _ h3))))),k d d2 (by lia)⟩
  ·exact c6 n m y s q1 x8 x9 G n0 n1 hs sG nG gq m0 m1
 obtain⟨u5,hu5,c5⟩:=c5;refine⟨hN,_,(aa (aC 3 ND (ah aU (ah bI (fv 1) ae) (ah av (ay (aS K) rfl T.bD bd (fa1 (fv 0))) ae)))
  (aa (aC 4 ND (aN K (ah av (ah av (ac [32,124]) (eM (cC T) hr.mono rfl aB)) (ac [10,9])) (ah aU (fv 2) ae)))
  (aa (aC 5 ND (aP K xn mG mK cE (fv 0) (fa1 (ac [32]))))
  (aa (aC 6 ND (ah aU (ah bI (fv 1) ae) (ay (aS K) rfl T.bD bd (fa1 (fv 5)))))
  (aa (aC 7 ND (ah aU (fv 1) ae))
  hu5))))),?_⟩
 walk_at "rd";have sL:=ku;have sl:=cF 32 l;have sn:(spN 32 l).length≠0:=fun z=>da 32 l (Zy.mp z);have a0:0<=o % 96:=qX _ (by decide);have a1:o % 96<(32::124::(SIG++[10,9])).length:=by
  rw[xR,xR,zx,sL];exact vb o (by decide)
 have hm:=lp a0 a1;refine⟨by lia,by lia,hN,by rw[sL];lia,by lia,by lia,?_⟩;show match atI (32::124::(SIG++[10,9])) (o % 96) with|some c_1=>_|none=>False
 rw[xN a0 a1];generalize (32::124::(SIG++[10,9])).getD (o % 96).toNat 0=s at hm;have hs:s<128/\s≠37:=by
  rcases zv.mp hm with rfl|hm
  ·decide
  rcases zv.mp hm with rfl|hm
  ·decide
  rcases vY.mp hm with hm|hm
  ·have:=fR.mp hm
   exact⟨by lia,this.2.1⟩
  ·simp only[zv,oO,or_false]at hm
   lia
 refine⟨by lia,fun p hp=>⟨_,.inl (aL ad),?_⟩⟩;rw[yV];exact⟨by lia,c5 _ _ _ s p _ _ _ (qX _ (by lia)) (by have:=vb (c / 9) (by lia:(0:Int)<(l.length:Int)+1);lia) hs (ag _ hp) (aj hN rfl) ad (qX _ (by lia)) (vb _ (by lia))⟩
end
open PySem L2 K3 M2 K22
section
variable{pS:Addr}{ns:List Int}{P:Program}{w:World}{K:W.Frag}{mg:Str->Option Value}{base:Heap}{a:Adr}
open MT
theorem Dp{K:W.Frag}{H:Hp}{p q:Addr}{xs:List V}(hx:SqL K H p xs)(hy:SqL K H q []):EqR K H p q xs.isEmpty:=by
 cases xs with
 |nil=>exact EqR.lst (e:=fun _=>true) hx hy rfl fun j x y gx _=>by simp at gx
 |cons x r=>exact EqR.len hx hy (by simp)
theorem kx{neg:Bool}{H:Hp}{D p:Addr}{l:List Nat}{Q:VK}(hp:upd H D (.lst (l.map fun c=>L2.T [c])) p=none)
 (q:Q (.bl (neg ^^ l.isEmpty)) (upd (upd H D (.lst (l.map fun c=>L2.T [c]))) p (.lst []))):fH K neg (.ref D) (.ref p) (upd (upd H D (.lst (l.map fun c=>L2.T [c]))) p (.lst [])) Q:=by
 refine⟨_,Dp (aL ((aw (aq ad hp)).trans ad)) (aL ad),?_⟩;rw[List.isEmpty_map];exact q
theorem gc2{H:Hp}{D p:Addr}{o o':HO}(hD:H D=none)(hp:upd H D o p=none):Gc H H (upd (upd H D o) p o'):=Gc.none ((ag _ hD).trans (ag _ hp))
noncomputable def DIG:List Nat:=[48,49,50,51,52,53,54,55,56,57]
theorem DR(c:Nat):c∈DIG↔MT.isD c=true:=by
 have e:MT.isD c=true↔48<=c/\c<=57:=by simp[MT.isD]
 rw[e];constructor
 ·have ha:∀c∈DIG,48<=c/\c<=57:=by decide
  exact ha c
 ·rintro⟨h1,h2⟩
  have hb:∀k,k<10->48+k∈DIG:=by decide
  have:=hb (c-48) (by lia)
  rwa [show 48+(c-48)=c by lia]at this
theorem eR{l:List Nat}{p:Nat->Bool}:(l.filter p).isEmpty=decide (∀c∈l,p c=false):=by
 rw[ZO,List.isEmpty_iff,List.filter_eq_nil_iff,decide_eq_true_eq];simp only[Bool.not_eq_true]
def sp_vY:Sp:=sp1 fun x H Q _=>NoT H/\asT x fun l=>ok l/\Q (ov (nof l)) H
theorem cy(T:Txt w K mg a):Fo P w K mg base "_law_read_number" 1 sp_vY:=by
 refine T.gO.hg ["_law_word","_law_figures"] (gG1 fun x0 fA cdv A outer s H Q E ND HU hr h=>?_);obtain⟨hN,h⟩:=h;refine dQ (ba h) fun l yy1 hl k=>?_;subst yy1;have sz:2000<=sizeLine:=by rw[wz];decide
 have c2:∃u,PSs (bE (XE P w) P w K mg base ["_law_word","_law_figures"] "_law_read_number" (au (top 68)) fA cdv A outer s H (gcE H E)) (Zn 1 (aQ (top 68))) u/\u { nx:=fun _ H'=>∃G,Gc H G H'/\Q .non G,rt:=fun v H'=>∃G,Gc H G H'/\Q v G } [some (L2.T l),some (L2.T (fg l))] H:=by
  refine⟨_,(aa (aE (jB (L2.PW.pt (bS (ak mX (ay (aS K) rfl T.bD bd (fa1 (fv 0))) ae) (bS (ak (aF K HU) (fv 1) (ac [])) (bK (ak (bO K HU) (bG rfl (cl:=_) (x:="_law_sign") (xs:=["_law_sign"]) (fr:=[]) (ks:=[]) (by walk_at "cq") rfl (i8 (fv 1)) (fun _ _ _ _ _=>(aR (i:=0) (cT (l:=["_law_sign"]) (by decide)) rfl (Or.inl rfl))) (fun _ _ _ _ _=>(ky (cw iq (fv 0) (ac [48,49,50,51,52,53,54,55,56,57]) (by with_unfolding_all rfl)))) (fun _ _ _ _ _=>(fv 0))) (aX (FA.pa bw)))))))) (af (ai bb)) ao)
   (aa (aE (L2.PW.pt (cU (ak (aF K HU) (aN K (fv 1) ae) (ac [48])) (b8 (ak (bO K HU) (fv 0) (ac [48]))))) (af (ai bb)) ao)
   (af (ai (aM yX rfl T.dZ cM (fa1 (fv 0))))))),?_⟩
  walk_at "rd";refine⟨hN,bN hl,?_⟩;unfold nof at k;split
  ·rename_i h1
   rw[if_neg (fun z=>by have:=z.1;lia)]at k;exact k
  rename_i h1;split
  ·rename_i h2
   rw[if_neg (fun z=>z.2.1 h2)]at k;exact k
  rename_i h2;have hf:ok (fg l):=by
   unfold fg;split
   ·exact⟨fun c hc=>hl.1 c (vv hc),by rw[vJ];have:=hl.2;lia⟩
   ·exact hl
  refine cmS (fun _=>True) (fun _ _ _=>trivial) (fg l) (fun c=>!decide (c∈DIG)) (fun c=>L2.T [c]) (fun R r=>r) hf.1 (bN hf) (fun c _ H R _ r=>?_) (fun c _ _ H R _ r=>r) (fun D hD=>⟨uG _,fun p hp=>kx hp ⟨H,gc2 hD hp,?_⟩⟩)
  ·walk_at "rd"
   exact r
  ·rw[eR]
   have hd:(∀c∈fg l,(!decide (c∈DIG))=false)↔∀c∈fg l,MT.isD c=true:=by simp[DR]
   by_cases h3:∀c∈fg l,MT.isD c=true
   ·obtain⟨c,r,hcr⟩:∃c r,fg l=c::r:=by
     cases hq:fg l with
     |nil=>exact absurd hq h2
     |cons c r=>exact⟨c,r,rfl⟩
    have l3:=hl.2;have fin:good l->Aw [L2.T l] H fun v H'=>∃G,Gc H G H'/\Q v G:=fun g=>by
     rw[if_pos ⟨by lia,g⟩]at k;exact⟨⟨h2,h3,by show l.length<=640;lia⟩,H,Gc.refl,k⟩
    refine itn (by rw[decide_eq_true (hd.mpr h3)];decide) ⟨bN hf,?_⟩;rw[show atI (fg l) 0=some c by rw[hcr];exact aO (j:=0) rfl];show ite _ _ _;split
    ·rename_i h4
     split
     ·rename_i h5
      exact fin ⟨h2,h3,fun _=>h5⟩
     ·rename_i h5
      rw[if_neg (fun z=>h5 (z.2.2.2 (by rw[hcr,h4];rfl)))]at k;exact⟨H,Gc.refl,k⟩
    ·rename_i h4
     exact fin ⟨h2,h3,fun z=>absurd (by rw[hcr]at z;exact wj z) h4⟩
   ·rw[if_neg (fun z=>h3 z.2.2.1)]at k
    exact itp (by rw[decide_eq_false (fun z=>h3 (hd.mp z))];rfl) ⟨H,Gc.refl,k⟩
 obtain⟨u2,hu2,c2⟩:=c2;refine⟨hN,_,(aa (aC 1 ND (cg (ak (aF K HU) (aA aT (fv 0) aJ (aD ae)) (ac [45])) (aA aT (fv 0) (aD ae) aJ) (fv 0)))
  hu2),?_⟩
 walk_at "rd";rw[AD,show bh l (some 1) none=l.drop 1 from fe l 1];refine⟨bN hl,?_⟩;unfold fg at c2;split
 ·rename_i h1
  rw[if_pos h1]at c2;exact⟨bN hl,c2⟩
 ·rename_i h1
  rw[if_neg h1]at c2;exact c2
theorem eK{l:List Nat}{d:Int}(h:DO l=some d):l.length=10/\DP l/\(0<=d/\d<=146096)/\DT d=l/\(vl (l.take 4):Int)=PY d/\(vl ((l.drop 5).take 2):Int)=PM d/\(vl (l.drop 8):Int)=PP d:=by
 obtain⟨h1,h2⟩:=tT h;unfold DU at h2;split at h2
 ·rename_i g
  simp only[Option.some.injEq,Prod.mk.injEq]at h2;refine⟨g.1.1,g.1,h1,?_,h2⟩;unfold DO at h;split at h
  ·split at h
   ·split at h
    ·rename_i z;cases h;exact z
    ·cases h
   ·cases h
  ·cases h
 ·cases h2
def sp_wj:Sp:=sp1 fun x H Q _=>NoT H/\asT x fun l=>ok l/\Q (ov (DO l)) H
theorem eA(T:Txt w K mg a):Fo P w K mg base "_law_read_day" 7 sp_wj:=by
 refine T.j4.hg ["_law_word","_law_figures","_law_month","_law_day"] (gG1 fun x0 fA cdv A outer s H Q E ND HU hr h=>?_);obtain⟨hN,h⟩:=h;refine dQ (ba h) fun l yy1 hl k=>?_;subst yy1;have sz:2000<=sizeLine:=by rw[wz];decide
 have c3:∃u,PSs (bE (XE P w) P w K mg base ["_law_word","_law_figures","_law_month","_law_day"] "_law_read_day" (au (top 69)) fA cdv A outer s H (gcE H E)) (Zn 3 (aQ (top 69))) u/\∀x1,DP l->u { nx:=fun _ H'=>∃G,Gc H G H'/\Q .non G,rt:=fun v H'=>∃G,Gc H G H'/\Q v G } [some (L2.T l),x1,none,none] H:=by
  refine⟨_,(aa (aC 2 ND (ah cv (ah av (ah bJ ae (ah cv (aM cX rfl T.dZ cM (fa1 (aA aT (fv 0) aJ (aD ae)))) ae)) (aM cX rfl T.dZ cM (fa1 (aA aT (fv 0) (aD ae) (aD ae))))) ae))
   (aa (aE (L2.PW.pt (bS (cP (io d5 d5 ae (fv 2) ae)) (bS (cP (io d5 d5 ae (aM cX rfl T.dZ cM (fa1 (aA aT (fv 0) (aD ae) (aD ae)))) ae)) (bK (cP (io d5 d5 ae (aM cX rfl T.dZ cM (fa1 (aA aT (fv 0) (aD ae) aJ))) ae)))))) (af (ai bb)) ao)
   (aa (aC 3 ND (ah cv (ah av (az (bU T) hr aB (fa1 (fv 2))) (aM cX rfl T.dZ cM (fa1 (aA aT (fv 0) (aD ae) aJ)))) ae))
   (af (ai (cg (L2.PW.pt (cU (ak d5 (fv 3) ae) (b8 (ak (aF K HU) (az (cJ T) hr aB (fa1 (fv 3))) (fv 0))))) (fv 3) bb)))))),fun x1 hp=>?_⟩
  walk_at "rd";obtain⟨l10,_,_,hFI⟩:=hp;have c1:bh l none (some 4)=l.take 4:=by unfold bh HT.sIx;rw[l10];rfl
  have c2:bh l (some 5) (some 7)=(l.drop 5).take 2:=by unfold bh HT.sIx;rw[l10];rfl
  have c3:bh l (some 8) none=l.drop 8:=fe l 8;rw[c1,c2,c3];have f1:l.take 4≠[]/\(∀c∈l.take 4,MT.isD c=true)/\(l.take 4).length<=640:=⟨fun z=>by have h:=congrArg mF z;rw[r0,l10]at h;exact absurd h (by decide),fun c hc=>hFI c (qQ _ (qQ _ hc)),by rw[r0];lia⟩;have f2:(l.drop 5).take 2≠[]/\(∀c∈(l.drop 5).take 2,MT.isD c=true)/\((l.drop 5).take 2).length<=640:=⟨fun z=>by have h:=congrArg mF z;rw[r0,vJ,l10]at h;exact absurd h (by decide),fun c hc=>hFI c (qQ _ (uj _ hc)),by rw[r0,vJ];lia⟩;have f3:l.drop 8≠[]/\(∀c∈l.drop 8,MT.isD c=true)/\(l.drop 8).length<=640:=⟨fun z=>by have h:=congrArg mF z;rw[vJ,l10]at h;exact absurd h (by decide),fun c hc=>hFI c (uj _ hc),by rw[vJ];lia⟩;have L1:l.length<=sizeLine:=by lia
  have yes:∀d,DO l=some d->(0<=12*((vl (l.take 4):Int)-2000)+(vl ((l.drop 5).take 2):Int)-1/\12*((vl (l.take 4):Int)-2000)+(vl ((l.drop 5).take 2):Int)-1<=4799)/\(1<=(vl ((l.drop 5).take 2):Int)/\(vl ((l.drop 5).take 2):Int)<=12)/\(1<=(vl (l.drop 8):Int)/\(vl (l.drop 8):Int)<=31)/\FD (12*((vl (l.take 4):Int)-2000)+(vl ((l.drop 5).take 2):Int)-1)+(vl (l.drop 8):Int)-1=d/\DT d=l:=fun d e=>by
   obtain⟨_,_,hd,ht,e1,e2,e3⟩:=eK e;obtain⟨⟨gy,gm,gp⟩,g2⟩:=gU hd.1 hd.2;have:=xg (PY d) (PM d);rw[e1,e2,e3];exact⟨⟨by lia,by lia⟩,gm,⟨gp.1,by lia⟩,g2,ht⟩
  generalize (vl (l.take 4):Int)=y at yes |-
  generalize (vl ((l.drop 5).take 2):Int)=m at yes |-
  generalize (vl (l.drop 8):Int)=p at yes |-
  have no:(∀d,DO l≠some d)->Q .non H:=fun z=>by
   cases e:DO l with
   |none=>rw[e]at k;exact k
   |some d=>exact(z d e).elim
  refine⟨L1,f1,L1,f2,?_⟩;split
  case isFalse h=>exact no fun d e=>h (yes d e).1.1
  rename_i a0;split
  case isFalse h=>exact no fun d e=>h (yes d e).1.2
  rename_i a1;refine⟨L1,f2,?_⟩;split
  case isFalse h=>exact no fun d e=>h (yes d e).2.1.1
  rename_i a2;split
  case isFalse h=>exact no fun d e=>h (yes d e).2.1.2
  refine⟨L1,f3,?_⟩;split
  case isFalse h=>exact no fun d e=>h (yes d e).2.2.1.1
  rename_i a3;split
  case isFalse h=>exact no fun d e=>h (yes d e).2.2.1.2
  have b0:=xa a0;refine⟨hN,L1,f3,?_⟩;split
  case isFalse h=>exact no fun d e=>h (by rw[(yes d e).2.2.2.1];exact(eK e).2.2.1.2)
  rename_i a4;refine⟨hN,⟨by lia,a4⟩,?_⟩;split
  case isFalse h=>exact no fun d e=>h (by rw[(yes d e).2.2.2.1];exact(yes d e).2.2.2.2)
  rename_i a5;have:=(lR (by lia:0<=FD (12*(y-2000)+m-1)+p-1) a4).1;rw[a5]at this;rw[this]at k;exact k
 obtain⟨u3,hu3,c3⟩:=c3;have c1:∃u,PSs (bE (XE P w) P w K mg base ["_law_word","_law_figures","_law_month","_law_day"] "_law_read_day" (au (top 69)) fA cdv A outer s H (gcE H E)) (Zn 1 (aQ (top 69))) u/\(l.length=10->l[4]? = some 45->l[7]? = some 45->u { nx:=fun _ H'=>∃G,Gc H G H'/\Q .non G,rt:=fun v H'=>∃G,Gc H G H'/\Q v G } [some (L2.T l),none,none,none] H):=by
  refine⟨_,(aa (aC 1 ND (ah av (ah av (aA aT (fv 0) aJ (aD ae)) (aA aT (fv 0) (aD ae) (aD ae))) (aA aT (fv 0) (aD ae) aJ)))
   (aa (aE (jB (ak (bO K HU) (bG rfl (cl:=_) (x:="_law_sign") (xs:=["_law_sign"]) (fr:=[]) (ks:=[]) (by walk_at "cq") rfl (i8 (fv 1)) (fun _ _ _ _ _=>(aR (i:=0) (cT (l:=["_law_sign"]) (by decide)) rfl (Or.inl rfl))) (fun _ _ _ _ _=>(ky (cw iq (fv 0) (ac [48,49,50,51,52,53,54,55,56,57]) (by with_unfolding_all rfl)))) (fun _ _ _ _ _=>(fv 0))) (aX (FA.pa bw)))) (af (ai bb)) ao)
   hu3)),fun l10 e4 e7=>?_⟩
  walk_at "rd";have c1:bh l none (some 4)=l.take 4:=by unfold bh HT.sIx;rw[l10];rfl
  have c2:bh l (some 5) (some 7)=(l.drop 5).take 2:=by unfold bh HT.sIx;rw[l10];rfl
  have c3':bh l (some 8) none=l.drop 8:=fe l 8;rw[c1,c2,c3'];have L1:l.length<=sizeLine:=by lia
  have hf:ok (FI l):=⟨fun c hc=>by
   rcases vY.mp hc with hc|hc
   ·rcases vY.mp hc with hc|hc
    ·exact hl.1 c (oX hc)
    ·exact hl.1 c (vv (oX hc))
   ·exact hl.1 c (vv hc),by simp[FI];lia⟩
  refine⟨L1,L1,by simp;lia,L1,by simp;lia,hN,?_⟩;change cQ _ _ _ _ _ _ [some (L2.T l),some (L2.T (FI l)),none,none] _ _;refine cmS (fun _=>True) (fun _ _ _=>trivial) (FI l) (fun c=>!decide (c∈DIG)) (fun c=>L2.T [c]) (fun R r=>r) hf.1 (bN hf) (fun c _ H R _ r=>?_) (fun c _ _ H R _ r=>r) (fun D hD=>⟨uG _,fun p hp=>kx hp ⟨H,gc2 hD hp,?_⟩⟩)
  ·walk_at "rd"
   exact r
  ·rw[eR]
   have hd:(∀c∈FI l,(!decide (c∈DIG))=false)↔∀c∈FI l,MT.isD c=true:=by simp[DR]
   by_cases h3:∀c∈FI l,MT.isD c=true
   ·exact itn (by rw[decide_eq_true (hd.mpr h3)];decide) (c3 _ ⟨l10,e4,e7,h3⟩)
   ·refine itp (by rw[decide_eq_false (fun z=>h3 (hd.mp z))];rfl) ⟨H,Gc.refl,?_⟩
    cases e:DO l with
    |none=>rw[e]at k;exact k
    |some d=>exact(h3 (eK e).2.1.2.2.2).elim
 obtain⟨u1,hu1,c1⟩:=c1;refine⟨hN,_,(aa (aE (L2.PW.pt (bS (ak (bO K HU) (ay (aS K) rfl T.bD bd (fa1 (fv 0))) ae) (bS (ak (bO K HU) (aN K (fv 0) ae) (ac [45])) (bK (ak (bO K HU) (aN K (fv 0) ae) (ac [45])))))) (af (ai bb)) ao)
  hu1),?_⟩
 walk_at "rd";have no:¬ DP l->Q .non H:=fun z=>by
  cases e:DO l with
  |none=>rw[e]at k;exact k
  |some d=>exact(z (eK e).2.1).elim
 refine⟨bN hl,?_⟩;split
 case isFalse h=>exact no fun z=>h (by rw[z.1];rfl)
 rename_i h1;have l10:l.length=10:=by lia
 have e4:l[4]? = some l[4]:=List.getElem?_eq_some_iff.mpr ⟨by lia,rfl⟩;have e7:l[7]? = some l[7]:=List.getElem?_eq_some_iff.mpr ⟨by lia,rfl⟩;rw[show atI l 4=some l[4] from aO (j:=4) e4];refine⟨bN hl,?_⟩;show ite _ _ _;split
 case isFalse h=>exact no fun z=>h (wj (e4.symm.trans z.2.1))
 rename_i h4;rw[show atI l 7=some l[7] from aO (j:=7) e7];refine⟨bN hl,?_⟩;show ite _ _ _;split
 case isFalse h=>exact no fun z=>h (wj (e7.symm.trans z.2.2.1))
 rename_i h7;exact c1 l10 (e4.trans (by rw[h4])) (e7.trans (by rw[h7]))
noncomputable def tov(l:List Nat):V:=if rw l=true then L2.T l else .non
def sp_vb:Sp:=sp1 fun x H Q _=>NoT H/\asT x fun l=>ok l/\37∉l/\Q (tov l) H
theorem cW(T:Txt w K mg a):Fo P w K mg base "_law_read_text" 2 sp_vb:=by
 refine T.jn.hg ["_law_word"] (gG1 fun x0 fA cdv A outer s H Q E ND HU hr h=>?_);obtain⟨hN,h⟩:=h;refine sy (ba h) fun l yy1 hl h37 k=>?_;subst yy1;unfold tov at k;have sz:2000<=sizeLine:=by rw[wz];decide
 refine⟨hN,_,(aa (aE (jB (L2.PW.pt (bS (ak (aF K HU) (fv 0) (ac [])) (bK (ak (bO K HU) (bG rfl (cl:=_) (x:="_law_sign") (xs:=["_law_sign"]) (fr:=[]) (ks:=[]) (by walk_at "cq") rfl (i8 (fv 0)) (fun _ _ _ _ _=>(aR (i:=0) (cT (l:=["_law_sign"]) (by decide)) rfl (Or.inl rfl))) (fun _ _ _ _ _=>(ky (cw iq (fv 0) (eM (cC T) hr.mono rfl iE) (by with_unfolding_all rfl)))) (fun _ _ _ _ _=>(fv 0))) (aX (FA.pa bw))))))) (af (ai bb)) ao)
  (af (ai (fv 0)))),?_⟩
 walk_at "rd";refine⟨hN,?_⟩;split
 ·rename_i h1
  rw[if_neg (fun z=>(eN.mp z).1 h1)]at k;exact k
 rename_i h1;refine cmS (fun G=>NoT G) (fun D ys hD=>aj hN rfl) l (fun c=>!decide (c∈SIG)) (fun c=>L2.T [c]) (fun R r=>r) hl.1 (bN hl) (fun c _ H R hC r=>?_) (fun c _ _ H R _ r=>r) (fun D hD=>⟨uG _,fun p hp=>kx hp ⟨H,gc2 hD hp,?_⟩⟩)
 ·walk_at "rd"
  exact⟨hC,r⟩
 ·rw[eR]
  have hd:(∀c∈l,(!decide (c∈SIG))=false)↔rw l=true:=by
   rw[eN];simp only[Bool.not_eq_false',decide_eq_true_eq,fR];constructor
   ·exact fun z=>⟨h1,fun c hc=>(z c hc).1,fun hc=>(z _ hc).2.2 rfl⟩
   ·exact fun z c hc=>⟨z.2.1 c hc,fun e=>h37 (e ▸ hc),fun e=>z.2.2 (e ▸ hc)⟩
  by_cases h3:rw l=true
  ·rw[if_pos h3]at k
   exact itn (by rw[decide_eq_true (hd.mpr h3)];decide) ⟨H,Gc.refl,k⟩
  ·rw[if_neg h3]at k
   exact itp (by rw[decide_eq_false (fun z=>h3 (hd.mp z))];rfl) ⟨H,Gc.refl,k⟩
end
open PySem L2 K3 M2 K22
section
variable{pS:Addr}{ns:List Int}{P:Program}{w:World}{K:W.Frag}{mg:Str->Option Value}{base:Heap}{a:Adr}
open MT
noncomputable def lrP:K9->List Nat->Option Pt
 | .number,l=>(nof l).map .i
 | .day,l=>(DO l).map .i
 | .month,l=>rdP .month l
 | .weights,l=>rdP .weights l
 |_,l=>if rw l=true then some (.w l) else none
def plain:K9->Prop
 | .shelf=>False
 | .note=>False
 | .rows=>False
 |_=>True
theorem Dy{ws:List V}{is:List (Option Int)}(h:A2 (fun v c=>v=ov c) ws is):ws=is.map ov:=by
 induction h with
 |nil=>rfl
 |cons h _ ih=>rw[h,ih];rfl
theorem yu(l:List (Option Int)):(l.map ov).all cD=true:=by
 rw[List.all_map,Zt];intro x _;cases x <;> rfl
theorem zR{R:List (List Nat)}:mO nof R=none->inV .non ((R.map nof).map ov)=true:=by
 induction R with
 |nil=>exact fun h=>nomatch h
 |cons b r ih=>
  intro h;unfold mO at h;unfold inV;rw[rS,rS,List.any_cons,Bool.or_eq_true];cases e:nof b with
  |none=>exact .inl rfl
  |some i=>
   rw[e]at h;refine .inr (ih ?_);cases e2:mO nof r with
   |none=>rfl
   |some cs=>rw[e2]at h;cases h
theorem zk{R:List (List Nat)}:∀ {is:List Int},mO nof R=some is->(R.map nof).map ov=is.map V.int/\inV .non ((R.map nof).map ov)=false:=by
 induction R with
 |nil=>intro is h;cases h;exact⟨rfl,rfl⟩
 |cons b r ih=>
  intro is h;unfold mO at h;cases e:nof b with
  |none=>rw[e]at h;cases h
  |some i=>
   rw[e]at h;cases e2:mO nof r with
   |none=>rw[e2]at h;cases h
   |some cs=>
    rw[e2]at h;cases h;obtain⟨h1,h2⟩:=ih e2;rw[rS,rS,rS,h1,e];refine⟨rfl,?_⟩;rw[h1]at h2;unfold inV at h2 |-
    rw[List.any_cons,h2]
    rfl
def sp_uH:Sp:=sp2 fun x y H Q _=>NoT H/\asT x fun c=>asT y fun l=>∃kd,plain kd/\c=[lt kd]/\ok l/\37∉l/\l.length<=900/\(match lrP kd l with
 |some p=>∀v G,Same H G->NoT G->PtAt G v p->Q v G
 |none=>∀G,Same H G->NoT G->Q .non G)
theorem ix(T:Txt w K mg a):Fo P w K mg base "_law_read_part" 8 sp_uH:=by
 refine T.je.hx ["_law_kind","_law_word","_law_day","_law_found"] (gX2 fun x0 x1 fA cdv A outer s H Q E ND HU hr h=>?_);obtain⟨hN,h⟩:=h;refine de (ba h) fun c yy1 h1=>?_;subst yy1;refine de (ba h1) fun l yy1 h2=>?_;subst yy1;obtain⟨kd,hp,rfl,hl,h37,l9,k⟩:=h2;have sz:2000<=sizeLine:=by rw[wz];decide
 have hok3:ok (l++[45,48,49]):=⟨fun c hc=>by
  rcases vY.mp hc with h|h
  ·exact hl.1 c h
  ·simp only[zv,oO,or_false]at h
   lia,by rw[zx];show l.length+3<=1000;lia⟩
 refine⟨_,(aa (aE (ak (aF K HU) (fv 0) (ac [100])) (af (ai (az (eA T) hr aB (fa1 (fv 1))))) ao)
  (aa (aE (ak (aF K HU) (fv 0) (ac [109])) (aa (aC 2 ND (az (eA T) hr aB (fa1 (ah av (fv 1) (ac [45,48,49])))))
  (aa (aE (L2.PW.pt (bS (ak (bO K HU) (ay (aS K) rfl T.bD bd (fa1 (fv 1))) ae) (bK (eJ (du (fv 2)))))) (af (ai bb)) ao)
  (af (ai (ah cv (ah av (ah bJ ae (ah cv (aM cX rfl T.dZ cM (fa1 (aA aT (fv 1) aJ (aD ae)))) ae)) (aM cX rfl T.dZ cM (fa1 (aA aT (fv 1) (aD ae) aJ)))) ae))))) ao)
  (aa (aE (ak (aF K HU) (fv 0) (ac [110])) (af (ai (az (cy T) hr aB (fa1 (fv 1))))) ao)
  (aa (aE (ak (aF K HU) (fv 0) (ac [108])) (aa (rC (i0:=3) ND rfl (Or.inl rfl) rfl (cl:=_) (x:="_law_one") (xs:=["_law_one"]) (fr:=[]) (ks:=[]) (by walk_at "cq") rfl (qc K (aP K xn mG mK cE (fv 1) (fa1 (ac [44])))) (fun _ _ _ _ _=>(aR (i:=0) (cT (l:=["_law_one"]) (by decide)) rfl (Or.inl rfl))) (fun _ _ _ _ _=>b9) (fun _ _ _ _ _=>(az (cy T) hr iE (fa1 (fv 0)))))
  (af (ai (cg (cw (jo K) bb (fv 3) (by with_unfolding_all rfl)) bb (aM (cA K) rfl T.cG bY (fa1 (fv 3))))))) ao)
  (af (ai (az (cW T) hr aB (fa1 (fv 1))))))))),?_⟩
 walk_at "rd";have tx:(match (if rw l=true then some (Pt.w l) else none) with
  |some p=>∀v G,Same H G->NoT G->PtAt G v p->Q v G
  |none=>∀G,Same H G->NoT G->Q .non G)->Q (tov l) H:=fun k=>by
  unfold tov;by_cases h:rw l=true
  ·rw[if_pos h]at k |-; exact k _ H (Same.refl _) hN rfl
  ·rw[if_neg h]at k |-; exact k H (Same.refl _) hN
 have nx:∀o:Option Int,(match o.map Pt.i with
  |some p=>∀v G,Same H G->NoT G->PtAt G v p->Q v G
  |none=>∀G,Same H G->NoT G->Q .non G)->Q (ov o) H:=fun o k=>by
  cases o with
  |none=>exact k H (Same.refl _) hN
  |some i=>exact k _ H (Same.refl _) hN rfl
 cases kd <;> try exact hp.elim
 ·exact itn (by decide) (itn (by decide) (itn (by decide) (itn (by decide) ⟨hN,hl,h37,tx k⟩)))
 ·exact itn (by decide) (itn (by decide) (itn (by decide) (itn (by decide) ⟨hN,hl,h37,tx k⟩)))
 ·exact itn (by decide) (itn (by decide) (itn (by decide) (itn (by decide) ⟨hN,hl,h37,tx k⟩)))
 ·exact itn (by decide) (itn (by decide) (itp rfl ⟨hN,hl,nx _ k⟩))
 ·exact itp rfl ⟨hN,hl,nx _ k⟩
 ·have l2:=hl.2
  refine itn (by decide) (itp rfl ⟨by lia,hN,hok3,by lia,?_⟩)
  replace k:match (DO (l++[45,48,49])).map (fun d=>Pt.i (MO d)) with
   |some p=>∀v G,Same H G->NoT G->PtAt G v p->Q v G
   |none=>∀G,Same H G->NoT G->Q .non G:=k
  rcases ZY (DO (l++[45,48,49])) with e|⟨d,e⟩
  ·rw[e]at k
   have kk:=k H (Same.refl _) hN;split
   ·exact itp (by rw[e];rfl) kk
   ·exact kk
  ·rw[e]at k
   have kk:=k _ H (Same.refl _) hN rfl;obtain⟨h10,hDP,hd,_,e1,e2,_⟩:=eK e;have l7:l.length=7:=by rw[zx]at h10;have:([45,48,49]:List Nat).length=3:=rfl;lia
   have t1:(l++[45,48,49]).take 4=l.take 4:=by rw[ZS (by lia)]
   have t2:((l++[45,48,49]).drop 5).take 2=l.drop 5:=by
    rw[List.drop_append_of_le_length (by lia),ZS (by rw[vJ];lia),vL (by rw[vJ];lia)]
   have hFI:=hDP.2.2.2;unfold FI at hFI;rw[t1,t2]at hFI;rw[t1]at e1;rw[t2]at e2;refine itp (by lia) (itn (by rw[e];exact fun z=>nomatch z) ?_);rw[show bh l none (some 4)=l.take 4 from tM l 4,show bh l (some 5) none=l.drop 5 from fe l 5];refine⟨by lia,⟨fun z=>by have h:=congrArg mF z;rw[r0,l7]at h;exact absurd h (by decide),fun c hc=>hFI c (qQ _ (qQ _ hc)),by rw[r0];lia⟩,by lia,⟨fun z=>by have h:=congrArg mF z;rw[vJ,l7]at h;exact absurd h (by decide),fun c hc=>hFI c (qQ _ (uj _ hc)),by rw[vJ];lia⟩,?_⟩;rw[e1,e2];unfold PY PM;rw[show 12*(2000+MO d / 12-2000)+(MO d % 12+1)-1=MO d by lia];exact kk
 ·have l2:=hl.2
  have sl:=cF 44 l;refine itn (by decide) (itn (by decide) (itn (by decide) (itp rfl (Av ?_))));walk_at "rd";refine⟨by lia,fun p hp=>⟨⟨_,aL ad⟩,?_⟩⟩;have sm:=ag (HO.lst ((spN 44 l).map L2.T)) hp;refine cmO (qN fun G s=>bf s (aL ad)) (spN 44 l) (fun v b=>v=L2.T b) (gS (g:=L2.T) (fun _=>rfl) _) (fun _ v c=>v=ov c) (fun _ _ _ _ _ h=>h) (fun b=>some (nof b)) (aj hN rfl) (by rw[yV];lia) (fun _ _ _ r=>r) (fun v b hb e G N1 sG nG n1=>?_) fun cs hcs D vs G sG nG gD A=>?_
  ·subst e
   walk_at "rd";exact⟨nG,sp_ok hl b hb,n1 _ rfl _ G (Same.refl _) nG rfl⟩
  ·rw[i4]at hcs
   cases hcs;walk_at "rd";rw[Dy A]at gD;refine⟨_,.inl (aL gD),rfl,yu _,?_⟩
   replace k:match (mO nof (spN 44 l)).map Pt.l with
    |some p=>∀v G,Same H G->NoT G->PtAt G v p->Q v G
    |none=>∀G,Same H G->NoT G->Q .non G:=k
   cases e:mO nof (spN 44 l) with
   |none=>
    rw[e]at k;exact itp (zR e) (k G (sm.trans sG) nG)
   |some is=>
    rw[e]at k;obtain⟨o1,o2⟩:=zk e;refine itn (by rw[o2];decide) ⟨_,.inl ⟨aL gD,fun r hr'=>k _ _ ((sm.trans sG).trans (ag _ hr')) (aj nG rfl) ⟨r,rfl,by rw[ad,o1]⟩⟩⟩
noncomputable def dn(ws:List (List Nat)):Option (List (List Nat × List Nat × Int)):=if ws=[] then none else dR ws
theorem rK(x y z:List Nat):[tov x,tov y,ov (nof z)].all cD=true:=by
 unfold tov;cases rw x <;> cases rw y <;> cases nof z <;> rfl
theorem ya{x y z:List Nat}(h:mD x y z=none):inV .non [tov x,tov y,ov (nof z)]=true/\True:=by
 unfold tov;unfold mD at h;cases e1:rw x <;> cases e2:rw y <;> cases e3:nof z <;> rw[e1,e2,e3]at h <;> first|exact⟨rfl,trivial⟩|cases h
theorem sP{x y z:List Nat}{r:List Nat × List Nat × Int}(h:mD x y z=some r):inV .non [tov x,tov y,ov (nof z)]=false/\[tov x,tov y,ov (nof z)]=rwL r:=by
 unfold tov;unfold mD at h;cases e1:rw x <;> cases e2:rw y <;> cases e3:nof z <;> rw[e1,e2,e3]at h <;> cases h
 exact⟨rfl,rfl⟩
def sp_vL(K:W.Frag):Sp:=sp1 fun x H Q _=>NoT H/\asR x fun q=>∃ws:List (List Nat),SqL K H q (ws.map L2.T)/\(∀w∈ws,ok w/\37∉w)/\ws.length<=1000/\(match dn ws with
 |some rs=>∀v G,Same H G->NoT G->PtAt G v (.r rs)->Q v G
 |none=>∀G,Same H G->NoT G->Q .non G)
theorem iN(T:Txt w K mg a):Fo P w K mg base "_law_read_rows" 4 (sp_vL K):=by
 refine T.jj.hx ["_law_words_here","_law_rows_here","_law_k","_law_path","_law_currency","_law_row"] (gX1 fun x0 fA cdv A outer s H Q E ND HU hr h=>?_);obtain⟨hN,h⟩:=h;refine de (d6 h) fun q1 yy1 h1=>?_;subst yy1;obtain⟨ws,hq,hw,hl,k⟩:=h1;have sz:2000<=sizeLine:=by rw[wz];decide
 refine⟨_,(aa (aE (jB (L2.PW.pt (bS (ak (aF K HU) (fv 0) (aX (FA.pa bw))) (bK (ak (bO K HU) (ah aU (ay (aS K) rfl T.bD bd (fa1 (fv 0))) ae) ae))))) (af (ai bb)) ao)
  (aa (aC 1 ND (aX (FA.pa bw)))
  (aa (eW (by passes_own) rfl (cn rfl T.dh (fa1 (ah bI (ay (aS K) rfl T.bD bd (fa1 (fv 0))) ae))) (aR (i:=2) ND rfl (Or.inl rfl)) (aa (aC 3 ND (az (cW T) hr aB (fa1 (aN K (fv 0) (ah bJ ae (fv 2))))))
  (aa (aC 4 ND (az (cW T) hr aB (fa1 (aN K (fv 0) (ah av (ah bJ ae (fv 2)) ae)))))
  (aa (aC 5 ND (eS (fa3 (fv 3) (fv 4) (az (cy T) hr aB (fa1 (aN K (fv 0) (ah av (ah bJ ae (fv 2)) ae)))))))
  (aa (aE (cw (jo K) bb (fv 5) (by with_unfolding_all rfl)) (af (ai bb)) ao)
  (af (dy (aP K mw lI lh bP (fv 1) (fa1 (fv 5))))))))))
  (af (ai (aM (cA K) rfl T.cG bY (fa1 (fv 1)))))))),?_⟩
 walk_at "rd";refine⟨hN,uG _,fun p hp=>⟨_,Dp (bf (ag _ hp) hq) (aL ad),?_⟩⟩;rw[List.isEmpty_map];cases ws with
 |nil=>exact itp rfl ⟨H,Gc.none (ag _ hp),k H (Same.refl _) hN⟩
 |cons w0 wr=>
 have ne:w0::wr≠[]:=fun z=>nomatch z;generalize w0::wr=ws at hq hw hl k ne |-
 refine itn (by cases ws;exact(ne rfl).elim;exact fun z=>nomatch z) ⟨_,.inl (bf (ag _ hp) hq),H,Gc.none (ag _ hp),?_⟩;rw[yV];unfold dn dR at k;rw[if_neg ne]at k;split
 case isFalse h=>rw[if_neg (by lia)]at k;exact k H (Same.refl _) hN
 rename_i h3;rw[if_pos (by lia)]at k;refine⟨uG _,fun q2 h2=>fI ?_⟩;walk_at "rd";have s0:=ag (HO.lst []) h2;have n0:NoT (upd H q2 (HO.lst [])):=aj hN rfl;have g0:upd H q2 (HO.lst []) q2=some (.lst []):=ad;generalize upd H q2 (HO.lst [])=G0 at s0 n0 g0 |-
 refine⟨_,.inl (bf s0 hq),?_⟩;rw[yV];have hd3:(ws.length:Int) / 3=((ws.length / 3:Nat):Int):=by lia
 rw[hd3,qa];refine⟨by lia,by lia,eG (lo:=0) (n:=ws.length / 3) (fun i σ' G=>∃x2 x3 x4 x5 vs rs,σ'=[some (.ref q1),some (.ref q2),x2,x3,x4,x5]/\Same H G/\NoT G/\G q2=some (.lst vs)/\A2 (MkAt rwL G) vs rs/\mO (mm ws) (rL i)=some rs) ⟨none,none,none,none,[],[],rfl,s0,n0,g0,.nil,rfl⟩ ?_ ?_⟩
 ·rintro i σ' G hi ⟨x2,x3,x4,x5,vs,rs,rfl,sG,nG,gq,AA,em⟩
  walk_at "rd";have hqG:=bf sG hq;have okw:∀j,j<ws.length->ok (ws.getD j [])/\37∉ws.getD j []:=fun j hj=>by
   rw[kr hj];exact hw _ (Ze hj)
  obtain⟨m0,h0⟩:=okw (3*i) (by lia);obtain⟨m1,h1⟩:=okw (3*i+1) (by lia);obtain⟨m2,_⟩:=okw (3*i+2) (by lia);have a0:=i9 ws (i:=3*(0+(i:Nat))) (j:=3*i) (by lia) (by lia);have a1:=i9 ws (i:=3*(0+(i:Nat))+1) (j:=3*i+1) (by lia) (by lia);have a2:=i9 ws (i:=3*(0+(i:Nat))+2) (j:=3*i+2) (by lia) (by lia);have er:mm ws i=mD (ws.getD (3*i) []) (ws.getD (3*i+1) []) (ws.getD (3*i+2) []):=rfl;generalize ws.getD (3*i) []=x at m0 h0 a0 er;generalize ws.getD (3*i+1) []=y at m1 h1 a1 er;generalize ws.getD (3*i+2) []=z at m2 a2 er;refine⟨_,_,.inl hqG,a0,nG,?_⟩;walk_at "rd";refine⟨m0,h0,_,_,.inl hqG,a1,nG,?_⟩;walk_at "rd";refine⟨m1,h1,_,_,.inl hqG,a2,nG,?_⟩;walk_at "rd";refine⟨m2,by lia,fun t ht=>?_⟩;have s2:=ag (HO.tup [tov x,tov y,ov (nof z)]) ht;have gt:upd G t (HO.tup [tov x,tov y,ov (nof z)]) t=some (HO.tup [tov x,tov y,ov (nof z)]):=ad;have n2:NoT (upd G t (HO.tup [tov x,tov y,ov (nof z)])):=aj nG rfl;generalize upd G t (HO.tup [tov x,tov y,ov (nof z)])=G2 at s2 gt n2 |-
  have s3:=sG.trans s2;have gq2:=s2 _ _ gq;refine⟨_,.inr (bc gt),rfl,rK _ _ _,?_⟩;have lv:=AA.len;have lm:=gL em;rw[iZ]at lm;rcases ZY (mm ws i) with e|⟨r,e⟩
  ·rw[f8 e (ZE.mpr hi)]at k
   exact itp ((ya (er.symm.trans e)).1) (k _ s3 n2)
  ·obtain⟨t1,t2⟩:=sP (er.symm.trans e)
   rw[t2]at gt;have kt:∀t' l',G2 t'=some (.tup l')->upd G2 q2 (.lst (vs++[.ref t])) t'=some (.tup l'):=fun t' l' e=>by
    rw[aw fun z=>by rw[z,gq2]at e;cases e];exact e
   refine itn (by rw[t1];decide) ⟨.inl ⟨_,aL gq2⟩,q2,vs,_,rfl,rfl,gq2,by lia,_,_,_,_,vs++[.ref t],rs++[r],⟨rfl,rfl,rfl,rfl⟩,fun c o e=>?_,aj n2 rfl,ad,A2.snoc (MkAt.mv (fun t l e=>kt _ _ (s2 _ _ e)) AA) ⟨t,rfl,kt _ _ gt⟩,?_⟩
   ·rw[aw (aq e h2)];exact s3 _ _ e
   ·rw[List.range_succ,ii,em]
    show(mm ws i).bind _=_;rw[e];rfl
 ·rintro σ' G ⟨x2,x3,x4,x5,vs,rs,rfl,sG,nG,gq,AA,em⟩
  walk_at "rd";rw[em]at k;refine⟨vs,.inl ⟨aL gq,fun r hr'=>?_⟩⟩;have s2:=ag (HO.tup vs) hr';exact k _ _ (sG.trans s2) (aj nG rfl) ⟨r,vs,rfl,ad,MkAt.mv (fun t l e=>s2 _ _ e) AA⟩
end
open PySem L2 K3 M2 K22
section
variable{pS:Addr}{ns:List Int}{P:Program}{w:World}{K:W.Frag}{mg:Str->Option Value}{base:Heap}{a:Adr}
open MT
noncomputable def rdG:List K9->List (List Nat)->Option (List Pt)
 | [],[]=>some []
 | [],_::_=>none
 |k::g,ws=>if k = .rows then (dn ws).map fun rs=>[.r rs] else match ws with
  | []=>none
  |w::r=>(rdP k w).bind fun d=>(rdG g r).map (d :: ·)
def gk(k:K9):Prop:=plain k\/k = .rows
def r6(k:K9)(p:Pt):Prop:=(k = .currency/\p = .w [97,110,121])\/(k = .keeper/\p = .w [45])
theorem xK(l:List Nat):rdP .currency l=if l=[97,110,121] then some .no else if rw l=true then some (.w l) else none:=rfl
theorem wS(l:List Nat):rdP .keeper l=if l=[45] then some .no else if rw l=true then some (.w l) else none:=rfl
theorem pq(l:List Nat):lrP .currency l=if rw l=true then some (.w l) else none:=rfl
theorem nS(l:List Nat):lrP .keeper l=if rw l=true then some (.w l) else none:=rfl
theorem zu{k:K9}{l:List Nat}(hp:plain k)(h:lrP k l=none):rdP k l=none:=by
 cases k <;> try exact hp.elim
 case currency=>
  rw[xK];rw[pq]at h;split
  ·rename_i e
   rw[if_pos (by rw[e];decide)]at h;cases h
  ·exact h
 case keeper=>
  rw[wS];rw[nS]at h;split
  ·rename_i e
   rw[if_pos (by rw[e];decide)]at h;cases h
  ·exact h
 all_goals exact h
theorem DJ{k:K9}{l:List Nat}{p:Pt}(h:lrP k l=some p)(z:r6 k p):rdP k l=some .no:=by
 rcases z with ⟨rfl,rfl⟩|⟨rfl,rfl⟩
 ·rw[pq]at h
  split at h
  ·cases h;rfl
  ·cases h
 ·rw[nS]at h
  split at h
  ·cases h;rfl
  ·cases h
theorem yn{k:K9}{l:List Nat}{p:Pt}(hp:plain k)(h:lrP k l=some p)(z:¬ r6 k p):rdP k l=some p:=by
 cases k <;> try exact hp.elim
 case currency=>
  rw[xK];rw[pq]at h;split
  ·rename_i e
   split at h
   ·cases h;exact(z (.inl ⟨rfl,by rw[e]⟩)).elim
   ·cases h
  ·exact h
 case keeper=>
  rw[wS];rw[nS]at h;split
  ·rename_i e
   split at h
   ·cases h;exact(z (.inr ⟨rfl,by rw[e]⟩)).elim
   ·cases h
  ·exact h
 all_goals exact h
theorem Eu{k:K9}{l:List Nat}{p:Pt}(h:lrP k l=some p)(hc:k = .currency\/k = .keeper):∃l,p = .w l:=by
 rcases hc with rfl|rfl
 ·rw[pq]at h
  split at h
  ·cases h;exact⟨_,rfl⟩
  ·cases h
 ·rw[nS]at h
  split at h
  ·cases h;exact⟨_,rfl⟩
  ·cases h
theorem A0{k:K9}{l:List Nat}:lrP k l≠some .no:=by
 intro h;unfold lrP at h;cases k <;> dsimp only at h
 case number=>cases e:nof l <;> rw[e]at h <;> cases h
 case day=>cases e:DO l <;> rw[e]at h <;> cases h
 case month=>
  replace h:(DO (l++[45,48,49])).map (fun d=>Pt.i (MO d))=some .no:=h
  cases e:DO (l++[45,48,49]) <;> rw[e]at h <;> cases h
 case weights=>
  replace h:(mO nof (spN 44 l)).map Pt.l=some .no:=h
  cases e:mO nof (spN 44 l) <;> rw[e]at h <;> cases h
 all_goals
  split at h
  ·cases h
  ·cases h
theorem Dk{k:K9}{l:List Nat}{p:Pt}{G:Hp}{v:V}(h:lrP k l=some p)(hv:PtAt G v p):v ≠ .non:=by
 cases p with
 |w l=>cases hv;exact fun z=>nomatch z
 |i n=>cases hv;exact fun z=>nomatch z
 |no=>exact(A0 h).elim
 |l is=>obtain⟨q,rfl,_⟩:=hv;exact fun z=>nomatch z
 |r rs=>obtain⟨q,_,rfl,_⟩:=hv;exact fun z=>nomatch z
def sp_r0(K:W.Frag):Sp:=sp2 fun x y H Q _=>NoT H/\asT x fun fm=>asR y fun q=>∃(g:List K9) (ws:List (List Nat)),fm=g.map lt/\g.length<=10/\(∀k∈g,gk k)/\SqL K H q (ws.map L2.T)/\(∀w∈ws,ok w/\37∉w/\w.length<=900)/\ws.length<=1000/\(match rdG g ws with
 |some ds=>∀p vs G,Same H G->NoT G->G p=some (.lst vs)->A2 (PtAt G) vs ds->vs.length<=20->Q (.ref p) G
 |none=>∀G,Same H G->NoT G->Q .non G)
noncomputable def Ei:Stmt->List Stmt
 | .For _ _ b _ _=>b
 |_=>[]
noncomputable abbrev wc:List Stmt:=Ei ((aQ (top 73)).getD 1 (.Pass ⟨0,0,0,0⟩))
theorem gH(T:Txt w K mg a):Fo P w K mg base "_law_read_parts" 9 (sp_r0 K):=by
 refine T.iR.hx ["_law_form_here","_law_words_here","_law_found","_law_k","_law_rows_here","_law_part_here"] (gX2 fun x0 x1 fA cdv A outer s H Q E ND HU hr h=>?_);obtain⟨hN,h⟩:=h;refine de (ba h) fun fm yy1 h1=>?_;subst yy1;refine de (d6 h1) fun q1 yy1 h2=>?_;subst yy1;obtain⟨g,ws,rfl,gl,hg,hq,hw,wl,k⟩:=h2;have sz:2000<=sizeLine:=by rw[wz];decide
 have c5:∃u,PSs (bE (XE P w) P w K mg base ["_law_form_here","_law_words_here","_law_found","_law_k","_law_rows_here","_law_part_here"] "_law_read_parts" (au (top 73)) fA cdv A outer s H E) (Zn 5 wc) u/\∀(D:fi) x3 x4 v q2 G vs,G q2=some (.lst vs)->vs.length<=20->D.nx [some (L2.T (g.map lt)),some (.ref q1),some (.ref q2),x3,x4,some v] (upd G q2 (.lst (vs++[v])))->u D [some (L2.T (g.map lt)),some (.ref q1),some (.ref q2),x3,x4,some v] G:=by
  refine⟨_,(af (dy (aP K mw lI lh bP (fv 2) (fa1 (fv 5))))),fun D x3 x4 v q2 G vs gq lv kk=>?_⟩;walk_at "rd";exact⟨.inl ⟨_,aL gq⟩,q2,vs,v,rfl,rfl,gq,by lia,kk⟩
 obtain⟨u5,hu5,c5⟩:=c5;have c4:∃u,PSs (bE (XE P w) P w K mg base ["_law_form_here","_law_words_here","_law_found","_law_k","_law_rows_here","_law_part_here"] "_law_read_parts" (au (top 73)) fA cdv A outer s H E) (Zn 4 wc) u/\∀(D:fi) (i:Nat) kd p v x4 q2 G vs,g[i]? = some kd->i<10->PtAt G v p->(kd = .currency\/kd = .keeper->∃l,p = .w l)->G q2=some (.lst vs)->vs.length<=20->(∀v' p',(r6 kd p->p' = .no)->(¬ r6 kd p->p'=p)->PtAt G v' p'->D.nx [some (L2.T (g.map lt)),some (.ref q1),some (.ref q2),some (.int (0+(i:Int))),x4,some v'] (upd G q2 (.lst (vs++[v']))))->u D [some (L2.T (g.map lt)),some (.ref q1),some (.ref q2),some (.int (0+(i:Int))),x4,some v] G:=by
  refine⟨_,(aa (aE (L2.PW.pt (bS (L2.PW.pt (cU (ak (aF K HU) (aN K (fv 0) (fv 3)) (ac [99])) (b8 (ak (aF K HU) (fv 5) (ac [97,110,121]))))) (bK (L2.PW.pt (cU (ak (aF K HU) (aN K (fv 0) (fv 3)) (ac [112])) (b8 (ak (aF K HU) (fv 5) (ac [45])))))))) (af (aC 5 ND bb)) ao)
   hu5),fun D i kd p v x4 q2 G vs ek i10 hp hc gq lv kk=>?_⟩
  have lg:(g.map lt).length<=sizeLine:=by rw[yV];lia
  walk_at "rd";have e0:atI (g.map lt) (0+(i:Int))=some (lt kd):=by rw[show((0:Int)+(i:Int))=(i:Nat) by lia];exact aO (by rw[List.getElem?_map,ek];rfl)
  rw[e0];refine⟨lg,?_⟩;have yes:r6 kd p->u5 D [some (L2.T (g.map lt)),some (.ref q1),some (.ref q2),some (.int (0+(i:Int))),x4,some .non] G:=fun z=>c5 D _ _ _ _ _ _ gq lv (kk .non .no (fun _=>rfl) (fun n=>(n z).elim) rfl);have no:¬ r6 kd p->u5 D [some (L2.T (g.map lt)),some (.ref q1),some (.ref q2),some (.int (0+(i:Int))),x4,some v] G:=fun z=>c5 D _ _ _ _ _ _ gq lv (kk v p (fun n=>(z n).elim) (fun _=>rfl) hp);cases kd
  case currency=>
   obtain⟨l,rfl⟩:=hc (.inl rfl);cases hp;refine itp (by decide) ?_;walk_at "rd";split
   ·rename_i h;exact yes (.inl ⟨rfl,by rw[h]⟩)
   ·rename_i h
    exact⟨lg,itn (by decide) (no fun z=>z.elim (fun z=>h (by injection z.2)) fun z=>nomatch z.1)⟩
  case keeper=>
   obtain⟨l,rfl⟩:=hc (.inr rfl);cases hp;refine itn (by decide) ⟨lg,itp (by decide) ?_⟩;walk_at "rd";split
   ·rename_i h;exact yes (.inr ⟨rfl,by rw[h]⟩)
   ·rename_i h
    exact no fun z=>z.elim (fun z=>nomatch z.1) fun z=>h (by injection z.2)
  all_goals exact itn (by decide) ⟨lg,itn (by decide) (no fun z=>z.elim (fun z=>nomatch z.1) fun z=>nomatch z.1)⟩
 obtain⟨u4,hu4,c4⟩:=c4;have cB:∃u,PSs (bE (XE P w) P w K mg base ["_law_form_here","_law_words_here","_law_found","_law_k","_law_rows_here","_law_part_here"] "_law_read_parts" (au (top 73)) fA cdv A outer s H E) wc u/\∀(D:fi) (i:Nat) x4 x5 q2 G vs ds,D.rt=Q->i<g.length->H q2=none->Same H G->NoT G->G q2=some (.lst vs)->A2 (PtAt G) vs ds->vs.length=i->i<=ws.length->rdG g ws=(rdG (g.drop i) (ws.drop i)).map (ds ++ ·)->(∀v d G2 x4,Same H G2->NoT G2->G2 q2=some (.lst (vs++[v]))->A2 (PtAt G2) (vs++[v]) (ds++[d])->i+1<=ws.length->rdG g ws=(rdG (g.drop (i+1)) (ws.drop (i+1))).map ((ds++[d]) ++ ·)->D.nx [some (L2.T (g.map lt)),some (.ref q1),some (.ref q2),some (.int (0+(i:Int))),x4,some v] G2)->u D [some (L2.T (g.map lt)),some (.ref q1),some (.ref q2),some (.int (0+(i:Int))),x4,x5] G:=by
  refine⟨_,(aa (aE (ak (aF K HU) (aN K (fv 0) (fv 3)) (ac [114])) (aa (aC 4 ND (az (iN T) hr aB (fa1 (aA (bZ K) (fv 1) (aD (fv 3)) aJ))))
   (af (ai (cg (eJ (du (fv 4))) bb (ah b_ (fv 2) (aX (fa1 (fv 4)))))))) ao)
   (aa (aE (ak AB (fv 3) (ay (aS K) rfl T.bD bd (fa1 (fv 1)))) (af (ai bb)) ao)
   (aa (aC 5 ND (az (ix T) hr aB (fa2 (aN K (fv 0) (fv 3)) (aN K (fv 1) (fv 3)))))
   (aa (aE (eJ (du (fv 5))) (af (ai bb)) ao)
   hu4)))),fun D i x4 x5 q2 G vs ds eD hi hq2 sG nG gq AA lv iw er kk=>?_⟩
  have hqG:=bf sG hq;have ek:g[i]? = some g[i]:=List.getElem?_eq_some_iff.mpr ⟨hi,rfl⟩;have ed:g.drop i=g[i]::g.drop (i+1):=ZB hi;have hk:=hg _ (Ze hi);rw[ed]at er;generalize g[i]=kd at ek ed hk er;have e0:atI (g.map lt) (0+(i:Int))=some (lt kd):=by rw[show((0:Int)+(i:Int))=(i:Nat) by lia];exact aO (by rw[List.getElem?_map,ek];rfl)
  walk_at "rd";rw[e0,eD];have lg:(g.map lt).length<=sizeLine:=by rw[yV];lia
  refine⟨lg,?_⟩;show ite _ _ _;by_cases hr2:kd = .rows
  ·subst hr2
   have er2:rdG g ws=((dn (ws.drop i)).map fun rs=>[Pt.r rs]).map (ds ++ ·):=er;refine itp (by decide) ⟨q1,_,rfl,hqG,fun p hp=>?_⟩;rw[show((0:Int)+(i:Int))=(i:Nat) by lia,gs];have s1:=ag (HO.lst ((ws.map L2.T).drop i)) hp;refine⟨aj nG rfl,?_⟩;walk_at "rd";refine⟨ws.drop i,aL (by rw[ad,ZI]),fun w hm=>⟨(hw w (vv hm)).1,(hw w (vv hm)).2.1⟩,by rw[vJ];lia,?_⟩;cases e:dn (ws.drop i) with
   |none=>
    rw[er2,e]at k;exact fun G2 s2 n2=>k G2 (sG.trans (s1.trans s2)) n2
   |some rs=>
    rw[er2,e]at k;intro v G2 s2 n2 hv;have g2:=s2 _ _ (s1 _ _ gq);have s3:=s1.trans s2;refine itn (fun z=>by obtain⟨_,_,e,_⟩:=hv;rw[e]at z;cases z) ⟨by lia,fun p1 h1=>⟨_,_,(aw (aq g2 h1)).trans g2,ad,by show vs.length+1<=_;lia,fun p2 h2=>?_⟩⟩;have s4:=(ag (HO.lst [v]) h1).trans (ag (HO.lst (vs++[v])) h2);refine k p2 (vs++[v]) _ ((sG.trans s3).trans s4) (aj (aj n2 rfl) rfl) ad (A2.snoc (AA.imp fun x y _ _ h=>PtAt.mv (fun t l e=>s4 _ _ (s3 _ _ e)) h) (PtAt.mv (fun t l e=>s4 _ _ e) hv)) (by rw[zx];show _+1<=20;lia)
  ·have hpl:plain kd:=hk.resolve_right hr2
   refine itn (fun z=>hr2 (by cases kd <;> first|rfl|cases z)) ⟨_,.inl hqG,?_⟩;rw[yV];split
   ·rename_i hge
    have:ws.drop i=[]:=Za (by lia);rw[this]at er;rw[er]at k
    replace k:match ((if kd = .rows then (dn []).map fun rs=>[Pt.r rs] else none):Option (List Pt)).map (ds ++ ·) with
     |some ds=>∀p vs G,Same H G->NoT G->G p=some (.lst vs)->A2 (PtAt G) vs ds->vs.length<=20->Q (.ref p) G
     |none=>∀G,Same H G->NoT G->Q .non G:=k
    rw[if_neg hr2]at k;exact k G sG nG
   ·rename_i hlt
    have iw':i<ws.length:=by lia
    have ew:ws.drop i=ws[i]::ws.drop (i+1):=ZB iw';have ei:ws[i]? = some ws[i]:=List.getElem?_eq_some_iff.mpr ⟨iw',rfl⟩;obtain⟨w1,w2,w3⟩:=hw _ (Ze iw');rw[ew]at er;generalize ws[i]=l at ei w1 w2 w3 er;have er2:rdG g ws=((rdP kd l).bind fun d=>(rdG (g.drop (i+1)) (ws.drop (i+1))).map (d :: ·)).map (ds ++ ·):=by
     rw[er];show Z6 _ (if kd = .rows then _ else _)=_;rw[if_neg hr2]
    refine⟨lg,?_⟩;show ∃xs v,_;have ea:atI (ws.map L2.T) (0+(i:Int))=some (L2.T l):=by rw[show((0:Int)+(i:Int))=(i:Nat) by lia];exact aO (by rw[List.getElem?_map,ei];rfl)
    refine⟨_,_,.inl hqG,ea,nG,?_⟩;walk_at "rd";refine⟨kd,hpl,rfl,w1,w2,w3,?_⟩;cases e:lrP kd l with
    |none=>
     rw[er2,zu hpl e]at k;exact fun G2 s2 n2=>k G2 (sG.trans s2) n2
    |some p=>
     intro v G2 s2 n2 hv;have hnn:v ≠ .non:=Dk e hv;refine itn hnn ?_;have g2:=s2 _ _ gq;refine c4 D i kd p v x4 q2 G2 vs ek (by lia) hv (fun hc=>Eu e hc) g2 (by lia) fun v' p' y1 y2 hv'=>?_;have ep:rdP kd l=some p':=by
      by_cases z:r6 kd p
      ·rw[y1 z];exact DJ e z
      ·rw[y2 z];exact yn hpl e z
     have kt:∀t' l',G2 t'=some (.tup l')->upd G2 q2 (.lst (vs++[v'])) t'=some (.tup l'):=fun t' l' e=>by
      rw[aw fun z=>by rw[z,g2]at e;cases e];exact e
     refine kk v' p' _ _ (fun c o e=>?_) (aj n2 rfl) ad (A2.snoc (AA.imp fun x y _ _ h=>PtAt.mv (fun t l e=>kt _ _ (s2 _ _ e)) h) (PtAt.mv kt hv')) iw' ?_
     ·rw[aw (aq e hq2)];exact s2 _ _ (sG _ _ e)
     ·rw[er2,ep]
      show Z6 _ (Z6 _ _)=_;rw[Option.map_map]
      congr 1
      funext z;simp
 obtain⟨ub,hub,cB⟩:=cB;clear hu4 c4 hu5 c5;refine⟨_,(aa (aC 2 ND (aX (FA.pa bw)))
  (aa (eW (by passes_own) rfl (cn rfl T.dh (fa1 (ay (aS K) rfl T.bD bd (fa1 (fv 0))))) (aR (i:=3) ND rfl (Or.inl rfl)) hub)
  (af (ai (cg (ak (aF K HU) (ay (aS K) rfl T.bD bd (fa1 (fv 1))) (ay (aS K) rfl T.bD bd (fa1 (fv 0)))) (fv 2) bb))))),?_⟩
 walk_at "rd";refine⟨uG _,fun q2 h2=>fI ?_⟩;walk_at "rd";have s0:=ag (HO.lst []) h2;have n0:NoT (upd H q2 (HO.lst [])):=aj hN rfl;have g0:upd H q2 (HO.lst []) q2=some (.lst []):=ad;generalize upd H q2 (HO.lst [])=G0 at s0 n0 g0 |-
 rw[yV];refine⟨by lia,by lia,by lia,?_⟩;rw[qa];refine eG (lo:=0) (n:=g.length) (fun i σ' G=>∃x3 x4 x5 vs ds,σ'=[some (L2.T (g.map lt)),some (.ref q1),some (.ref q2),x3,x4,x5]/\Same H G/\NoT G/\G q2=some (.lst vs)/\A2 (PtAt G) vs ds/\vs.length=i/\i<=ws.length/\rdG g ws=(rdG (g.drop i) (ws.drop i)).map (ds ++ ·)) ⟨none,none,none,[],[],rfl,s0,n0,g0,.nil,rfl,uG _,by simp⟩ ?_ ?_
 ·rintro i σ' G hi ⟨x3,x4,x5,vs,ds,rfl,sG,nG,gq,AA,lv,iw,er⟩
  walk_at "rd";refine cB _ i x4 x5 q2 G vs ds rfl hi h2 sG nG gq AA lv iw er fun v d G2 x4' s2 n2 g2 A2' i2 er'=>⟨_,_,_,_,_,rfl,s2,n2,g2,A2',by rw[zx,lv];rfl,i2,er'⟩
 ·rintro σ' G ⟨x3,x4,x5,vs,ds,rfl,sG,nG,gq,AA,lv,iw,er⟩
  walk_at "rd";refine⟨_,.inl (bf sG hq),by rw[yV];lia,?_⟩;rw[yV,yV];rw[List.drop_length]at er;have ge:(g.length:Int)<=ws.length:=by lia
  split
  ·rename_i h
   rw[Za (by lia)]at er;have er2:rdG g ws=some (ds++[]):=er;rw[er2,Z3]at k;exact k q2 vs G sG nG gq AA (by lia)
  ·rename_i h
   have ew:ws.drop g.length=ws[g.length]'(by lia)::ws.drop (g.length+1):=ZB (by lia);rw[ew]at er;have er2:rdG g ws=none:=er;rw[er2]at k;exact k G sG nG
end
open PySem L2 K3 M2 K22
section
variable{pS:Addr}{ns:List Int}{P:Program}{w:World}{K:W.Frag}{mg:Str->Option Value}{base:Heap}{a:Adr}
open MT
def shH:List Pt->Prop
 | .w l::_=>cq l
 |_=>False
noncomputable instance (ds:List Pt):Decidable (shH ds):=Classical.propDecidable _
noncomputable def jh(wd:List Nat)(f:List K9)(m:List Nat)(nt:List (List Nat)):Option (List Nat × List Pt):=(rdG (dk f) ((spN 32 m).drop 1)).bind fun ds=>if wd=cY /\ ¬ shH ds then none else some (wd,ds++nt.map Pt.w)
noncomputable def uM(l:List Nat):Option (List Nat × List Pt):=(cj aV ((spN 32 l).headD [])).bind fun f=>if (spN 32 l).headD []∈NT3 then (match bar l with
 |none=>none
 |some i=>if 124∈l.take i then none else (bx (124::l.drop (i+2))).bind fun n=>jh ((spN 32 l).headD []) f (l.take i) [n]) else jh ((spN 32 l).headD []) f l []
abbrev RdQ(H:Hp)(Q:VK)(o:Option (List Nat × List Pt)):Prop:=match o with
 |some o=>∀v G,Same H G->NoT G->OrAt G v o->Q v G
 |none=>∀G,Same H G->NoT G->Q .non G
def sp_wz:Sp:=sp1 fun x H Q _=>NoT H/\asT x fun l=>pl l/\l.length<=900/\RdQ H Q (uM l)
theorem DY(G:Hp):∀nts:List (List Nat),A2 (PtAt G) (nts.map L2.T) (nts.map Pt.w)
 | []=>.nil
 |n::r=>.cons rfl (DY G r)
theorem Dv(f:List K9):∀k∈dk f,gk k:=by
 intro k hk;have:=rd f k hk;cases k <;> first|exact this.elim|exact .inl trivial|exact .inr rfl
noncomputable def km:List (List Nat):=[[98,117,100,103,101,116],[115,116,97,110,100,105,110,103]]
theorem yK{ws:List (List Nat)}{ds:List Pt}(h:rdG (dk [.shelf,.word]) ws=some ds):∃x y,ds=[.w x,y]:=by
 have e:dk [.shelf,.word]=[.word,.word]:=rfl;rw[e]at h;cases ws with
 |nil=>cases h
 |cons w1 r=>
  replace h:(if rw w1=true then some (Pt.w w1) else none).bind (fun d=>(rdG [.word] r).map (d :: ·))=some ds:=h
  split at h
  ·replace h:(rdG [.word] r).map (Pt.w w1 :: ·)=some ds:=h
   cases r with
   |nil=>cases h
   |cons w2 s=>
    replace h:((rdP .word w2).bind fun d=>(rdG [] s).map (d :: ·)).map (Pt.w w1 :: ·)=some ds:=h
    cases e2:rdP .word w2 with
    |none=>rw[e2]at h;cases h
    |some d=>
     rw[e2]at h;cases s with
     |nil=>cases h;exact⟨w1,d,rfl⟩
     |cons _ _=>cases h
  ·cases h
noncomputable def ifB:Stmt->List Stmt
 | .If _ b _ _=>b
 |_=>[]
noncomputable abbrev An:List Stmt:=ifB ((aQ bi).getD 4 (.Pass ⟨0,0,0,0⟩))
theorem Da(c:Nat)(n:List Nat):bh (c::n) (some 1) (some 2)=n.take 1:=by
 unfold bh;have h1:HT.sIx (c::n).length 0 (some 1)=min 1 (c::n).length:=HT.sIx_nat _ 0 1;have h2:HT.sIx (c::n).length (c::n).length (some 2)=min 2 (c::n).length:=HT.sIx_nat _ _ 2;rw[h1,h2];cases n with
 |nil=>rfl
 |cons a r=>simp
theorem wK(t:List Nat):bx (124::t)=if t=[] then some [] else if t.head? = some 32/\t.drop 1≠[]/\nt (t.drop 1)=true then some (t.drop 1) else none:=by
 unfold bx;have e1:(124::t=[124])↔t=[]:=by simp
 have e2:fD (124::t) [124,32]=true↔t.head? = some 32:=by
  cases t with
  |nil=>decide
  |cons c r=>simp[fD,eq_comm]
 have e3:(124::t).drop 2=t.drop 1:=rfl;rw[e3];simp only[e1,e2]
theorem oD(T:Txt w K mg a):Fo P w K mg base "_law_read" 10 sp_wz:=by
 refine T.pY.hx ["_law_line_here","_law_word","_law_form_here","_law_notes","_law_at_here","_law_note_here","_law_signs_here","_law_plain","_law_parts"] (gX1 fun x0 fA cdv A outer s H Q E ND HU hr h=>?_);obtain⟨hN,h⟩:=h;refine sy (ba h) fun l yy1 hl l9 k=>?_;subst yy1;have sz:2000<=sizeLine:=by rw[wz];decide
 have c7:∃u,PSs (bE (XE P w) P w K mg base ["_law_line_here","_law_word","_law_form_here","_law_notes","_law_at_here","_law_note_here","_law_signs_here","_law_plain","_law_parts"] "_law_read" (au bi) fA cdv A outer s H E) (Zn 7 (aQ bi)) u/\∀x0 wd x2 q1 (nts:List (List Nat)) x4 x5 x6 x7 q2 vs ds G,Same H G->NoT G->G q1=some (.lst (nts.map L2.T))->G q2=some (.lst vs)->A2 (PtAt G) vs ds->vs.length<=20->nts.length<=1->RdQ H Q (some (wd,ds++nts.map Pt.w))->u { nx:=fun _ H'=>Q .non H',rt:=Q } [x0,some (L2.T wd),x2,some (.ref q1),x4,x5,x6,x7,some (.ref q2)] G:=by
  refine⟨_,(af (ai (aM (cA K) rfl T.cG bY (fa1 (ah b_ (ah b_ (aX (fa1 (fv 1))) (fv 8)) (fv 3)))))),fun x0 wd x2 q1 nts x4 x5 x6 x7 q2 vs ds G sG nG g1 g2 A lv ln kk=>?_⟩;walk_at "rd";have ln':(nts.map L2.T).length<=1:=by rw[yV];exact ln
  refine⟨by lia,fun r h1=>⟨_,_,ad,(aw (aq g2 h1)).trans g2,by show 1+vs.length<=_;lia,fun r2 h2=>?_⟩⟩;have s1:=(ag (HO.lst [L2.T wd]) h1).trans (ag (HO.lst ([L2.T wd]++vs)) h2);have g1':=s1 _ _ g1;refine⟨_,_,ad,g1',by rw[zx];show 1+_+_<=_;lia,fun r3 h3=>⟨_,.inl ⟨aL ad,fun r4 h4=>?_⟩⟩⟩;have s2:=(s1.trans (ag (HO.lst ([L2.T wd]++vs++nts.map L2.T)) h3)).trans (ag (HO.tup ([L2.T wd]++vs++nts.map L2.T)) h4);refine kk _ _ (sG.trans s2) (aj (aj (aj (aj nG rfl) rfl) rfl) rfl) ⟨r4,vs++nts.map L2.T,rfl,ad,(A.imp fun x y _ _ h=>PtAt.mv (fun t' l' e=>s2 _ _ e) h).app (DY _ nts)⟩
 obtain⟨u7,hu7,c7⟩:=c7;have c5:∃u,PSs (bE (XE P w) P w K mg base ["_law_line_here","_law_word","_law_form_here","_law_notes","_law_at_here","_law_note_here","_law_signs_here","_law_plain","_law_parts"] "_law_read" (au bi) fA cdv A outer s H E) (Zn 5 (aQ bi)) u/\∀m wd f q1 (nts:List (List Nat)) x4 x5 x6 x7 G,pl m->m.length<=900->cj aV wd=some f->Same H G->NoT G->G q1=some (.lst (nts.map L2.T))->nts.length<=1->RdQ H Q (jh wd f m nts)->u { nx:=fun _ H'=>Q .non H',rt:=Q } [some (L2.T m),some (L2.T wd),some (L2.T (lfm f)),some (.ref q1),x4,x5,x6,x7,none] G:=by
  refine⟨_,(aa (aC 8 ND (az (gH T) hr aB (fa2 (fv 2) (aA (bZ K) (aP K xn mG mK cE (fv 0) (fa1 (ac [32]))) (aD ae) aJ))))
   (aa (aE (jB (L2.PW.pt (bS (eJ (du (fv 8))) (bK (L2.PW.pt (cU (ak (aF K HU) (fv 1) (ac [100,114,111,112])) (b8 (cw (jk K) (aN K (fv 8) ae) (eS (fa2 (ac [98,117,100,103,101,116]) (ac [115,116,97,110,100,105,110,103]))) (by with_unfolding_all rfl))))))))) (af (ai bb)) ao)
   hu7)),fun m wd f q1 nts x4 x5 x6 x7 G hm m9 ef sG nG g1 ln kk=>?_⟩
  walk_at "rd";have sl:=cF 32 m;refine⟨by lia,fun p hp=>⟨p,_,rfl,aL ad,fun r h1=>?_⟩⟩;have s1:=(ag (HO.lst ((spN 32 m).map L2.T)) hp).trans (ag (HO.lst (bX ((spN 32 m).map L2.T) (some 1) none)) h1);have gr:upd (upd G p (HO.lst ((spN 32 m).map L2.T))) r (HO.lst (bX ((spN 32 m).map L2.T) (some 1) none)) r=some (.lst (((spN 32 m).drop 1).map L2.T)):=by rw[ad,show bX ((spN 32 m).map L2.T) (some 1) none=_ from gs _ 1,ZI]
  have n1:NoT (upd (upd G p (HO.lst ((spN 32 m).map L2.T))) r (HO.lst (bX ((spN 32 m).map L2.T) (some 1) none))):=aj (aj nG rfl) rfl;generalize upd (upd G p (HO.lst ((spN 32 m).map L2.T))) r (HO.lst (bX ((spN 32 m).map L2.T) (some 1) none))=G1 at s1 gr n1 |-
  have fl:=db ef;refine⟨n1,?_⟩;walk_at "rd";refine⟨dk f,(spN 32 m).drop 1,rfl,wx (List.length_filterMap_le _ _) fl,fun k hk=>Dv f k hk,aL gr,fun w hw=>?_,by rw[vJ];lia,?_⟩
  ·obtain⟨w1,w2⟩:=dX 32 m w (vv hw)
   exact⟨pl.ok (fun c hc=>hm c (w2 c hc)) (by lia),fun h=>(hm _ (w2 _ h)).2 rfl,by lia⟩
  ·unfold jh at kk
   cases e:rdG (dk f) ((spN 32 m).drop 1) with
   |none=>
    rw[e]at kk;exact fun G2 s2 n2=>⟨n2,kk G2 (sG.trans (s1.trans s2)) n2⟩
   |some ds=>
    rw[e]at kk
    replace kk:RdQ H Q (if wd=cY /\ ¬ shH ds then none else some (wd,ds++nts.map Pt.w)):=kk
    intro q2 vs G2 s2 n2 g2 A lv;have g1':=s2 _ _ (s1 _ _ g1);have s3:=sG.trans (s1.trans s2);refine⟨n2,itn (fun z=>nomatch z) ?_⟩;split
    ·rename_i hd
     rcases lM ef with ⟨_,rfl⟩|⟨h,_⟩|⟨h,_⟩
     ·obtain⟨x,y,rfl⟩:=yK e
      cases A with
      |cons a1 A=>
       cases a1;refine⟨_,_,.inl (aL g2),aO (j:=0) rfl,by lia,fun p1 h1=>⟨km.map L2.T,.inr (bc ad),rfl,rfl,G2,Gc.none (ag _ h1),?_⟩⟩;rw[lq];by_cases hs:x∈km
       ·have hs':shH [Pt.w x,y]:=by simpa [km,cq,shH] using hs
        rw[if_neg (fun z=>z.2 hs')]at kk;exact itn (by rw[decide_eq_true hs];decide) (c7 _ wd _ q1 nts _ _ _ _ q2 _ _ G2 s3 n2 g1' g2 (.cons (show PtAt G2 (L2.T x) (.w x) from rfl) A) lv ln kk)
       ·have hs':¬ shH [Pt.w x,y]:=by simpa [km,cq,shH] using hs
        rw[if_pos ⟨hd,hs'⟩]at kk;exact itp (decide_eq_false hs) (kk G2 s3 n2)
     ·exact(h hd).elim
     ·exact(h hd).elim
    ·rename_i hd
     rw[if_neg (fun z=>hd z.1)]at kk;exact c7 _ wd _ q1 nts _ _ _ _ q2 vs ds G2 s3 n2 g1' g2 A lv ln kk
 obtain⟨u5,hu5,c5⟩:=c5;have cN:∃u,PSs (bE (XE P w) P w K mg base ["_law_line_here","_law_word","_law_form_here","_law_notes","_law_at_here","_law_note_here","_law_signs_here","_law_plain","_law_parts"] "_law_read" (au bi) fA cdv A outer s H E) (Zn 5 An) u/\∀(D:fi) (i:Nat) t x1 x2 x3 x6 b x8 G,D.rt=Q->i<=l.length->pl t->t.length<=900->Same H G->NoT G->(b=decide (∀c∈t,c∈32::124::SIG))->(bx (124::t)=none->Q .non G)->(∀n,bx (124::t)=some n->∀p,G p=none->D.nx [some (L2.T (l.take i)),x1,x2,some (.ref p),some (.int i),some (L2.T t),x6,some (.bl b),x8] (upd G p (.lst [L2.T n])))->u D [some (L2.T l),x1,x2,x3,some (.int i),some (L2.T t),x6,some (.bl b),x8] G:=by
  refine⟨_,(aa (aE (L2.PW.pt (cU (ak (bO K HU) (fv 5) (ac [])) (b8 (L2.PW.pt (bS (ak (bO K HU) (aN K (fv 5) ae) (ac [32])) (bK (ak qS (ay (aS K) rfl T.bD bd (fa1 (fv 5))) ae))))))) (af (ai bb)) ao)
   (aa (aE (L2.PW.pt (bS (ak (aF K HU) (aA aT (fv 5) (aD ae) (aD ae)) (ac [32])) (bK (ak (aF K HU) (aA aT (fv 5) (aD (jV fF ae)) aJ) (ac [32]))))) (af (ai bb)) ao)
   (aa (aE (L2.PW.pt (bS (ak mX (ay (aS K) rfl T.bD bd (fa1 (fv 5))) ae) (bK (cP (bt (fv 7)))))) (af (ai bb)) ao)
   (aa (aC 3 ND (aX (fa1 (aA aT (fv 5) (aD ae) aJ))))
   (af (aC 0 ND (aA aT (fv 0) aJ (aD (fv 4))))))))),fun D i t x1 x2 x3 x6 b x8 G eD hi ht t9 sG nG eb k0 k1=>?_⟩
  walk_at "rd";rw[eD];have L1:t.length<=sizeLine:=by lia
  have L2':l.length<=sizeLine:=by lia
  rw[wK]at k0 k1;rw[tM l i];split
  ·rename_i h
   subst h;rw[if_pos rfl]at k1;refine⟨L1,itn (by decide) ⟨L1,itn (by decide) ⟨L1,itn (by decide) (itn (by rw[eb];decide) ⟨L1,by lia,fun p hp=>⟨L2',k1 [] rfl p hp⟩⟩)⟩⟩⟩
  rename_i h;rw[if_neg h]at k0 k1;obtain⟨c,n,rfl⟩:∃c n,t=c::n:=by
   cases t with
   |nil=>exact(h rfl).elim
   |cons c n=>exact⟨c,n,rfl⟩
  have no:¬ ((c::n).head? = some 32/\(c::n).drop 1≠[]/\True/\nt ((c::n).drop 1)=true)->Q .non G:=fun z=>k0 (if_neg fun y=>z ⟨y.1,y.2.1,trivial,y.2.2⟩);refine⟨L1,?_⟩;rw[show atI (c::n) 0=some c from aO (j:=0) rfl];show ite _ _ _;split
  case isFalse h1=>exact no fun z=>h1 (wj z.1)
  rename_i hc;subst hc;refine⟨L1,?_⟩;split
  ·rename_i h2
   exact no fun z=>by
    have:=z.2.1;cases n with
    |nil=>exact this rfl
    |cons _ _=>simp only[xR]at h2;lia
  rename_i h2;have nn:n≠[]:=fun e=>by rw[e]at h2;exact h2 (by decide)
  rw[Da];refine⟨L1,?_⟩;split
  ·rename_i h3
   exact no fun z=>(d8.mp z.2.2.2).2.1 (by
    cases n with
    |nil=>exact(nn rfl).elim
    |cons a r=>
     have:[a]=[32]:=h3;show some a=some 32;rw[List.cons.inj this |>.1])
  rename_i h3;have hl2:(32::n).getLast? = n.getLast?:=by
   cases n with
   |nil=>exact(nn rfl).elim
   |cons a r=>rfl
  have hlast:n.getLast? = some (n.getLast nn):=List.getLast?_eq_some_getLast nn;have hcut:bh (32::n) (some (-1)) none=[n.getLast nn]:=qW (hl2.trans hlast);rw[hcut];refine⟨L1,?_⟩;split
  ·rename_i h4
   exact no fun z=>(d8.mp z.2.2.2).2.2.1 (by show n.getLast? = some 32;rw[hlast];exact congrArg some (List.cons.inj h4).1)
  rename_i h4;refine⟨L1,?_⟩;split
  ·rename_i h5
   exact no fun z=>by
    have:=(d8.mp z.2.2.2).1;simp only[xR,Yz,Yd]at h5 this;lia
  rename_i h5;simp only[xR]at h5;by_cases h6:∀c∈32::n,c∈32::124::SIG
  ·refine itn (by rw[eb,decide_eq_true h6];decide) ⟨L1,by lia,fun p hp=>⟨L2',?_⟩⟩
   have hnt:nt n=true:=d8.mpr ⟨by lia,fun z=>h3 (by
    cases n with
    |nil=>exact(nn rfl).elim
    |cons a r=>rw[show a=32 from wj z];rfl),fun z=>h4 (by rw[hlast]at z;rw[wj z]),fun c hc=>by
     have:=h6 c (xM _ hc);rcases zv.mp this with rfl|this
     ·decide
     rcases zv.mp this with rfl|this
     ·decide
     have:=(fR.mp this).1;exact⟨by lia,this.2⟩⟩
   rw[show bh (32::n) (some 1) none=n from fe (32::n) 1];exact k1 n (if_pos ⟨rfl,nn,hnt⟩) p hp
  ·refine itp (by rw[eb,decide_eq_false h6]) (no fun z=>h6 fun c hc=>?_)
   rcases zv.mp hc with rfl|hc'
   ·exact ZV
   ·have h7:=(d8.mp z.2.2.2).2.2.2 c hc'
    have h8:=ht c hc;by_cases e1:c=32
    ·rw[e1];exact ZV
    by_cases e2:c=124
    ·rw[e2];exact xM _ ZV
    exact xM _ (xM _ (fR.mpr ⟨⟨by lia,h7.2⟩,h8.2,e2⟩))
 obtain⟨uN,huN,cN⟩:=cN;have cB:∃u,PSs (bE (XE P w) P w K mg base ["_law_line_here","_law_word","_law_form_here","_law_notes","_law_at_here","_law_note_here","_law_signs_here","_law_plain","_law_parts"] "_law_read" (au bi) fA cdv A outer s H E) An u/\∀(D:fi) x1 x2 x3 x8 G,D.rt=Q->Same H G->NoT G->(match bar l with
  |none=>Q .non G
  |some i=>if 124∈l.take i then Q .non G else (bx (124::l.drop (i+2))=none->∀G2,Same H G2->NoT G2->Q .non G2)/\(∀n,bx (124::l.drop (i+2))=some n->∀p G2 x4 x5 x6 x7,Same H G2->NoT G2->G2 p=some (.lst [L2.T n])->D.nx [some (L2.T (l.take i)),x1,x2,some (.ref p),x4,x5,x6,x7,x8] G2))->u D [some (L2.T l),x1,x2,x3,none,none,none,none,x8] G:=by
  refine⟨_,(aa (aC 4 ND (aP K xn PySem.F.slot_str_find PySem.F.type_str_find zw (fv 0) (fa1 (ac [32,124]))))
   (aa (aE (L2.PW.pt (bS (ak qS (fv 4) ae) (bK (cw AE (ac [124]) (aA aT (fv 0) aJ (aD (fv 4))) (by with_unfolding_all rfl))))) (af (ai bb)) ao)
   (aa (aC 5 ND (aA aT (fv 0) (aD (ah av (fv 4) ae)) aJ))
   (aa (aC 6 ND (ah av (ac [32,124]) (eM (cC T) hr.mono rfl aB)))
   (aa (aC 7 ND (eO (aF K HU) (bG rfl (cl:=_) (x:="_law_sign") (xs:=["_law_sign"]) (fr:=["_law_signs_here"]) (ks:=[6]) (by walk_at "cq") rfl (i8 (fv 5)) (fun _ _ _ _ _=>(aR (i:=0) (cT (l:=["_law_sign","_law_signs_here"]) (by decide)) rfl (Or.inl rfl))) (fun _ _ _ _ _=>(ky (cw iq (fv 0) (fv 1) (by with_unfolding_all rfl)))) (fun _ _ _ _ _=>(fv 0))) (aX (FA.pa bw)) (fo _)))
   huN))))),fun D x1 x2 x3 x8 G eD sG nG kk=>?_⟩
  walk_at "rd";rw[eD];have sL:=ku;refine⟨fun no=>?_,fun i hi lo=>itn (by lia) ?_⟩
  ·have e:bar l=none:=by
    cases e:bar l with
    |none=>rfl
    |some j=>exact absurd (dM e).1 (no j)
   rw[e]at kk;exact kk
  have e:bar l=some i:=by
   cases e:bar l with
   |none=>exact absurd hi (k9 e i)
   |some j=>
    obtain⟨h1,h2⟩:=dM e;rcases Nat.lt_trichotomy i j with h|h|h
    ·exact absurd hi (h2 i h)
    ·rw[h]
    ·exact absurd h1 (lo j h)
  rw[e]at kk;have il:=hi.1
  replace kk:if 124∈l.take i then Q .non G else (bx (124::l.drop (i+2))=none->∀G2,Same H G2->NoT G2->Q .non G2)/\(∀n,bx (124::l.drop (i+2))=some n->∀p G2 x4 x5 x6 x7,Same H G2->NoT G2->G2 p=some (.lst [L2.T n])->D.nx [some (L2.T (l.take i)),x1,x2,some (.ref p),x4,x5,x6,x7,x8] G2):=kk
  rw[tM l i,show bh l (some ((i:Int)+2)) none=l.drop (i+2) from fe l (i+2)];refine⟨by lia,?_⟩;by_cases h1:124∈l.take i
  ·rw[if_pos h1]at kk
   exact itp (decide_eq_true h1) kk
  rw[if_neg h1]at kk;refine itn (fun z=>h1 (of_decide_eq_true z)) ⟨by lia,nG,by lia,?_⟩;have ht:pl (l.drop (i+2)):=fun c hc=>hl c (vv hc);have ht9:(l.drop (i+2)).length<=900:=by rw[vJ];lia
  have ht0:=pl.ok ht (by lia);refine cmS (fun _=>True) (fun _ _ _=>trivial) (l.drop (i+2)) (fun c=>!decide (c∈32::124::SIG)) (fun c=>L2.T [c]) (fun R r=>r) ht0.1 (by lia) (fun c _ H R _ r=>?_) (fun c _ _ H R _ r=>r) (fun D' hD=>⟨uG _,fun p hp=>kx hp ?_⟩)
  ·walk_at "rd"
   exact r
  have s1:=(ag (HO.lst ((List.filter (fun c=>!decide (c∈32::124::SIG)) (l.drop (i+2))).map fun c=>L2.T [c])) hD).trans (ag (HO.lst []) hp);refine cN D i _ x1 x2 x3 _ _ x8 _ eD (by lia) ht ht9 (sG.trans s1) (aj (aj nG rfl) rfl) ?_ (fun e=>kk.1 e _ (sG.trans s1) (aj (aj nG rfl) rfl)) fun n e p2 h2=>kk.2 n e p2 _ _ _ _ _ ((sG.trans s1).trans (ag _ h2)) (aj (aj (aj nG rfl) rfl) rfl) ad;rw[eR,Bool.false_xor];exact decide_eq_decide.mpr (forall_congr' fun c=>forall_congr' fun _=>by rw[Bool.not_eq_false',decide_eq_true_eq])
 obtain⟨ub,hb,cB⟩:=cB;have c4:∃u,PSs (bE (XE P w) P w K mg base ["_law_line_here","_law_word","_law_form_here","_law_notes","_law_at_here","_law_note_here","_law_signs_here","_law_plain","_law_parts"] "_law_read" (au bi) fA cdv A outer s H E) (Zn 4 (aQ bi)) u/\∀wd f q1 G,wd=(spN 32 l).headD []->cj aV wd=some f->Same H G->NoT G->G q1=some (.lst [])->u { nx:=fun _ H'=>Q .non H',rt:=Q } [some (L2.T l),some (L2.T wd),some (L2.T (lfm f)),some (.ref q1),none,none,none,none,none] G:=by
  refine⟨_,(aa (aE (jB (cw (jo K) (fv 1) (eS (fa3 (ac [98,111,111,107]) (ac [117,110,100,111]) (ac [115,116,97,110,100,105,110,103]))) (by with_unfolding_all rfl))) hb ao)
   hu5),fun wd f q1 G ew ef sG nG g1=>?_⟩
  walk_at "rd";refine⟨nG,by lia,fun r h1=>⟨NT3.map L2.T,.inr (bc ad),rfl,rfl,G,Gc.none (ag _ h1),?_⟩⟩;rw[lq];unfold uM at k;rw[<- ew,ef]at k
  replace k:RdQ H Q (if wd∈NT3 then (match bar l with|none=>none|some i=>if 124∈l.take i then none else (bx (124::l.drop (i+2))).bind fun n=>jh wd f (l.take i) [n]) else jh wd f l []):=k
  by_cases h3:wd∈NT3
  ·rw[if_pos h3]at k
   refine itp (decide_eq_true h3) (cB _ _ _ _ _ G rfl sG nG ?_);cases e:bar l with
   |none=>rw[e]at k;exact k G sG nG
   |some i=>
    rw[e]at k
    replace k:RdQ H Q (if 124∈l.take i then none else (bx (124::l.drop (i+2))).bind fun n=>jh wd f (l.take i) [n]):=k
    show ite _ _ _;split
    ·rename_i h4;rw[if_pos h4]at k;exact k G sG nG
    ·rename_i h4
     rw[if_neg h4]at k;refine⟨fun e2=>?_,fun n e2 p G2 x4 x5 x6 x7 s2 n2 g2=>?_⟩
     ·rw[e2]at k;exact k
     ·rw[e2]at k
      exact c5 (l.take i) wd f p [n] x4 x5 x6 x7 G2 (fun c hc=>hl c (oX hc)) (by rw[r0];lia) ef s2 n2 g2 (xi _) k
  ·rw[if_neg h3]at k
   exact itn (fun z=>h3 (of_decide_eq_true z)) (c5 l wd f q1 [] none none none none G hl l9 ef sG nG g1 (uG _) k)
 obtain⟨u4,hu4,c4⟩:=c4;refine⟨_,(aa (aC 1 ND (aN K (aP K xn mG mK cE (fv 0) (fa1 (ac [32]))) ae))
  (aa (aC 2 ND (az (eL T) hr aB (fa1 (fv 1))))
  (aa (aE (eJ (du (fv 2))) (af (ai bb)) ao)
  (aa (aC 3 ND (aX (FA.pa bw)))
  hu4)))),?_⟩
 walk_at "rd";have a0:atI ((spN 32 l).map L2.T) 0=some (L2.T ((spN 32 l).headD [])):=by
  cases e:spN 32 l with
  |nil=>exact absurd e (da 32 l)
  |cons x r=>exact aO (j:=0) rfl
 refine⟨by lia,fun p hp=>⟨_,_,.inl (aL ad),a0,aj hN rfl,?_⟩⟩;walk_at "rd";have s1:=ag (HO.lst ((spN 32 l).map L2.T)) hp;have n1:NoT (upd H p (HO.lst ((spN 32 l).map L2.T))):=aj hN rfl;generalize upd H p (HO.lst ((spN 32 l).map L2.T))=G1 at s1 n1 |-
 rcases ZY (cj aV ((spN 32 l).headD [])) with e|⟨f,e⟩
 ·unfold uM at k
  rw[e]at k;exact itp (by rw[e];rfl) (k G1 s1 n1)
 ·refine itn (by rw[e];exact fun z=>nomatch z) ⟨uG _,fun q hq=>?_⟩
  rw[e];exact c4 _ f q _ rfl e (s1.trans (ag _ hq)) (aj n1 rfl) ad
end
open PySem L2 K3 M2 K22
section
open MT
theorem q_(g:List K9)(ws:List (List Nat)):rdG (.rows::g) ws=(dn ws).map fun rs=>[.r rs]:=by
 unfold rdG;rw[if_pos rfl]
theorem ye{k:K9}(g:List K9)(h:k ≠ .rows):rdG (k::g) []=none:=by
 unfold rdG;rw[if_neg h]
theorem kA{k:K9}(g:List K9)(w:List Nat)(r:List (List Nat))(h:k ≠ .rows):rdG (k::g) (w::r)=(rdP k w).bind fun d=>(rdG g r).map (d :: ·):=by
 conv=>lhs;unfold rdG
 rw[if_neg h]
noncomputable abbrev rdz(z:K9 × List Nat):Option Pt:=rdP z.1 z.2
theorem G0:∀ {f:List K9} {ws:List (List Nat)},(∀k∈f,k ≠ .rows)->rdG f ws=if ws.length=f.length then mO rdz (f.zip ws) else none
 | [],[],_=>rfl
 | [],_::_,_=>rfl
 |k::f,[],h=>by rw[ye f (h k (by simp)),if_neg (fun z=>by cases z)]
 |k::f,w::r,h=>by
  rw[kA f w r (h k (by simp)),G0 fun k hk=>h k (xM _ hk)];by_cases e:r.length=f.length
  ·rw[if_pos e,if_pos (by rw[xR,xR,e]),List.zip_cons_cons]
   show _=(rdP k w).bind fun c=>_;cases rdP k w with
   |none=>rfl
   |some d=>cases mO rdz (f.zip r) <;> rfl
  ·rw[if_neg e,if_neg (show ¬ (w::r).length=(k::f).length from fun z=>e (Nat.succ.inj z))]
   cases rdP k w <;> rfl
theorem GF{p:List K9}:∀ {ws:List (List Nat)},(∀k∈p,k ≠ .rows)->rdG (p++[.rows]) ws=if p.length<=ws.length then (mO rdz (p.zip (ws.take p.length))).bind fun ds=>(dn (ws.drop p.length)).map fun rs=>ds++[.r rs] else none:=by
 induction p with
 |nil=>
  intro ws _;show rdG [.rows] ws=if 0<=ws.length then _ else _
  rw[if_pos (uG _),q_]
  rfl
 |cons k p ih=>
  intro ws h;cases ws with
  |nil=>rw[nN,ye _ (h k (by simp)),if_neg (by simp)]
  |cons w r=>
   rw[nN,kA _ w r (h k (by simp)),ih fun k hk=>h k (xM _ hk)];by_cases e:p.length<=r.length
   ·rw[if_pos e,if_pos (by rw[xR,xR];lia),xR,List.take_succ_cons,Yz,List.zip_cons_cons]
    show _=((rdP k w).bind fun c=>_).bind _;cases rdP k w with
    |none=>rfl
    |some d=>
     cases mO rdz (p.zip (r.take p.length)) with
     |none=>rfl
     |some ds=>cases dn (r.drop p.length) <;> rfl
   ·rw[if_neg e,if_neg (by rw[xR,xR];lia)]
    cases rdP k w <;> rfl
theorem tH{l:List Nat}(h:124∈l):nof l=none:=by
 unfold nof;rw[if_neg];rintro⟨_,_,hd,_⟩;have:124∈fg l:=by
  rcases fg_cases l with ⟨_,e⟩|⟨_,e⟩
  ·rw[e]at h
   rcases zv.mp h with h|h
   ·cases h
   ·exact h
  ·rw[e];exact h
 exact absurd (hd _ this) (by decide)
theorem Cv(d:Int):124∉DT d:=by
 unfold DT TX;have hp:∀k n,124∉pd k n:=fun k n h=>absurd (gF k n _ h) (by decide);simp[hp]
theorem Cq{l:List Nat}(h:124∈l):DO l=none:=by
 cases e:DO l with
 |none=>rfl
 |some d=>exact absurd h ((eK e).2.2.2.1 ▸ Cv d)
theorem tm{l:List Nat}(h:124∈l):rw l=false:=by
 cases e:rw l with
 |false=>rfl
 |true=>exact absurd h (eN.mp e).2.2
theorem u0{ws:List (List Nat)}{x:List Nat}(hx:x∈ws)(h:124∈x):dn ws=none:=by
 unfold dn dR;split
 ·rfl
 split
 ·rename_i h3
  obtain⟨j,hj,e⟩:=YS hx;refine f8 (b:=j / 3) ?_ (ZE.mpr (by lia));have ge:∀m,m=j->ws.getD m []=x:=fun m hm=>by rw[hm,kr hj,e]
  unfold mm mD;rcases(by lia:j=3*(j / 3)\/j=3*(j / 3)+1\/j=3*(j / 3)+2) with h0|h0|h0
  ·rw[ge _ h0.symm,tm h,if_neg (fun z=>by cases z.1)]
  ·rw[ge _ h0.symm,tm h,if_neg (fun z=>by cases z.2)]
  ·rw[ge _ h0.symm,tH h]
   split <;> rfl
 ·rfl
def wdn(k:K9):Prop:=k = .word\/k = .day\/k = .number
noncomputable instance (k:K9):Decidable (wdn k):=by unfold wdn;infer_instance
theorem zG{k:K9}{l:List Nat}(hk:wdn k)(h:124∈l):rdP k l=none:=by
 rcases hk with rfl|rfl|rfl
 ·show(if rw l=true then some (Pt.w l) else none)=none
  rw[tm h];rfl
 ·show(DO l).map Pt.i=none
  rw[Cq h];rfl
 ·show(nof l).map Pt.i=none
  rw[tH h];rfl
theorem tJ:∀ {g:List K9} {ws:List (List Nat)},(∀k∈g,wdn k\/k = .rows)->(∃x∈ws,124∈x)->rdG g ws=none
 | [],[],_,h=>by obtain⟨_,h,_⟩:=h;cases h
 | [],_::_,_,_=>rfl
 |k::g,[],_,h=>by obtain⟨_,h,_⟩:=h;cases h
 |k::g,w::r,hk,h=>by
  by_cases e:k = .rows
  ·obtain⟨x,hx,h⟩:=h
   rw[e,q_,u0 hx h];rfl
  ·rw[kA g w r e]
   obtain⟨x,hx,h⟩:=h;rcases zv.mp hx with rfl|hx
   ·rw[zG ((hk k (by simp)).resolve_right e) h];rfl
   ·rw[tJ (fun k h=>hk k (xM _ h)) ⟨x,hx,h⟩]
    cases rdP k w <;> rfl
theorem py(c:Nat)(r:List Nat):∀a:List Nat,(spN c (a++c::r)).headD []=(spN c a).headD []
 | []=>by simp[spN]
 |x::a=>by
  have ih:=py c r a;rw[nN];unfold spN;by_cases e:x=c
  ·rw[if_pos e,if_pos e];rfl
  ·rw[if_neg e,if_neg e]
   cases e1:spN c (a++c::r) with
   |nil=>exact absurd e1 (da c _)
   |cons y s=>
    cases e2:spN c a with
    |nil=>exact absurd e2 (da c _)
    |cons z t=>
     rw[e1,e2]at ih;show x::y=x::z;rw[show y=z from ih]
theorem uQ{W:List (List Nat)}(h:∀w∈W,32∉w):dR (spN 32 (aG [32] W))=dn W:=by
 unfold dn;cases W with
 |nil=>rw[if_pos rfl];rfl
 |cons w r=>rw[if_neg (ZX _ _),dF 32 _ (ZX _ _) h]
noncomputable def kp(k:K9):Bool:=decide (k ≠ .rows)&&decide (k ≠ .note)
theorem kK{l:List Nat}{f:List K9}(h:cj aV l=some f):124∉l/\((l=cY/\f=[.shelf,.word])\/(l≠cY/\l∈NT3/\(∀k∈f.filter kp,wdn k)/\((dk f=f.filter kp/\f=f.filter kp++[.note])\/(dk f=f.filter kp++[.rows]/\f=f.filter kp++[.rows,.note])))\/(l≠cY/\l∉NT3/\dk f=f/\∀k∈f,k ≠ .rows/\k ≠ .note)):=by
 have m:=dH h;have:∀p∈aV,124∉p.1/\((p.1=cY/\p.2=[.shelf,.word])\/(p.1≠cY/\p.1∈NT3/\(∀k∈p.2.filter kp,wdn k)/\((dk p.2=p.2.filter kp/\p.2=p.2.filter kp++[.note])\/(dk p.2=p.2.filter kp++[.rows]/\p.2=p.2.filter kp++[.rows,.note])))\/(p.1≠cY/\p.1∉NT3/\dk p.2=p.2/\∀k∈p.2,k ≠ .rows/\k ≠ .note)):=by decide +kernel
 exact this _ m
theorem Ct{p:List K9}(h:∀k∈p,aZ k=false):(p++[K9.rows,K9.note]).findIdx aZ=p.length:=by
 induction p with
 |nil=>rfl
 |cons k p ih=>rw[nN,List.findIdx_cons,h k (by simp),ih fun k hk=>h k (xM _ hk)];rfl
theorem tE{k:K9}(h:k ≠ .rows):aZ k=false:=by cases k <;> first|rfl|exact(h rfl).elim
theorem ui{k:K9}(h:k ≠ .note):c8 k=false:=by cases k <;> first|rfl|exact(h rfl).elim
theorem xm{k:K9}(h:wdn k):k ≠ .rows/\k ≠ .note:=by rcases h with rfl|rfl|rfl <;> exact⟨by decide,by decide⟩
theorem G1{f:List K9}{ws inner:List (List Nat)}(h32:∀w∈ws,32∉w)(hw:∀k∈f.filter kp,wdn k)(hi:inner=if f.any aZ=true then ws.take (f.findIdx aZ)++[aG [32] (ws.drop (f.findIdx aZ))] else ws)(hc:(dk f=f.filter kp/\f=f.filter kp++[.note])\/(dk f=f.filter kp++[.rows]/\f=f.filter kp++[.rows,.note])):(if inner.length=(dk f).length then mO rdz ((dk f).zip inner) else none)=rdG (dk f) ws:=by
 have nr:∀k∈f.filter kp,k ≠ .rows:=fun k hk=>(xm (hw k hk)).1;rcases hc with ⟨e1,e2⟩|⟨e1,e2⟩
 ·rw[e1,G0 nr]
  have:¬ f.any aZ=true:=by
   rw[e2,List.any_append];simp only[Bool.or_eq_true,YV];rintro(⟨k,hk,h⟩|⟨k,hk,h⟩)
   ·rw[tE (nr k hk)]at h;cases h
   ·rw[uH.mp hk]at h;cases h
  rw[if_neg this]at hi;rw[hi]
 ·rw[e1,GF nr]
  have e3:f.any aZ=true:=by
   rw[e2,List.any_append];simp[aZ]
  have e4:f.findIdx aZ=(f.filter kp).length:=by
   conv=>lhs;rw[e2]
   exact Ct fun k hk=>tE (nr k hk)
  rw[if_pos e3,e4]at hi;generalize f.filter kp=p at hi;rw[hi,zx,zx,r0];have l1:([aG [32] (ws.drop p.length)]:List (List Nat)).length=1:=rfl;have l2:([K9.rows]:List K9).length=1:=rfl;rw[l1,l2];by_cases h:p.length<=ws.length
  ·rw[if_pos (by lia),if_pos h,List.zip_append (by rw[r0];lia)]
   show mO rdz (p.zip (ws.take p.length)++[(.rows,aG [32] (ws.drop p.length))])=_;rw[ii];have e5:rdz (.rows,aG [32] (ws.drop p.length))=(dn (ws.drop p.length)).map .r:=by
    show(dR (spN 32 (aG [32] (ws.drop p.length)))).map Pt.r=_;rw[uQ fun w hm=>h32 w (vv hm)]
   rw[e5];cases mO rdz (p.zip (ws.take p.length)) with
   |none=>rfl
   |some ds=>cases dn (ws.drop p.length) <;> rfl
  ·rw[if_neg (by lia),if_neg h]
theorem wH{l:List Nat}:uM l=gE l:=by
 unfold uM gE;cases ef:cj aV ((spN 32 l).headD []) with
 |none=>rfl
 |some f=>
  show(if (spN 32 l).headD []∈NT3 then _ else _)=_;obtain⟨hb,hk⟩:=kK ef;generalize hwd:(spN 32 l).headD []=wd at hb hk;rcases hk with ⟨rfl,rfl⟩|⟨h1,h2,h3,h4⟩|⟨h1,h2,h3,h4⟩
  ·rw[if_neg (by decide)]
   show _=if (pcs [.shelf,.word] l).length=[K9.shelf,.word].length then _ else _
   have ep:pcs [.shelf,.word] l=(spN 32 l).drop 1:=rfl;rw[ep];unfold jh;show(rdG [.word,.word] _).bind _=_;generalize (spN 32 l).drop 1=ws;rw[G0 (by decide)];rcases ws with _|⟨x,_|⟨y,_|⟨z,s⟩⟩⟩
   ·rfl
   ·rfl
   ·show((rdP .word x).bind fun c=>((rdP .word y).bind fun c2=>some [c2]).bind fun cs=>some (c::cs)).bind (fun ds=>if cY=cY /\ ¬ shH ds then none else some (cY,ds++[]))=Z6 (fun ps=>(cY,ps)) ((rdP .shelf x).bind fun c=>((rdP .word y).bind fun c2=>some [c2]).bind fun cs=>some (c::cs))
    by_cases hs:cq x
    ·rw[show rdP .word x=some (.w x) from if_pos (dY hs).2.2.1,show rdP .shelf x=some (.w x) from if_pos hs]
     cases rdP .word y with
     |none=>rfl
     |some d=>
      show(if cY=cY /\ ¬ shH [.w x,d] then none else some (cY,[.w x,d]++[]))=_;rw[if_neg (fun z=>z.2 hs)]
      rfl
    ·rw[show rdP .shelf x=none from if_neg hs]
     by_cases hx:rw x=true
     ·rw[show rdP .word x=some (.w x) from if_pos hx]
      cases rdP .word y with
      |none=>rfl
      |some d=>
       show(if cY=cY /\ ¬ shH [.w x,d] then none else some (cY,[.w x,d]++[]))=_;rw[if_pos ⟨rfl,hs⟩]
       rfl
     ·rw[show rdP .word x=none from if_neg hx]
      rfl
   ·rw[if_neg (by simp),if_neg (by simp)];rfl
  ·rw[if_pos h2]
   have en:f.any c8=true:=by
    rcases h4 with ⟨_,e⟩|⟨_,e⟩ <;> rw[e,List.any_append] <;> simp[c8]
   have ed:f=dk f++[.note]:=by
    rcases h4 with ⟨e1,e2⟩|⟨e1,e2⟩
    ·rw[e1];exact e2
    ·rw[e1,Zp];exact e2
   show _=if (pcs f l).length=f.length then Z6 (fun ps=>(wd,ps)) (mO rdz (f.zip (pcs f l))) else none
   have h32:∀w∈(spN 32 (a_ l).1).drop 1,32∉w:=fun w hw=>fX 32 _ w (vv hw);have hG:=fun inner=>G1 (f:=f) (inner:=inner) h32 h3;have ep:pcs f l=(if f.any aZ=true then ((spN 32 (a_ l).1).drop 1).take (f.findIdx aZ)++[aG [32] (((spN 32 (a_ l).1).drop 1).drop (f.findIdx aZ))] else (spN 32 (a_ l).1).drop 1)++[(a_ l).2]:=by unfold pcs;rw[if_pos en]
   have hG2:=hG _ rfl h4;rw[ep];generalize (if f.any aZ=true then ((spN 32 (a_ l).1).drop 1).take (f.findIdx aZ)++[aG [32] (((spN 32 (a_ l).1).drop 1).drop (f.findIdx aZ))] else (spN 32 (a_ l).1).drop 1)=inner at hG2;have key:(if (inner++[(a_ l).2]).length=f.length then Z6 (fun ps=>(wd,ps)) (mO rdz (f.zip (inner++[(a_ l).2]))) else none)=(rdG (dk f) ((spN 32 (a_ l).1).drop 1)).bind fun ds=>(bx (a_ l).2).bind fun n=>some (wd,ds++[.w n]):=by
    rw[<- hG2];have ln:f.length=(dk f).length+1:=by
     conv=>lhs;rw[ed]
     rw[zx];rfl
    rw[zx,ln];by_cases e:inner.length=(dk f).length
    ·rw[if_pos (show inner.length+[(a_ l).2].length=(dk f).length+1 by rw[e];rfl),if_pos e]
     conv=>lhs;rw[ed]
     rw[List.zip_append e.symm];show Z6 _ (mO rdz ((dk f).zip inner++[(.note,(a_ l).2)]))=_;rw[ii];show Z6 _ ((mO rdz ((dk f).zip inner)).bind fun cs=>((bx (a_ l).2).map Pt.w).bind fun c=>some (cs++[c]))=_;cases mO rdz ((dk f).zip inner) with
     |none=>rfl
     |some ds=>cases bx (a_ l).2 <;> rfl
    ·rw[if_neg (show ¬ inner.length+[(a_ l).2].length=(dk f).length+1 from fun z=>e (Nat.succ.inj z)),if_neg e]
     rfl
   rw[key];unfold a_;cases eb:bar l with
   |none=>
    show none=(rdG _ _).bind fun ds=>(bx []).bind _;rw[show bx []=none by unfold bx;rw[if_neg (by decide),if_neg (by decide)]];cases rdG (dk f) ((spN 32 l).drop 1) <;> rfl
   |some i=>
    show(if 124∈l.take i then none else _)=(rdG (dk f) ((spN 32 (l.take i)).drop 1)).bind fun ds=>(bx (124::l.drop (i+2))).bind fun n=>some (wd,ds++[.w n]);split
    ·rename_i hm
     have hx:∃x∈(spN 32 (l.take i)).drop 1,124∈x:=by
      have el:l=l.take i++32::(l.drop (i+1)):=by
       have h:=(dM eb).1;have hd:(l.drop i).take 2=[32,124]:=h.2;have e1:l.drop i=32::l.drop (i+1):=by
        have il:i<l.length:=by have:=h.1;simp at this;lia
        have e2:=ZB il;rw[e2,List.take_succ_cons]at hd;rw[e2,(List.cons.inj hd).1]
       rw[<- e1,List.take_append_drop]
      have hh:(spN 32 (l.take i)).headD []=wd:=by
       rw[<- hwd,<- py 32 (l.drop (i+1)) (l.take i),<- el]
      have hj:124∈aG [32] (spN 32 (l.take i)):=by rw[iz];exact hm
      rcases dt hj with h|⟨x,hx,h⟩
      ·cases h
      ·cases es:spN 32 (l.take i) with
       |nil=>exact absurd es (da 32 _)
       |cons y s=>
        rw[es]at hx hh;rcases zv.mp hx with rfl|hx
        ·exact absurd h ((show x=wd from hh) ▸ hb)
        ·exact⟨x,hx,h⟩
     rw[tJ (fun k hk=>?_) hx]
     ·rfl
     ·rcases h4 with ⟨e,_⟩|⟨e,_⟩
      ·rw[e]at hk;exact .inl (h3 k hk)
      ·rw[e]at hk
       rcases vY.mp hk with hk|hk
       ·exact .inl (h3 k hk)
       ·exact .inr (uH.mp hk)
    ·unfold jh
     cases rdG (dk f) ((spN 32 (l.take i)).drop 1) with
     |none=>cases bx (124::l.drop (i+2)) <;> rfl
     |some ds=>
      cases bx (124::l.drop (i+2)) with
      |none=>rfl
      |some n=>
       show(if wd=cY /\ ¬ shH ds then none else some (wd,ds++[.w n]))=_;rw[if_neg (fun z=>h1 z.1)]
       rfl
  ·rw[if_neg h2]
   have en:¬ f.any c8=true:=by
    rw[YV];rintro⟨k,hk,h⟩;rw[ui (h4 k hk).2]at h;cases h
   show _=if (pcs f l).length=f.length then _ else _
   have ep:pcs f l=(spN 32 l).drop 1:=by unfold pcs;rw[if_neg en]
   rw[ep];unfold jh;rw[h3,G0 fun k hk=>(h4 k hk).1];split
   ·cases mO rdz (f.zip ((spN 32 l).drop 1)) with
    |none=>rfl
    |some ds=>
     show(if wd=cY /\ ¬ shH ds then none else some (wd,ds++[]))=some (wd,ds);rw[if_neg (fun z=>h1 z.1),Z3]
   ·rfl
end
open PySem L2 K3 M2 K22
section
variable{pS:Addr}{ns:List Int}{P:Program}{w:World}{K:W.Frag}{mg:Str->Option Value}{base:Heap}{a:Adr}
open MT
noncomputable def REF:List Nat:=[114,101,102,117,115,101,100]
abbrev RfQ(H:Hp)(Q:VK)(o:Option (List Nat × List Pt)):Prop:=match o with
 |some o=>∀v G,Same H G->NoT G->OrAt G v o->Q v G
 |none=>∀G,Same H G->NoT G->Q (L2.T REF) G
def sp_wx:Sp:=sp1 fun x H Q _=>NoT H/\((∃l,x=L2.T l/\ok l/\l.length<=900/\RfQ H Q (gE l))\/((¬ ∃l,x = .str ⟨⟨l⟩⟩)/\asK H x fun _=>RfQ H Q none))
theorem yH{x0:V}{H:Hp}{Q:VK}{E:XK}{c:Addr}(hs:(∀G,Same H G->NoT G->Q (L2.T REF) G)->∀G,Same H G->NoT G->KWe c E G)(h:(∃l,x0=L2.T l/\ok l/\l.length<=900/\RfQ H Q (gE l))\/((¬ ∃l,x0 = .str ⟨⟨l⟩⟩)/\asK H x0 fun _=>RfQ H Q none)):(∃l,x0=L2.T l/\ok l/\l.length<=900/\(match gE l with
 |some o=>∀v G,Same H G->NoT G->OrAt G v o->Q v G
 |none=>∀G,Same H G->NoT G->KWe c E G))\/((¬ ∃l,x0 = .str ⟨⟨l⟩⟩)/\asK H x0 fun _=>∀G,Same H G->NoT G->KWe c E G):=by
 rcases h with ⟨l,e,h1,h2,k⟩|⟨nx,k⟩
 ·refine .inl ⟨l,e,h1,h2,?_⟩
  cases eo:gE l with
  |none=>rw[eo]at k;exact hs k
  |some o=>rw[eo]at k;exact k
 ·refine .inr ⟨nx,?_⟩
  obtain⟨t,ht,_,k⟩:=oJ k;exact asK.of ht (hs k)
theorem eQ(T:Txt w K mg a):Fo P w K mg base "_law_told" 13 sp_wx:=by
 refine T.qd.hx ["_law_line_here","e"] (gX1 fun x0 fA cdv A outer s H Q E ND HU hr h=>?_);obtain⟨hN,h⟩:=h;have sz:2000<=sizeLine:=by rw[wz];decide
 refine⟨_,(aa (Bf (i:=1) ND rfl rfl rfl T.on rfl rfl rfl (fun pn Ee Ex PX=>(af (ai (az (qh T) hr PX (fa1 (fv 0)))))) (fun e=>(aa (aE (L2.PW.pt (bS (bt (ay (ft K) rfl T.aK aH (fa2 (fv 1) (cp (v:=.ref a.aY) rfl T.iP rfl)))) (bK (bt (ay (ft K) rfl T.aK aH (fa2 (fv 1) (cp (v:=.ref a.f_) rfl T.ve rfl))))))) (af (ai (ac [111,116,104,101,114,119,105,115,101]))) ao)
  (af (aE (L2.PW.pt (cU (bt (ay (ft K) rfl T.aK aH (fa2 (fv 1) (cp (v:=.ref a.ar) rfl T.bg rfl)))) (b8 (bt (ay (ft K) rfl T.aK aH (fa2 (fv 1) (bM (v:=.ty "ValueError") rfl T.oV lZ rfl))))))) (af (ai (eB (fa2 (ac [114,101,102,117,115,101,100]) (ac [111,116,104,101,114,119,105,115,101])) (aM cX rfl T.dZ cM (fa1 (ay (ft K) rfl T.aK aH (fa2 (fv 1) (cp (v:=.ref a.iG) rfl T.wn rfl))))) (fun _ _=>rfl)))) ao)))))
  (af (ai (ac [111,116,104,101,114,119,105,115,101])))),?_⟩
 walk_at "rd";refine⟨hN,yH (fun rf G s n o=>⟨_,rfl,T.fb,fun e he=>⟨_,_,_,ad,T.dJ,T.hU,itn (by decide) ⟨_,_,_,ad,T.dJ,T.gG,itn (by decide) ⟨_,_,_,ad,T.dJ,T.gf,itp rfl ⟨_,_,_,ad,T.dJ,T.e_,itp rfl ?_⟩⟩⟩⟩⟩) h⟩;exact⟨aj n (by cases o <;> rfl),by lia,fun p hp=>⟨_,_,_,(aw (aq ad hp)).trans ad,T.dJ,T.hX,kh (v:=L2.T REF) rfl rfl (rf _ (s.trans (ag _ he)) (aj n (by cases o <;> rfl)))⟩⟩
def atm(x y:V):Prop:=(∃l,x=L2.T l/\y=L2.T l)\/(x = .non/\y = .non)\/∃i,x = .int i/\y = .int i
def Kd(H:Hp):Nat->V->V->Prop
 |0,_,_=>False
 |d+1,x,y=>atm x y\/∃p q xs ys,x = .ref p/\y = .ref q/\H p=some (.tup xs)/\H q=some (.tup ys)/\A2 (Kd H d) xs ys/\xs.length<=1500
theorem Kd.same{H G:Hp}(s:Same H G):∀ {d:Nat} {x y:V},Kd H d x y->Kd G d x y
 |0,_,_,h=>h
 |d+1,x,y,h=>by
  rcases h with h|⟨p,q,xs,ys,e1,e2,hp,hq,A,l⟩
  ·exact .inl h
  ·exact .inr ⟨p,q,xs,ys,e1,e2,s _ _ hp,s _ _ hq,A.imp fun a b _ _ r=>Kd.same s r,l⟩
theorem D1{n:Nat}{g:TG}{ks:List Nat}{tt:TT}{te:TE}{ta tb:TE}{σ:St}{H:Hp}{Q:VK}(h:ta σ H fun x H1=>tb σ H1 fun y H2=>∃a b,x = .ref a/\y = .ref b/\(∃xs,SqT K H2 a xs)/\(∃ys,SqT K H2 b ys)/\CEl (Itz K a b) n g ks tt te σ H2 Q):cQ (wQ K ta tb) n g ks tt te σ H Q:=h
theorem cmZ{p q:Addr}{xs ys:List V}{te:TE}{σ:St}{H:Hp}{Q:VK}(hp:H p=some (.tup xs))(hq:H q=some (.tup ys))(al:xs.length=ys.length)(hN:NoT H)(hz:xs.length<sizeLine)
 (hs:∀(i:Nat) x y,xs[i]? = some x->ys[i]? = some y->∀G (N1:VK),Same H G->NoT G->(∀G',Same G G'->NoT G'->N1 (.bl true) G')->te [some x,some y] G N1)
 (qq:∀D G,Same H G->NoT G->G D=some (.lst (nY xs.length (V.bl true)))->Q (.ref D) G):CEl (Itz K p q) 2 (zt K 2 (ua (dU 0) (ua (dU 1) Bn))) [] (fun _ H Q=>Q true H) te σ H Q:=by
 intro D hD;refine⟨fun i m zs G=>m=xs.length-i/\i<=xs.length/\Same H G/\NoT G/\zs=nY i (V.bl true)/\G D=some (.lst zs),⟨_,rfl,uG _,ag _ hD,aj hN rfl,rfl,ad⟩,?_⟩;rintro i m zs G ⟨rfl,hi,sm,nG,rfl,gd⟩;have hp':=bc (K:=K) (sm _ _ hp);have hq':=bc (K:=K) (sm _ _ hq);refine⟨gd,?_⟩;rcases YY i xs.length with lt|ge
 ·have ex:xs[i]? = some xs[i]:=List.getElem?_eq_some_iff.mpr ⟨lt,rfl⟩
  have ey:ys[i]? = some (ys[i]'(al ▸ lt)):=List.getElem?_eq_some_iff.mpr ⟨al ▸ lt,rfl⟩;refine .inr ⟨⟨xs,ys,_,_,hp',hq',ex,ey⟩,fun v H3 yz zs2 hz2=>?_⟩;obtain⟨r,x,y,fr,rfl,rfl,gx,gy⟩:=yz;have ex':=gx _ hp';have ey':=gy _ hq';obtain⟨a1,a2,rfl⟩:=ex2 hz2;have s2:=ag (HO.tup [x,y]) fr;refine⟨r,[x,y],rfl,bc ad,rfl,?_⟩;have n2:NoT (upd G r (HO.tup [x,y])):=aj nG rfl;have gd2:=s2 _ _ gd;generalize upd G r (HO.tup [x,y])=G2 at s2 n2 gd2 |-
  refine⟨x,[y],rfl,y,[],rfl,rfl,⟨[some x,some y],rfl,rfl⟩,?_⟩;show(if true=true then _ else _);rw[if_pos rfl];refine hs i x y ex' ey' G2 _ (sm.trans s2) n2 fun G3 s3 n3=>?_;have gd3:=s3 _ _ gd2;refine⟨gd3,by rw[List.length_replicate];lia,xs.length-(i+1),by lia,rfl,lt,fun c o e=>?_,aj n3 rfl,by rw[List.replicate_succ'],ad⟩;rw[aw (aq e hD)];exact s3 _ _ (s2 _ _ (sm _ _ e))
 ·obtain rfl:i=xs.length:=Nat.le_antisymm hi ge
  exact .inl ⟨⟨xs,hp',xi _⟩,qq D G sm nG gd⟩
def sp_fS(d:Nat):Sp:=sp2 fun x y H Q _=>NoT H/\Kd H d x y/\Q (.bl true) H
theorem kd0(T:Txt w K mg a):Fo P w K mg base "_law_kinds" 1 (sp_fS 0):=by
 refine T.iL.hg ["_law_found","_law_due"] (gG2 fun x0 x1 fA cdv A outer s H Q E ND HU hr h=>?_);exact h.2.1.elim
theorem kdS(T:Txt w K mg a){n d:Nat}(IHK:Fo P w K mg base "_law_kinds" n (sp_fS d)):Fo P w K mg base "_law_kinds" (n+1) (sp_fS (d+1)):=by
 refine T.iL.hg ["_law_found","_law_due"] (gG2 fun x0 x1 fA cdv A outer s H Q E ND HU hr h=>?_);obtain⟨hN,hk,k⟩:=h;have sz:2000<=sizeLine:=by rw[wz];decide
 refine⟨hN,_,(aa (aE (bt (ay (bW K) rfl T.aK aH (fa2 (fv 1) (bM (v:=.ty "tuple") rfl T.cG bY rfl)))) (aa (aE (L2.PW.pt (bS (cP (bt (ay (bW K) rfl T.aK aH (fa2 (fv 0) (bM (v:=.ty "tuple") rfl T.cG bY rfl))))) (bK (ak (bO K HU) (ay (aS K) rfl T.bD bd (fa1 (fv 0))) (ay (aS K) rfl T.bD bd (fa1 (fv 1))))))) (af (ai jH)) ao)
  (af (ai (ay (uC K rfl) rfl T.AN xB (fa1 (bG rfl (cl:=_) (x:="_law_one") (xs:=["_law_one","_law_other"]) (fr:=[]) (ks:=[]) (by walk_at "cq") rfl (ug K rfl T.uu (fv 0) (fv 1)) (fun _ _ _ _ _=>(kj K (n:=2) rfl (dm (aR (i:=0) (cT (l:=["_law_one","_law_other"]) (by decide)) rfl (Or.inl rfl)) (dm (aR (i:=1) (cT (l:=["_law_one","_law_other"]) (by decide)) rfl (Or.inl rfl)) ki)))) (fun _ _ _ _ _=>b9) (fun _ _ _ _ _=>(az (hk:=xi _) IHK hr iE (fa2 (fv 0) (fv 1)))))))))) ao)
  (aa (aE (bt (ay (bW K) rfl T.aK aH (fa2 (fv 1) (bM (v:=.ty "str") rfl T.dW cO rfl)))) (af (ai (js (ay (bW K) rfl T.aK aH (fa2 (fv 0) (bM (v:=.ty "str") rfl T.dW cO rfl))) (lC (eO (aF K HU) (fv 0) (fv 1) (fo _)))))) ao)
  (aa (aE (eJ (du (fv 1))) (af (ai (Cf (du (fv 0))))) ao)
  (af (ai (js (ay (bW K) rfl T.aK aH (fa2 (fv 0) (bM (v:=.ty "int") rfl T.dZ cM rfl))) (js (xO (ay (bW K) rfl T.aK aH (fa2 (fv 0) (bM (v:=.ty "bool") rfl T.wU uD rfl)))) (lC (eO (aF K HU) (fv 0) (fv 1) (fo _)))))))))),?_⟩
 walk_at "rd";rcases hk with (⟨l,rfl,rfl⟩|⟨rfl,rfl⟩|⟨i,rfl,rfl⟩)|⟨p,q,xs,ys,rfl,rfl,hp,hq,AA,l100⟩
 ·have e1:bL H (L2.T l)=some "str":=rfl
  simp only[e1];refine itn (by decide) (itp (by decide) (itp (by decide) ?_));walk_at "rd";exact k
 ·have e1:bL H .non=some "NoneType":=rfl
  simp only[e1];refine itn (by decide) (itn (by decide) ?_);walk_at "rd";exact k
 ·have e1:bL H (.int i)=some "int":=rfl
  simp only[e1];refine itn (by decide) (itn (by decide) (itn (fun z=>nomatch z) (itp (by decide) (itp (by decide) ?_))));walk_at "rd";exact k
 ·have e1:bL H (.ref p)=some "tuple":=by simp[bL,hp]
  have e2:bL H (.ref q)=some "tuple":=by simp[bL,hq]
  have al:=AA.len;simp only[e1,e2];refine itp (by decide) (itn (by decide) ?_);walk_at "rd";refine⟨xs,.inr (bc hp),ys,.inr (bc hq),itp (by rw[al]) (D1 ?_)⟩;walk_at "rd";refine⟨p,q,rfl,rfl,⟨_,bc hp⟩,⟨_,bc hq⟩,cmZ hp hq al hN (by lia) (fun i x y ex ey G N1 sG nG n1=>?_) fun D G sG nG gD=>?_⟩
  ·walk_at "rd"
   obtain⟨y',ey',r⟩:=AA.at_ ex;rw[ey]at ey';cases ey';exact⟨nG,Kd.same sG r,n1 G (Same.refl _) nG⟩
  ·walk_at "rd"
   refine⟨nY xs.length true,aL (by rw[gD,List.map_replicate]),H,Gc.none sG,?_⟩;rw[show(nY xs.length true).all id=true by rw[Zt];exact fun b hb=>(List.eq_of_mem_replicate hb)];exact k
theorem uz{H:Hp}{d:Nat}:∀is:List Int,A2 (Kd H (d+1)) (is.map V.int) (is.map V.int)
 | []=>.nil
 |i::r=>.cons (.inl (.inr (.inr ⟨i,rfl,rfl⟩))) (uz r)
theorem zU{H:Hp}{rs:List (List Nat × List Nat × Int)}:∀ {vs us:List V},A2 (MkAt rwL H) vs rs->A2 (MkAt rwL H) us rs->A2 (Kd H 2) vs us:=by
 induction rs with
 |nil=>intro vs us A B;cases A;cases B;exact .nil
 |cons r rs ih=>
  intro vs us A B;cases A with
  |cons a A=>
   cases B with
   |cons b B=>
    obtain⟨p,rfl,hp⟩:=a;obtain⟨q,rfl,hq⟩:=b;exact .cons (.inr ⟨p,q,_,_,rfl,rfl,hp,hq,.cons (.inl (.inl ⟨_,rfl,rfl⟩)) (.cons (.inl (.inl ⟨_,rfl,rfl⟩)) (.cons (.inl (.inr (.inr ⟨_,rfl,rfl⟩))) .nil)),by show 3<=1500;decide⟩) (ih A B)
def wY:Pt->Prop
 | .l is=>is.length<=1500
 | .r rs=>rs.length<=1500
 |_=>True
theorem PtAt.kd{H:Hp}{v v2:V}{p:Pt}(h:PtAt H v p)(h2:PtAt H v2 p)(hz:wY p):Kd H 3 v v2:=by
 cases p with
 |w l=>cases h;cases h2;exact .inl (.inl ⟨l,rfl,rfl⟩)
 |i n=>cases h;cases h2;exact .inl (.inr (.inr ⟨n,rfl,rfl⟩))
 |no=>cases h;cases h2;exact .inl (.inr (.inl ⟨rfl,rfl⟩))
 |l is=>
  obtain⟨p,rfl,hp⟩:=h;obtain⟨q,rfl,hq⟩:=h2;exact .inr ⟨p,q,_,_,rfl,rfl,hp,hq,uz is,by rw[yV];exact hz⟩
 |r rs=>
  obtain⟨p,vs,rfl,hp,A⟩:=h;obtain⟨q,us,rfl,hq,B⟩:=h2;exact .inr ⟨p,q,_,_,rfl,rfl,hp,hq,zU A B,by rw[A.len];exact hz⟩
theorem v0{H:Hp}{ps:List Pt}:∀ {vs us:List V},A2 (PtAt H) vs ps->A2 (PtAt H) us ps->(∀p∈ps,wY p)->A2 (Kd H 3) vs us:=by
 induction ps with
 |nil=>intro vs us A B _;cases A;cases B;exact .nil
 |cons r rs ih=>
  intro vs us A B h;cases A with
  |cons a A=>
   cases B with
   |cons b B=>exact .cons (PtAt.kd a b (h r (by simp))) (ih A B fun p hp=>h p (xM _ hp))
theorem OrAt.kd{H:Hp}{v v2:V}{o:List Nat × List Pt}(h:OrAt H v o)(h2:OrAt H v2 o)(hz:∀p∈o.2,wY p)(hl:o.2.length<=1400):Kd H 4 v v2:=by
 obtain⟨p,vs,rfl,hp,A⟩:=h;obtain⟨q,us,rfl,hq,B⟩:=h2;exact .inr ⟨p,q,_,_,rfl,rfl,hp,hq,.cons (.inl (.inl ⟨_,rfl,rfl⟩)) (v0 A B hz),by have:=A.len;rw[xR];lia⟩
theorem OrAt.mv{H G:Hp}{v:V}{o:List Nat × List Pt}(s:Same H G)(h:OrAt H v o):OrAt G v o:=by
 obtain⟨q,vs,rfl,hq,A⟩:=h;exact⟨q,vs,rfl,s _ _ hq,A.imp fun x y _ _ h=>PtAt.mv (fun t l e=>s _ _ e) h⟩
theorem BJ{k:K9}{l:List Nat}{p:Pt}(hl:l.length<=900)(h:rdP k l=some p):wY p:=by
 cases p with
 |l is=>
  cases k <;> simp only[rdP]at h
  case weights=>
   cases e:mO nof (spN 44 l) with
   |none=>rw[e]at h;cases h
   |some cs=>
    rw[e]at h;cases h;have:=gL e;have s:=cF 44 l;show is.length<=1500;lia
  case currency=>split at h <;> first|cases h|(split at h <;> cases h)
  case keeper=>split at h <;> first|cases h|(split at h <;> cases h)
  case word=>split at h <;> cases h
  case shelf=>split at h <;> cases h
  all_goals (obtain⟨_,_,e⟩:=fS.mp h;cases e)
 |r rs=>
  cases k <;> simp only[rdP]at h
  case rows=>
   cases e:dR (spN 32 l) with
   |none=>rw[e]at h;cases h
   |some cs=>
    rw[e]at h;cases h;unfold dR at e;split at e
    ·have:=gL e
     rw[iZ]at this;have s:=cF 32 l;show rs.length<=1500;lia
    ·cases e
  case currency=>split at h <;> first|cases h|(split at h <;> cases h)
  case keeper=>split at h <;> first|cases h|(split at h <;> cases h)
  case word=>split at h <;> cases h
  case shelf=>split at h <;> cases h
  all_goals (obtain⟨_,_,e⟩:=fS.mp h;cases e)
 |_=>trivial
theorem wW{β γ:Type}{f:β->Option γ}:∀ {R:List β} {cs:List γ},mO f R=some cs->∀c∈cs,∃b∈R,f b=some c
 | [],cs,h=>by cases h;exact fun _ h=>nomatch h
 |b::r,cs,h=>by
  unfold mO at h;cases e:f b with
  |none=>rw[e]at h;cases h
  |some c=>
   rw[e]at h;cases e2:mO f r with
   |none=>rw[e2]at h;cases h
   |some ds=>
    rw[e2]at h;cases h;intro x hx;rcases zv.mp hx with rfl|hx
    ·exact⟨b,by simp,e⟩
    ·obtain⟨b',h1,h2⟩:=wW e2 x hx
     exact⟨b',xM _ h1,h2⟩
theorem wA{l:List Nat}{o:List Nat × List Pt}(h:gE l=some o)(hl:ok l)(h9:l.length<=900):(∀p∈o.2,wY p)/\o.2.length<=1400:=by
 unfold gE at h;cases e:cj aV ((spN 32 l).headD []) with
 |none=>rw[e]at h;cases h
 |some f=>
  rw[e]at h
  replace h:(if (pcs f l).length=f.length then (mO (fun z:K9 × List Nat=>rdP z.1 z.2) (f.zip (pcs f l))).map fun ps=>((spN 32 l).headD [],ps) else none)=some o:=h
  split at h
  ·cases e2:mO (fun z:K9 × List Nat=>rdP z.1 z.2) (f.zip (pcs f l)) with
   |none=>rw[e2]at h;cases h
   |some ps=>
    rw[e2]at h;cases h;refine⟨fun p hp=>?_,?_⟩
    ·obtain⟨z,hz,e3⟩:=wW e2 p hp
     exact BJ (rX hl h9 z.2 (List.of_mem_zip hz).2).2 e3
    ·have h1:=gL e2
     have h2:=db e;rw[List.length_zip]at h1;show ps.length<=1400;lia
  ·cases h
theorem gu(T:Txt w K mg a):Fo P w K mg base "_law_kinds" 5 (sp_fS 4):=kdS T (kdS T (kdS T (kdS T (kd0 T))))
def sp_tu:Sp:=sp1 fun x H Q _=>NoT H/\asT x fun l=>pl l/\l.length<=900/\Q (.bl true) H
theorem jY(T:Txt w K mg a):Fo P w K mg base "_law_is_read" 14 sp_tu:=by
 refine T.lJ.hg ["_law_line_here","_law_found","_law_due"] (gG1 fun x0 fA cdv A outer s H Q E ND HU hr h=>?_);obtain⟨hN,h⟩:=h;refine sy (ba h) fun l yy1 hl l9 k=>?_;subst yy1;have hok:=pl.ok hl (by lia);refine⟨hN,_,(aa (aC 1 ND (az (eQ T) hr aB (fa1 (fv 0))))
  (aa (aC 2 ND (az (oD T) hr aB (fa1 (fv 0))))
  (aa (aE (eJ (du (fv 2))) (af (ai (js (ay (bW K) rfl T.aK aH (fa2 (fv 1) (bM (v:=.ty "str") rfl T.dW cO rfl))) (lC (eO (aF K HU) (fv 1) (ac [114,101,102,117,115,101,100]) (fo _)))))) ao)
  (af (ai (az (gu T) hr aB (fa2 (fv 1) (fv 2)))))))),?_⟩
 walk_at "rd";rw[wH];refine⟨hN,.inl ⟨l,rfl,hok,l9,?_⟩⟩;cases e:gE l with
 |none=>
  intro G s n;refine⟨n,hl,l9,fun G2 s2 n2=>itp rfl ?_⟩;have e1:bL G2 (L2.T REF)=some "str":=rfl;simp only[e1];refine itp (by decide) ?_;walk_at "rd";exact⟨H,Gc.none (s.trans s2),k⟩
 |some o=>
  intro v G s n hv;refine⟨n,hl,l9,fun v2 G2 s2 n2 hv2=>?_⟩;obtain⟨z1,z2⟩:=wA e hok l9;exact itn (fun z=>by obtain⟨_,_,e,_⟩:=hv2;rw[e]at z;cases z) ⟨n2,OrAt.kd (hv.mv s2) hv2 z1 z2,H,Gc.none (s.trans s2),k⟩
end
open PySem L2 K3 M2 K22
section
open MT
theorem sv{n:Int}(h:nOk n):nof (NT n)=some n:=by
 unfold nof;rw[if_pos ⟨fG h,tG n⟩,Dj]
theorem nj{n:Int}{c:Nat}(h1:c≠45)(h2:MT.isD c=false):c∉NT n:=by
 unfold NT;have hd:∀m,c∉dg m:=fun m h=>by rw[jc m c h]at h2;cases h2
 split
 ·intro h
  rcases zv.mp h with h|h
  ·exact h1 h
  ·exact hd _ h
 ·exact hd _
theorem xq{d:Int}{c:Nat}(h1:c≠45)(h2:MT.isD c=false):c∉DT d:=by
 unfold DT TX;have hp:∀k n,c∉pd k n:=fun k n h=>by rw[gF k n c h]at h2;cases h2
 simp[hp,h1]
theorem vf{l:List Nat}(h:rw l=true):32∉l:=fun z=>by have:=((eN.mp h).2.1 32 z).1;lia
theorem tQ(r:List Nat × List Nat × Int)(h:wOk r.1/\wOk r.2.1/\nOk r.2.2):spN 32 (d7 r)=[r.1,r.2.1,NT r.2.2]:=by
 unfold d7;refine dF 32 _ (ZX _ _) fun p hp=>?_;simp only[zv,oO,or_false]at hp;rcases hp with rfl|rfl|rfl
 ·exact vf h.1.1
 ·exact vf h.2.1.1
 ·exact nj (by decide) (by decide)
theorem tL(c:Nat)(b:List Nat):∀a:List Nat,spN c (a++c::b)=spN c a++spN c b
 | []=>by simp[spN]
 |x::a=>by
  have u:∀z,spN c (x::z)=if x=c then []::spN c z else match spN c z with
   |h::t=>(x::h)::t
   | []=>[[x]]:=fun _=>rfl
  rw[nN,u,u,tL c b a];by_cases e:x=c
  ·rw[if_pos e,if_pos e];rfl
  ·rw[if_neg e,if_neg e]
   cases e2:spN c a with
   |nil=>exact absurd e2 (da c _)
   |cons z t=>rfl
noncomputable def lH(r:List Nat × List Nat × Int):List (List Nat):=[r.1,r.2.1,NT r.2.2]
theorem oN:∀ {rs:List (List Nat × List Nat × Int)},rs≠[]->(∀r∈rs,wOk r.1/\wOk r.2.1/\nOk r.2.2)->spN 32 (aG [32] (rs.map d7))=rs.flatMap lH
 | [],h,_=>(h rfl).elim
 | [r],_,h=>by
  show spN 32 (d7 r)=_;rw[tQ r (h r (by simp))];simp[lH]
 |r::s::q,_,h=>by
  rw[rS,rS,bo,tL,tQ r (h r (by simp)),List.flatMap_cons];have:=oN (rs:=s::q) (ZX _ _) fun r hr=>h r (xM _ hr);rw[rS]at this;rw[this];rfl
theorem BS{r:List Nat × List Nat × Int}(h:wOk r.1/\wOk r.2.1/\nOk r.2.2):mD r.1 r.2.1 (NT r.2.2)=some r:=by
 unfold mD;rw[if_pos ⟨h.1.1,h.2.1.1⟩,sv h.2.2]
 rfl
theorem jr{rs:List (List Nat × List Nat × Int)}:(rs.flatMap lH).length=3*rs.length:=by
 induction rs with
 |nil=>rfl
 |cons r s ih=>rw[List.flatMap_cons,zx,ih,xR];show 3+_=_;lia
theorem yj{rs:List (List Nat × List Nat × Int)}:∀ {k:Nat} {r},rs[k]? = some r->(rs.flatMap lH).getD (3*k) []=r.1/\(rs.flatMap lH).getD (3*k+1) []=r.2.1/\(rs.flatMap lH).getD (3*k+2) []=NT r.2.2:=by
 induction rs with
 |nil=>intro k r h;simp at h
 |cons x s ih=>
  intro k r h;cases k with
  |zero=>cases h;exact⟨rfl,rfl,rfl⟩
  |succ k=>
   obtain⟨h1,h2,h3⟩:=ih (k:=k) h;have e:∀j,((x::s).flatMap lH).getD (j+3) []=(s.flatMap lH).getD j []:=fun j=>rfl;exact⟨(e (3*k)).trans h1,(e (3*k+1)).trans h2,(e (3*k+2)).trans h3⟩
theorem mU{rs:List (List Nat × List Nat × Int)}(h:∀r∈rs,wOk r.1/\wOk r.2.1/\nOk r.2.2):dR (rs.flatMap lH)=some rs:=by
 unfold dR;rw[if_pos (by rw[jr];lia),show(rs.flatMap lH).length / 3=rs.length by rw[jr];lia];refine v8 (A2.ofAt (by rw[iZ]) fun i x c h1 h2=>?_);have il:=(List.getElem?_eq_some_iff.mp h2).1;rw[List.getElem?_range il]at h1;cases h1;unfold mm;obtain⟨e1,e2,e3⟩:=yj h2;rw[e1,e2,e3];exact BS (h c (oH h2))
theorem ni{k:K9}{p:Pt}(h:dN k p):rdP k (wrP k p)=some p:=by
 cases k <;> cases p <;> try exact qT h
 ·exact if_pos h.1
 ·rename_i l
  show(if l=[97,110,121] then some Pt.no else if rw l=true then some (Pt.w l) else none)=_;rw[if_neg h.2,if_pos h.1.1]
 ·rfl
 ·rename_i l
  show(if l=[45] then some Pt.no else if rw l=true then some (Pt.w l) else none)=_;rw[if_neg h.2,if_pos h.1.1]
 ·rfl
 ·exact if_pos h
 ·rename_i n
  show(nof (NT n)).map Pt.i=_;rw[sv h];rfl
 ·rename_i n
  show(DO (DT n)).map Pt.i=_;rw[(lR h.1 h.2).1];rfl
 ·rename_i n
  show(DO ((DT (FD n)).take 7++[45,48,49])).map (fun d=>Pt.i (MO d))=_;have em:MO (FD n)=n:=uB (Int.le_refl _) (by have:=(xw n).1;lia);have ed:(DT (FD n)).take 7++[45,48,49]=DT (FD n):=by
   have ep:PP (FD n)=1:=by unfold PP;rw[em];lia
   have e1:DT (FD n)=(pd 4 (PY (FD n)).toNat++[45]++pd 2 (PM (FD n)).toNat)++[45,48,49]:=by
    unfold DT TX;rw[ep,Zp (pd 4 _++[45]++pd 2 _)]
    rfl
   rw[e1,kX (by simp[cI])]
  rw[ed,(lR (d9 h).1 (d9 h).2).1];show some (Pt.i (MO (FD n)))=_;rw[em]
 ·rename_i is
  show(mO nof (spN 44 (aG [44] (is.map NT)))).map Pt.l=_;rw[dF 44 _ (fun z=>h.1 (List.map_eq_nil_iff.mp z)) fun x hx=>by obtain⟨n,_,rfl⟩:=kJ.mp hx;exact nj (by decide) (by decide)];have:mO nof (is.map NT)=some is:=v8 (A2.ofAt (by rw[yV]) fun i x c h1 h2=>by
   rw[List.getElem?_map,h2]at h1;cases h1;exact sv (h.2.2 c (oH h2)))
  rw[this];rfl
 ·rename_i rs
  show(dR (spN 32 (aG [32] (rs.map d7)))).map Pt.r=_;rw[oN h.1 h.2.2,mU h.2.2];rfl
 ·rename_i l
  show(bx (if l=[] then [124] else [124,32]++l)).map Pt.w=_;by_cases e:l=[]
  ·subst e;rfl
  ·rw[if_neg e]
   unfold bx;rw[if_neg (by simp),if_pos ⟨by simp[fD],e,h.1⟩]
   rfl
end
open PySem L2 K3 M2 K22
section
open MT
theorem D_{k:K9}{p:Pt}(h:dN k p)(h1:k ≠ .rows)(h2:k ≠ .note):32∉wrP k p:=by
 cases k <;> cases p <;> try exact qT h
 ·exact vf h.1
 ·exact vf h.1.1
 ·exact(by decide:32∉[97,110,121])
 ·exact vf h.1.1
 ·exact(by decide:32∉[45])
 ·exact vf (dY h).2.2.1
 ·exact nj (by decide) (by decide)
 ·exact xq (by decide) (by decide)
 ·exact fun z=>xq (by decide) (by decide) (oX z)
 ·rename_i is
  intro z;rcases dt (xs:=is.map NT) z with z|⟨x,hx,z⟩
  ·cases z
  ·obtain⟨n,_,rfl⟩:=kJ.mp hx
   exact nj (by decide) (by decide) z
 ·exact(h1 rfl).elim
 ·exact(h2 rfl).elim
theorem Cu{k:K9}{p:Pt}(h:dN k p)(hk:wdn k\/k = .rows):124∉wrP k p:=by
 rcases hk with (rfl|rfl|rfl)|rfl <;> cases p <;> try exact qT h
 ·exact(eN.mp h.1).2.2
 ·exact xq (by decide) (by decide)
 ·exact nj (by decide) (by decide)
 ·rename_i rs
  intro z;rcases dt (xs:=rs.map d7) z with z|⟨x,hx,z⟩
  ·cases z
  ·obtain⟨r,hr,rfl⟩:=kJ.mp hx
   obtain⟨h1,h2,h3⟩:=h.2.2 r hr;unfold d7 at z;rcases dt z with z|⟨x,hx,z⟩
   ·cases z
   ·simp only[zv,oO,or_false]at hx
    rcases hx with rfl|rfl|rfl
    ·exact(eN.mp h1.1).2.2 z
    ·exact(eN.mp h2.1).2.2 z
    ·exact nj (by decide) (by decide) z
theorem sp_uj(y:List Nat):∀ {xs:List (List Nat)},(∀x∈xs,32∉x)->spN 32 (aG [32] (xs++[y]))=xs++spN 32 y
 | [],_=>rfl
 | [x],h=>by
  show spN 32 (aG [32] [x,y])=_;rw[bo,iO 32 x _ (h x (by simp))];rfl
 |x::z::r,h=>by
  rw[nN,nN,bo,iO 32 x _ (h x (by simp)),<- nN,sp_uj y fun x hx=>h x (xM _ hx)]
  rfl
theorem xu{r:List Nat}:∀ {a:List Nat},124∉a->bar (a++32::124::r)=some a.length
 | [],_=>by unfold bar;rw[List.nil_append];exact if_pos ⟨rfl,rfl⟩
 |c::a,h=>by
  rw[nN];unfold bar;have hn:(a++32::124::r).head? ≠ some 124:=by
   cases a with
   |nil=>exact fun z=>absurd (wj z) (by decide)
   |cons d s=>exact fun z=>h (by rw[<- wj z];simp)
  rw[if_neg (fun z=>hn z.2),xu fun z=>h (xM _ z)]
  rfl
theorem gN{g:List K9}{ps:List Pt}(B:A2 dN g ps):mO rdz (g.zip (g.zipWith wrP ps))=some ps:=by
 induction B with
 |nil=>rfl
 |cons h _ ih=>
  rename_i k p g' ps' _;show(rdP k (wrP k p)).bind (fun c=>(mO rdz (g'.zip (g'.zipWith wrP ps'))).bind fun cs=>some (c::cs))=_;rw[ni h,ih];rfl
theorem tw{g:List K9}{ps:List Pt}(B:A2 dN g ps)(h:∀k∈g,k ≠ .rows/\k ≠ .note):∀x∈g.zipWith wrP ps,32∉x:=by
 induction B with
 |nil=>exact fun _ h=>nomatch h
 |cons hp _ ih=>
  intro x hx;rcases zv.mp hx with rfl|hx
  ·exact D_ hp (h _ (by simp)).1 (h _ (by simp)).2
  ·exact ih (fun k hk=>h k (xM _ hk)) x hx
theorem y8{g:List K9}{ps:List Pt}(B:A2 dN g ps)(h:∀k∈g,wdn k\/k = .rows):∀x∈g.zipWith wrP ps,124∉x:=by
 induction B with
 |nil=>exact fun _ h=>nomatch h
 |cons hp _ ih=>
  intro x hx;rcases zv.mp hx with rfl|hx
  ·exact Cu hp (h _ (by simp))
  ·exact ih (fun k hk=>h k (xM _ hk)) x hx
theorem oB{g:List K9}{ps:List Pt}(B:A2 dN g ps):(g.zipWith wrP ps).length=g.length:=by
 have:=B.len;rw[Z9];lia
theorem tZ{l:List Nat}{f:List K9}(h:cj aV l=some f):32∉l:=by
 have m:=dH h;have:∀p∈aV,32∉p.1:=by decide
 exact this _ m
theorem lS{wd:List Nat}{f:List K9}{ps:List Pt}(ef:cj aV wd=some f)(B:A2 dN f ps)(h:∀k∈f,k ≠ .rows/\k ≠ .note):gE (dL (wd,ps))=some (wd,ps):=by
 have el:dL (wd,ps)=aG [32] (wd::f.zipWith wrP ps):=by unfold dL;rw[ef];rfl
 have es:spN 32 (dL (wd,ps))=wd::f.zipWith wrP ps:=by
  rw[el];refine dF 32 _ (ZX _ _) fun p hp=>?_;rcases zv.mp hp with rfl|hp
  ·exact tZ ef
  ·exact tw B h p hp
 have en:¬ f.any c8=true:=by
  rw[YV];rintro⟨k,hk,z⟩;rw[ui (h k hk).2]at z;cases z
 unfold gE pcs;rw[es];show(cj aV wd).bind _=_;rw[ef];show(if (if f.any c8=true then _ else f.zipWith wrP ps).length=f.length then Z6 (fun ps=>(wd,ps)) (mO rdz (f.zip (if f.any c8=true then _ else f.zipWith wrP ps))) else none)=_;rw[if_neg en,if_pos (oB B),gN B]
 rfl
theorem mY(s:Nat)(y:List Nat):∀ {xs:List (List Nat)},xs≠[]->aG [s] (xs++[y])=aG [s] xs++s::y
 | [],h=>(h rfl).elim
 | [x],_=>bo s x y []
 |x::z::r,_=>by
  rw[nN,nN,bo,<- nN,mY s y (ZX z r),bo,Zp]
  rfl
theorem vg{wd:List Nat}(h:32∉wd)(X:List (List Nat)):(spN 32 (aG [32] (wd::X))).headD []=wd:=by
 cases X with
 |nil=>rw[show aG [32] [wd]=wd from rfl,lu 32 wd h];rfl
 |cons y r=>rw[bo,iO 32 wd _ h];rfl
theorem sX{wd:List Nat}{f:List K9}{qs:List Pt}(hw:32∉wd)(h3:∀k∈f.filter kp,wdn k)(h4:(dk f=f.filter kp/\f=f.filter kp++[.note])\/(dk f=f.filter kp++[.rows]/\f=f.filter kp++[.rows,.note]))(B:A2 dN (dk f) qs):rdG (dk f) ((spN 32 (aG [32] (wd::(dk f).zipWith wrP qs))).drop 1)=some qs:=by
 have nr:∀k∈f.filter kp,k ≠ .rows/\k ≠ .note:=fun k hk=>xm (h3 k hk);rcases h4 with ⟨e,_⟩|⟨e,_⟩
 ·rw[e]at B |-
  rw[dF 32 _ (ZX _ _) fun p hp=>(zv.mp hp).elim (fun z=>z ▸ hw) (tw B nr p)];show rdG _ (List.zipWith wrP _ qs)=_;rw[G0 fun k hk=>(nr k hk).1,if_pos (oB B),gN B]
 ·rw[e]at B |-
  obtain⟨qp,d,rfl,B1,B2⟩:=iM B;cases d <;> try exact qT B2
  rename_i rs;generalize f.filter kp=p at B1 nr;have hl:=B1.len;rw[List.zipWith_append hl];show rdG _ ((spN 32 (aG [32] ((wd::p.zipWith wrP qp)++[aG [32] (rs.map d7)]))).drop 1)=_;rw[sp_uj _ fun x hx=>(zv.mp hx).elim (fun z=>z ▸ hw) (tw B1 nr x),oN B2.1 B2.2.2];show rdG _ (p.zipWith wrP qp++rs.flatMap lH)=_;have zl:=oB B1;rw[GF fun k hk=>(nr k hk).1,if_pos (by rw[zx];lia),ZS (by lia),vL (by lia),gN B1,<- zl,List.drop_left];show Z6 _ (dn _)=_;unfold dn;rw[if_neg (fun z=>B2.1 (Zy.mp (by have:=congrArg mF z;rw[jr]at this;simp at this;lia))),mU B2.2.2]
  rfl
theorem vH{o:List Nat × List Pt}(h:vG o):gE (dL o)=some o:=by
 obtain⟨f,ef,B⟩:=h;obtain⟨wd,ps⟩:=o;obtain⟨hb,hk⟩:=kK ef;rcases hk with ⟨_,rfl⟩|⟨h1,h2,h3,h4⟩|⟨h1,h2,h3,h4⟩
 ·exact lS ef B (by decide)
 ·have ed:f=dk f++[.note]:=by
   rcases h4 with ⟨e1,e2⟩|⟨e1,e2⟩
   ·rw[e1];exact e2
   ·rw[e1,Zp];exact e2
  have B':=B;rw[ed]at B';obtain⟨qs,d,rfl,B1,B2⟩:=iM B';cases d <;> try exact qT B2
  rename_i n;have hw:=tZ ef;obtain⟨t,et⟩:∃t,wrP .note (.w n)=124::t:=by
   show ∃t,(if n=[] then [124] else [124,32]++n)=_;split
   ·exact⟨[],rfl⟩
   ·exact⟨32::n,rfl⟩
  have hn:bx (124::t)=some n:=by
   have:=ni B2;rw[et]at this
   replace this:(bx (124::t)).map Pt.w=some (.w n):=this
   cases e:bx (124::t) with
   |none=>rw[e]at this;cases this
   |some m=>
    rw[e]at this;have e2:Pt.w m=Pt.w n:=wj this;injection e2 with e2
    rw[e2]
  have gl:=B1.len;have el:dL (wd,qs++[.w n])=aG [32] (wd::(dk f).zipWith wrP qs)++32::124::t:=by
   unfold dL;rw[ef,YW];show aG [32] (wd::f.zipWith wrP (qs++[.w n]))=_
   conv=>lhs;rw[ed]
   rw[List.zipWith_append gl];show aG [32] ((wd::(dk f).zipWith wrP qs)++[wrP .note (.w n)])=_;rw[mY 32 _ (ZX _ _),et]
  have hg:∀k∈dk f,wdn k\/k = .rows:=by
   rcases h4 with ⟨e,_⟩|⟨e,_⟩
   ·rw[e];exact fun k hk=>.inl (h3 k hk)
   ·rw[e]
    intro k hk;rcases vY.mp hk with hk|hk
    ·exact .inl (h3 k hk)
    ·exact .inr (uH.mp hk)
  have hb1:124∉aG [32] (wd::(dk f).zipWith wrP qs):=fun z=>by
   rcases dt z with y|⟨x,hx,y⟩
   ·cases y
   ·rcases zv.mp hx with e|hx
    ·exact hb (e ▸ y)
    ·exact y8 B1 hg x hx y
  have ha:=sX hw h3 h4 B1;have hh:=vg hw ((dk f).zipWith wrP qs);rw[<- wH,el];generalize aG [32] (wd::(dk f).zipWith wrP qs)=H1 at hb1 ha hh |-
  unfold uM;rw[py,hh,ef];show(if wd∈NT3 then _ else _)=_;rw[if_pos h2,xu hb1];show(if 124∈(H1++32::124::t).take H1.length then none else (bx (124::(H1++32::124::t).drop (H1.length+2))).bind fun n=>jh wd f ((H1++32::124::t).take H1.length) [n])=_;have e1:(H1++32::124::t).take H1.length=H1:=List.take_left;have e2:(H1++32::124::t).drop (H1.length+2)=t:=by rw[<- List.drop_drop,List.drop_left];rfl
  rw[e1,e2,if_neg hb1,hn];show jh wd f H1 [n]=_;unfold jh;rw[ha];show(if wd=cY /\ ¬ shH qs then none else some (wd,qs++[.w n]))=_;rw[if_neg (fun z=>h1 z.1)]
 ·exact lS ef B h4
end
open PySem L2 K3 M2 K22
section
variable{pS:Addr}{ns:List Int}{P:Program}{w:World}{K:W.Frag}{mg:Str->Option Value}{base:Heap}{a:Adr}
open MT
theorem yA{xs:List V}{H H1:Hp}{Q:VK}{i:Int}(h0:0<=i)(h1:i<xs.length)(h:∀v∈xs,(cD v=true/\Q v H)\/(∃p o,v = .ref p/\H p=none/\H1 p=some o/\gJ o=true/\Q (.ref p) (upd H p o))):gC xs H H1 Q (.int i):=by
 obtain⟨j,rfl⟩:∃j:Nat,i=j:=⟨i.toNat,by lia⟩;have hj:j<xs.length:=by lia
 have e:atI xs (j:Int)=some xs[j]:=aO (List.getElem?_eq_some_iff.mpr ⟨hj,rfl⟩);rcases h xs[j] (Ze hj) with ⟨f,q⟩|⟨p,o,ep,hp,ho,pl,r⟩
 ·exact kh e f q
 ·rw[ep]at e
  exact xY e hp ho pl r
def sp_law(K:W.Frag):Sp:=sp1 fun x H Q _=>asR x fun p=>NoT H/\∃ns:List Int,SqL K H p (ns.map V.int)/\ns.length<=63/\Q (.bl true) H
theorem Br(T:Txt w K mg a){fd:FuncData}(FL:Fun K "law" "law" jC a.nB fd):FnOk P w K mg base (XE P w) 16 a.nB fd ["_law_script"] (sp_law K):=by
 refine FL.okG wo (fun vs H Q E h=>sp1.len h) (fun cdv A outer s H vs Q E hr h=>?_);obtain⟨x0,rfl,h⟩:=sp1.inv h
 try dsimp only[sp_law,sp1]at h
 have ND:=wo.nd;have HU:=kQ hr;obtain⟨pS,rfl,hN,ns,hS,hl,k⟩:=d6 h
 skip
 have sz:2000<=sizeLine:=by rw[wz];decide
 have c5:∃u,PSs (bE (XE P w) P w K mg base Az "law" (au jC) a.nB cdv A outer s H (gcE H E)) (Zn 5 (aQ jC)) u/\∀x1 x2 x3 x4 G,Same H G->NoT G->u { nx:=fun _ H'=>∃G,Gc H G H'/\Q .non G,rt:=fun v H'=>∃G,Gc H G H'/\Q v G } [some (.ref pS),x1,x2,x3,x4,none] G:=by
  refine⟨_,(aa (aC 5 ND (eB (FA.pa (ap bb (ap ae (ap jH (ap (aX (fa1 (ac [114,117,110,32,50,48,48,48,45,48,49,45,48,49]))) (ap (eS (fa1 (ac [97,99,99,111,117,110,116,115]))) (ap yS (ap (aX (FA.pa bw)) (ap jH bw))))))))) (ah aU (az (ci T) hr aB (fa2 (fv 0) ae)) ae) (fun _ _=>rfl)))
   (af (ai (eO (aF K HU) (az (eQ T) hr aB (fa1 (fv 5))) (ac [114,101,102,117,115,101,100]) (fo _))))),fun x1 x2 x3 x4 G sG nG=>?_⟩
  walk_at "rd";have fin:∀(x:V) G',Same H G'->NoT G'->(¬ ∃l,x = .str ⟨⟨l⟩⟩)->(∃t,bL G' x=some t)->NoT G'/\((∃l,x=L2.T l/\ok l/\l.length<=900/\RfQ G' (fun x H1=>fH K false x (L2.T REF) H1 fun v H'=>∃G,Gc H G H'/\Q v G) (gE l))\/(¬ ∃l,x = .str ⟨⟨l⟩⟩)/\asK G' x fun _=>RfQ G' (fun x H1=>fH K false x (L2.T REF) H1 fun v H'=>∃G,Gc H G H'/\Q v G) none):=fun x G' s n nx ⟨t,ht⟩=>⟨n,.inr ⟨nx,asK.of ht fun G2 s2 n2=>⟨H,Gc.none (s.trans s2),k⟩⟩⟩;refine⟨nG,by lia,fun p0 f0=>⟨by lia,fun p1 f1 p2 f2=>⟨uG _,fun p3 f3=>⟨?_,by lia,fun p4 f4=>⟨?_,ns,?_,fun c=>?_⟩⟩⟩⟩⟩
  ·exact((ag _ f0).trans (ag _ f1)).trans ((ag _ f2).trans (ag _ f3))
  ·exact aj (aj (aj (aj (aj nG rfl) rfl) rfl) rfl) rfl
  ·exact bf (sG.trans ((((ag _ f0).trans (ag _ f1)).trans ((ag _ f2).trans (ag _ f3))).trans (ag _ f4))) hS
  ·have s1:=ag (HO.lst [L2.T [114,117,110,32,50,48,48,48,45,48,49,45,48,49]]) f0
   have s2:=s1.trans (ag (HO.tup [L2.T [97,99,99,111,117,110,116,115]]) f1);have s3:=s2.trans (ag (HO.dK []) f2);have g1:=s1.free f1;have g2:=s2.free f2;have g3:=s3.free f3;have rr:∀(p:Addr) o,G p=none->gJ o=true->lE o=true->(∃t,bL (upd G p o) (.ref p)=some t)->_:=fun p o h1 h2 h3 h4=>fin (.ref p) (upd G p o) (sG.trans (ag _ h1)) (aj nG h3) (fun⟨_,z⟩=>nomatch z) h4;refine yA (qX _ (by decide)) (vb c (by decide:(0:Int)<8)) fun v hv=>?_;simp only[zv,oO,or_false]at hv;rcases hv with rfl|rfl|rfl|rfl|rfl|rfl|rfl|rfl
   ·exact .inl ⟨rfl,fin _ G sG nG (fun⟨_,z⟩=>nomatch z) ⟨_,rfl⟩⟩
   ·exact .inl ⟨rfl,fin _ G sG nG (fun⟨_,z⟩=>nomatch z) ⟨_,rfl⟩⟩
   ·exact .inl ⟨rfl,fin _ G sG nG (fun⟨_,z⟩=>nomatch z) ⟨_,rfl⟩⟩
   ·exact .inr ⟨_,_,rfl,f0,(aw (aq ((aw (aq ((aw (aq ad f1)).trans ad) f2)).trans ((aw (aq ad f1)).trans ad)) f3)).trans ((aw (aq ((aw (aq ad f1)).trans ad) f2)).trans ((aw (aq ad f1)).trans ad)),rfl,rr _ _ f0 rfl rfl ⟨"list",by simp[bL,ad]⟩⟩
   ·have e1:upd (upd (upd G p0 (HO.lst [L2.T [114,117,110,32,50,48,48,48,45,48,49,45,48,49]])) p1 (HO.tup [L2.T [97,99,99,111,117,110,116,115]])) p2 (HO.dK []) p1=some (HO.tup [L2.T [97,99,99,111,117,110,116,115]]):=(aw (aq ad f2)).trans ad
    exact .inr ⟨_,_,rfl,g1,(aw (aq e1 f3)).trans e1,rfl,rr _ _ g1 rfl rfl ⟨"tuple",by simp[bL,ad]⟩⟩
   ·exact .inr ⟨_,_,rfl,g2,(aw (aq ad f3)).trans ad,rfl,rr _ _ g2 rfl rfl ⟨"dict",by simp[bL,ad]⟩⟩
   ·exact .inr ⟨_,_,rfl,g3,ad,rfl,rr _ _ g3 rfl rfl ⟨"list",by simp[bL,ad]⟩⟩
   ·exact .inl ⟨rfl,fin _ G sG nG (fun⟨_,z⟩=>nomatch z) ⟨_,rfl⟩⟩
 obtain⟨u5,hu5,c5⟩:=c5;have c4:∃u,PSs (bE (XE P w) P w K mg base Az "law" (au jC) a.nB cdv A outer s H (gcE H E)) (Zn 4 (aQ jC)) u/\∀x1 l G,pl l->l.length<=449->Same H G->NoT G->u { nx:=fun _ H'=>∃G,Gc H G H'/\Q .non G,rt:=fun v H'=>∃G,Gc H G H'/\Q v G } [some (.ref pS),x1,some (L2.T l),none,none,none] G:=by
  refine⟨_,(aa (eW (by passes_own) rfl (cn rfl T.dh (fa1 ae)) (aR (i:=3) ND rfl (Or.inl rfl)) (aa (aC 4 ND (ah aU (ah bJ (ah av (az (ci T) hr aB (fa2 (fv 0) ae)) (ah bJ ae (fv 3))) ae) ae))
   (af (aE (cP (bt (az (jY T) hr aB (fa1 (az (nR T) hr aB (fa3 (fv 2) (fv 4) (ah bI (fv 4) ae))))))) (af (ai jH)) ao))))
   hu5),fun x1 l G hl l4 sG nG=>?_⟩
  walk_at "rd";refine fI ?_;walk_at "rd";refine eG (lo:=0) (n:=3) (fun i σ' G'=>∃x3 x4,σ'=[some (.ref pS),x1,some (L2.T l),x3,x4,none]/\Same H G'/\NoT G') ⟨none,none,rfl,sG,nG⟩ ?_ ?_
  ·rintro i σ' G' hi ⟨x3,x4,rfl,s',n'⟩
   walk_at "rd";exact⟨n',ns,bf s' hS,fun c=>⟨n',hl,l4,fun l' h1 h2=>⟨n',h1,h2,_,_,⟨rfl,rfl⟩,s',n'⟩⟩⟩
  ·rintro σ' G' ⟨x3,x4,rfl,s',n'⟩
   exact c5 _ _ _ _ G' s' n'
 obtain⟨u4,hu4,c4⟩:=c4;refine⟨hN,_,(aa (aC 1 ND (az (mi T) hr aB (fa1 (fv 0))))
  (aa (aC 2 ND (az (so T) hr aB (fa1 (fv 1))))
  (aa (aE (L2.PW.pt (bS (cP (bt (ay (bW K) rfl T.aK aH (fa2 (fv 2) (bM (v:=.ty "str") rfl T.dW cO rfl))))) (bK (ak (bO K HU) (fv 2) (az (ow T) hr aB (fa1 (fv 1))))))) (af (ai jH)) ao)
  (aa (aE (cP (bt (az (gu T) hr aB (fa2 (az (eQ T) hr aB (fa1 (fv 2))) (fv 1))))) (af (ai jH)) ao)
  hu4)))),?_⟩
 walk_at "rd";refine⟨hN,ns,hS,fun o ho v G s n hv=>?_⟩;obtain⟨hl1,hl2⟩:=tU ho;obtain⟨z1,z2⟩:=wA (vH ho) (pl.ok hl1 (by lia)) (by lia);refine⟨n,o,ho,hv,n,o,ho,hv,itp rfl ⟨n,.inl ⟨dL o,rfl,pl.ok hl1 (by lia),by lia,?_⟩⟩⟩;rw[vH ho];intro v2 G2 s2 n2 hv2;exact⟨n2,OrAt.kd hv2 (hv.mv s2) z1 z2,c4 _ _ G2 hl1 hl2 (s.trans s2) n2⟩
theorem law_starts{H:Hp}{p:Addr}(hO:uP H)(hS:SqL K H p (ns.map V.int))(hl:ns.length<=63):sp_law K [.ref p] H (fun v _=>v = .bl true) fun _ _ _=>False:=⟨xz hO,ns,hS,hl,rfl⟩
end
noncomputable abbrev EA(x q:Str)(s:Stmt)(kV dc pm:Value)(an:Option Addr)(cd ct:Value):FuncData:=Z4 x q (eP s) (aQ s) (au s) .none kV dc pm an cd ct
section
variable{K:W.Frag}{h:Heap}{mg:Str->Option Value}{x qual:Str}{st:Stmt}{f g C:Addr}{oc:Value}{od an:Option Addr}{osl:Array (Option Value)}{kV doc pm cdv ct:Value}{cl:ClassData}
theorem nf_of(X:K.In h)(G:h.Ns Zm mg)(a:PySem.W.nsIn K Zm x=some (some (.ref f)))(l:K.lookup f=some ⟨oc,od,.func (EA x x st kV doc pm an cdv ct),osl⟩)(c:PySem.W.codeIn K cdv x=true)(k:ZF K (.ref f)=true):DfN K mg x st:=⟨_,_,PySem.W.mg_of X G a,wD l c k⟩
theorem exc_of(u:Yy K (.ref C) "__getattribute__" = some (some (.builtin "BaseException.__getattribute__")))(w:Yy K (.ref C) "__getattr__" = some none)(y:Yy K (.ref C) "__class__" = some (some (.builtin "object.__class__")))(o:PySem.W.clsIn K C=some cl)(g:ZK K C (.type "object")=some true)(b:ZK K C (.type "BaseException")=some true):cH K C:=⟨u,w,y,(by rw[o];rfl),g,b⟩
theorem cst_of{its:Array Value}{n:Nat}{vs:List V}{d:Option Addr}{sl:Array (Option Value)}(l:K.lookup f=some ⟨.type "tuple",d,.seq its n,sl⟩)(z:its.size<=sizeLine)(v:Vals vs its.toList):∃(o:Obj) (its:Array Value) (n:Nat),K.lookup f=some o/\o.cls = .type "tuple" /\ o.data = .seq its n/\its.size<=sizeLine/\Vals vs its.toList:=⟨_,_,_,l,rfl,rfl,z,v⟩
theorem ent_of{alp:Type}{Pm:Params}{R:alp->Addr->Prop}{s:String}{k:List Nat}{x:alp}{l:List (List Nat × alp)}{t:Tok}{f:Addr}{es:List Z0}(hk:ka s=⟨⟨k⟩⟩)(r:R x f)(E:Ent Pm R l es):Ent Pm R ((k,x)::l) (⟨PySem.PyData.keyHash Pm (ka s),.str (ka s) t,.ref f⟩::es):=by rw[hk];exact .cons r E
theorem tbl_of{alp:Type}{Pm:Params}{R:alp->Addr->Prop}{t:Addr}{l:List (List Nat × alp)}{es:Array Z0}{ep:Nat}(lk:K.lookup t=some ⟨.type "dict",none,.dict es ep,#[]⟩)(z:(t==sysModules)=false)(nd:(l.map (·.1)).Nodup)(E:Ent Pm R l es.toList):Tbl K Pm R t l:=⟨z,nd,es,ep,lk,E⟩
theorem rf_of{its:Array Value}{n:Nat}{sl:Array (Option Value)}{v:List K9}(l:K.lookup f=some ⟨.type "tuple",none,.seq its n,sl⟩)(z:its.size<=sizeLine)(h:Vals (v.map fun k=>L2.T (kn k)) its.toList):RF K v f:=⟨its,n,sl,l,z,h⟩
theorem val_str{s:String}{k:List Nat}{t:Tok}(hk:ka s=⟨⟨k⟩⟩):RelV (L2.T k) (.str (ka s) t):=⟨t,by rw[hk]⟩
theorem rm_of{n:K9->Str}{k:K9}(e:n k=x)(h:mg x=some (.ref f)):RM mg n k f:=by unfold RM;rw[e];exact h
theorem fin_of{l:PySem.W.OpenLaw}{w:World}{fa:Addr}{a:Adr}(hfa:mg "law" = some (.ref fa))(T:Txt w K mg a)(e:mg "law" = some (.ref a.nB)):∃fd:FuncData,(∀(s:Shared) (v:Value),BindsTo s fd ⟨[v],[]⟩ [("_law_script",v)])/\∀base:Heap,K.In base->base.Ns Zm mg->FnOk l.prog w K mg base (XE l.prog w) 16 fa fd ["_law_script"] (sp_law K):=by
 cases hfa.symm.trans e;obtain⟨fd,F⟩:=T.CU;refine⟨fd,fun s v=>?_,fun base _ _=>Br T F⟩;obtain⟨oc,od,kV,doc,pm,an,cdv,ct,osl,e,lk,hcd⟩:=F.ex;rw[e];exact .of_eq rfl
end
end K29
open PySem PySem.W PyProof.Rows
theorem PySem.Challenge.cw_evenhall_k29_orders_in_lines_holds : PySem.Challenge.rw_evenhall_k29_orders_in_lines.Holds := by
 w_on
 refine PySem.W.holds_law K29.ws fun said=>?_;refine PySem.W.holds_open (q:=K29.vw) (loose:=K29.lss) (Xt:=fun s=>PySem.W.xlAt K29.vw [] s&&PySem.W.recOk (ZT (Zb (ZN jJ))) s) (XP:=PySem.W.XL K29.vw []) (Yf:=PySem.W.Hook.obs (Yl K29.frag K29.adrs K29.adrs_eq)) (Ya:=PySem.W.Hook.val (Yl K29.frag K29.adrs K29.adrs_eq)) (YP:=PySem.W.Hook.says (Yl K29.frag K29.adrs K29.adrs_eq)) (N:=7886) K29.left (PySem.W.Hook.of (Yl K29.frag K29.adrs K29.adrs_eq)) (PySem.W.Hook.keeps (Yl K29.frag K29.adrs K29.adrs_eq))
  (fun s e=>PySem.W.xl_of s (Bool.and_eq_true_iff.mp e).1) PySem.W.XL.keeps (by rfl) (by rfl) (by rfl) (fun s e=>PySem.W.recFacts_of (Bool.and_eq_true_iff.mp e).2) (by rfl) (by assumption) (by decide +kernel) ⟨rfl,rfl,rfl,rfl,rfl,by decide +kernel⟩ ?hw ?hc
 (case hw=>w_witness2)
 k_fill
 refine L2.w6 (l:=jJ) (n:=63) (k:=16) (x:="_law_script") (sp:=K29.sp_law) rfl (by decide) rfl ⟨rfl,by decide,by decide⟩ (fun w h Y=>PySem.W.kIn_of Y) ?F ?S
 case F=>
  intro w mg fa h KX G hmg;refine' K29.fin_of (a:=⟨549,31,51,70,89,108,165,220,315,389⟩) hmg ?T (PySem.W.mg_of KX G (by k_is))
  case T=>
  constructor
  all_goals try dsimp only
  all_goals first|exact PySem.W.mg_of KX G (by k_is)|exact PySem.W.mg_none_of KX G (by k_is)|exact K29.nf_of KX G (by k_is) (by k_is) (by k_is) (by k_is)|exact K29.mf_of (by k_is) (by k_is) (by k_is) (by k_is) (by k_is)|exact⟨_,L2.wD (by k_is) (by k_is) (by k_is)⟩|exact⟨by k_is,by k_is,by k_is,by k_is⟩|(unfold L2.r_;k_is)|exact⟨by k_is,by k_is⟩|(unfold K29.zzX;k_exc)|exact K29.exc_of (by k_is) (by k_is) (by k_is) (by k_is) (by k_is) (by k_is)|exact L2.uY (by k_is) (by k_is) (by k_is) (by k_is)|exact L2.vo (by k_is)|exact L2.uT (by k_is) (by k_is) (by k_is) (by k_is)|exact K29.cst_of (by k_is) (by show _<=sizeLine;decide) (by repeat first|exact .nil|refine .cons ⟨_,rfl⟩ ?_)|exact K29.tbl_of (by k_is) rfl (by decide) (by repeat first|exact .nil|refine K29.ent_of rfl (K29.rm_of rfl (PySem.W.mg_of KX G (by k_is))) ?_|refine K29.ent_of rfl (K29.rf_of (by k_is) (by show _<=sizeLine;decide) (by repeat first|exact .nil|refine .cons (K29.val_str rfl) ?_)) ?_)
 case S=>exact fun K H a ns hl hO hS=>K29.law_starts hO hS hl
