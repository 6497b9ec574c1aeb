import PyProof.Rows.All
import KE.KUnpack
import PyProof.DictTruth
import PyProof.DictWalks
import PyProof.Rows.SortKeyStr
import KE.KItem
import KE.KTupSum
import KE.KEqDict
import KE.KFromBytes
import KE.KIntText
import KE.KRevIter
import KE.KDictOf
import KE.LcSums
import KE.KDictSum
import KE.KTryMore
import OpenK.KLine
import OpenK.KOwn
import Wide.Line
import Wide.FinOn
import Lean
import PySem.Challenge.RW_evenhall_k23_months_closed
set_option genInjectivity false
set_option genSizeOf false
set_option Elab.async false
set_option linter.all false
set_option maxRecDepth 100000
set_option maxHeartbeats 0
open PySem.Challenge renaming pw_evenhall_k23_months_closed -> qZ, rw_evenhall_k23_months_closed -> vz
open And renaming intro -> z9
open Array renaming length_toList -> ZS, perm_iff_toList_perm -> Yu
open Bool renaming false_ne_true -> xE, false_eq_true -> Zq, and_eq_true -> Zj, eq_iff_iff -> Z4, true_and -> Z9, false_and -> YO
open False renaming elim -> Zf
open Int renaming eq_ofNat_of_zero_le -> Zh, emod_lt_of_pos -> ZY, emod_nonneg -> ZJ, le_refl -> Yd, ofNat -> YL
open List renaming mem_singleton -> zq, length_append -> zi, length_map -> zg, mem_append_right -> zd, mem_cons -> zZ, not_mem_nil -> zY, size_toArray -> zH, mem_append -> z7, mem_map -> yS, map_cons -> xa, mem_of_getElem? -> ww, mem_append_left -> wW, mem_map_of_mem -> wR, lookup -> wO, mem_cons_of_mem -> vf, map_append -> vX, length_cons -> vN, length_take -> uV, map_map -> tf, replicate -> t7, map_congr_left -> nE, length_singleton -> Zw, append_nil -> Zs, length_filter_le -> Zp, take_length -> Zo, drop -> Zn, filter_eq_self -> Zm, all_eq_true -> Zk, filter_cons_of_pos -> Zi, pairwise_iff_getElem -> Zg, filter_append -> Ze, take_of_length_le -> Zd, filter_cons_of_neg -> Zc, range -> Zb, nodup_cons -> ZW, mem_filter -> ZV, cons_append -> ZG, mem_cons_self -> ZF, pairwise_map -> Z0, length_nil -> Z2, filter_nil -> Z3, map_nil -> Z6, take_succ -> Yx, flatMap_cons -> Yr, append_assoc -> Yq, mem_of_mem_take -> Yo, replicate_succ -> Yi, getElem_mem -> Yh, any_cons -> YZ, map_id -> YR, nil_append -> YD, pairwise_cons -> Y1, getD -> Y3, length -> Y5
open Nat renaming le_refl -> zL, le_trans -> wn, zero_le -> wQ, lt_of_lt_of_le -> vD, ne_of_lt -> uj, lt_irrefl -> ZQ, le_of_lt -> ZD, succ_le_succ -> Yy, le_succ -> YS, lt_of_le_of_lt -> Y0
open Option renaming map_eq_some_iff -> Zt, isSome_map -> ZA
open Option.some renaming inj -> tZ
open PyProof.Rows renaming envOfC -> Yj, callWith_type1 -> YX
open PySem renaming wpAny_bind -> zj, wpAny_pure -> zA, sizeLine_eq -> um, compareOp -> rW, wpAny_mono -> Zv, bootBuiltins -> Zu, wpAny_truthy_bool -> Zr, mainGlobals -> Za, sysModules -> ZT, wpAny_newObj_type -> ZM, mem_of_lookup -> ZL, sliceBounds -> ZK, wpAny_typeNameOfWhole_keyiter -> ZC, foldedSetIterable -> ZB, behindInMarks -> Z7, wpAny_call_entry -> Yz, wpAny_Call_Name_kw -> Yw, tupleKind_room_in1 -> Yv, wpAny_passesOwn -> Ys, assignEach -> Yn, wpAny_typeNameOf_keyiter -> Ym, wpAny_getItem_str_slice -> Yg, keywordEach -> Ye, wpAny_pyIter_list -> YY, call_meets -> YV, codeAny_mono -> YJ, wpAny_holding -> YH, attributeBase -> YG, wpAny_execs_nil -> YF, letOwnedTupleGo -> YE, typeIs_str -> YC, DictEntry -> Y4
open PySem.Builtin.List renaming listTooLong -> Yk
open PySem.Builtin.Slice renaming slicePlaces -> Yt, sliceAdjust -> YI
open PySem.Builtin.Str renaming subAt -> Yp, strSliceIndices -> YW
open PySem.Builtin.Tuple renaming tupleExact -> Yl
open PySem.Calls renaming evalArgs_plain -> YN, spliced_cons -> Y2
open PySem.Data renaming dict -> YK
open PySem.F renaming plainAttrs_list -> pN, type_list_append -> Zy, slot_list_append -> Zx, plainAttrs_str -> ZU, slot_dict_get -> ZI, slot_dict_keyiterator_next -> Z5, entry_dict_get -> Yc
open PySem.Heap renaming lt_size -> xb
open PySem.NameKind renaming globalImplicit -> Y6
open PySem.Obj renaming mapSeq -> YT
open PySem.ScopeKind renaming function -> YB
open PySem.Str renaming ofString -> zf, length -> ZN
open PySem.Value renaming ref -> yW, none -> ZO, type -> YU, str -> YM
open PySem.W renaming kitOne -> sV, findIn -> Zl, exmOne -> ZZ, kia_one -> ZX, emptyDict -> ZR, keepIn -> ZP, fnOf -> ZE, instObj -> Z1, mroIn -> Z8, kHook -> Yb, codeIn -> YQ, callWith_K -> YA
open True renaming intro -> ZH
namespace L2
theorem Zz{n k c:Nat}(h:n+100<c)(d:k<=100:=by decide):n+k<c:=Y0 (Nat.add_le_add_left d _) h
open PySem
noncomputable def bv(s:Stmt)(j:Nat):Stmt:=match s with
 | .ClassDef _ _ _ body _ _ _ _ _ _ _=>body.getD j (.Pass ⟨0,0,0,0⟩)
 |_=>.Pass ⟨0,0,0,0⟩
noncomputable def gv(s:Stmt):Arguments:=match s with
 | .FunctionDef _ a _ _ _ _ _ _ _ _=>a
 |_=>{ posonlyargs:=[],args:=[],vararg:=none,kwonlyargs:=[],kw_defaults:=[],kwarg:=none,defaults:=[] }
noncomputable def aZ(s:Stmt):List Stmt:=match s with
 | .FunctionDef _ _ b _ _ _ _ _ _ _=>b
 |_=>[]
noncomputable def au(s:Stmt):Scope:=match s with
 | .FunctionDef _ _ _ _ _ _ sc _ _ _=>sc
 |_=>{ kind:=.function,names:=[],isGenerator:=false,isCoroutine:=false }
end L2
namespace K23
open PySem L2
noncomputable def top(i:Nat):Stmt:=qZ.main.body.getD i (.Pass ⟨0,0,0,0⟩)
noncomputable abbrev bq:Stmt:=top 77
noncomputable abbrev bC:Stmt:=top 88
noncomputable abbrev c_:Stmt:=top 90
noncomputable abbrev fw:Stmt:=bv (top 59) 2
end K23
namespace TR
open PySem PySem.W PyProof PyProof.Rows
def go(p:Program)(w:World)(lo:Nat)(an:Option Value):Nat->SharedT->Thread->Option SharedT
 |0,_,_=>none
 |k+1,x,th=>match through th with
  |true=>some x
  |false=>match stepOk lo an th with
   |false=>none
   |true=>match stepT (denote treeTable) p w x th with
    |none=>none
    |some y=>go p w lo an k y.1 y.2
theorem pT{p:Program}{w:World}{lo:Nat}{an:Option Value}(k:Nat):∀ {x y:SharedT} {th:Thread},go p w lo an k x th=some y->topRun treeTable p w lo an k x.abs th=some y.abs:=by
 induction k with
 |zero=>intro x y th e;cases e
 |succ k ih=>
  intro x y th e;unfold go at e;unfold topRun
  revert e
  cases through th with
  |true=>intro e;cases e;rfl
  |false=>
   cases stepOk lo an th with
   |false=>intro e;cases e
   |true=>
    dsimp only;cases z:stepT (denote treeTable) p w x th with
    |none=>intro e;cases e
    |some v=>
     intro e;obtain⟨v1,v2⟩:=v;rw[stepT_spec z];exact ih e
noncomputable def lookB(p:Program)(b:Heap)(s:Shared):Bool:=staticsOk (importedModules p.main.body) b s.heap&&namesBound p s.heap&&gensDone s&&laidKept b s.heap
noncomputable def look(p:Program)(P:Params)(s:Shared):Bool:=lookB p (boot_heap P) s
theorem left{p q:Program}{ls:List Str}{Xt:Shared->Bool}{β:Type}{Yf:Shared->β}{Ya:World->β}{N lo:Nat}{an:Option Value}{tr:Params->BT}
 (ho:∀w:World,(fencedOpening treeTable p w N).map (fun s=>(s.heap,s.gens,s.drawn,s.toks))=some (boot_heap w.params,Array.mk [],boot_drawn,boot_toks))
 (hz:∀P:Params,((boot_heap P).isNs Za,(boot_heap P).objs.size,(boot_heap P).nsMap Za "__annotations__")=(true,lo,an))
 (ht:∀P:Params,absHeap (tr P) lo (boot_heap P).life=boot_heap P)
 (hr:∀w:World,(fun os=>(go p w lo an N ⟨tr w.params,lo,(boot_heap w.params).life,Array.mk [],boot_drawn,boot_toks,os⟩ (topStub p)).map fun x=>(look p w.params x.abs,openSeen q ls (importedModules p.main.body) Xt true x.abs,Yf x.abs))=fun _=>some (true,openGood q ls,Ya w)) :
 LeftO p q ls Xt Yf Ya N:=by
 intro w;obtain⟨⟨h,g,d,k,os⟩,e1,e2⟩:=Zt.mp (ho w);simp only[Prod.mk.injEq]at e2;obtain⟨rfl,rfl,rfl,rfl⟩:=e2;have z:=hz w.params;simp only[Prod.mk.injEq]at z;obtain⟨z1,z2,z3⟩:=z;obtain⟨x,r1,r2⟩:=Zt.mp (congrFun (hr w) os);simp only[Prod.mk.injEq]at r2;obtain⟨l1,l2,l3⟩:=r2;have t:=pT _ r1;have ab:SharedT.abs ⟨tr w.params,lo,(boot_heap w.params).life,Array.mk [],boot_drawn,boot_toks,os⟩=⟨boot_heap w.params,Array.mk [],boot_drawn,boot_toks,os⟩:=by
  show Shared.mk (absHeap (tr w.params) lo (boot_heap w.params).life) _ _ _ _=_;rw[ht]
 rw[ab]at t;have f:topFrom treeTable p w N ⟨boot_heap w.params,Array.mk [],boot_drawn,boot_toks,os⟩=some x.abs:=by
  unfold topFrom;dsimp only;rw[z1,z2,z3,t];show(match look p w.params x.abs with|true=>some x.abs|false=>none)=_;rw[l1]
 unfold openEnds;rw[e1];show(topFrom treeTable p w N _).map _=_;rw[f];show some (_,_)=_;rw[l2,l3]
theorem Ki{α β γ:Type}{o:Option α}{g:α->β × γ}{b:β × γ}(e1:o.map (fun x=>(g x).1)=some b.1)(e2:o.map (fun x=>(g x).2)=some b.2):o.map g=some b:=by
 cases o with
 |none=>cases e1
 |some x=>exact congrArg some (Prod.ext (tZ e1) (tZ e2))
noncomputable def s1(q:Program)(s:Shared):=seen ((recsOf q).map (·.name)) (ownsOf q) [] { s with gens:=#[] }
noncomputable def s2(p q:Program)(c:WRecords)(s:Shared):=(s.heap.bltView,s.heap.keysOk (looseW q []) ((recsOf q).map (·.name)) ((litsOf q).map (·.1)) ((clssOf q (looseW q [])).map (·.name))&&s.heap.accountedOkI (importedModules p.main.body)&&s.heap.isNs Za&&s.heap.isNs builtinsNs&&tablesOk q s.heap&&(xlAt q [] s&&recOk c s)&&(s.gens.size==0),tabsOk q s)
noncomputable def s3(q:Program)(s:Shared):=(pinSeenD q (drecsOf q) s,plainSeenE q (looseW q []) s,plainSeenD q [] s,wideSeen q s,clsSeenW q [] s)
noncomputable def d3(q:Program):=(pinGoodD (drecsOf q),plainGoodE q (looseW q []),plainGoodD q [],wideGood q,clsGoodW q [])
theorem seen3{p q:Program}{c:WRecords}{o:Option SharedT}(e1:o.map (fun x=>s1 q x.abs)=some (expectedOf q))(e2:o.map (fun x=>s2 p q c x.abs)=some (bltViewBooted,true,true))(e3:o.map (fun x=>s3 q x.abs)=some (d3 q)):o.map (fun x=>openSeen q [] (importedModules p.main.body) (fun s=>xlAt q [] s&&recOk c s) true x.abs)=some (openGood q []):=by
 cases o with
 |none=>cases e1
 |some x=>
  have f1:s1 q x.abs=_:=tZ e1;have f2:s2 p q c x.abs=_:=tZ e2;have f3:s3 q x.abs=_:=tZ e3;show some (s1 q x.abs,(s2 p q c x.abs).1,(s2 p q c x.abs).2.1,(s2 p q c x.abs).2.2,s3 q x.abs)=_;rw[f1,f2,f3];rfl
theorem Kf{α β γ:Type}{o:Option α}{f:α->β->γ}{l:List β}{r:List γ}(n:Nat)(e1:o.map (fun x=>(l.take n).map (f x))=some (r.take n))(e2:o.map (fun x=>(l.drop n).map (f x))=some (r.drop n)):o.map (fun x=>l.map (f x))=some r:=by
 cases o with
 |none=>cases e1
 |some x=>
  have f1:(l.take n).map (f x)=_:=tZ e1;have f2:(l.drop n).map (f x)=_:=tZ e2;show some (l.map (f x))=some r;rw[<- List.take_append_drop n l,vX,f1,f2,List.take_append_drop]
theorem three{α β γ δ:Type}{o:Option α}{f:α->β}{g:α->γ}{h:α->δ}{a:β}{b:γ}{c:δ}(e1:o.map f=some a)(e2:o.map g=some b)(e3:o.map h=some c):o.map (fun x=>(f x,g x,h x))=some (a,b,c):=by
 cases o with
 |none=>cases e1
 |some x=>cases e1;cases e2;cases e3;rfl
def atT(x:SharedT)(a:Nat):Option Obj:=match Nat.blt a x.n with
 |true=>match x.tree.get a with
  |some o=>alive o
  |none=>none
 |false=>none
theorem Hj{x:SharedT}{a:Nat}{o:Obj}(h:atT x a=some o):x.abs.heap.get? a=some o:=by
 revert h;unfold atT
 cases b:Nat.blt a x.n with
 |false=>intro h;cases h
 |true=>
  dsimp only;cases g:x.tree.get a with
  |none=>intro h;cases h
  |some o'=>intro h;exact(abs_get (Nat.le_of_ble_eq_true b) g).trans h
theorem atTs{β:Type}{o:Option SharedT}{l:List Nat}{fr:List (β × Obj)}(e:o.map (fun x=>l.map (atT x))=some (fr.map fun p=>some p.2)):o.map (fun x=>l.map x.abs.heap.get?)=some (fr.map fun p=>some p.2):=by
 cases o with
 |none=>cases e
 |some x=>
  have f:l.map (atT x)=_:=tZ e;refine congrArg some (?_:l.map x.abs.heap.get? = _);clear e
  induction l generalizing fr with
  |nil=>cases fr with
   |nil=>rfl
   |cons y ys=>cases f
  |cons a l ih=>cases fr with
   |nil=>cases f
   |cons y ys=>
    injection f with f1 f2
    exact(congrArg (· :: _) (Hj f1)).trans (congrArg (_ :: ·) (ih f2))
end TR
namespace K23
open PySem L2
abbrev kS(s:String):Str:=zf s
abbrev kR(a:Addr):Value:=.ref a
abbrev kY(s:String):Value:=.type s
abbrev kB(s:String):Value:=.builtin s
abbrev kZ(s:Str)(t:Tok):Value:=.str s t
abbrev kN:Value:=.none
abbrev kD(h:Int)(k v:Value):Y4:=⟨h,k,v⟩
abbrev kO(c:Value)(d:Option Addr)(t:Data)(s:Array (Option Value)):Obj:=⟨c,d,t,s⟩
abbrev keyHash:=PyData.keyHash
abbrev kE(P:Params)(s:String)(t:Tok)(v:Value):Y4:=⟨keyHash P (kS s),kZ (kS s) t,v⟩
abbrev kI(i:Int)(t:Tok):Value:=.int i t
abbrev kz(s:String)(t:Tok):Value:=kZ (kS s) t
abbrev kC(t:Tok):Value:=kz "/claim/cut.py" t
abbrev kT(x:Array Value):Obj:=kO (kY "tuple") none (.seq x 0) #[]
abbrev kU:Value:=.bool true
noncomputable def frP:Nat->List String->List Value
 |_,[]=>[]
 |t,s::r=>kz s t::frP (t+1) r
noncomputable abbrev frQ(n q:String)(t l g a m:Nat):Obj:=kO (kY "code") none (Data.fields #[kz n t,kz q (t+1),kC (t+2),kI (YL l) 0,kI (YL g) 0,kI 0 0,kI 0 0,kI 3 0,kR a,kU,kI 181 0,kR (a+1),kN,kR (a+2),kR (a+3),kR (a+4),kI (YL m) 0,kI (YL l) 0,kC (m+1)]) #[]
noncomputable abbrev frG(n q:String)(t l g a:Nat):Obj:=kO (kY "code") none (Data.fields #[kz n t,kz q (t+1),kC (t+2),kI (YL l) 0,kI (YL g) 0,kI 0 0,kI 0 0,kI 3 0,kR a,kU,kI 181 0,kR (a+1),kN,kN,kN,kR (a+2),kI (YL (t+3)) 0,kI (YL l) 0,kC (t+4)]) #[]
noncomputable abbrev frZ(m:String)(k:Nat)(n q:String)(s:Stmt)(r:Nat):Obj:=kO (kY "function") none (Data.func (ZE (kS n) (kS q) (gv s) (aZ s) (au s) kN kN kN (kz m k) none (kR r) kN)) #[]
noncomputable def frA(a:Nat)(n q:String)(t l g h:Nat)(ps:List String)(o:Obj)(r:W.Frag):W.Frag:=(a,kT #[])::(a+2,kT (frP (t+3) ps).toArray)::(a+3,kT #[])::(a+5,frQ n q t l g a (t+h+3))::(a+6,o)::r
noncomputable def frB(Z:String->String->Stmt->Nat->Obj)(a:Nat)(n q:String)(s:Stmt)(t l g h:Nat)(ps:List String)(r:W.Frag):W.Frag:=frA a n q t l g h ps (Z n q s (a+5)) r
noncomputable def frC(Z:String->String->Stmt->Nat->Obj)(a:Nat)(n:String)(s:Stmt)(t l g h:Nat)(ps:List String)(r:W.Frag):W.Frag:=frB Z a n n s t l g h ps r
noncomputable def frD(Z:String->String->Stmt->Nat->Obj)(a:Nat)(n q:String)(s:Stmt)(t l g:Nat)(r:W.Frag):W.Frag:=(a,kT #[])::(a+3,frG n q t l g a)::(a+4,Z n q s (a+3))::r
noncomputable abbrev frW(q:String)(l m i c r:Nat):Obj:=kO (kY "function") none (Data.func (FuncData.mk (kS "small_words") (kS q) (Arguments.mk [] [(Arg.mk (kS "self") none (Pos.mk l 20 l 24))] none [] [] none []) (FuncBody.stmts [(Stmt.Expr (Expr.Call (Expr.Name (kS "_wall") (Pos.mk m 8 m 13)) [(Expr.Constant (Const.int (YL i)) 0 (Pos.mk m 14 m c))] [] (Pos.mk m 8 m (c+1))) (Pos.mk m 8 m (c+1)))]) (Scope.mk YB [((kS "self"),NameKind.local),((kS "_wall"),Y6)] false false []) 3 [] kN kN kN (kz "evenhall.errors" 194) none (kR r) kN 0)) #[]
noncomputable abbrev frE(P:Params)(e l f g:Nat):Obj:=kO (kY "dict") none (YK #[kE P "__module__" (e+7) (kz "evenhall.errors" 194),kE P "__firstlineno__" (e+11) (kI (YL l) (e+10)),kE P "small_words" (e+18) (kR f),kE P "__static_attributes__" (e+19) (kR g),kE P "__doc__" (e+20) kN] 2) #[]
noncomputable abbrev frT(x:String)(b c d e:Nat):Obj:=kO (kY "type") none (Data.cls (ClassData.mk (kS x) [kR 31] [kR b,kR 31,kY "ValueError",kY "Exception",kY "BaseException",kY "object"] c (kS x) true [] [] false none false)) #[some (kR d),none,some (kz x e),some (kz x (e+8)),some (kB "ValueError.__new__"),some kU]
noncomputable def frX(P:Params)(a:Nat)(x q:String)(e l i c:Nat)(r:W.Frag):W.Frag:=(a,kT #[kR 31])::frA (a+7) "small_words" q (e+12) (l+2) 1 1 ["self"] (frW q (l+2) (l+3) i c (a+12)) ((a+14,kT #[])::(a+15,frE P e l (a+13) (a+14))::(a+16,frT x (a+16) (a+15) a e)::r)
noncomputable abbrev BG:=frZ "evenhall.words" 582
noncomputable abbrev JK:=frZ "evenhall.money" 620
noncomputable abbrev Jg:=frZ "evenhall.bookings" 629
noncomputable abbrev y3:=frZ "evenhall.days" 643
noncomputable abbrev Ej:=frZ "evenhall.paths" 704
noncomputable abbrev Gd:=frZ "evenhall.reports" 732
noncomputable abbrev DC:=frZ "evenhall.seals" 758
noncomputable abbrev C3:=frZ "evenhall.closing" 813
noncomputable abbrev mT:=frZ "evenhall.chart" 861
noncomputable abbrev IA:=frZ "evenhall.deeds" 1038
noncomputable abbrev iw:=frZ "evenhall.journal" 1055
noncomputable abbrev cO:=frZ "law_evenhall_k23_months_closed" 1187
noncomputable abbrev q0(a:String)(b:Nat)(c:Nat)(d:Nat)(e:Nat):Obj:=(kO (kY "type") none (Data.cls (ClassData.mk (kS a) [(kY "object")] [(kR b),(kY "object")] c (kS a) true [] [] false none false)) #[none,none,(some (kz a d)),(some (kz a e)),(some (kB "object.__new__")),(some kU)])
noncomputable abbrev q1(a:Nat)(b:Nat):Obj:=(kO (kY "getset_descriptor") none (Data.fields #[(kz "__weakref__" a),(kR b),(kB "ExceptionGroup.__weakref__"),kN]) #[])
noncomputable abbrev q2(a:Nat)(b:Nat):Obj:=(kO (kY "getset_descriptor") none (Data.fields #[(kz "__dict__" a),(kR b),(kB "function.__dict__"),(kB "function.__dict__#set")]) #[])
noncomputable def Fn(P:Params):W.Frag:=
(2,(kO kN none (YK #[] 0) #[]))::
(3,(kO (kY "dict") none (YK #[(kE P "__name__" 165 (kz "law_evenhall_k23_months_closed" 1187)),(kE P "__doc__" 166 kN),(kE P "__package__" 167 kN),(kE P "__loader__" 168 (kB "__main__.__loader__#opaque")),(kE P "__spec__" 169 kN),(kE P "__annotations__" 170 (kR 6)),(kE P "__builtins__" 171 (kR 4)),(kE P "__file__" 173 (kC 172)),(kE P "__cached__" 174 kN),(kE P "_wall" 193 (kR 21)),(kE P "HouseError" 213 (kR 31)),(kE P "BadName" 236 (kR 51)),(kE P "BadNote" 259 (kR 70)),(kE P "BadDay" 282 (kR 89)),(kE P "BadMonth" 305 (kR 108)),(kE P "BadCurrency" 328 (kR 127)),(kE P "BadPath" 351 (kR 146)),(kE P "BadKind" 374 (kR 165)),(kE P "NoAccount" 397 (kR 184)),(kE P "Twice" 420 (kR 203)),(kE P "NotOpen" 443 (kR 222)),(kE P "HasBelow" 466 (kR 241)),(kE P "BadRow" 489 (kR 260)),(kE P "NoBooking" 512 (kR 279)),(kE P "Undone" 535 (kR 298)),(kE P "Closed" 558 (kR 317)),(kE P "NotNext" 581 (kR 336)),(kE P "is_whole" 590 (kR 345)),(kE P "is_among" 599 (kR 352)),(kE P "signs_lie" 605 (kR 357)),(kE P "is_name" 612 (kR 364)),(kE P "is_note" 619 (kR 371)),(kE P "is_currency" 628 (kR 378)),(kE P "turned" 636 (kR 383)),(kE P "sums_of" 642 (kR 388)),(kE P "LENGTHS" 657 (kR 389)),(kE P "is_day" 664 (kR 396)),(kE P "is_month" 671 (kR 403)),(kE P "leap_days" 678 (kR 410)),(kE P "first_day" 688 (kR 417)),(kE P "last_day" 695 (kR 424)),(kE P "month_of" 703 (kR 431)),(kE P "are_names" 711 (kR 436)),(kE P "is_path" 718 (kR 443)),(kE P "names_of" 725 (kR 450)),(kE P "above" 731 (kR 455)),(kE P "rows_of" 742 (kR 462)),(kE P "bookings_up_to" 748 (kR 467)),(kE P "balances" 757 (kR 474)),(kE P "seal" 769 (kR 481)),(kE P "Seals" 812 (kR 512)),(kE P "carry_rows" 820 (kR 521)),(kE P "need_keeper" 829 (kR 528)),(kE P "need_currencies" 835 (kR 533)),(kE P "carry" 847 (kR 540)),(kE P "close" 860 (kR 547)),(kE P "KINDS" 868 (kR 548)),(kE P "Account" 919 (kR 579)),(kE P "Chart" 1037 (kR 675)),(kE P "need_note_and_gate" 1048 (kR 686)),(kE P "undo" 1054 (kR 691)),(kE P "Gate" 1115 (kR 736)),(kE P "Journal" 1186 (kR 792)),(kE P "_law_cell_at" 1196 (kR 803)),(kE P "_law_whole" 1203 (kR 810)),(kE P "_law_names" 1209 (kR 815)),(kE P "_law_currencies" 1215 (kR 820)),(kE P "_law_start" 1222 (kR 827)),(kE P "_law_lengths" 1230 (kR 834)),(kE P "_law_month_ends" 1239 (kR 841)),(kE P "_law_month" 1248 (kR 848)),(kE P "_law_base" 1256 (kR 855)),(kE P "_law_day" 1264 (kR 862)),(kE P "_law_accounts" 1283 (kR 869)),(kE P "_law_chart" 1296 (kR 876)),(kE P "_law_is_open" 1307 (kR 883)),(kE P "_law_rows_by" 1313 (kR 888)),(kE P "_law_balances" 1319 (kR 893)),(kE P "_law_carry" 1325 (kR 898)),(kE P "_law_due" 1331 (kR 903)),(kE P "_law_word" 1339 (kR 910)),(kE P "_law_closed" 1345 (kR 915)),(kE P "_law_path" 1351 (kR 920)),(kE P "_law_close" 1365 (kR 927)),(kE P "_law_step" 1371 (kR 932)),(kE P "_law_carry_undone" 1377 (kR 937)),(kE P "law" 1383 (kR 942))] 87) #[]))::
frA 15 "_wall" "_wall" 187 1 1 1 ["k"] (kO (kY "function") none (Data.func (FuncData.mk (kS "_wall") (kS "_wall") (Arguments.mk [] [(Arg.mk (kS "k") none (Pos.mk 1 10 1 11))] none [] [] none []) (FuncBody.stmts [(Stmt.While (Expr.Constant (Const.bool true) 0 (Pos.mk 2 10 2 14)) [(Stmt.Pass (Pos.mk 3 8 3 12))] [] (Pos.mk 2 4 3 12))]) (Scope.mk YB [((kS "k"),NameKind.local)] false false []) 3 [] kN kN kN (kz "__main__" 164) none (kR 20) kN 0)) #[]) (
(22,(kT #[(kY "ValueError")]))::
(29,(kT #[]))::
(30,(kO (kY "dict") none (YK #[(kE P "__module__" 203 (kz "evenhall.errors" 194)),(kE P "__firstlineno__" 207 (kI 5 206)),(kE P "__static_attributes__" 208 (kR 29)),(kE P "__weakref__" 210 (kR 32)),(kE P "__doc__" 211 kN)] 3) #[]))::
(31,(kO (kY "type") none (Data.cls (ClassData.mk (kS "HouseError") [(kY "ValueError")] [(kR 31),(kY "ValueError"),(kY "Exception"),(kY "BaseException"),(kY "object")] 30 (kS "HouseError") true [] [(kR 51),(kR 70),(kR 89),(kR 108),(kR 127),(kR 146),(kR 165),(kR 184),(kR 203),(kR 222),(kR 241),(kR 260),(kR 279),(kR 298),(kR 317),(kR 336)] false none false)) #[(some (kR 22)),none,(some (kz "HouseError" 196)),(some (kz "HouseError" 204)),(some (kB "ValueError.__new__")),(some kU)]))::
(32,(q1 209 31))::
frX P 35 "BadName" "BadName.small_words" 214 7 0 15 (
frX P 54 "BadNote" "BadNote.small_words" 237 11 1 15 (
frX P 73 "BadDay" "BadDay.small_words" 260 15 2 15 (
frX P 92 "BadMonth" "BadMonth.small_words" 283 19 3 15 (
frX P 111 "BadCurrency" "BadCurrency.small_words" 306 23 4 15 (
frX P 130 "BadPath" "BadPath.small_words" 329 27 5 15 (
frX P 149 "BadKind" "BadKind.small_words" 352 31 6 15 (
frX P 168 "NoAccount" "NoAccount.small_words" 375 35 7 15 (
frX P 187 "Twice" "Twice.small_words" 398 39 8 15 (
frX P 206 "NotOpen" "NotOpen.small_words" 421 43 9 15 (
frX P 225 "HasBelow" "HasBelow.small_words" 444 47 10 16 (
frX P 244 "BadRow" "BadRow.small_words" 467 51 11 16 (
frX P 263 "NoBooking" "NoBooking.small_words" 490 55 12 16 (
frX P 282 "Undone" "Undone.small_words" 513 59 13 16 (
frX P 301 "Closed" "Closed.small_words" 536 63 14 16 (
frX P 320 "NotNext" "NotNext.small_words" 559 67 15 16 (
frC BG 339 "is_whole" (top 20) 584 72 1 1 ["thing"] (
frC BG 346 "is_among" (top 21) 591 74 3 3 ["thing","least","most"] (
frD BG 353 "signs_lie" "signs_lie" (top 22) 600 76 3 (
frC BG 358 "is_name" (top 23) 606 78 1 1 ["thing"] (
frC BG 365 "is_note" (top 24) 613 80 1 1 ["thing"] (
frC JK 372 "is_currency" (top 26) 622 87 1 1 ["thing"] (
frD Jg 379 "turned" "turned" (top 28) 631 90 1 (
frD Jg 384 "sums_of" "sums_of" (top 29) 637 92 1 (
(389,(kT #[(kI 31 645),(kI 28 646),(kI 31 647),(kI 30 648),(kI 31 649),(kI 30 650),(kI 31 651),(kI 31 652),(kI 30 653),(kI 31 654),(kI 30 655),(kI 31 656)]))::
frC y3 390 "is_day" (top 32) 658 99 1 1 ["thing"] (
frC y3 397 "is_month" (top 33) 665 101 1 1 ["thing"] (
frC y3 404 "leap_days" (top 34) 672 103 1 1 ["years"] (
frC y3 411 "first_day" (top 35) 679 105 1 4 ["month","years","ahead","leaps"] (
frC y3 418 "last_day" (top 36) 689 110 1 1 ["month"] (
frC y3 425 "month_of" (top 37) 696 112 1 2 ["day","month"] (
frD Ej 432 "are_names" "are_names" (top 39) 706 120 1 (
frC Ej 437 "is_path" (top 40) 712 122 1 1 ["thing"] (
frC Ej 444 "names_of" (top 41) 719 124 1 1 ["path"] (
frD Ej 451 "above" "above" (top 42) 726 128 1 (
frC Gd 456 "rows_of" (top 44) 734 132 1 3 ["bookings","rows","booking"] (
frD Gd 463 "bookings_up_to" "bookings_up_to" (top 45) 743 137 2 (
frC Gd 468 "balances" (top 46) 749 139 3 3 ["chart","journal","day"] (
frC DC 475 "seal" (top 48) 760 142 3 4 ["chart","journal","month","day"] (
frB DC 489 "__init__" "Seals.__init__" (bv (top 49) 0) 782 149 1 1 ["self"] (
frB DC 496 "put" "Seals.put" (bv (top 49) 1) 789 152 2 2 ["self","told"] (
frB DC 503 "every" "Seals.every" (bv (top 49) 2) 797 155 1 1 ["self"] (
(510,(kT #[(kz "told_seals" 804)]))::
(511,(kO (kY "dict") none (YK #[(kE P "__module__" 777 (kz "evenhall.seals" 758)),(kE P "__firstlineno__" 781 (kI 147 780)),(kE P "__init__" 788 (kR 495)),(kE P "put" 796 (kR 502)),(kE P "every" 803 (kR 509)),(kE P "__static_attributes__" 805 (kR 510)),(kE P "__dict__" 807 (kR 513)),(kE P "__weakref__" 809 (kR 514)),(kE P "__doc__" 810 kN)] 4) #[]))::
(512,(q0 "Seals" 512 511 770 778))::
(513,(q2 806 512))::
(514,(q1 808 512))::
frD C3 517 "carry_rows" "carry_rows" (top 51) 815 158 4 (
frC C3 522 "need_keeper" (top 52) 821 162 3 3 ["chart","path","day"] (
frD C3 529 "need_currencies" "need_currencies" (top 53) 830 167 3 (
frC C3 534 "carry" (top 54) 836 171 4 6 ["chart","journal","month","path","day","rows"] (
frC C3 541 "close" (top 55) 848 178 6 7 ["chart","gate","journal","seals","month","path","told"] (
(548,(kT #[(kz "have" 863),(kz "owe" 864),(kz "own" 865),(kz "gain" 866),(kz "cost" 867)]))::
frB mT 556 "__init__" "Account.__init__" (bv (top 58) 0) 881 190 4 4 ["self","kind","currency","first"] (
frB mT 563 "stands_on" "Account.stands_on" (bv (top 58) 1) 891 197 2 2 ["self","day"] (
frB mT 570 "stands_later" "Account.stands_later" (bv (top 58) 2) 899 200 2 2 ["self","day"] (
(577,(kT #[(kz "below" 907),(kz "currency" 908),(kz "first" 909),(kz "kind" 910),(kz "until" 911)]))::
(578,(kO (kY "dict") none (YK #[(kE P "__module__" 876 (kz "evenhall.chart" 861)),(kE P "__firstlineno__" 880 (kI 188 879)),(kE P "__init__" 890 (kR 562)),(kE P "stands_on" 898 (kR 569)),(kE P "stands_later" 906 (kR 576)),(kE P "__static_attributes__" 912 (kR 577)),(kE P "__dict__" 914 (kR 580)),(kE P "__weakref__" 916 (kR 581)),(kE P "__doc__" 917 kN)] 4) #[]))::
(579,(q0 "Account" 579 578 869 877))::
(580,(q2 913 579))::
(581,(q1 915 579))::
frB mT 591 "__init__" "Chart.__init__" (bv (top 59) 0) 932 204 1 1 ["self"] (
frB mT 598 "add_top" "Chart.add_top" (bv (top 59) 1) 939 207 3 3 ["self","name","kind"] (
frB mT 605 "add" "Chart.add" fw 948 216 4 5 ["self","path","currency","day","upper"] (
frD mT 612 "shut" "Chart.shut" (bv (top 59) 3) 959 231 3 (
frB mT 617 "has" "Chart.has" (bv (top 59) 4) 965 243 2 2 ["self","path"] (
frB mT 624 "account" "Chart.account" (bv (top 59) 5) 973 246 2 2 ["self","path"] (
frB mT 631 "kind_of" "Chart.kind_of" (bv (top 59) 6) 981 251 2 2 ["self","path"] (
frB mT 638 "currency_of" "Chart.currency_of" (bv (top 59) 7) 989 254 2 2 ["self","path"] (
frA 645 "span_of" "Chart.span_of" 997 257 2 2 ["self","path"] (kO (kY "function") none (Data.func (FuncData.mk (kS "span_of") (kS "Chart.span_of") (Arguments.mk [] [(Arg.mk (kS "self") none (Pos.mk 257 16 257 20)),(Arg.mk (kS "path") none (Pos.mk 257 22 257 26))] none [] [] none []) (FuncBody.stmts [(Stmt.Expr (Expr.Call (Expr.Name (kS "_wall") (Pos.mk 258 8 258 13)) [(Expr.Constant (Const.int 16) 0 (Pos.mk 258 14 258 16))] [] (Pos.mk 258 8 258 17)) (Pos.mk 258 8 258 17))]) (Scope.mk YB [((kS "self"),NameKind.local),((kS "path"),NameKind.local),((kS "_wall"),Y6)] false false []) 3 [] kN kN kN (kz "evenhall.chart" 861) none (kR 650) kN 0)) #[]) (
frB mT 652 "is_open" "Chart.is_open" (bv (top 59) 9) 1005 260 3 3 ["self","path","day"] (
frB mT 659 "beneath" "Chart.beneath" (bv (top 59) 10) 1014 263 2 2 ["self","path"] (
frA 666 "accounts" "Chart.accounts" 1022 266 1 1 ["self"] (kO (kY "function") none (Data.func (FuncData.mk (kS "accounts") (kS "Chart.accounts") (Arguments.mk [] [(Arg.mk (kS "self") none (Pos.mk 266 17 266 21))] none [] [] none []) (FuncBody.stmts [(Stmt.Expr (Expr.Call (Expr.Name (kS "_wall") (Pos.mk 267 8 267 13)) [(Expr.Constant (Const.int 17) 0 (Pos.mk 267 14 267 16))] [] (Pos.mk 267 8 267 17)) (Pos.mk 267 8 267 17))]) (Scope.mk YB [((kS "self"),NameKind.local),((kS "_wall"),Y6)] false false []) 3 [] kN kN kN (kz "evenhall.chart" 861) none (kR 671) kN 0)) #[]) (
(673,(kT #[(kz "by_path" 1029)]))::
(674,(kO (kY "dict") none (YK #[(kE P "__module__" 927 (kz "evenhall.chart" 861)),(kE P "__firstlineno__" 931 (kI 202 930)),(kE P "__init__" 938 (kR 597)),(kE P "add_top" 947 (kR 604)),(kE P "add" 958 (kR 611)),(kE P "shut" 964 (kR 616)),(kE P "has" 972 (kR 623)),(kE P "account" 980 (kR 630)),(kE P "kind_of" 988 (kR 637)),(kE P "currency_of" 996 (kR 644)),(kE P "span_of" 1004 (kR 651)),(kE P "is_open" 1013 (kR 658)),(kE P "beneath" 1021 (kR 665)),(kE P "accounts" 1028 (kR 672)),(kE P "__static_attributes__" 1030 (kR 673)),(kE P "__dict__" 1032 (kR 676)),(kE P "__weakref__" 1034 (kR 677)),(kE P "__doc__" 1035 kN)] 4) #[]))::
(675,(q0 "Chart" 675 674 920 928))::
(676,(q2 1031 675))::
(677,(q1 1033 675))::
frC IA 680 "need_note_and_gate" (top 61) 1040 269 3 3 ["gate","day","note"] (
frD IA 687 "undo" "undo" (top 62) 1049 274 6 (
frB iw 699 "__init__" "Gate.__init__" (bv (top 64) 0) 1069 287 1 1 ["self"] (
frB iw 706 "closed" "Gate.closed" (bv (top 64) 1) 1076 290 1 1 ["self"] (
frB iw 713 "lets" "Gate.lets" (bv (top 64) 2) 1083 293 2 2 ["self","day"] (
frB iw 720 "need_next" "Gate.need_next" (bv (top 64) 3) 1091 296 2 2 ["self","month"] (
frB iw 727 "shut" "Gate.shut" (bv (top 64) 4) 1099 302 2 2 ["self","month"] (
(734,(kT #[(kz "last_closed" 1107)]))::
(735,(kO (kY "dict") none (YK #[(kE P "__module__" 1064 (kz "evenhall.journal" 1055)),(kE P "__firstlineno__" 1068 (kI 285 1067)),(kE P "__init__" 1075 (kR 705)),(kE P "closed" 1082 (kR 712)),(kE P "lets" 1090 (kR 719)),(kE P "need_next" 1098 (kR 726)),(kE P "shut" 1106 (kR 733)),(kE P "__static_attributes__" 1108 (kR 734)),(kE P "__dict__" 1110 (kR 737)),(kE P "__weakref__" 1112 (kR 738)),(kE P "__doc__" 1113 kN)] 4) #[]))::
(736,(q0 "Gate" 736 735 1057 1065))::
(737,(q2 1109 736))::
(738,(q1 1111 736))::
frB iw 748 "__init__" "Journal.__init__" (bv (top 65) 0) 1128 307 1 1 ["self"] (
frB iw 755 "put" "Journal.put" (bv (top 65) 1) 1135 311 5 6 ["self","day","note","rows","undoes","number"] (
frB iw 762 "many" "Journal.many" (bv (top 65) 2) 1147 318 1 1 ["self"] (
frB iw 769 "booking" "Journal.booking" (bv (top 65) 3) 1154 321 2 2 ["self","number"] (
frB iw 776 "every" "Journal.every" (bv (top 65) 4) 1162 326 1 1 ["self"] (
frB iw 783 "undone_by" "Journal.undone_by" (bv (top 65) 5) 1169 329 2 2 ["self","number"] (
(790,(kT #[(kz "bookings" 1177),(kz "undoings" 1178)]))::
(791,(kO (kY "dict") none (YK #[(kE P "__module__" 1123 (kz "evenhall.journal" 1055)),(kE P "__firstlineno__" 1127 (kI 305 1126)),(kE P "__init__" 1134 (kR 754)),(kE P "put" 1146 (kR 761)),(kE P "many" 1153 (kR 768)),(kE P "booking" 1161 (kR 775)),(kE P "every" 1168 (kR 782)),(kE P "undone_by" 1176 (kR 789)),(kE P "__static_attributes__" 1179 (kR 790)),(kE P "__dict__" 1181 (kR 793)),(kE P "__weakref__" 1183 (kR 794)),(kE P "__doc__" 1184 kN)] 4) #[]))::
(792,(q0 "Journal" 792 791 1116 1124))::
(793,(q2 1180 792))::
(794,(q1 1182 792))::
frC cO 797 "_law_cell_at" (top 67) 1189 332 2 2 ["_law_script","_law_k"] (
frC cO 804 "_law_whole" (top 68) 1197 336 1 1 ["_law_found"] (
frD cO 811 "_law_names" "_law_names" (top 69) 1204 338 1 (
frD cO 816 "_law_currencies" "_law_currencies" (top 70) 1210 346 1 (
frC cO 821 "_law_start" (top 71) 1216 349 1 1 ["_law_year"] (
frC cO 828 "_law_lengths" (top 72) 1223 351 1 2 ["_law_year","_law_second"] (
frC cO 835 "_law_month_ends" (top 73) 1231 354 1 3 ["_law_month_here","_law_lengths_here","_law_first"] (
frC cO 842 "_law_month" (top 74) 1240 358 1 3 ["_law_day_here","_law_year","_law_month_here"] (
frC cO 849 "_law_base" (top 75) 1249 368 1 2 ["_law_script","_law_cell"] (
frC cO 856 "_law_day" (top 76) 1257 371 2 2 ["_law_script","_law_k"] (
frC cO 863 "_law_accounts" bq 1265 373 1 13 ["_law_script","_law_names_here","_law_currencies_here","_law_cell","_law_kinds","_law_tops","_law_accounts_here","_law_k","_law_some","_law_more","_law_upper","_law_until","_law_currency"] (
frC cO 870 "_law_chart" (top 78) 1284 392 1 7 ["_law_accounts_here","_law_chart_here","_law_path_here","_law_currency","_law_first","_law_until","_law_kind"] (
frC cO 877 "_law_is_open" (top 79) 1297 404 3 5 ["_law_accounts_here","_law_path_here","_law_day_here","_law_first","_law_until"] (
frD cO 884 "_law_rows_by" "_law_rows_by" (top 80) 1308 407 4 (
frD cO 889 "_law_balances" "_law_balances" (top 81) 1314 418 2 (
frD cO 894 "_law_carry" "_law_carry" (top 82) 1320 425 4 (
frD cO 899 "_law_due" "_law_due" (top 83) 1326 433 4 (
frC cO 904 "_law_word" (top 84) 1332 451 1 2 ["_law_e","_law_words"] (
frD cO 911 "_law_closed" "_law_closed" (top 85) 1340 456 4 (
frD cO 916 "_law_path" "_law_path" (top 86) 1346 466 2 (
frC cO 921 "_law_close" (top 87) 1352 472 5 8 ["_law_held","_law_accounts_here","_law_mine","_law_month_here","_law_path_here","_law_due_here","_law_found","_law_e"] (
frD cO 928 "_law_step" "_law_step" bC 1366 479 5 (
frD cO 933 "_law_carry_undone" "_law_carry_undone" (top 89) 1372 505 4 (
frD cO 938 "law" "law" c_ 1378 519 1 ( [])))))))))))))))))))))))))))))))))))))))))))))))))))))))))))))))))))))))))))))))))))))))))))))))))))
noncomputable def frag(P:Params):W.Frag:=by
 refine(fun(x:W.Frag) (_:x=Fn P)=>x) ?l ?h
 case h=>
  dsimp only[Fn,frB,frC,frD,frA,frX,frP,Nat.reduceAdd];dsimp only[OfNat.ofNat,instOfNatNat];exact rfl
noncomputable def adrs:List Addr:=(frag { strHash:=fun _=>0,shareClass:=fun _=>0,mergeTok:=id,idOf:=fun _=>0,idOfShared:=fun _ _=>0,followText:=fun _=>true,idOfImm:=fun _=>0 }).map (·.1)
theorem adrs_eq(P:Params):adrs=(frag P).map (·.1):=by kernel_rfl
noncomputable def vw:Program:=PySem.W.view qZ [0,2,3,4,5,6,7,8,9,10,11,12,13,14,15,16,17,18,20,21,22,23,24,26,28,29,31,32,33,34,35,36,37,39,40,41,42,44,45,46,48,49,51,52,53,54,55,57,58,59,61,62,64,65,67,68,69,70,71,72,73,74,75,76,77,78,79,80,81,82,83,84,85,86,87,88,89,90]
open PySem.W in
noncomputable def tree0(P:Params):BT:=(.node (boot_o_0 P) (.node (boot_o_1 P) (.node (boot_o_3 P) (.node (boot_o_7 P) .nil .nil) .nil) (.node (boot_o_5 P) (.node (boot_o_9 P) .nil .nil) .nil)) (.node (boot_o_2 P) (.node (boot_o_4 P) (.node (boot_o_8 P) .nil .nil) .nil) (.node (boot_o_6 P) (.node (boot_o_10 P) .nil .nil) .nil)))
open PySem.W PyProof.Rows in
noncomputable def ran(p:Program)(t:BT)(b:Heap)(w:World)(os:OsState):Option SharedT:=TR.go p w 11 (some (.ref 6)) 15488 ⟨t,11,b.life,Array.mk [],boot_drawn,boot_toks,os⟩ (topStub p)
theorem DZ{α β γ:Type}{o:Option α}{f:α->β}{g:α->γ}{a:β}{b:γ}(e:o.map (fun x=>(f x,g x))=some (a,b)):o.map f=some a:=by
 cases o with
 |none=>cases e
 |some x=>cases e;rfl
theorem Ag{α β γ:Type}{o:Option α}{f:α->β}{g:α->γ}{a:β}{b:γ}(e:o.map (fun x=>(f x,g x))=some (a,b)):o.map g=some b:=by
 cases o with
 |none=>cases e
 |some x=>cases e;rfl
noncomputable def runP(p v:Program)(t:PySem.W.BT)(b:Heap)(l:List Addr)(w:World)(os:OsState):=(ran p t b w os).map fun x=>(TR.lookB p b x.abs,((TR.s1 v x.abs,TR.s3 v x.abs),l.map (TR.atT x)))
noncomputable def runQ(p v:Program)(c:PySem.W.WRecords)(t:PySem.W.BT)(b:Heap)(w:World)(os:OsState):=(ran p t b w os).map fun x=>TR.s2 p v c x.abs
open PyProof PyProof.Rows PySem.W in
noncomputable def goodP(v:Program)(r:List (Option Obj))(_:OsState):=some (true,((expectedOf v,TR.d3 v),r))
lay_quick K23.runP
lay_quick K23.runQ
lay_quick K23.goodP
theorem gP(w:World):PySem.W.Fast.tw3919138605612343271 qZ vw (tree0 w.params) (PySem.W.boot_heap w.params) adrs w=PySem.W.Fast.tw9271564915413146265 vw ((frag w.params).map fun p=>some p.2):=by kernel_rfl
open PyProof PyProof.Rows in
theorem gQ(w:World):PySem.W.Fast.tw12399264292756943116 qZ vw (PySem.W.RowW.records (PySem.W.OpenRow.toRowW (PySem.W.OpenLaw.row vz))) (tree0 w.params) (PySem.W.boot_heap w.params) w=fun _=>some (PySem.bltViewBooted,true,true):=by kernel_rfl
theorem left:PySem.W.LeftO qZ vw [] (fun s=>PySem.W.xlAt vw [] s&&PySem.W.recOk (PySem.W.RowW.records (PySem.W.OpenRow.toRowW (PySem.W.OpenLaw.row vz))) s) (Yb frag adrs adrs_eq).obs (Yb frag adrs adrs_eq).val 15488:=
 TR.left (lo:=11) (an:=some (.ref 6)) (tr:=tree0) (PySem.W.boot_open (by kernel_rfl) (by decide) (fun s=>by kernel_rfl)) (fun P=>by kernel_rfl) (fun P=>by kernel_rfl) fun w=>funext fun os=>
  have a:=congrFun ((congrFun (congrFun (congrFun (congrFun (congrFun (congrFun PySem.W.Fast.te3919138605612343271 _) _) _) _) _) w).trans ((gP w).trans (congrFun (congrFun PySem.W.Fast.te9271564915413146265 _) _).symm)) os;have b:=congrFun ((congrFun (congrFun (congrFun (congrFun (congrFun (congrFun PySem.W.Fast.te12399264292756943116 _) _) _) _) _) w).trans (gQ w)) os
  TR.three (DZ a) (TR.seen3 (DZ (DZ (Ag a))) b (Ag (DZ (Ag a)))) (TR.atTs (Ag (Ag a)))
noncomputable def wsaid(l:PySem.W.OpenLaw):Bool:=PySem.W.OpenLaw.wellSaid l
lay_quick K23.wsaid
theorem ws:wsaid vz=true:=(congrFun PySem.W.Fast.te14745252880334420953 _).trans (by kernel_rfl)
end K23
namespace L2
open PySem PySem.Spec PyProof.Rows
abbrev Key:=Sum Int Str
def rQ:Key->Value->Bool
 | .inl k,v=>Value.isInt k v
 | .inr x,v=>Value.isStrOf x v
def JO(w:World):Key->Int
 | .inl k=>hashInt k
 | .inr x=>hashStr w x
theorem b9:∀ {k:Key} {v:Value},rQ k v=true->(∃i t,k=Sum.inl i/\v=Value.int i t)\/(∃x t,k=Sum.inr x/\v=YM x t)
 | .inl i,v,h=>by
  obtain⟨t,e⟩:=Value.isInt_shape (k:=i) (v:=v) h;exact .inl ⟨i,t,rfl,e⟩
 | .inr x,v,h=>by
  obtain⟨t,e⟩:=Value.isStrOf_shape (x:=x) (v:=v) h;exact .inr ⟨x,t,rfl,e⟩
theorem zr(i:Int)(t:Tok):rQ (.inl i) (.int i t)=true:=by simp[rQ,Value.isInt]
theorem zh(x:Str)(t:Tok):rQ (.inr x) (.str x t)=true:=by simp[rQ,Value.isStrOf]
theorem GQ(a b:Int):decide ((Sum.inl a:Key)=Sum.inl b)=(a==b):=by
 by_cases e:a=b
 ·subst e;simp
 ·have h:¬ (Sum.inl a:Key)=Sum.inl b:=fun q=>e (Sum.inl.inj q)
  rw[decide_eq_false h];exact(beq_eq_false_iff_ne.mpr e).symm
theorem Fv(a b:Str):decide ((Sum.inr a:Key)=Sum.inr b)=decide (a=b):=by
 by_cases e:a=b
 ·subst e;simp
 ·have h:¬ (Sum.inr a:Key)=Sum.inr b:=fun q=>e (Sum.inr.inj q)
  rw[decide_eq_false h,decide_eq_false e]
theorem FZ(a:Int)(b:Str):decide ((Sum.inl a:Key)=Sum.inr b)=false:=decide_eq_false (fun q=>nomatch q)
theorem F8(a:Str)(b:Int):decide ((Sum.inr a:Key)=Sum.inl b)=false:=decide_eq_false (fun q=>nomatch q)
def bK(prog:Program)(w:World):PySem.KeyKind prog w Key where
 is:=rQ
 hash:=JO w
 inj:=fun v a b ha hb=>by
  rcases b9 ha with ⟨i,t,rfl,rfl⟩|⟨x,t,rfl,rfl⟩
  ·rcases b9 hb with ⟨j,u,rfl,e⟩|⟨y,u,rfl,e⟩
   ·injection e with e1 _;rw[e1]
   ·exact nomatch e
  ·rcases b9 hb with ⟨j,u,rfl,e⟩|⟨y,u,rfl,e⟩
   ·exact nomatch e
   ·injection e with e1 _;rw[e1]
 byValue:=fun k v h=>by
  rcases b9 h with ⟨i,t,rfl,rfl⟩|⟨x,t,rfl,rfl⟩ <;> rfl
 pyHash:=fun hv h=>by
  rcases b9 hv with ⟨i,t,rfl,rfl⟩|⟨x,t,rfl,rfl⟩
  ·exact wpAny_pyHash_int h
  ·exact wpAny_pyHash_str h
 eqBool:=fun hu hv h=>by
  rcases b9 hu with ⟨i,t,rfl,rfl⟩|⟨x,t,rfl,rfl⟩
  ·rcases b9 hv with ⟨j,u,rfl,rfl⟩|⟨y,u,rfl,rfl⟩
   ·rw[GQ]at h;exact wpAny_eqBool_int h
   ·rw[FZ]at h;exact SeqAt.EqAt.int_str i t y u _ _ _ _ h
  ·rcases b9 hv with ⟨j,u,rfl,rfl⟩|⟨y,u,rfl,rfl⟩
   ·rw[F8]at h;exact SeqAt.EqAt.str_int x t j u _ _ _ _ h
   ·rw[Fv]at h;exact wpAny_eqBool_str h
 «strs»:=fun k x t v h=>by
  rcases b9 h with ⟨i,u,rfl,e⟩|⟨y,u,rfl,e⟩
  ·exact nomatch e
  ·injection e with e1 _
   subst e1;cases v <;> rfl
theorem uJ(prog:Program)(w:World)(i:Int)(t:Tok):(bK prog w).is (.inl i) (.int i t)=true:=zr i t
theorem we(prog:Program)(w:World)(x:Str)(t:Tok):(bK prog w).is (.inr x) (.str x t)=true:=zh x t
set_option genInjectivity true in
inductive V where
 |non|bl (b:Bool)|int (i:Int)|str (x:Str)|byt (b:Array UInt8)|flt (b:UInt64)|ref (a:Addr)|ty (n:String)
 deriving DecidableEq
def RelV:V->Value->Prop
 | .non,u=>u=ZO
 | .bl b,u=>u=Value.bool b
 | .int i,u=>∃t,u=Value.int i t
 | .str x,u=>∃t,u=YM x t
 | .byt b,u=>∃t,u=Value.bytes b t
 | .flt b,u=>∃t,u=Value.float b t
 | .ref a,u=>u=yW a
 | .ty n,u=>u=YU n
abbrev Vals:List V->List Value->Prop:=Paired RelV
theorem Vals.length{xs:List V}{us:List Value}(r:Vals xs us):xs.length=us.length:=Paired.length r
theorem Vals.get:∀ {xs:List V} {us:List Value} {i:Nat} {x:V},Vals xs us->xs[i]? = some x->∃u,us[i]? = some u/\RelV x u
 |_,_,_,_,.nil,e=>by simp at e
 |_,_,0,_,.cons r _,e=>by simp at e;subst e;exact⟨_,rfl,r⟩
 |_,_,i+1,x,.cons _ t,e=>by
  obtain⟨u,h1,h2⟩:=Vals.get (i:=i) (x:=x) t (by simpa using e);exact⟨u,by simpa using h1,h2⟩
theorem Vals.append:∀ {xs ys:List V} {us ws:List Value},Vals xs us->Vals ys ws->Vals (xs++ys) (us++ws)
 |_,_,_,_,.nil,s=>s
 |_,_,_,_,.cons r t,s=>.cons r (Vals.append t s)
theorem Vals.take:∀ {xs:List V} {us:List Value} (n:Nat),Vals xs us->Vals (xs.take n) (us.take n)
 |_,_,0,_=>.nil
 |_,_,_+1,.nil=>.nil
 |_,_,n+1,.cons r t=>.cons r (Vals.take n t)
theorem Vals.drop:∀ {xs:List V} {us:List Value} (n:Nat),Vals xs us->Vals (xs.drop n) (us.drop n)
 |_,_,0,r=>r
 |_,_,_+1,.nil=>.nil
 |_,_,n+1,.cons _ t=>Vals.drop n t
def RelO:Option V->Option Value->Prop
 |some v,some u=>RelV v u
 |none,none=>True
 |_,_=>False
def KV{κ:Type}:List (κ × V)->List (κ × Value)->Prop:=Paired fun(p:κ × V) (q:κ × Value)=>p.1=q.1/\RelV p.2 q.2
def kV:Key->V
 | .inl i=>.int i
 | .inr x=>.str x
set_option genInjectivity true in
inductive HO where
 |lst (xs:List V)
 |tup (xs:List V)
 |dK (kvs:List (Key × V))|dT (kvs:List (List Key × V))
 |set (S:Int->Bool) (n:Nat)
 |ins (C dx:Addr) (fs:List (Str × V))
 |own (x:Addr)
 |xd (fs:List (Str × V))
 |met (f x:Addr)
 |rng (lo hi:Int)
 |frz (o:Obj) (u:HO)
 |tbl (ps:Array Value)
 |ext (φ:Heap->Prop)
abbrev Hp:=Addr->Option HO
def upd(H:Hp)(a:Addr)(o:HO):Hp:=fun b=>if b=a then some o else H b
theorem ad:upd H a o a=some o:=by unfold upd;rw[if_pos rfl]
theorem ag(h:b≠a):upd H a o b=H b:=by unfold upd;rw[if_neg h]
theorem oB:upd (upd H a o) a u=upd H a u:=by
 funext b;unfold upd;split <;> rfl
theorem IB{H:Hp}{a b:Addr}{o u:HO}(h:H a=some o)(h':H b=some u)(d:o≠u):a≠b:=by
 intro e;subst e;rw[h]at h';exact d (tZ h')
theorem az{H:Hp}{a b:Addr}{o:HO}(h:H a=some o)(h':H b=none):a≠b:=by
 intro e;subst e;rw[h]at h';cases h'
section
variable(P:Program)(w:World)
def ObjOk(H:Hp)(h:Heap)(a:Addr):HO->Prop
 | .lst xs=>xs.length<=sizeLine/\∃(its:List Value) (n:Nat),Vals xs its/\h.get? a=some { cls:=.type "list",data:=.seq its.toArray n }
 | .tup xs=>xs.length<=sizeLine/\∃its:List Value,Vals xs its/\IsTup h a its.toArray
 | .dK kvs=>kvs.length<=sizeLine/\(a==ZT)=false/\∃vs,KV kvs vs/\h.DictOf (bK P w) a vs
 | .dT kvs=>kvs.length<=sizeLine/\(a==ZT)=false/\∃xs:List (List Key × Addr × Value),
  Paired (fun(p:List Key × V) (q:List Key × Addr × Value)=>p.1=q.1/\H q.2.1=some (.tup (p.1.map kV))/\RelV p.2 q.2.2) kvs xs /\
  ∃o es ep,h.get? a=some o/\o.ExactDict/\o.data = .dict es ep/\es.toList=xs.map (entryOfKey (tupleKind (bK P w)))/\(xs.map (·.1)).Nodup
 | .set S n=>h.SetOf (intKind P w) a S n
 | .ins C dx fs=>H dx=some (.own a)/\fs.length<=1000/\dx≠a/\h.get? a=some (Z1 C dx) /\
  ∃mA,h.Ns1 dx mA/\(∀f,RelO (fs.lookup f) (mA f))/\PySem.Within mA (fs.map (·.1))
 | .own _=>∃o,h.get? a=some o
 | .xd fs=>∃mA,h.Ns1 a mA/\∀f,RelO (fs.lookup f) (mA f)
 | .rng lo hi=>∃t u v,h.get? a=some { cls:=.type "range",data:=.fields #[.int lo t,.int hi u,.int 1 v] }
 | .frz o u=>h.get? a=some o/\ObjOk H h a u
 | .tbl ps=>h.get? a=some { cls:=.none,data:=.fields ps }
 | .met f x=>h.get? a=some (PySem.W.methodObj (.ref f) (.ref x))
 | .ext φ=>φ h/\(∃o,h.get? a=some o)/\∀h1 h2:Heap,φ h1->(∀o,h1.get? a=some o->h2.get? a=some o)->φ h2
def HOk(H:Hp)(h:Heap):Prop:=∀a o,H a=some o->ObjOk P w H h a o
end
section
variable{P:Program}{w:World}{H H':Hp}{h h':Heap}{a:Addr}{o:HO}
theorem ObjOk.lt(x:ObjOk P w H h a o):a<h.objs.size:=by
 cases o with
 |lst xs=>obtain⟨_,_,_,_,e⟩:=x;exact xb e
 |tup xs=>obtain⟨_,_,_,p⟩:=x;exact p.lt
 |dK kvs=>obtain⟨_,_,_,_,o,_,_,e,_⟩:=x;exact xb e
 |dT kvs=>obtain⟨_,_,_,_,o,_,_,e,_⟩:=x;exact xb e
 |set S n=>obtain⟨o,_,_,_,e,_⟩:=x;exact xb e
 |ins C dx fs=>obtain⟨_,_,_,e,_⟩:=x;exact xb e
 |own y=>obtain⟨_,e⟩:=x;exact xb e
 |xd fs=>obtain⟨_,⟨_,_,_,e,_⟩,_⟩:=x;exact xb e
 |rng lo hi=>obtain⟨_,_,_,e⟩:=x;exact xb e
 |frz ob u=>obtain⟨e,_⟩:=x;exact xb e
 |tbl ps=>exact xb (show h.get? a=some _ from x)
 |met f y=>exact xb (show h.get? a=some _ from x)
 |ext φ=>obtain⟨_,⟨_,e⟩,_⟩:=x;exact xb e
theorem Paired.mapP{α β:Type}{F G:α->β->Prop}:∀ {l₁:List α} {l₂:List β},Paired F l₁ l₂->(∀a b,F a b->G a b)->Paired G l₁ l₂
 |_,_,.nil,_=>.nil
 |_,_,.cons r t,f=>.cons (f _ _ r) (Paired.mapP t f)
theorem ObjOk.stay(x:ObjOk P w H h a o)(k:∀b u,(b=a\/H b=some (.own a))->h.get? b=some u->h'.get? b=some u)
 (ho:∀b,H b=some (.own a)->H' b=some (.own a)) (ht:∀b xs,H b=some (.tup xs)->H' b=some (.tup xs)):ObjOk P w H' h' a o:=by
 induction o with
 |lst xs=>obtain⟨z,its,n,r,e⟩:=x;exact⟨z,its,n,r,k _ _ (.inl rfl) e⟩
 |tup xs=>obtain⟨z,its,r,ob,e,c⟩:=x;exact⟨z,its,r,ob,k _ _ (.inl rfl) e,c⟩
 |dK kvs=>obtain⟨z,y,vs,r,ob,es,ep,e,c⟩:=x;exact⟨z,y,vs,r,ob,es,ep,k _ _ (.inl rfl) e,c⟩
 |dT kvs=>
  obtain⟨z,y,xs,r,ob,es,ep,e,c⟩:=x;exact⟨z,y,xs,Paired.mapP r fun p q z=>⟨z.1,ht _ _ z.2.1,z.2.2⟩,ob,es,ep,k _ _ (.inl rfl) e,c⟩
 |set S n=>obtain⟨ob,es,ep,t,e,c⟩:=x;exact⟨ob,es,ep,t,k _ _ (.inl rfl) e,c⟩
 |ins C dx fs=>
  obtain⟨d,z,ne,e,mA,⟨od,es,ep,e2,c⟩,r⟩:=x;exact⟨ho _ d,z,ne,k _ _ (.inl rfl) e,mA,⟨od,es,ep,k _ _ (.inr d) e2,c⟩,r⟩
 |own y=>obtain⟨ob,e⟩:=x;exact⟨ob,k _ _ (.inl rfl) e⟩
 |xd fs=>obtain⟨mA,⟨od,es,ep,e,c⟩,r⟩:=x;exact⟨mA,⟨od,es,ep,k _ _ (.inl rfl) e,c⟩,r⟩
 |rng lo hi=>obtain⟨t,u,v,e⟩:=x;exact⟨t,u,v,k _ _ (.inl rfl) e⟩
 |frz ob u ih=>obtain⟨e,q⟩:=x;exact⟨k _ _ (.inl rfl) e,ih q⟩
 |tbl ps=>
  have e:h.get? a=some { cls:=.none,data:=.fields ps }:=x;show h'.get? a=some { cls:=.none,data:=.fields ps };exact k a _ (.inl rfl) e
 |met f y=>
  have e:h.get? a=some (PySem.W.methodObj (.ref f) (.ref y)):=x;show h'.get? a=some (PySem.W.methodObj (.ref f) (.ref y));exact k a _ (.inl rfl) e
 |ext φ=>obtain⟨p,⟨o,e⟩,st⟩:=x;exact⟨st _ _ p fun o q=>k _ _ (.inl rfl) q,⟨o,k _ _ (.inl rfl) e⟩,st⟩
theorem HOk.lt(x:HOk P w H h)(e:H a=some o):a<h.objs.size:=(x a o e).lt
theorem HOk.fresh(x:HOk P w H h)(e:h.objs.size<=a):H a=none:=by
 cases q:H a with
 |none=>rfl
 |some u=>exact absurd (vD (x.lt q) e) (ZQ _)
theorem HOk.kept(x:HOk P w H h)(k:∀b u,h.get? b=some u->h'.get? b=some u):HOk P w H h':=fun a o e=>
 (x a o e).stay (fun b u _ q=>k b u q) (fun _ q=>q) fun _ _ q=>q
theorem HOk.laid(x:HOk P w H h)(k:∀b u,h.get? b=some u->h'.get? b=some u)(hp:h.objs.size<=a)(new:ObjOk P w (upd H a o) h' a o):HOk P w (upd H a o) h':=fun b u e=>by
 have hn:=x.fresh hp;by_cases hb:b=a
 ·subst hb;rw[ad]at e;cases e;exact new
 ·rw[ag hb]at e
  exact(x b u e).stay (fun c v _ q=>k c v q) (fun c q=>by rw[ag (az q hn)];exact q) fun c xs q=>by rw[ag (az q hn)];exact q
end
def Rd(H:Hp)(a:Addr)(u:HO):Prop:=H a=some u\/∃o,H a=some (.frz o u)
theorem Rd.ok{P:Program}{w:World}{H:Hp}{h:Heap}{a:Addr}{u:HO}(r:Rd H a u)(x:HOk P w H h):ObjOk P w H h a u:=by
 rcases r with r|⟨o,r⟩
 ·exact x a u r
 ·obtain⟨_,q⟩:=x a _ r
  exact q
def Mut:Option HO->Prop
 |some (.lst _)=>True
 |some (.dK _)=>True
 |some (.dT _)=>True
 |some (.set _ _)=>True
 |some (.ins _ _ _)=>True
 |some (.ext _)=>True
 |_=>False
section
variable{P:Program}{w:World}{H:Hp}{h h':Heap}{x e:Addr}{o':HO}
theorem HOk.write(ok:HOk P w H h)(mu:Mut (H x))(he:e=x\/H e=some (.own x))(k:∀b u,b≠e->h.get? b=some u->h'.get? b=some u)(heo:∃u,h'.get? e=some u)
 (new:ObjOk P w (upd H x o') h' x o'):HOk P w (upd H x o') h':=fun b u q=>by
 have nown:∀c y,H c=some (.own y)->c≠x:=fun c y r z=>by subst z;rw[r]at mu;exact mu
 have ntup:∀c xs,H c=some (.tup xs)->c≠x:=fun c xs r z=>by subst z;rw[r]at mu;exact mu
 by_cases hb:b=x
 ·subst hb;rw[ad]at q;cases q;exact new
 ·rw[ag hb]at q
  by_cases hbe:b=e
  ·have q':H b=some (.own x):=by
    rcases he with z|z
    ·exact absurd (hbe.trans z) hb
    ·rw[hbe];exact z
   rw[q]at q';cases q';obtain⟨v,hv⟩:=heo;exact⟨v,by rw[hbe];exact hv⟩
  ·refine(ok b u q).stay (fun c v hc r=>k c v ?_ r) (fun c r=>by rw[ag (nown c b r)];exact r) fun c xs r=>by rw[ag (ntup c xs r)];exact r
   rcases hc with rfl|hc
   ·exact hbe
   ·rintro rfl
    rcases he with z|z
    ·exact nown c b hc z
    ·rw[hc]at z;cases z;exact hb rfl
end
structure Un(fs ex:List Addr)(H H':Hp)(h h':Heap):Prop where
 keep:∀b o,h.get? b=some o->H b=none->b∉fs->b∉ex->h'.get? b=some o
 slot:∀b o,h.get? b=some o->H b=none->b∈fs->b∉ex->∃sl,h'.get? b=some { o with slots:=sl }
 free:∀b o,h.get? b=some o->H b=none->b∉ex->H' b=none
 there:∀b o,h.get? b=some o->b∉ex->∃o',h'.get? b=some o'
 tups:∀b xs,H b=some (.tup xs)->H' b=some (.tup xs)
 frzs:∀b o u,H b=some (.frz o u)->H' b=some (.frz o u)
 tbls:∀b ps,H b=some (.tbl ps)->∃more,H' b=some (.tbl (ps++more))
section
variable{fs fs' ex ex':List Addr}{H H1 H2:Hp}{h h1 h2 h':Heap}{a x e:Addr}{o:HO}
theorem Un.any(u:Un fs ex H H1 h h1){b:Addr}{ob:Obj}(q:h.get? b=some ob)(n:H b=none)(hx:b∉ex):∃sl,h1.get? b=some { ob with slots:=sl }:=by
 by_cases hb:b∈fs
 ·exact u.slot b ob q n hb hx
 ·exact⟨ob.slots,u.keep b ob q n hb hx⟩
theorem Un.kept(k:∀b u,h.get? b=some u->h'.get? b=some u):Un fs ex H H h h':=
 ⟨fun b ob q _ _ _=>k b ob q,fun b ob q _ _ _=>⟨ob.slots,k b ob q⟩,fun _ _ _ n _=>n,fun b ob q _=>⟨ob,k b ob q⟩,fun _ _ q=>q,fun _ _ _ q=>q,fun _ ps q=>⟨#[],by rw[q];simp⟩⟩
theorem Un.refl:Un fs ex H H h h:=Un.kept fun _ _ q=>q
theorem Un.laid(k:∀b u,h.get? b=some u->h'.get? b=some u)(hp:h.objs.size<=a)(hn:H a=none):Un fs ex H (upd H a o) h h' where
 keep:=fun b u q _ _ _=>k b u q
 slot:=fun b u q _ _ _=>⟨u.slots,k b u q⟩
 free:=fun b u q n _=>by rw[ag (uj (vD (xb q) hp))];exact n
 there:=fun b u q _=>⟨u,k b u q⟩
 tups:=fun b xs q=>by rw[ag (az q hn)];exact q
 frzs:=fun b u xs q=>by rw[ag (az q hn)];exact q
 tbls:=fun b ps q=>⟨#[],by rw[ag (az q hn),q];simp⟩
theorem Un.write(mu:Mut (H x))(he:e=x\/H e=some (.own x))(k:∀b u,b≠e->h.get? b=some u->h'.get? b=some u)(heo:∃u,h'.get? e=some u):Un fs ex H (upd H x o) h h':=by
 have hx:∀b,H b=none->b≠x:=fun b n z=>by subst z;rw[n]at mu;exact mu
 have hb:∀b,H b=none->b≠e:=fun b n z=>by
  subst z;rcases he with r|r
  ·exact hx b n r
  ·rw[n]at r;cases r
 have hm:∀b u,H b=some u -> ¬ Mut (some u)->b≠x:=fun b u q nm z=>by subst z;rw[q]at mu;exact nm mu
 refine⟨fun b u q n _ _=>k b u (hb b n) q,fun b u q n _ _=>⟨u.slots,k b u (hb b n) q⟩,fun b u q n _=>by rw[ag (hx b n)];exact n,fun b u q _=>?_,
  fun b xs q=>by rw[ag (hm b _ q fun z=>z)];exact q,fun b u xs q=>by rw[ag (hm b _ q fun z=>z)];exact q,fun b ps q=>⟨#[],by rw[ag (hm b _ q fun z=>z),q];simp⟩⟩
 by_cases hbe:b=e
 ·subst hbe;exact heo
 ·exact⟨u,k b u hbe q⟩
end
def trk(h:Heap)(H:Hp):List Addr:=(Zb h.objs.size).filter fun a=>(H a).isSome
def tS(h:Heap)(H:Hp):Heap:=PySem.W.hideAll h (trk h H)
theorem yY(h:Heap)(H:Hp):(tS h H).objs.size=h.objs.size:=PySem.W.hideAll_size _ _
theorem Co{h:Heap}(e:h.get? b=some o)(n:H b=none):(tS h H).get? b=some o:=
 PySem.W.hideAll_get _ e fun hm=>by
  have q:(H b).isSome=true:=(ZV.mp hm).2;rw[n]at q;simp at q
theorem Eo{h:Heap}(e:(tS h H).get? b=some o):h.get? b=some o/\H b=none:=by
 have e':h.get? b=some o:=PySem.W.of_hideAll (trk h H) e;refine⟨e',?_⟩;cases q:H b with
 |none=>rfl
 |some x=>
  have hm:b∈trk h H:=ZV.mpr ⟨List.mem_range.mpr (xb e'),by simp[q]⟩;have z:(tS h H).get? b=none:=PySem.W.hideAll_none (trk h H) hm;rw[z]at e;cases e
def EL(g h:Heap)(L:Addr):List (Addr × Obj):=(Zb h.objs.size).filterMap fun a=>if a=L\/(g.get? a).isSome=true then none else (h.get? a).map fun o=>(a,o)
def rest(g h:Heap)(L d:Addr):List (Addr × Obj):=(EL g h L).filter fun p=>decide (p.1≠d)
structure Mod(K:W.Frag)(mg:Str->Option Value)(base:Heap):Prop where
 kin:K.In base
 glob:base.Ns Za mg
 blt:∃mb,base.Ns builtinsNs mb/\∀x:Str,x ≠ "__name__" -> mb x=Zu x
 nolimit:base.NoLimit
structure Cx where
 prog:Program
 w:World
 K:W.Frag
 mg:Str->Option Value
 base:Heap
 A:Around
 N:List Str
 s₀:Shared
 H₀:Hp
 env:Env
 outer:List Env
 stack:List Env
 ex:List Addr
 fn:Str->Bool
 calm:Bool
 pn:List (Addr × Obj)
 xe:Value->Shared->Prop
def frs(l:List Env):List Addr:=l.filterMap (·.frame)
abbrev Cx.fs(X:Cx):List Addr:=frs X.outer
def Vis(sc:Scope)(x:Str):Prop:=sc.names.lookup x=some .local\/sc.names.lookup x=some .cell\/sc.names.lookup x=some .free
def Loc(sc:Scope)(x:Str):Prop:=sc.names.lookup x=some .local\/sc.names.lookup x=some .cell
def JS(env:Env)(h:Heap)(m:Str->Option Value)(x:Str)(u:Value):Prop:=
 (env.kindOf x=some .local/\m x=some u)\/((env.kindOf x=some .cell\/env.kindOf x=some .free)/\∃c,env.cells.lookup x=some c/\h.IsCell c (some u))
structure Cx.Ok(X:Cx):Prop where
 mod:Mod X.K X.mg X.base
 kind:X.env.scope.kind = .function
 glob:X.env.globals=Za
 blt:X.env.builtins=builtinsNs
 above:X.s₀.heap.objs.size<=X.env.locals
 inj:∀x y c,X.env.cells.lookup x=some c->X.env.cells.lookup y=some c->x=y
 has:∀x,(X.env.kindOf x=some .cell\/X.env.kindOf x=some .free)->∃c,X.env.cells.lookup x=some c
 cab:∀x c,X.fn x=true->X.env.cells.lookup x=some c->X.s₀.heap.objs.size<=c
 hd:X.calm=true->X.A.handled=none
 frames:X.A.frames=some X.stack
 stk:X.stack=X.outer\/(X.stack=X.env::X.outer/\X.env.frame=some X.env.locals)
 exf:∀b∈X.ex,b≠X.env.locals/\∀x c,X.env.cells.lookup x=some c->c≠b
 bs:∀b o,X.base.get? b=some o->X.s₀.heap.get? b=some o/\X.H₀ b=none
 bsz:X.base.objs.size<=X.s₀.heap.objs.size
 noex:∀b o,X.base.get? b=some o->b∉X.ex
 exfs:∀b∈X.ex,b∉X.fs
 funs:X.s₀.heap.FunFrames X.base X.outer
 frf:∀b∈X.fs,X.H₀ b=none
structure Inv(X:Cx)(pins:List (Addr × Obj))(σ:List (Option V))(H:Hp)(s:Shared):Prop where
 ok:X.Ok
 os:s.os=X.s₀.os
 bare:AllBare s.gens
 base:Un X.fs X.ex X.H₀ H X.s₀.heap s.heap
 loc:∃m,s.heap.Ns X.env.locals m/\∀(i:Nat) (x:Str) (v:V),X.N[i]? = some x->σ[i]? = some (some v)->Vis X.env.scope x->∃u,RelV v u/\JS X.env s.heap m x u
 cell:∀x c,X.env.cells.lookup x=some c->∃v,s.heap.IsCell c v
 free:H X.env.locals=none
 freeC:∀x c,X.env.cells.lookup x=some c->H c=none
 pin:∀p∈X.pn++pins,s.heap.get? p.1=some p.2/\H p.1=none/\p.1≠X.env.locals/\p.1∉X.fs/\∀v,p.2.data ≠ .cell v
 hok:HOk X.prog X.w H s.heap
 len:σ.length=X.N.length
section
variable{X:Cx}{pins:List (Addr × Obj)}{σ:List (Option V)}{H H':Hp}{s:Shared}{h':Heap}
theorem Cx.Ok.nofr(ok:X.Ok)(e:X.base.get? b=some o):b∉X.fs:=fun hb=>by
 have:=(ok.funs.mem hb).1;rw[e]at this;cases this
theorem Inv.bs(I:Inv X pins σ H s):∀b o,X.base.get? b=some o->s.heap.get? b=some o/\H b=none:=fun b o e=>
 ⟨I.base.keep b o (I.ok.bs b o e).1 (I.ok.bs b o e).2 (I.ok.nofr e) (I.ok.noex b o e),I.base.free b o (I.ok.bs b o e).1 (I.ok.bs b o e).2 (I.ok.noex b o e)⟩
theorem Inv.bk(I:Inv X pins σ H s):∀b o,X.base.get? b=some o->s.heap.get? b=some o:=fun b o e=>(I.bs b o e).1
theorem Inv.mod(I:Inv X pins σ H s):Mod X.K X.mg X.base:=I.ok.mod
theorem Inv.kIn(I:Inv X pins σ H s):X.K.In s.heap:=I.ok.mod.kin.keeps I.bk
theorem Inv.lt(I:Inv X pins σ H s):X.env.locals<s.heap.objs.size:=let ⟨_,hn,_⟩:=I.loc;hn.lt
theorem Inv.sz(I:Inv X pins σ H s):X.s₀.heap.objs.size<=s.heap.objs.size:=wn I.ok.above (ZD I.lt)
theorem Inv.nofs(I:Inv X pins σ H s)(h:s.heap.objs.size<=a):a∉X.fs:=fun hb=>by
 obtain⟨_,o,ho,_⟩:=I.ok.funs.mem hb;exact absurd (vD (xb ho) (wn I.sz h)) (ZQ _)
theorem Inv.cne(I:Inv X pins σ H s):∀x c,X.env.cells.lookup x=some c->c≠X.env.locals:=fun x c e z=>by
 obtain⟨v,o,ho,hd⟩:=I.cell x c e;obtain⟨m,⟨o',es,ep,ho',hd',_⟩,_⟩:=I.loc;rw[z,ho']at ho;cases ho;rw[hd']at hd;cases hd
theorem Inv.funs(I:Inv X pins σ H s):s.heap.FunFrames X.base X.outer:=by
 have all:∀(l:List Env),(∀b∈frs l,b∈X.fs)->X.s₀.heap.FunFrames X.base l->s.heap.FunFrames X.base l:=by
  intro l
  induction l with
  |nil=>intro _ _;trivial
  |cons env r ih=>
   intro hs hl;obtain⟨hk,⟨L,o,hf,hn,ho,hd⟩,hr⟩:=hl;have hL:L∈X.fs:=hs L (by unfold frs;rw[List.filterMap_cons,hf];exact ZF);obtain⟨sl,e⟩:=I.base.slot L o ho (I.ok.frf L hL) hL fun z=>I.ok.exfs L z hL;exact⟨hk,⟨L,_,hf,hn,e,hd⟩,ih (fun b hb=>hs b (by unfold frs;rw[List.filterMap_cons,hf];exact vf _ hb)) hr⟩
 exact all X.outer (fun _ hb=>hb) I.ok.funs
theorem Inv.stack(I:Inv X pins σ H s):s.heap.FunFrames X.base X.stack:=by
 rcases I.ok.stk with e|⟨e,hf⟩
 ·rw[e];exact I.funs
 ·rw[e]
  obtain⟨m,hn,_⟩:=I.loc;refine .cons (by rw[I.ok.kind];decide) hf hn ?_ I.funs;exact Heap.get?_none_of_le (wn I.ok.bsz I.ok.above)
theorem Inv.stkSub(I:Inv X pins σ H s):∀b∈frs X.stack,b∈X.env.locals::X.fs:=fun b hb=>by
 rcases I.ok.stk with e|⟨e,hf⟩
 ·rw[e]at hb;exact vf _ hb
 ·rw[e]at hb
  unfold frs at hb;rw[List.filterMap_cons,hf]at hb;exact hb
theorem Inv.stkFree(I:Inv X pins σ H s):∀b∈frs X.stack,H b=none:=fun b hb=>by
 rcases zZ.mp (I.stkSub b hb) with e|hb
 ·rw[e];exact I.free
 ·obtain⟨_,o,ho,_⟩:=I.ok.funs.mem hb
  exact I.base.free b o ho (I.ok.frf b hb) fun z=>I.ok.exfs b z hb
theorem Inv.step{g':Array GenState}{t':Nat}{d':Drawn}{ch:List Addr}(I:Inv X pins σ H s)
 (hch:∀b∈ch,(b∈X.ex\/X.s₀.heap.objs.size<=b)/\b≠X.env.locals/\(∀x c,X.env.cells.lookup x=some c->c≠b)/\∀p∈X.pn++pins,p.1≠b)
 (keep:∀b o,b≠X.env.locals->b∉X.fs->b∉ch->s.heap.get? b=some o->H b=none->h'.get? b=some o)
 (slot:∀b o,b≠X.env.locals->b∈X.fs->b∉ch->s.heap.get? b=some o->H b=none->∃sl,h'.get? b=some { o with slots:=sl }) (free:∀b o,b∉ch->s.heap.get? b=some o->H b=none->H' b=none)
 (there:∀b o,b∉ch->s.heap.get? b=some o->∃o',h'.get? b=some o')
 (tups:∀b xs,H b=some (.tup xs)->H' b=some (.tup xs)) (frzs:∀b o u,H b=some (.frz o u)->H' b=some (.frz o u)) (tbls:∀b ps,H b=some (.tbl ps)->∃more,H' b=some (.tbl (ps++more)))
 (ns:∀m,s.heap.Ns X.env.locals m->h'.Ns X.env.locals m) (hok:HOk X.prog X.w H' h') (hg:AllBare g') :
 Inv X pins σ H' { s with heap:=h',gens:=g',drawn:=d',toks:=t' }:=by
 have neL:∀b o,X.s₀.heap.get? b=some o->b≠X.env.locals:=fun b o e=>uj (vD (xb e) I.ok.above);have neC:∀b o,X.s₀.heap.get? b=some o->b∉X.ex->b∉ch:=fun b o e hx hb=>by
  rcases(hch b hb).1 with z|z
  ·exact hx z
  ·exact absurd (vD (xb e) z) (ZQ _)
 have cellK:∀x c,X.env.cells.lookup x=some c->∀v,s.heap.IsCell c v->h'.IsCell c v:=fun x c e v hq_=>by
  obtain⟨o,ho,hd⟩:=hq_;have nch:c∉ch:=fun z=>(hch c z).2.2.1 x c e rfl;by_cases hc:c∈X.fs
  ·obtain⟨sl,q⟩:=slot c o (I.cne x c e) hc nch ho (I.freeC x c e)
   exact⟨_,q,hd⟩
  ·exact⟨o,keep c o (I.cne x c e) hc nch ho (I.freeC x c e),hd⟩
 refine⟨I.ok,I.os,hg,⟨fun b o e n hb hx=>?_,fun b o e n hb hx=>?_,fun b o e n hx=>?_,fun b o e hx=>?_,fun b xs e=>tups b xs (I.base.tups b xs e),fun b o xs e=>frzs b o xs (I.base.frzs b o xs e),fun b ps e=>?_⟩,?_,fun x c e=>?_,?_,fun x c e=>?_,fun p hp=>?_,hok,I.len⟩
 ·exact keep b o (neL b o e) hb (neC b o e hx) (I.base.keep b o e n hb hx) (I.base.free b o e n hx)
 ·obtain⟨sl,e1⟩:=I.base.slot b o e n hb hx
  obtain⟨sl',e2⟩:=slot b _ (neL b o e) hb (neC b o e hx) e1 (I.base.free b o e n hx);exact⟨sl',e2⟩
 ·obtain⟨o',e1⟩:=I.base.there b o e hx
  exact free b o' (neC b o e hx) e1 (I.base.free b o e n hx)
 ·obtain⟨o',e1⟩:=I.base.there b o e hx
  exact there b o' (neC b o e hx) e1
 ·obtain⟨m1,e1⟩:=I.base.tbls b ps e
  obtain⟨m2,e2⟩:=tbls b _ e1;exact⟨m1++m2,by rw[e2,Array.append_assoc]⟩
 ·obtain⟨m,hn,hl⟩:=I.loc
  refine⟨m,ns m hn,fun i x v e1 e2 e3=>?_⟩;obtain⟨u,r,l⟩:=hl i x v e1 e2 e3;refine⟨u,r,?_⟩;rcases l with l|⟨k,c,e,z⟩
  ·exact .inl l
  ·exact .inr ⟨k,c,e,cellK x c e _ z⟩
 ·obtain⟨v,z⟩:=I.cell x c e
  exact⟨v,cellK x c e v z⟩
 ·obtain⟨m,⟨o,_,_,ho,_⟩,_⟩:=I.loc
  exact free _ o (fun z=>(hch _ z).2.1 rfl) ho I.free
 ·obtain⟨v,o,ho,hd⟩:=I.cell x c e
  exact free c o (fun z=>(hch c z).2.2.1 x c e rfl) ho (I.freeC x c e)
 ·obtain⟨e,n,ne,nf,d⟩:=I.pin p hp
  have nch:p.1∉ch:=fun z=>(hch p.1 z).2.2.2 p hp rfl;exact⟨keep p.1 p.2 ne nf nch e n,free p.1 p.2 nch e n,ne,nf,d⟩
theorem Inv.un{t':Nat}(I:Inv X pins σ H s)(u:Un X.fs [] H H' s.heap h')(hok:HOk X.prog X.w H' h'):Inv X pins σ H' { s with heap:=h',toks:=t' }:=by
 obtain⟨m,⟨o,es,ep,ho,r⟩,_⟩:=id I.loc;obtain⟨sl,hL⟩:=u.any ho I.free (by simp);exact I.step (g':=s.gens) (d':=s.drawn) (ch:=[]) (fun _ z=>nomatch z) (fun b o _ hb _ e n=>u.keep b o e n hb (by simp)) (fun b o _ hb _ e n=>u.slot b o e n hb (by simp)) (fun b o _ e n=>u.free b o e n (by simp)) (fun b o _ e=>u.there b o e (by simp)) u.tups u.frzs u.tbls (fun m' hm=>by
  obtain⟨o',es',ep',ho',r'⟩:=hm;rw[ho]at ho';cases ho';exact⟨_,es',ep',hL,r'⟩) hok I.bare
theorem Inv.call{g':Array GenState}{t':Nat}{d':Drawn}{ch:List Addr}(I:Inv X pins σ H s)(u:Un (frs X.stack) ch H H' s.heap h')(hok:HOk X.prog X.w H' h')(hg:AllBare g')
 (hch:∀b∈ch,(b∈X.ex\/X.s₀.heap.objs.size<=b)/\b≠X.env.locals/\(∀x c,X.env.cells.lookup x=some c->c≠b)/\∀p∈X.pn++pins,p.1≠b) :
 Inv X pins σ H' { s with heap:=h',gens:=g',drawn:=d',toks:=t' }:=by
 obtain⟨m,⟨o,es,ep,ho,r⟩,_⟩:=id I.loc;obtain⟨sl,hL⟩:=u.any ho I.free fun z=>(hch _ z).2.1 rfl;exact I.step (ch:=ch) hch (fun b o hL hb hc e n=>u.keep b o e n (fun z=>(zZ.mp (I.stkSub b z)).elim hL hb) hc) (fun b o _ _ hc e n=>u.any e n hc) (fun b o hc e n=>u.free b o e n hc) (fun b o hc e=>u.there b o e hc) u.tups u.frzs u.tbls (fun m' hm=>by
  obtain⟨o',es',ep',ho',r'⟩:=hm;rw[ho]at ho';cases ho';exact⟨_,es',ep',hL,r'⟩) hok hg
theorem Inv.turned{t':Nat}{it:Addr}(I:Inv X pins σ H s)(k:∀b o,b≠it->s.heap.get? b=some o->h'.get? b=some o)(hn:H it=none)(hL:it≠X.env.locals)
 (h1:it∈X.ex\/X.s₀.heap.objs.size<=it) (h2:∀x c,X.env.cells.lookup x=some c->c≠it) (h3:∀p∈X.pn++pins,p.1≠it):Inv X pins σ H { s with heap:=h',toks:=t' }:=by
 have nit:∀b u,H b=some u->b≠it:=fun b u e z=>by rw[z,hn]at e;cases e
 refine I.step (g':=s.gens) (d':=s.drawn) (ch:=[it]) (fun b hb=>?_) (fun b o _ _ hc e _=>k b o (fun z=>hc (by simp[z])) e) (fun b o _ _ hc e _=>⟨o.slots,k b o (fun z=>hc (by simp[z])) e⟩) (fun _ _ _ _ n=>n)
  (fun b o hc e=>⟨o,k b o (fun z=>hc (by simp[z])) e⟩) (fun _ _ e=>e) (fun _ _ _ e=>e) (fun b ps e=>⟨#[],by rw[e];simp⟩) (fun m hm=>?_) (fun b u e=>?_) I.bare
 ·have e:b=it:=by simpa using hb
  subst e;exact⟨h1,hL,h2,h3⟩
 ·obtain⟨o,es,ep,ho,r⟩:=hm
  exact⟨o,es,ep,k _ o (Ne.symm hL) ho,r⟩
 ·refine(I.hok b u e).stay (fun c v hc q=>k c v ?_ q) (fun _ q=>q) fun _ _ q=>q
  rcases hc with z|z
  ·rw[z];exact nit b u e
  ·exact nit c _ z
theorem Inv.tok(I:Inv X pins σ H s)(t:Nat):Inv X pins σ H { s with toks:=t }:=I.un (h':=s.heap) (t':=t) Un.refl I.hok
theorem Inv.kept{t':Nat}(I:Inv X pins σ H s)(k:∀b u,s.heap.get? b=some u->h'.get? b=some u):Inv X pins σ H { s with heap:=h',toks:=t' }:=I.un (Un.kept k) (I.hok.kept k)
theorem Inv.laid{a:Addr}{o:HO}{t':Nat}(I:Inv X pins σ H s)(k:∀b u,s.heap.get? b=some u->h'.get? b=some u)(hp:s.heap.objs.size<=a)(new:ObjOk X.prog X.w (upd H a o) h' a o) :
 Inv X pins σ (upd H a o) { s with heap:=h',toks:=t' }:=I.un (Un.laid k hp (I.hok.fresh hp)) (I.hok.laid k hp new)
theorem Inv.write(I:Inv X pins σ H s)(mu:Mut (H x))(he:e=x\/H e=some (.own x))(k:∀b u,b≠e->s.heap.get? b=some u->h'.get? b=some u)(heo:∃u,h'.get? e=some u)
 (new:ObjOk X.prog X.w (upd H x o) h' x o):Inv X pins σ (upd H x o) { s with heap:=h',toks:=t' }:=I.un (Un.write mu he k heo) (I.hok.write mu he k heo new)
theorem Inv.pins_of(I:Inv X pins σ H s)(h:∀p∈pins',s.heap.get? p.1=some p.2/\H p.1=none/\p.1≠X.env.locals/\p.1∉X.fs/\∀v,p.2.data ≠ .cell v):Inv X pins' σ H s:=
 ⟨I.ok,I.os,I.bare,I.base,I.loc,I.cell,I.free,I.freeC,fun p hp=>(z7.mp hp).elim (fun z=>I.pin p (wW _ z)) (h p),I.hok,I.len⟩
theorem oO{N:List Str}(hN:N.Nodup){i j:Nat}{x:Str}(a:N[i]? = some x)(b:N[j]? = some x):i=j:=by
 obtain⟨h1,e1⟩:=List.getElem?_eq_some_iff.mp a;obtain⟨h2,e2⟩:=List.getElem?_eq_some_iff.mp b;exact(List.getElem_inj hN).mp (e1.trans e2.symm)
theorem q_{M:Model}{A:Around}{E:Value->Shared->Prop}{i:Nat}{x:Str}{v:V}{u:Value}{Q:Unit->Shared->Prop}(I:Inv X pins σ H s)(hN:X.N.Nodup)(hi:X.N[i]? = some x)(hx:Loc X.env.scope x)(r:RelV v u)
 (h:∀s',Inv X pins (σ.set i (some v)) H s'->(∃a,Heap.SameBut a s.heap s'.heap/\(a=X.env.locals\/X.env.cells.lookup x=some a))->Q () s') (hf:X.fn x=true\/X.env.scope.names.lookup x=some .local:=by first|exact .inl rfl|exact .inr rfl|assumption):wpAny M A (storeName X.env x u) Q E s:=by
 obtain⟨m,hn,hl⟩:=id I.loc;have hcls:(X.env.scope.kind == .class || (X.env.scope.kind == .module&&X.env.locals != X.env.globals))=false:=by rw[I.ok.kind];rfl
 have hiσ:i<σ.length:=by rw[I.len];exact(List.getElem?_eq_some_iff.mp hi).1
 have cne:=I.cne;have tracked:∀ {a:Addr} {h':Heap},(∃o,s.heap.get? a=some o/\H a=none)->Heap.SameBut a s.heap h'->HOk X.prog X.w H h':=fun {a h'} ha hs b ob e=>by
  obtain⟨_,_,hfree⟩:=ha;refine(I.hok b ob e).stay (fun c w' hc q=>(hs.2 c ?_).trans q) (fun _ q=>q) fun _ _ q=>q;rintro rfl;rcases hc with rfl|hc
  ·rw[hfree]at e;cases e
  ·rw[hfree]at hc;cases hc
 rcases hx with hk|hk
 ·refine wpAny_storeName_local hk hn (fun h' hn' hs=>?_) hcls
  obtain⟨oL,_,_,hoL,_⟩:=id hn;refine h _ ⟨I.ok,I.os,I.bare,⟨fun b o e n hb hx=>?_,fun b o e n hb hx=>?_,I.base.free,fun b o e hx=>?_,I.base.tups,I.base.frzs,I.base.tbls⟩,⟨_,hn',fun j y v' e1 e2 e3=>?_⟩,fun y c e=>?_,I.free,I.freeC,fun p hp=>?_,tracked ⟨oL,hoL,I.free⟩ hs,by simpa using I.len⟩ ⟨_,hs,.inl rfl⟩
  ·exact(hs.2 b (uj (vD (xb e) I.ok.above))).trans (I.base.keep b o e n hb hx)
  ·obtain⟨sl,e1⟩:=I.base.slot b o e n hb hx
   exact⟨sl,(hs.2 b (uj (vD (xb e) I.ok.above))).trans e1⟩
  ·obtain⟨o',e1⟩:=I.base.there b o e hx
   exact⟨o',(hs.2 b (uj (vD (xb e) I.ok.above))).trans e1⟩
  ·by_cases hj:j=i
   ·subst hj
    rw[hi]at e1;cases e1;rw[List.getElem?_set_self hiσ]at e2;cases e2;exact⟨u,r,.inl ⟨hk,by simp⟩⟩
   ·rw[List.getElem?_set_ne (Ne.symm hj)]at e2
    obtain⟨u',r',q⟩:=hl j y v' e1 e2 e3;refine⟨u',r',?_⟩;rcases q with ⟨k,e⟩|⟨k,c,e,z⟩
    ·refine .inl ⟨k,?_⟩
     have:y≠x:=fun e=>hj (oO hN e1 (e ▸ hi));simp[this,e]
    ·exact .inr ⟨k,c,e,z.sameBut hs (cne y c e)⟩
  ·obtain⟨w',z⟩:=I.cell y c e
   exact⟨w',z.sameBut hs (cne y c e)⟩
  ·obtain⟨e,n,ne,nf,d⟩:=I.pin p hp
   exact⟨(hs.2 p.1 ne).trans e,n,ne,nf,d⟩
 ·have hfn:X.fn x=true:=by
   rcases hf with z|z
   ·exact z
   ·rw[z]at hk;cases hk
  obtain⟨c,hc⟩:=I.ok.has x (.inl hk);obtain⟨w',z⟩:=I.cell x c hc;refine wpAny_storeName_cell I.ok.kind hk hc z (fun h' hc' hs=>?_);obtain⟨oc,hoc,hocd⟩:=id z;refine h { s with heap:=h' } ⟨I.ok,I.os,I.bare,⟨fun b o e n hb hx=>?_,fun b o e n hb hx=>?_,I.base.free,fun b o e hx=>?_,I.base.tups,I.base.frzs,I.base.tbls⟩,⟨m,hn.sameBut hs (Ne.symm (cne x c hc)),fun j y v' e1 e2 e3=>?_⟩,fun y c' e=>?_,I.free,I.freeC,fun p hp=>?_,tracked ⟨oc,hoc,I.freeC x c hc⟩ hs,by simpa using I.len⟩ ⟨c,hs,.inr hc⟩
  ·exact(hs.2 b (uj (vD (xb e) (I.ok.cab x c hfn hc)))).trans (I.base.keep b o e n hb hx)
  ·obtain⟨sl,e1⟩:=I.base.slot b o e n hb hx
   exact⟨sl,(hs.2 b (uj (vD (xb e) (I.ok.cab x c hfn hc)))).trans e1⟩
  ·obtain⟨o',e1⟩:=I.base.there b o e hx
   exact⟨o',(hs.2 b (uj (vD (xb e) (I.ok.cab x c hfn hc)))).trans e1⟩
  ·by_cases hj:j=i
   ·subst hj
    rw[hi]at e1;cases e1;rw[List.getElem?_set_self hiσ]at e2;cases e2;exact⟨u,r,.inr ⟨.inl hk,c,hc,hc'⟩⟩
   ·rw[List.getElem?_set_ne (Ne.symm hj)]at e2
    obtain⟨u',r',q⟩:=hl j y v' e1 e2 e3;refine⟨u',r',?_⟩;rcases q with q|⟨k,c',e,z'⟩
    ·exact .inl q
    ·refine .inr ⟨k,c',e,z'.sameBut hs ?_⟩
     rintro rfl;exact hj (oO hN e1 (I.ok.inj _ _ _ e hc ▸ hi))
  ·by_cases hcc:c'=c
   ·subst hcc;exact⟨_,hc'⟩
   ·obtain⟨w2,z2⟩:=I.cell y c' e
    exact⟨w2,z2.sameBut hs hcc⟩
  ·obtain⟨e,n,ne,nf,d⟩:=I.pin p hp
   refine⟨(hs.2 p.1 ?_).trans e,n,ne,nf,d⟩;intro q;rw[q,hoc]at e;have q':oc=p.2:=tZ e;exact d w' (by rw[<- q'];exact hocd)
theorem p9{M:Model}{A:Around}{E:Value->Shared->Prop}{i:Nat}{x:Str}{v:V}{u:Value}{Q:Unit->Shared->Prop}(I:Inv X pins σ H s)(hN:X.N.Nodup)(hi:X.N[i]? = some x)(hx:Loc X.env.scope x)(r:RelV v u)
 (h:∀s',Inv X pins (σ.set i (some v)) H s'->Q () s') (hf:X.fn x=true\/X.env.scope.names.lookup x=some .local:=by first|exact .inl rfl|exact .inr rfl|assumption):wpAny M A (storeName X.env x u) Q E s:=
 q_ I hN hi hx r (fun s' I' _=>h s' I') hf
theorem Inv.call'{s':Shared}(I:Inv X pins σ H s)(ho:s'.os=s.os)(u:Un (frs X.stack) ch H H' s.heap s'.heap)(hok:HOk X.prog X.w H' s'.heap)(hg:AllBare s'.gens)
 (hch:∀b∈ch,(b∈X.ex\/X.s₀.heap.objs.size<=b)/\b≠X.env.locals/\(∀x c,X.env.cells.lookup x=some c->c≠b)/\∀p∈X.pn++pins,p.1≠b):Inv X pins σ H' s':=by
 obtain⟨h',g',d',t',o'⟩:=s';have e:o'=s.os:=ho;subst e;exact I.call (g':=g') (t':=t') (d':=d') u hok hg hch
end
abbrev XK:=Value->Option Addr->Hp->Prop
abbrev St:=List (Option V)
abbrev VK:=V->Hp->Prop
abbrev TE:=St->Hp->VK->Prop
abbrev TT:=St->Hp->(Bool->Hp->Prop)->Prop
abbrev TA:=St->Hp->(List V->Hp->Prop)->Prop
structure eA where
 nx:St->Hp->Prop
 rt:VK
 bk:St->Hp->Prop:=fun _ _=>False
 ct:St->Hp->Prop:=fun _ _=>False
abbrev TS:=eA->St->Hp->Prop
def EP(X:Cx)(pins:List (Addr × Obj))(σ:St)(Q:VK)(u:Value)(s':Shared):Prop:=∃v H',Inv X pins σ H' s'/\RelV v u/\Q v H'
def TP(X:Cx)(pins:List (Addr × Obj))(σ:St)(Q:Bool->Hp->Prop)(b:Bool)(s':Shared):Prop:=∃H',Inv X pins σ H' s'/\Q b H'
def AP(X:Cx)(pins:List (Addr × Obj))(σ:St)(Q:List V->Hp->Prop)(us:List Value)(s':Shared):Prop:=∃vs H',Inv X pins σ H' s'/\Vals vs us/\Q vs H'
def SP(X:Cx)(pins:List (Addr × Obj))(D:eA)(f:Flow)(s':Shared):Prop:=
 match f with
 | .next=>∃σ' H',Inv X pins σ' H' s'/\D.nx σ' H'
 | .brk=>∃σ' H',Inv X pins σ' H' s'/\D.bk σ' H'
 | .cont=>∃σ' H',Inv X pins σ' H' s'/\D.ct σ' H'
 | .ret u=>∃v σ' H',Inv X pins σ' H' s'/\RelV v u/\D.rt v H'
def PE(X:Cx)(e:Expr)(t:TE):Prop:=
 ∀(pins:List (Addr × Obj)) (s:Shared) (σ:St) (H:Hp) (Q:VK),Inv X pins σ H s->t σ H Q->wpAny (model X.prog X.w) X.A (eval e X.env) (EP X pins σ Q) X.xe s
def PT(X:Cx)(e:Expr)(t:TT):Prop:=
 ∀(pins:List (Addr × Obj)) (s:Shared) (σ:St) (H:Hp) (Q:Bool->Hp->Prop),Inv X pins σ H s->t σ H Q->wpAny (model X.prog X.w) X.A (isTrue e X.env (eval e X.env)) (TP X pins σ Q) X.xe s
def PW(X:Cx)(e:Expr)(t:TT):Prop:=
 ∀(whole:Sem Value) (pins:List (Addr × Obj)) (s:Shared) (σ:St) (H:Hp) (Q:Bool->Hp->Prop),Inv X pins σ H s->t σ H Q->wpAny (model X.prog X.w) X.A (isTrue e X.env whole) (TP X pins σ Q) X.xe s
theorem PW.pt{X:Cx}{e:Expr}{t:TT}(h:PW X e t):PT X e t:=h _
def PA(X:Cx)(es:List Expr)(t:TA):Prop:=
 ∀(pos:Pos) (pins:List (Addr × Obj)) (s:Shared) (σ:St) (H:Hp) (Q:List V->Hp->Prop),Inv X pins σ H s->t σ H Q->wpAny (model X.prog X.w) X.A (spliced (backTo pos (starEach es X.env))) (AP X pins σ Q) X.xe s
def PS(X:Cx)(st:Stmt)(t:TS):Prop:=
 ∀(pins:List (Addr × Obj)) (s:Shared) (σ:St) (H:Hp) (D:eA),Inv X pins σ H s->t D σ H->wpAny (model X.prog X.w) X.A (exec st X.env) (SP X pins D) X.xe s
def PSs(X:Cx)(st:List Stmt)(t:TS):Prop:=
 ∀(pins:List (Addr × Obj)) (s:Shared) (σ:St) (H:Hp) (D:eA),Inv X pins σ H s->t D σ H->wpAny (model X.prog X.w) X.A (execs st X.env) (SP X pins D) X.xe s
theorem thn{α:Type}{t:Sem α}{Q Q':α->Shared->Prop}{M:Model}{A:Around}{E:Value->Shared->Prop}{s:Shared}(h:wpAny M A t Q E s)(hQ:∀a s,Q a s->Q' a s):wpAny M A t Q' E s:=Zv h hQ fun _ _ x=>x
section
variable{X:Cx}
def JP(i:Nat):TE:=fun σ H Q=>∃v,σ[i]? = some (some v)/\Q v H
def tC(v:V):TE:=fun _ H Q=>Q v H
theorem HD(hN:X.N[i]? = some x)(hv:Vis X.env.scope x)(hd:(x==("__debug__":Str))=false:=by decide)(hcd:(x==("__classdict__":Str))=false:=by decide):PE X (.Name x pos) (JP i):=by
 intro pins s σ H Q I h;obtain⟨v,e,h⟩:=h;obtain⟨m,hn,hl⟩:=I.loc;obtain⟨u,r,l⟩:=hl i x v hN e hv;have fin:EP X pins σ Q u s:=⟨v,H,I,r,h⟩;rcases l with ⟨hk,hm⟩|⟨hk,c,hc,hcell⟩
 ·exact wpAny_Name (wpAny_loadName_local I.ok.kind hk hn hm fin) hd
 ·rcases hk with hk|hk
  ·exact wpAny_Name (wpAny_loadName_cell I.ok.kind hk hc hcell fin) hd
  ·exact wpAny_Name (wpAny_loadName_free I.ok.kind hk hc hcell fin hcd) hd
theorem aa{i j pos}:PE X (.Constant (.int i) j pos) (tC (.int i)):=fun _ _ _ H _ I h=>wpAny_Constant_int ⟨.int i,H,I.tok _,⟨_,rfl⟩,h⟩
theorem g8{b j pos}:PE X (.Constant (.bool b) j pos) (tC (.bl b)):=fun _ _ _ H _ I h=>Constant_bool ⟨.bl b,H,I,rfl,h⟩
theorem cG{j pos}:PE X (.Constant .none j pos) (tC .non):=fun _ _ _ H _ I h=>Constant_none ⟨.non,H,I,rfl,h⟩
theorem AS{x j pos}:PE X (.Constant (.str x) j pos) (tC (.str x)):=fun _ _ _ H _ I h=>Calls.Constant_str ⟨.str x,H,I.tok _,⟨_,rfl⟩,h⟩
def Gl(X:Cx)(x:Str):Prop:=X.env.kindOf x=some .globalImplicit
theorem gu{E:Value->Shared->Prop}{pins:List (Addr × Obj)}{s:Shared}{σ:St}{H:Hp}{x:Str}{u:Value}{pos:Pos}{Q:Value->Shared->Prop}(I:Inv X pins σ H s)(hg:Gl X x)(hm:X.mg x=some u)(h:Q u s)
 (hd:(x==("__debug__":Str))=false:=by decide):wpAny (model X.prog X.w) X.A (eval (.Name x pos) X.env) Q E s:=
 Calls.Name_function_global I.ok.kind hg (Calls.loadGlobal_global (by rw[I.ok.glob];exact I.mod.glob.keeps I.bk) hm h) hd
theorem oX{E:Value->Shared->Prop}{pins:List (Addr × Obj)}{s:Shared}{σ:St}{H:Hp}{x:Str}{u:Value}{pos:Pos}{Q:Value->Shared->Prop}(I:Inv X pins σ H s)(hg:Gl X x)(hm:X.mg x=none)(hv:Zu x=some u)(h:Q u s)
 (hn:x ≠ "__name__":=by decide) (hd:(x==("__debug__":Str))=false:=by decide):wpAny (model X.prog X.w) X.A (eval (.Name x pos) X.env) Q E s:=by
 obtain⟨mb,h1,h2⟩:=I.mod.blt;exact Calls.Name_function_global I.ok.kind hg (Calls.loadGlobal_builtin (by rw[I.ok.glob];exact I.mod.glob.keeps I.bk) hm (by rw[I.ok.blt];exact h1.keeps I.bk) ((h2 x hn).trans hv) h) hd
theorem eI(hg:Gl X x)(hm:X.mg x=some u)(r:RelV v u)(hd:(x==("__debug__":Str))=false:=by decide):PE X (.Name x pos) (tC v):=
 fun _ _ _ H _ I h=>gu I hg hm ⟨v,H,I,r,h⟩ hd
theorem df(hg:Gl X x)(hm:X.mg x=none)(hv:Zu x=some u)(r:RelV v u)(hn:x ≠ "__name__":=by decide)(hd:(x==("__debug__":Str))=false:=by decide):PE X (.Name x pos) (tC v):=
 fun _ _ _ H _ I h=>oX I hg hm hv ⟨v,H,I,r,h⟩ hn hd
variable{a b:Expr}{ta tb:TE}{pos:Pos}
def PC(X:Cx)(op:CmpOp)(a b:Expr)(t:TE):Prop:=
 ∀(pins:List (Addr × Obj)) (s:Shared) (σ:St) (H:Hp) (Q:VK),Inv X pins σ H s->t σ H Q ->
  wpAny (model X.prog X.w) X.A (eval a X.env) (fun v s₁=>wpAny (model X.prog X.w) X.A (eval b X.env) (fun u s₂=>wpAny (model X.prog X.w) X.A (rW op v u) (EP X pins σ Q) X.xe s₂) X.xe s₁) X.xe s
theorem vk(b:Expr){op:CmpOp}(h:op ≠ .In)(h2:op ≠ .NotIn):Z7 op b=false:=by
 have e1:(op==CmpOp.In)=false:=by cases op <;> first|rfl|exact absurd rfl h
 have e2:(op==CmpOp.NotIn)=false:=by cases op <;> first|rfl|exact absurd rfl h2
 cases b <;> simp[Z7,e1,e2]
def Jl(ta:TE):TE:=fun σ H Q=>ta σ H fun x H1=>Q (.bl (decide (x = .non))) H1
def Fb(ta:TE):TE:=fun σ H Q=>ta σ H fun x H1=>Q (.bl (!decide (x = .non))) H1
theorem RelV.none_iff{x:V}{v:Value}(r:RelV x v):(v==ZO)=decide (x = .non):=by
 cases x with
 |non=>cases r;rfl
 |bl _=>cases r;rfl
 |int _=>obtain⟨t,rfl⟩:=r;rfl
 |str _=>obtain⟨t,rfl⟩:=r;rfl
 |byt _=>obtain⟨t,rfl⟩:=r;rfl
 |flt _=>obtain⟨t,rfl⟩:=r;rfl
 |ref _=>cases r;rfl
 |ty _=>cases r;rfl
theorem sJ{j pos'}(ha:PE X a ta):PC X .Is a (.Constant .none j pos') (Jl ta):=by
 intro pins s σ H Q I h;refine thn (ha pins s σ H _ I h) fun v s1 hq_=>?_;obtain⟨x,H1,I1,r1,q1⟩:=hq_;exact Constant_none (is_none_gen ⟨.bl _,H1,I1,by rw[r1.none_iff];rfl,q1⟩)
theorem dq{j pos'}(ha:PE X a ta):PC X .IsNot a (.Constant .none j pos') (Fb ta):=by
 intro pins s σ H Q I h;refine thn (ha pins s σ H _ I h) fun v s1 hq_=>?_;obtain⟨x,H1,I1,r1,q1⟩:=hq_;exact Constant_none (isnot_none_gen ⟨.bl _,H1,I1,by rw[r1.none_iff];rfl,q1⟩)
theorem rV(h:PC X op a b t)(h1:Z7 op b=false:=by first|exact vk _ (by decide) (by decide)|rfl):PE X (.Compare a [op] [b] pos) t:=fun pins s σ H Q I hw=>wpAny_Compare1 (h pins s σ H Q I hw) h1
variable{tA tB':TT}{rest:List Expr}
def Iz(t u:TT):TT:=fun σ H Q=>t σ H fun c H1=>if c=true then u σ H1 Q else Q false H1
def tOr(t u:TT):TT:=fun σ H Q=>t σ H fun c H1=>if c=true then Q true H1 else u σ H1 Q
def Id(t:TT):TT:=fun σ H Q=>t σ H fun c H1=>Q (!c) H1
theorem cU(ha:PT X a tA):PW X (.BoolOp .And [a] pos) tA:=by
 intro wh pins s σ H Q I h;refine isTrue_and (thn (ha pins s σ H Q I h) fun c s1 e=>?_);cases c with
 |true=>exact isTrue_and_nil e
 |false=>exact e
theorem gB(ha:PT X a tA):PW X (.BoolOp .Or [a] pos) tA:=by
 intro wh pins s σ H Q I h;refine isTrue_or (thn (ha pins s σ H Q I h) fun c s1 e=>?_);cases c with
 |false=>exact isTrue_or_nil e
 |true=>exact e
theorem dJ(ha:PT X a tA)(hb:PW X (.BoolOp .And (b::rest) pos) tB'):PW X (.BoolOp .And (a::b::rest) pos) (Iz tA tB'):=by
 intro wh pins s σ H Q I h;refine isTrue_and (thn (ha pins s σ H _ I h) fun c s1 hq_=>?_);obtain⟨H1,I1,q1⟩:=hq_;cases c with
 |true=>exact hb wh pins s1 σ H1 Q I1 q1
 |false=>exact⟨H1,I1,q1⟩
theorem kj(ha:PT X a tA)(hb:PW X (.BoolOp .Or (b::rest) pos) tB'):PW X (.BoolOp .Or (a::b::rest) pos) (tOr tA tB'):=by
 intro wh pins s σ H Q I h;refine isTrue_or (thn (ha pins s σ H _ I h) fun c s1 hq_=>?_);obtain⟨H1,I1,q1⟩:=hq_;cases c with
 |true=>exact⟨H1,I1,q1⟩
 |false=>exact hb wh pins s1 σ H1 Q I1 q1
theorem bR(ha:PT X a tA):PT X (.UnaryOp .Not a pos) (Id tA):=by
 intro pins s σ H Q I h;exact isTrue_not (ha pins s σ H (fun c H1=>Q (!c) H1) I h)
theorem cF{op}(h:PE X a t):PE X (.BoolOp op [a] pos) t:=fun pins s σ H Q I hw=>BoolOp_one (h pins s σ H Q I hw)
def tIf(t:TT)(ta tb:TE):TE:=fun σ H Q=>t σ H fun c H1=>if c=true then ta σ H1 Q else tb σ H1 Q
theorem Bq{c:Expr}(hc:PT X c tA)(ha:PE X a ta)(hb:PE X b tb):PE X (.IfExp c a b pos) (tIf tA ta tb):=by
 intro pins s σ H Q I h;refine wpAny_IfExp (thn (hc pins s σ H _ I h) fun d s1 hq_=>?_);obtain⟨H1,I1,q1⟩:=hq_;cases d with
 |true=>exact ha pins s1 σ H1 Q I1 q1
 |false=>exact hb pins s1 σ H1 Q I1 q1
end
def SqL(K:W.Frag)(H:Hp)(a:Addr)(xs:List V):Prop:=
 Rd H a (.lst xs) \/
  ∃(o:Obj) (its:Array Value) (n:Nat),K.lookup a=some o/\o.cls = .type "list" /\ o.dict=none/\o.data = .seq its n/\its.size<=sizeLine/\Vals xs its.toList
def SqT(K:W.Frag)(H:Hp)(a:Addr)(xs:List V):Prop:=
 Rd H a (.tup xs) \/
  ∃(o:Obj) (its:Array Value) (n:Nat),K.lookup a=some o/\o.cls = .type "tuple" /\ o.data = .seq its n/\its.size<=sizeLine/\Vals xs its.toList
def JN:Value->Option V
 | .none=>some .non
 | .bool b=>some (.bl b)
 | .int i _=>some (.int i)
 | .str x _=>some (.str x)
 | .bytes b _=>some (.byt b)
 | .float b _=>some (.flt b)
 | .ref a=>some (.ref a)
 | .type n=>some (.ty n)
 |_=>none
theorem RelV.abs(r:RelV x u):JN u=some x:=by
 cases x with
 |non=>cases r;rfl
 |bl _=>cases r;rfl
 |int _=>obtain⟨t,rfl⟩:=r;rfl
 |str _=>obtain⟨t,rfl⟩:=r;rfl
 |byt _=>obtain⟨t,rfl⟩:=r;rfl
 |flt _=>obtain⟨t,rfl⟩:=r;rfl
 |ref _=>cases r;rfl
 |ty _=>cases r;rfl
theorem RelV.inj(r:RelV x u)(q:RelV y u):x=y:=tZ (r.abs.symm.trans q.abs)
theorem Vals.inj:∀ {xs ys:List V} {us:List Value},Vals xs us->Vals ys us->xs=ys
 |_,_,_,.nil,.nil=>rfl
 |_,_,_,.cons r t,.cons r' t'=>by rw[r.inj r',Vals.inj t t']
section
variable{X:Cx}{pins:List (Addr × Obj)}{σ:St}{H:Hp}{s:Shared}{a:Addr}{xs ys:List V}
theorem SqL.of{K:W.Frag}(h:H a=some (.lst xs)):SqL K H a xs:=.inl (.inl h)
theorem SqT.of{K:W.Frag}(h:H a=some (.tup xs)):SqT K H a xs:=.inl (.inl h)
theorem Inv.list(I:Inv X pins σ H s)(h:SqL X.K H a xs):∃its:List Value,Vals xs its/\PlainL s.heap a its.toArray/\xs.length<=sizeLine:=by
 rcases h with h|⟨o,its,n,hk,hc,hd,hs,hz,r⟩
 ·obtain⟨z,its,n,r,e⟩:=h.ok I.hok
  exact⟨its,r,⟨_,n,e,rfl,rfl,rfl⟩,z⟩
 ·refine⟨its.toList,r,⟨o,n,I.kIn a o hk,hc,hd,by simpa using hs⟩,?_⟩
  have e:=r.length;simp only[ZS]at e;lia
theorem Inv.tuple(I:Inv X pins σ H s)(h:SqT X.K H a xs):∃its:List Value,Vals xs its/\IsTup s.heap a its.toArray/\xs.length<=sizeLine:=by
 rcases h with h|⟨o,its,n,hk,hc,hs,hz,r⟩
 ·obtain⟨z,its,r,p⟩:=h.ok I.hok
  exact⟨its,r,p,z⟩
 ·refine⟨its.toList,r,⟨o,I.kIn a o hk,hc,n,by simpa using hs⟩,?_⟩
  have e:=r.length;simp only[ZS]at e;lia
theorem Inv.list_inj(I:Inv X pins σ H s)(h:SqL X.K H a xs)(h':SqL X.K H a ys):xs=ys:=by
 obtain⟨its,r,⟨o,n,e,_,_,d⟩,_⟩:=I.list h;obtain⟨its',r',⟨o',n',e',_,_,d'⟩,_⟩:=I.list h';rw[e]at e';cases e';rw[d]at d';injection d' with d1 _
 have:its=its':=by simpa using congrArg Array.toList d1
 subst this;exact r.inj r'
theorem Inv.tuple_inj(I:Inv X pins σ H s)(h:SqT X.K H a xs)(h':SqT X.K H a ys):xs=ys:=by
 obtain⟨its,r,⟨o,e,_,n,d⟩,_⟩:=I.tuple h;obtain⟨its',r',⟨o',e',_,n',d'⟩,_⟩:=I.tuple h';rw[e]at e';cases e';rw[d]at d';injection d' with d1 _
 have:its=its':=by simpa using congrArg Array.toList d1
 subst this;exact r.inj r'
end
abbrev Cx.wish(X:Cx)(E:Value->Shared->Prop):Cx:={ X with xe:=E }
abbrev Cx.nox(X:Cx):Cx:=X.wish fun _ _=>False
section
variable{X:Cx}{pins:List (Addr × Obj)}{σ:St}{H:Hp}{s:Shared}{E:Value->Shared->Prop}
end
section
variable{X:Cx}{st:Stmt}{rest:List Stmt}{t u:TS}{e:Expr}{te:TE}{pos:Pos}
def yt:TS:=fun D σ H=>D.nx σ H
def EI(t u:TS):TS:=fun D σ H=>t { D with nx:=u D } σ H
theorem aJ:PSs X [] yt:=fun _ _ σ H _ I h=>YF ⟨σ,H,I,h⟩
theorem ae(h1:PS X st t)(h2:PSs X rest u):PSs X (st::rest) (EI t u):=by
 intro pins s σ H D I h;refine wpAny_execs_cons (thn (h1 pins s σ H { D with nx:=u D } I h) fun f s1 q=>?_);cases f with
 |next=>
  obtain⟨σ',H',I',q⟩:=q;exact h2 pins s1 σ' H' D I' q
 |ret v=>exact q
 |brk=>exact q
 |cont=>exact q
theorem af(h1:PS X st t):PSs X [st] t:=by
 intro pins s σ H D I h;refine wpAny_execs_cons (thn (h1 pins s σ H D I h) fun f s1 q=>?_);cases f with
 |next=>exact YF q
 |ret v=>exact q
 |brk=>exact q
 |cont=>exact q
theorem Inv.quiet{pins:List (Addr × Obj)}{σ:St}{H:Hp}{s:Shared}(I:Inv X pins σ H s):interactive X.env=false:=by simp[interactive,I.ok.kind]
def Fk(te:TE):TS:=fun D σ H=>te σ H fun _ H1=>D.nx σ H1
theorem bB(he:PE X e te)(hs:swapsWith e none pos.line X.env=pure false:=by rfl):PS X (.Expr e pos) (Fk te):=by
 intro pins s σ H D I h;exact wpAny_Expr_any (thn (he pins s σ H _ I h) fun v s1 hq_=>(by obtain⟨x,H1,I1,r1,q1⟩:=hq_;exact⟨σ,H1,I1,q1⟩)) I.quiet hs
def HL(te:TE):TS:=fun D σ H=>te σ H D.rt
theorem aC(he:PE X e te):PS X (.Return (some e) pos) (HL te):=by
 intro pins s σ H D I h;exact wpAny_Return_some (thn (he pins s σ H _ I h) fun v s1 hq_=>(by obtain⟨x,H1,I1,r1,q1⟩:=hq_;exact⟨x,σ,H1,I1,r1,q1⟩))
def EH(c:TT)(t u:TS):TS:=fun D σ H=>c σ H fun b H1=>if b=true then t D σ H1 else u D σ H1
theorem a6{c:Expr}{a b:List Stmt}{tc:TT}(hc:PT X c tc)(ha:PSs X a t)(hb:PSs X b u):PS X (.If c a b pos) (EH tc t u):=by
 intro pins s σ H D I h;refine wpAny_If (thn (hc pins s σ H _ I h) fun d s1 hq_=>?_);obtain⟨H1,I1,q1⟩:=hq_;cases d with
 |true=>exact ha pins s1 σ H1 D I1 q1
 |false=>exact hb pins s1 σ H1 D I1 q1
end
abbrev TG:=V->St->Hp->(St->Hp->Prop)->Prop
abbrev TGs:=List V->St->Hp->(St->Hp->Prop)->Prop
def PG(X:Cx)(target:Expr)(t:TG):Prop:=
 ∀(pins:List (Addr × Obj)) (s:Shared) (σ:St) (H:Hp) (v:V) (u:Value) (Q:St->Hp->Prop),Inv X pins σ H s->RelV v u->t v σ H Q ->
  wpAny (model X.prog X.w) X.A (assign target X.env u) (fun _ s'=>∃σ' H',Inv X pins σ' H' s'/\Q σ' H') X.xe s
def PGs(X:Cx)(ts:List Expr)(t:TGs):Prop:=
 ∀(pins:List (Addr × Obj)) (s:Shared) (σ:St) (H:Hp) (vs:List V) (us:List Value) (Q:St->Hp->Prop),Inv X pins σ H s->Vals vs us->t vs σ H Q ->
  wpAny (model X.prog X.w) X.A (assignInOrder ((Yn ts X.env).map (·.2)) us) (fun _ s'=>∃σ' H',Inv X pins σ' H' s'/\Q σ' H') X.xe s
section
variable{X:Cx}{pos:Pos}
def fG(i:Nat):TG:=fun v σ H Q=>Q (σ.set i (some v)) H
theorem aK(hN:X.N.Nodup)(hi:X.N[i]? = some x)(hx:Loc X.env.scope x)(hf:X.fn x=true\/X.env.scope.names.lookup x=some .local:=by first|exact .inl rfl|exact .inr rfl|assumption):PG X (.Name x pos) (fG i):=by
 intro pins s σ H v u Q I r h;exact wpAny_assign_Name (p9 I hN hi hx r (fun s' I'=>⟨_,H,I',h⟩) hf)
def Im:TGs:=fun vs σ H Q=>vs=[]/\Q σ H
def ET(t:TG)(u:TGs):TGs:=fun vs σ H Q=>∃v r,vs=v::r/\t v σ H fun σ' H'=>u r σ' H' Q
theorem dS:PGs X [] Im:=by
 intro pins s σ H vs us Q I r h;obtain⟨e,h⟩:=h;subst e;cases r;exact assignInOrder_nil ⟨σ,H,I,h⟩
theorem bf{e:Expr}{es:List Expr}{t:TG}{u:TGs}(h1:PG X e t)(h2:PGs X es u)
 (hs:(Yn (e::es) X.env).map (·.2)=assign e X.env::(Yn es X.env).map (·.2):=by rfl):PGs X (e::es) (ET t u):=by
 intro pins s σ H vs us Q I r h;obtain⟨v,vr,e1,h⟩:=h;subst e1;cases r with
 |cons r rr=>
  rw[hs];refine assignInOrder_cons (thn (h1 pins s σ H _ _ _ I r h) fun _ s1 hq_=>?_);obtain⟨σ1,H1,I1,q1⟩:=hq_;exact h2 pins s1 σ1 H1 _ _ Q I1 rr q1
def FC(K:W.Frag)(n:Nat)(t:TGs):TG:=fun v σ H Q=>∃a xs,v = .ref a/\SqT K H a xs/\xs.length=n/\t xs σ H Q
theorem GO(hc:X.calm=true)(h:PGs X es t)
 (hn:(Yn es X.env).length=n:=by rfl) (hst:(Yn es X.env).findIdx? (·.1)=none:=by rfl):PG X (.Tuple es k pos) (FC X.K n t):=by
 intro pins s σ H v u Q I r hw;obtain⟨a,xs,e1,hq,hl,hw⟩:=hw;subst e1;cases r;obtain⟨its,rv,ht,hz⟩:=I.tuple hq;refine assign_Tuple_tuple (I.ok.hd hc) ht (by simp[hn,<- hl,rv.length]) hst fun h' hx=>?_;have I1:Inv X pins σ H { s with heap:=h' }:=I.kept (t':=s.toks) fun b o e=>hx b o (uj (xb e)) e;exact h pins _ σ H xs _ Q I1 (by simpa using rv) hw
def vS(te:TE)(g:TG):TS:=fun D σ H=>te σ H fun x H1=>g x σ H1 D.nx
theorem BK{tg e:Expr}{te:TE}{g:TG}(he:PE X e te)(hg:PG X tg g)(hs:swapsWithSole [tg] e pos.line X.env=pure false:=by rfl)(hw:swappedStores [tg] e X.env=pure none:=by rfl)
 (h1:(Yn [tg] X.env).map (·.2)=[assign tg X.env]:=by rfl):PS X (.Assign [tg] e pos) (vS te g):=by
 intro pins s σ H D I h;refine wpAny_Assign_stores (thn (he pins s σ H _ I h) fun v s1 hq_=>?_) hs hw;obtain⟨x,H1,I1,r1,q1⟩:=hq_;rw[h1];exact thn (hg pins s1 σ H1 x v _ I1 r1 q1) fun _ s2 q=>q
theorem Hx{i:Nat}{x:Str}{e:Expr}{te:TE}{pos':Pos}(hN:X.N.Nodup)(hi:X.N[i]? = some x)(hx:Loc X.env.scope x)(he:PE X e te)(hs:swapsWith e (some (.Name x pos')) pos.line X.env=pure false:=by rfl)(hf:X.fn x=true\/X.env.scope.names.lookup x=some .local:=by first|exact .inl rfl|exact .inr rfl|assumption) :
 PS X (.Assign [.Name x pos'] e pos) (vS te (fG i)):=by
 intro pins s σ H D I h;refine wpAny_Assign_Name (thn (he pins s σ H _ I h) fun v s1 hq_=>?_) hs;obtain⟨y,H1,I1,r1,q1⟩:=hq_;exact p9 I1 hN hi hx r1 (fun s2 I2=>⟨_,H1,I2,q1⟩) hf
def Gb(c:TT)(tb:TS):TS:=fun D σ H=>∃W:Nat->St->Hp->Prop,(∃m,W m σ H)/\∀m σ H,W m σ H ->
 c σ H fun b H1=>if b=true then ∃N:St->Hp->Prop,(∀σ' H',N σ' H'->∃m',m'<m/\W m' σ' H')/\tb { D with nx:=N,ct:=N,bk:=D.nx } σ H1 else D.nx σ H1
theorem iR{c:Expr}{body:List Stmt}{tc:TT}{tb:TS}(hp:PassesOwn (model X.prog X.w) X.A X.env X.xe)(hc:PT X c tc)(hb:PSs X body tb):PS X (.While c body [] pos) (Gb tc tb):=by
 intro pins s σ H D I h;obtain⟨W,⟨m0,w0⟩,turn⟩:=h;refine wpAny_While (codeAny_whileLoop (fun n s'=>∃σ' H',Inv X pins σ' H' s'/\W n σ' H') ?_ m0 ⟨σ,H,I,w0⟩);rintro n s1 ⟨σ1,H1,I1,w1⟩;refine Ys hp (thn (hc pins s1 σ1 H1 _ I1 (turn n σ1 H1 w1)) fun b s2 hq_=>?_);obtain⟨H2,I2,q2⟩:=hq_;cases b with
 |true=>
  obtain⟨N,hN,q2⟩:=q2;rw[if_pos rfl];refine Ys hp (thn (hb pins s2 σ1 H2 _ I2 q2) fun f s3 q3=>?_);cases f with
  |next=>
   obtain⟨σ3,H3,I3,n3⟩:=q3;obtain⟨m',hm,w3⟩:=hN σ3 H3 n3;exact⟨m',hm,σ3,H3,I3,w3⟩
  |cont=>
   obtain⟨σ3,H3,I3,n3⟩:=q3;obtain⟨m',hm,w3⟩:=hN σ3 H3 n3;exact⟨m',hm,σ3,H3,I3,w3⟩
  |brk=>exact q3
  |ret v=>exact q3
 |false=>
  rw[if_neg xE];exact YF ⟨σ1,H2,I2,q2⟩
end
structure It where
 go:Nat->Hp->Prop
 yld:Nat->Hp->V->Hp->Prop
 stop:Nat->Hp->Prop
def lL(X:Cx)(pins:List (Addr × Obj))(H:Hp)(b:Addr):Prop:=
 H b=none/\b≠X.env.locals/\b∉X.fs/\(b∈X.ex\/X.s₀.heap.objs.size<=b)/\(∀x c,X.env.cells.lookup x=some c->c≠b)/\∀p∈X.pn++pins,p.1≠b
theorem Inv.fpOk{X:Cx}{pins:List (Addr × Obj)}{σ:St}{H H':Hp}{s:Shared}{b:Addr}(I:Inv X pins σ H s)(hb:s.heap.objs.size<=b)(hn:H' b=none):lL X pins H' b:=by
 refine⟨hn,Nat.ne_of_gt (vD I.lt hb),I.nofs hb,.inr (wn I.sz hb),fun x c e z=>?_,fun p hp z=>?_⟩
 ·obtain⟨v,q⟩:=I.cell x c e
  exact absurd (vD q.lt (by rw[z];exact hb)) (ZQ _)
 ·exact absurd (vD (xb (I.pin p hp).1) (by rw[z];exact hb)) (ZQ _)
structure zo(P:Program)(w:World)(K:W.Frag)(tg:Expr)(J:It)(fp:List Addr)(it:Addr)(tn:Nat->Heap->Prop):Prop where
 mem:it∈fp
 obj:∀i h,tn i h->∀b∈fp,∃o,h.get? b=some o/\∀v,o.data ≠ .cell v
 keep:∀i h h',tn i h->(∀b∈fp,∀o,h.get? b=some o->h'.get? b=some o)->tn i h'
 item:∀(X:Cx),X.prog=P->X.w=w->X.K=K->X.calm=true->∀(i:Nat) (pins:List (Addr × Obj)) (s:Shared) (σ:St) (H:Hp) (E:Value->Shared->Prop),Inv X pins σ H s->(∀b∈fp,lL X pins H b)->tn i s.heap->J.go i H ->
  wpAny (model P w) X.A (pyNext (.ref it)) (fun r s1=>∃u,r=some u /\
   wpAny (model P w) X.A (YE tg (.ref it) u) (fun _ s2=>∃x H',Inv X pins σ H' s2/\RelV x u/\J.yld i H x H'/\tn (i+1) s2.heap/\∀b∈fp,H' b=none) E s1) E s
 done:∀(X:Cx),X.prog=P->X.w=w->X.K=K->X.calm=true->∀(i:Nat) (pins:List (Addr × Obj)) (s:Shared) (σ:St) (H:Hp) (E:Value->Shared->Prop),Inv X pins σ H s->(∀b∈fp,lL X pins H b)->tn i s.heap->J.stop i H ->
  wpAny (model P w) X.A (pyNext (.ref it)) (fun r s1=>r=none/\Inv X pins σ H s1) E s
 self:∀(A:Around) (i:Nat) (s:Shared) (Q:Value->Shared->Prop) (E:Value->Shared->Prop),tn i s.heap->Q (.ref it) s->wpAny (model P w) A (pyIter (.ref it)) Q E s
abbrev TI:=St->Hp->(It->Hp->Prop)->Prop
def PIE(X:Cx)(pins:List (Addr × Obj))(σ:St)(tg:Expr)(R:It->Hp->Prop)(itv:Value)(s2:Shared):Prop:=
 ∃(it:Addr) (fp:List Addr) (tn:Nat->Heap->Prop) (J:It) (H':Hp),itv = .ref it/\Inv X pins σ H' s2/\zo X.prog X.w X.K tg J fp it tn/\tn 0 s2.heap/\(∀b∈fp,lL X pins H' b)/\R J H'
def PI(X:Cx)(tg iter:Expr)(wi:TI):Prop:=
 ∀(pins:List (Addr × Obj)) (s:Shared) (σ:St) (H:Hp) (R:It->Hp->Prop),Inv X pins σ H s->wi σ H R ->
  wpAny (model X.prog X.w) X.A (eval iter X.env) (fun v s1=>wpAny (model X.prog X.w) X.A (pyIter v) (PIE X pins σ tg R) X.xe s1) X.xe s
theorem pT{s:Shared}{o:Obj}(ho:s.heap.get? it=some o)(hc:o.cls = .type n)(hd:o.data = .fields vs)
 (hn:["enumerate","zip","dict_itemiterator","dict_reverseitemiterator","odict_iterator","itertools.zip_longest","itertools.pairwise"].contains n=false) (hQ:Q () s):wpAny M A (YE tg (.ref it) u) Q E s:=by
 unfold YE;cases tg <;> first
  |exact zA hQ
  |(cases u <;> first
   |exact zA hQ
   |(refine zj (wpAny_load ho ?_);rw[hc,hd];show wpAny M A (if (["enumerate","zip","dict_itemiterator","dict_reverseitemiterator","odict_iterator","itertools.zip_longest","itertools.pairwise"].contains n&&vs[0]? == some (rawInt _))=true then _ else _) Q E s;rw[if_neg (by intro h;rw[hn,YO]at h;cases h)];exact zA hQ))
def Itl(K:W.Frag)(a:Addr):It:=
 ⟨fun i H=>∃xs x,SqL K H a xs/\xs[i]? = some x,fun i H x H'=>H'=H/\∀xs,SqL K H a xs->xs[i]? = some x,fun i H=>∃xs,SqL K H a xs/\xs.length<=i⟩
def Itt(K:W.Frag)(a:Addr):It:=
 ⟨fun i H=>∃xs x,SqT K H a xs/\xs[i]? = some x,fun i H x H'=>H'=H/\∀xs,SqT K H a xs->xs[i]? = some x,fun i H=>∃xs,SqT K H a xs/\xs.length<=i⟩
def Itr(lo:Int)(n:Nat):It:=⟨fun i _=>i<n,fun i H x H'=>H'=H/\x = .int (lo+i),fun i _=>n<=i⟩
theorem rR{P:Program}{w:World}{K:W.Frag}{tg:Expr}(a it:Addr):zo P w K tg (Itl K a) [it] it (fun i h=>h.IsListIter it a i) where
 mem:=by simp
 obj:=fun i h st b hb=>by
  have e:b=it:=by simpa using hb
  subst e;obtain⟨o,e,c,d⟩:=st;exact⟨o,e,fun v z=>by rw[d]at z;cases z⟩
 keep:=fun i h h' st k=>st.at fun o e=>k it (by simp) o e
 item:=by
  intro X hP hw hK hc i pins s σ H E I hf st hg;subst hP hw hK;obtain⟨xs,x,hq,hx⟩:=hg;obtain⟨its,rv,p,hz⟩:=I.list hq;obtain⟨u,hu,ru⟩:=rv.get hx;obtain⟨f0,f1,f2,f3,f4,f5⟩:=hf it (by simp);refine wpAny_pyNext_list_item st p.isList (x:=u) (by simpa using hu) fun h' st' sb=>?_;have I1:Inv X pins σ H { s with heap:=h' }:=I.turned (t':=s.toks) (fun b o hb e=>(sb.2 b hb).trans e) f0 f1 f3 f4 f5;obtain⟨o,e,c,d⟩:=id st';exact⟨u,rfl,pT (s:={ s with heap:=h' }) e c d (by decide) ⟨x,H,I1,ru,⟨rfl,fun ys hy=>by rw[I.list_inj hy hq];exact hx⟩,st',fun b hb=>(hf b hb).1⟩⟩
 done:=by
  intro X hP hw hK hc i pins s σ H E I hf st hg;subst hP hw hK;obtain⟨xs,hq,hx⟩:=hg;obtain⟨its,rv,p,hz⟩:=I.list hq;obtain⟨f0,f1,f2,f3,f4,f5⟩:=hf it (by simp);have hl:=rv.length;exact wpAny_pyNext_list_end (I.ok.hd hc) st p.isList (by simp;lia) fun h' eb=>⟨rfl,I.turned (t':=s.toks) (fun b o hb e=>eb b o hb e) f0 f1 f3 f4 f5⟩
 self:=fun _ _ _ _ _ st h=>wpAny_pyIter_listiter st h
theorem oY{P:Program}{w:World}{K:W.Frag}{tg:Expr}(a it:Addr):zo P w K tg (Itt K a) [it] it (fun i h=>h.IsTupleIter it a i) where
 mem:=by simp
 obj:=fun i h st b hb=>by
  have e:b=it:=by simpa using hb
  subst e;obtain⟨o,e,c,d⟩:=st;exact⟨o,e,fun v z=>by rw[d]at z;cases z⟩
 keep:=fun i h h' st k=>st.at fun o e=>k it (by simp) o e
 item:=by
  intro X hP hw hK hc i pins s σ H E I hf st hg;subst hP hw hK;obtain⟨xs,x,hq,hx⟩:=hg;obtain⟨its,rv,p,hz⟩:=I.tuple hq;obtain⟨u,hu,ru⟩:=rv.get hx;obtain⟨f0,f1,f2,f3,f4,f5⟩:=hf it (by simp);refine wpAny_pyNext_tuple_item st (show s.heap.IsTuple a its.toArray from p) (x:=u) (by simpa using hu) fun h' st' sb=>?_;have I1:Inv X pins σ H { s with heap:=h' }:=I.turned (t':=s.toks) (fun b o hb e=>(sb.2 b hb).trans e) f0 f1 f3 f4 f5;obtain⟨o,e,c,d⟩:=id st';exact⟨u,rfl,pT (s:={ s with heap:=h' }) e c d (by decide) ⟨x,H,I1,ru,⟨rfl,fun ys hy=>by rw[I.tuple_inj hy hq];exact hx⟩,st',fun b hb=>(hf b hb).1⟩⟩
 done:=by
  intro X hP hw hK hc i pins s σ H E I hf st hg;subst hP hw hK;obtain⟨xs,hq,hx⟩:=hg;obtain⟨its,rv,p,hz⟩:=I.tuple hq;obtain⟨f0,f1,f2,f3,f4,f5⟩:=hf it (by simp);have hl:=rv.length;exact wpAny_pyNext_tuple_end (I.ok.hd hc) st (show s.heap.IsTuple a its.toArray from p) (by simp;lia) fun h' eb=>⟨rfl,I.turned (t':=s.toks) (fun b o hb e=>eb b o hb e) f0 f1 f3 f4 f5⟩
 self:=fun _ _ _ _ _ st h=>wpAny_pyIter_tupleiter st h
theorem wy{P:Program}{w:World}{K:W.Frag}{tg:Expr}(it:Addr)(lo:Int)(n:Nat):zo P w K tg (Itr lo n) [it] it (fun i h=>IsRangeIter h it (lo+(i:Nat)*1) ((n:Int)-(i:Nat)) 1) where
 mem:=by simp
 obj:=fun i h st b hb=>by
  have e:b=it:=by simpa using hb
  subst e;exact⟨_,st,fun v z=>by
   have z':Data.fields _=Data.cell v:=z;cases z'⟩
 keep:=fun i h h' st k=>k it (by simp) _ st
 item:=by
  intro X hP hw hK hc i pins s σ H E I hf st hg;subst hP hw hK;obtain⟨f0,f1,f2,f3,f4,f5⟩:=hf it (by simp);have W:=Walks.range (prog:=X.prog) (w:=X.w) (I.ok.hd hc) it lo 1 n;refine W.item i s _ _ hg st fun v h' tk hv st' kk=>?_;obtain⟨t,rfl⟩:=hv;have I1:Inv X pins σ H { s with heap:=h',toks:=tk }:=I.turned (fun b o hb e=>kk b o (by simpa using hb) e) f0 f1 f3 f4 f5;refine⟨_,rfl,pT (s:={ s with heap:=h',toks:=tk }) (n:="range_iterator") st' rfl rfl (by decide) ⟨.int (lo+i),H,I1,⟨t,?_⟩,⟨rfl,rfl⟩,st',fun b hb=>(hf b hb).1⟩⟩;rw[Int.mul_one]
 done:=by
  intro X hP hw hK hc i pins s σ H E I hf st hg;subst hP hw hK;obtain⟨f0,f1,f2,f3,f4,f5⟩:=hf it (by simp);exact wpAny_pyNext_range_end (I.ok.hd hc) st (by have:n<=i:=hg;lia) fun h' eb=>⟨rfl,I.turned (t':=s.toks) (fun b o hb e=>eb b o hb e) f0 f1 f3 f4 f5⟩
 self:=fun _ _ _ _ _ st h=>wpAny_pyIter_rangeiter st h
section
variable{X:Cx}{tg:Expr}
def oP(K:W.Frag)(tl:TE):TI:=fun σ H R=>tl σ H fun x H1=>∃a,x = .ref a/\(∃xs,SqL K H1 a xs)/\R (Itl K a) H1
def zD(K:W.Frag)(tl:TE):TI:=fun σ H R=>tl σ H fun x H1=>∃a,x = .ref a/\(∃xs,SqT K H1 a xs)/\R (Itt K a) H1
theorem DB{l:Expr}{tl:TE}(hl:PE X l tl):PI X tg l (oP X.K tl):=by
 intro pins s σ H R I h;refine thn (hl pins s σ H _ I h) fun v s1 hq_=>?_;obtain⟨x,H1,I1,r1,q1⟩:=hq_;obtain⟨a,e,⟨xs,hq⟩,q⟩:=q1;subst e;cases r1;obtain⟨its,rv,p,hz⟩:=I1.list hq;refine YY p.isList ?_;refine⟨s1.heap.objs.size,[s1.heap.objs.size],_,_,H1,rfl,I1.kept (t':=s1.toks) fun b o e=>Heap.get?_push_of_some _ e,rR a _,⟨_,Heap.get?_push_size _ rfl,rfl,rfl⟩,fun b hb=>?_,q⟩;have e:b=s1.heap.objs.size:=by simpa using hb
 subst e;exact I1.fpOk (zL _) (I1.hok.fresh (zL _))
theorem Gz{l:Expr}{tl:TE}(hl:PE X l tl):PI X tg l (zD X.K tl):=by
 intro pins s σ H R I h;refine thn (hl pins s σ H _ I h) fun v s1 hq_=>?_;obtain⟨x,H1,I1,r1,q1⟩:=hq_;obtain⟨a,e,⟨xs,hq⟩,q⟩:=q1;subst e;cases r1;obtain⟨its,rv,p,hz⟩:=I1.tuple hq;refine wpAny_pyIter_tuple (show s1.heap.IsTuple a its.toArray from p) ?_;refine⟨s1.heap.objs.size,[s1.heap.objs.size],_,_,H1,rfl,I1.kept (t':=s1.toks) fun b o e=>Heap.get?_push_of_some _ e,oY a _,⟨_,Heap.get?_push_size _ rfl,rfl,rfl⟩,fun b hb=>?_,q⟩;have e:b=s1.heap.objs.size:=by simpa using hb
 subst e;exact I1.fpOk (zL _) (I1.hok.fresh (zL _))
theorem uz{pins:List (Addr × Obj)}{σ:St}{H:Hp}{s:Shared}{R:It->Hp->Prop}{E:Value->Shared->Prop}{lo hi:Int}{t u v:Tok}{tk:Nat}(I:Inv X pins σ H s)(h1:-(2 ^ 62)<=lo)(h2:lo<2 ^ 62)(h3:-(2 ^ 62)<=hi)(h4:hi<2 ^ 62)
 (q:R (Itr lo (hi-lo).toNat) H):wpAny (model X.prog X.w) X.A (pyIter (.ref s.heap.objs.size)) (PIE X pins σ tg R) E { s with heap:=s.heap.push { cls:=.type "range",data:=.fields #[.int lo t,.int hi u,.int 1 v] },toks:=tk }:=by
 refine wpAny_pyIter_range (IsRange.new ..) (small_one h1 h2 h3 h4) ?_;have I1:Inv X pins σ H { s with heap:=s.heap.push { cls:=.type "range",data:=.fields #[.int lo t,.int hi u,.int 1 v] },toks:=tk }:=I.kept fun b o e=>Heap.get?_push_of_some _ e;refine⟨(s.heap.push { cls:=.type "range",data:=.fields #[.int lo t,.int hi u,.int 1 v] }).objs.size,[(s.heap.push { cls:=.type "range",data:=.fields #[.int lo t,.int hi u,.int 1 v] }).objs.size],_,_,H,rfl,
  I1.kept (t':=tk) fun b o e=>Heap.get?_push_of_some _ e,wy _ lo (hi-lo).toNat,?_,fun b hb=>?_,q⟩
 ·have e1:lo+((0:Nat):Int)*1=lo:=by simp
  have e2:(((hi-lo).toNat:Nat):Int)-((0:Nat):Int)=Builtin.Range.rangeSize lo hi 1:=by rw[rangeSize_one];split <;> lia
  show IsRangeIter _ _ (lo+((0:Nat):Int)*1) ((((hi-lo).toNat:Nat):Int)-((0:Nat):Int)) 1;rw[e1,e2];exact Heap.get?_push_size _ rfl
 ·have e:b=(s.heap.push { cls:=.type "range",data:=.fields #[.int lo t,.int hi u,.int 1 v] }).objs.size:=by simpa using hb
  subst e;exact I1.fpOk (zL _) (I1.hok.fresh (zL _))
def Fp(ta:TA):TI:=fun σ H R=>ta σ H fun vs H1=>∃j:Int,vs=[.int j] /\ -(2 ^ 62)<=j/\j<2 ^ 62/\R (Itr 0 j.toNat) H1
def E4(ta:TA):TI:=fun σ H R=>ta σ H fun vs H1=>∃i j:Int,vs=[.int i,.int j]/\(-(2 ^ 62)<=i/\i<2 ^ 62 /\ -(2 ^ 62)<=j/\j<2 ^ 62)/\R (Itr i (j-i).toNat) H1
theorem eO{a:Expr}{ta:TA}{p pos:Pos}(hg:Gl X "range")(hm:X.mg "range" = none)(ha:PA X [a] ta)(hs:starEach [a] X.env=[(false,eval a X.env)]:=by rfl):PI X tg (.Call (.Name "range" p) [a] [] pos) (Fp ta):=by
 intro pins s σ H R I h;refine Call_ (oX I hg hm boot_range (YX (thn (ha pos pins s σ H _ I h) fun us s1 hq_=>?_) hs rfl));obtain⟨vs,H1,I1,r1,q1⟩:=hq_;obtain⟨j,e,q1,q2,q⟩:=q1;subst e;cases r1 with
 |cons r rr=>
  cases rr;obtain⟨t,rfl⟩:=r;exact call_range_1 (uz I1 (by lia) (by lia) q1 q2 (by simpa using q))
theorem zk{a b:Expr}{ta:TA}{p pos:Pos}(hg:Gl X "range")(hm:X.mg "range" = none)(ha:PA X [a,b] ta)(hs:starEach [a,b] X.env=[(false,eval a X.env),(false,eval b X.env)]:=by rfl)(hs2:starEach [b] X.env=[(false,eval b X.env)]:=by rfl) :
 PI X tg (.Call (.Name "range" p) [a,b] [] pos) (E4 ta):=by
 intro pins s σ H R I h;refine Call_ (oX I hg hm boot_range (YX (thn (ha pos pins s σ H _ I h) fun us s1 ⟨vs,H1,I1,r1,q1⟩=>?_) (by rw[hs,hs2]) (by rw[hs2];rfl)));obtain⟨i,j,e,⟨q1,q2,q3,q4⟩,q⟩:=q1;subst e;cases r1 with
 |cons r rr=>
  cases rr with
  |cons r' rr=>
   cases rr;obtain⟨t,rfl⟩:=r;obtain⟨t',rfl⟩:=r';exact call_range_2 (uz I1 q1 q2 q3 q4 q)
def sO(wi:TI)(g:TG)(tb:TS):TS:=fun D σ H=>wi σ H fun J H1=>∃W:Nat->Nat->St->Hp->Prop,(∃m,W 0 m σ H1)/\∀i m σ H,W i m σ H ->
 (J.stop i H/\D.nx σ H)\/(J.go i H/\∃N:St->Hp->Prop,(∀σ' H',N σ' H'->∃m',m'<m/\W (i+1) m' σ' H')/\∀x H',J.yld i H x H'->g x σ H' fun σ2 H2=>tb { D with nx:=N,ct:=N,bk:=D.nx } σ2 H2)
def o9(fp:List Addr)(h:Heap):List (Addr × Obj):=fp.filterMap fun b=>(h.get? b).map fun o=>(b,o)
theorem gz{fp:List Addr}{h:Heap}{b:Addr}{o:Obj}(hb:b∈fp)(e:h.get? b=some o):(b,o)∈o9 fp h:=List.mem_filterMap.mpr ⟨b,hb,by rw[e];rfl⟩
theorem zm{h:Heap}(hp:p∈o9 fp h):p.1∈fp/\h.get? p.1=some p.2:=by
 obtain⟨b,hb,e⟩:=List.mem_filterMap.mp hp;cases q:h.get? b with
 |none=>rw[q]at e;cases e
 |some o=>
  rw[q]at e;have e':(b,o)=p:=tZ e;subst e';exact⟨hb,q⟩
theorem Inv.pinned{pins:List (Addr × Obj)}{σ:St}{H:Hp}{s:Shared}{fp:List Addr}(I:Inv X pins σ H s)(hf:∀b∈fp,lL X pins H b)(ho:∀b∈fp,∃o,s.heap.get? b=some o/\∀v,o.data ≠ .cell v):Inv X (pins++o9 fp s.heap) σ H s:=
 I.pins_of fun p hp=>(z7.mp hp).elim (fun z=>I.pin p (zd _ z)) fun z=>by
  obtain⟨hb,e⟩:=zm z;obtain⟨f0,f1,f2,_⟩:=hf p.1 hb;obtain⟨o,e',d⟩:=ho p.1 hb;rw[e]at e';cases e';exact⟨e,f0,f1,f2,d⟩
theorem Inv.unpinned{pins pl:List (Addr × Obj)}{σ:St}{H:Hp}{s:Shared}(I:Inv X (pins++pl) σ H s):Inv X pins σ H s:=I.pins_of fun p hp=>I.pin p (zd _ (wW _ hp))
theorem cX{iter:Expr}{body:List Stmt}{wi:TI}{g:TG}{tb:TS}{pos:Pos}(hp:PassesOwn (model X.prog X.w) X.A X.env X.xe)(hc:X.calm=true)(hi:PI X tg iter wi)(hg:PG X tg g)(hb:PSs X body tb)
 (hs:∀x,ZB iter X.env x=pure x:=by intro _;rfl):PS X (.For tg iter body [] pos) (sO wi g tb):=by
 intro pins s σ H D I h;refine wpAny_For (thn (hi pins s σ H _ I h) fun v s1 h1=>thn h1 fun itv s2 h2=>?_) hs;obtain⟨it,fp,tn,J,H2,e,I2,T,st2,f2,W,⟨m0,w0⟩,turn⟩:=h2;subst e;have stat:∀ {H':Hp},(∀b∈fp,H' b=none)->∀b∈fp,lL X pins H' b:=fun hn b hb=>⟨hn b hb,(f2 b hb).2⟩;refine codeAny_forLoop_any (fun n s'=>∃i σ' H',Inv X pins σ' H' s'/\tn i s'.heap/\(∀b∈fp,H' b=none)/\W i n σ' H') ?_ m0 ⟨0,σ,H2,I2,st2,fun b hb=>(f2 b hb).1,w0⟩;rintro n s3 ⟨i,σ3,H3,I3,st3,fr3,w3⟩;rcases turn i n σ3 H3 w3 with ⟨stop,qn⟩|⟨go,N,hN,step⟩
 ·refine Ys hp (thn (T.done X rfl rfl rfl hc i pins s3 σ3 H3 X.xe I3 (stat fr3) st3 stop) fun r s4 hq_=>?_)
  obtain⟨hr,I4⟩:=hq_;subst hr;exact YF ⟨σ3,H3,I4,qn⟩
 ·refine Ys hp (thn (T.item X rfl rfl rfl hc i pins s3 σ3 H3 X.xe I3 (stat fr3) st3 go) fun r s4 hq_=>?_)
  obtain⟨u,hr,h4⟩:=hq_;subst hr;refine Ys hp (thn h4 fun _ s5 hq_=>?_);obtain⟨x,H5,I5,r5,y5,st5,fr5⟩:=hq_;have I5':=I5.pinned (stat fr5) (T.obj _ _ st5);refine Ys hp (thn (hg _ s5 σ3 H5 x u _ I5' r5 (step x H5 y5)) fun _ s6 hq_=>?_);obtain⟨σ6,H6,I6,q6⟩:=hq_;refine Ys hp (thn (hb _ s6 σ6 H6 _ I6 q6) fun f s7 q7=>?_);have again:∀ {σ7:St} {H7:Hp},Inv X (pins++o9 fp s5.heap) σ7 H7 s7->N σ7 H7->∃m,m<n/\∃i σ' H',Inv X pins σ' H' s7/\tn i s7.heap/\(∀b∈fp,H' b=none)/\W i m σ' H':=fun {σ7 H7} I7 n7=>by
   obtain⟨m',hm,w7⟩:=hN σ7 H7 n7;refine⟨m',hm,i+1,σ7,H7,I7.unpinned,T.keep _ _ _ st5 fun b hb o e=>(I7.pin (b,o) (zd _ (zd _ (gz hb e)))).1,fun b hb=>?_,w7⟩;obtain⟨o,e,d⟩:=T.obj _ _ st5 b hb;exact(I7.pin (b,o) (zd _ (zd _ (gz hb e)))).2.1
  cases f with
  |next=>obtain⟨σ7,H7,I7,n7⟩:=q7;exact again I7 n7
  |cont=>obtain⟨σ7,H7,I7,n7⟩:=q7;exact again I7 n7
  |brk=>obtain⟨σ7,H7,I7,q7⟩:=q7;exact⟨σ7,H7,I7.unpinned,q7⟩
  |ret v=>obtain⟨x7,σ7,H7,I7,r7,q7⟩:=q7;exact⟨x7,σ7,H7,I7.unpinned,r7,q7⟩
end
theorem ij{K:W.Frag}{a:Addr}{xs:List V}{g:TG}{tb:TS}{D:eA}{σ:St}{H:Hp}(Pv:Nat->St->Hp->Prop)(h0:Pv 0 σ H)(hl:∀i σ H,i<=xs.length->Pv i σ H->SqL K H a xs)
 (hs:∀i x σ H,xs[i]? = some x->Pv i σ H->g x σ H fun σ2 H2=>tb { D with nx:=Pv (i+1),ct:=Pv (i+1),bk:=D.nx } σ2 H2) (hd:∀σ H,Pv xs.length σ H->D.nx σ H) :
 ∃W:Nat->Nat->St->Hp->Prop,(∃m,W 0 m σ H)/\∀i m σ H,W i m σ H ->
  ((Itl K a).stop i H/\D.nx σ H)\/((Itl K a).go i H/\∃N:St->Hp->Prop,(∀σ' H',N σ' H'->∃m',m'<m/\W (i+1) m' σ' H')/\∀x H',(Itl K a).yld i H x H'->g x σ H' fun σ2 H2=>tb { D with nx:=N,ct:=N,bk:=D.nx } σ2 H2):=by
 refine⟨fun i m σ H=>m=xs.length-i/\i<=xs.length/\Pv i σ H,⟨xs.length,by simp,wQ _,h0⟩,?_⟩;rintro i m σ H ⟨rfl,hi,p⟩;have q:=hl i σ H hi p;by_cases hlt:i<xs.length
 ·refine .inr ⟨⟨xs,xs[i],q,by simp[hlt]⟩,Pv (i+1),fun σ' H' p'=>⟨xs.length-(i+1),by lia,rfl,hlt,p'⟩,fun x H' y=>?_⟩
  obtain⟨e,y⟩:=y;subst e;exact hs i x σ _ (y xs q) p
 ·have e:i=xs.length:=by lia
  subst e;exact .inl ⟨⟨xs,q,zL _⟩,hd σ H p⟩
theorem tU{K:W.Frag}{a:Addr}{xs:List V}{g:TG}{tb:TS}{D:eA}{σ:St}{H:Hp}(Pv:Nat->St->Hp->Prop)(h0:Pv 0 σ H)(hl:∀i σ H,i<=xs.length->Pv i σ H->SqT K H a xs)
 (hs:∀i x σ H,xs[i]? = some x->Pv i σ H->g x σ H fun σ2 H2=>tb { D with nx:=Pv (i+1),ct:=Pv (i+1),bk:=D.nx } σ2 H2) (hd:∀σ H,Pv xs.length σ H->D.nx σ H) :
 ∃W:Nat->Nat->St->Hp->Prop,(∃m,W 0 m σ H)/\∀i m σ H,W i m σ H ->
  ((Itt K a).stop i H/\D.nx σ H)\/((Itt K a).go i H/\∃N:St->Hp->Prop,(∀σ' H',N σ' H'->∃m',m'<m/\W (i+1) m' σ' H')/\∀x H',(Itt K a).yld i H x H'->g x σ H' fun σ2 H2=>tb { D with nx:=N,ct:=N,bk:=D.nx } σ2 H2):=by
 refine⟨fun i m σ H=>m=xs.length-i/\i<=xs.length/\Pv i σ H,⟨xs.length,by simp,wQ _,h0⟩,?_⟩;rintro i m σ H ⟨rfl,hi,p⟩;have q:=hl i σ H hi p;by_cases hlt:i<xs.length
 ·refine .inr ⟨⟨xs,xs[i],q,by simp[hlt]⟩,Pv (i+1),fun σ' H' p'=>⟨xs.length-(i+1),by lia,rfl,hlt,p'⟩,fun x H' y=>?_⟩
  obtain⟨e,y⟩:=y;subst e;exact hs i x σ _ (y xs q) p
 ·have e:i=xs.length:=by lia
  subst e;exact .inl ⟨⟨xs,q,zL _⟩,hd σ H p⟩
theorem eN{lo:Int}{n:Nat}{g:TG}{tb:TS}{D:eA}{σ:St}{H:Hp}(Pv:Nat->St->Hp->Prop)(h0:Pv 0 σ H)
 (hs:∀i σ H,i<n->Pv i σ H->g (.int (lo+i)) σ H fun σ2 H2=>tb { D with nx:=Pv (i+1),ct:=Pv (i+1),bk:=D.nx } σ2 H2) (hd:∀σ H,Pv n σ H->D.nx σ H) :
 ∃W:Nat->Nat->St->Hp->Prop,(∃m,W 0 m σ H)/\∀i m σ H,W i m σ H ->
  ((Itr lo n).stop i H/\D.nx σ H)\/((Itr lo n).go i H/\∃N:St->Hp->Prop,(∀σ' H',N σ' H'->∃m',m'<m/\W (i+1) m' σ' H')/\∀x H',(Itr lo n).yld i H x H'->g x σ H' fun σ2 H2=>tb { D with nx:=N,ct:=N,bk:=D.nx } σ2 H2):=by
 refine⟨fun i m σ H=>m=n-i/\i<=n/\Pv i σ H,⟨n,by simp,wQ _,h0⟩,?_⟩;rintro i m σ H ⟨rfl,hi,p⟩;by_cases hlt:i<n
 ·refine .inr ⟨hlt,Pv (i+1),fun σ' H' p'=>⟨n-(i+1),by lia,rfl,hlt,p'⟩,fun x H' y=>?_⟩
  obtain⟨e,y⟩:=y;subst e y;exact hs i σ _ hlt p
 ·have e:i=n:=by lia
  subst e;exact .inl ⟨zL _,hd σ H p⟩
abbrev R2:=V->V->Hp->VK->Prop
def OpR(X:Cx)(f:Value->Value->Sem Value)(r:R2):Prop:=
 ∀(pins:List (Addr × Obj)) (s:Shared) (σ:St) (H:Hp) (x y:V) (v u:Value) (Q:VK),Inv X pins σ H s->RelV x v->RelV y u->r x y H Q ->
  wpAny (model X.prog X.w) X.A (f v u) (EP X pins σ Q) X.xe s
def UnR(X:Cx)(f:Value->Sem Value)(r:V->Hp->VK->Prop):Prop:=
 ∀(pins:List (Addr × Obj)) (s:Shared) (σ:St) (H:Hp) (x:V) (v:Value) (Q:VK),Inv X pins σ H s->RelV x v->r x H Q ->
  wpAny (model X.prog X.w) X.A (f v) (EP X pins σ Q) X.xe s
def CallR(X:Cx)(f:Value)(r:List V->Hp->VK->Prop):Prop:=
 ∀(pins:List (Addr × Obj)) (s:Shared) (σ:St) (H:Hp) (xs:List V) (us:List Value) (Q:VK),Inv X pins σ H s->Vals xs us->r xs H Q ->
  wpAny (model X.prog X.w) X.A (call f us) (EP X pins σ Q) X.xe s
def JD(X:Cx)(r:V->Hp->(Bool->Hp->Prop)->Prop):Prop:=
 ∀(pins:List (Addr × Obj)) (s:Shared) (σ:St) (H:Hp) (x:V) (v:Value) (Q:Bool->Hp->Prop),Inv X pins σ H s->RelV x v->r x H Q ->
  wpAny (model X.prog X.w) X.A (truthy v) (TP X pins σ Q) X.xe s
def tOp(r:R2)(ta tb:TE):TE:=fun σ H Q=>ta σ H fun x H1=>tb σ H1 fun y H2=>r x y H2 Q
def tUn(r:V->Hp->VK->Prop)(ta:TE):TE:=fun σ H Q=>ta σ H fun x H1=>r x H1 Q
def rI(C:Int->Int->Prop)(g:Int->Int->V):R2:=fun x y H Q=>∃i j,x = .int i/\y = .int j/\C i j/\Q (g i j) H
def rI0(g:Int->Int->V):R2:=fun x y H Q=>∃i j,x = .int i/\y = .int j/\Q (g i j) H
def rU(g:Int->V):V->Hp->VK->Prop:=fun x H Q=>∃i,x = .int i/\Q (g i) H
section
variable{X:Cx}{a b c:Expr}{ta tb tc:TE}{pos:Pos}
theorem GI(ha:PE X a ta)(hb:PE X b tb){pins:List (Addr × Obj)}{s:Shared}{σ:St}{H:Hp}{R:V->V->Hp->Prop}(I:Inv X pins σ H s)
 (h:ta σ H fun x H1=>tb σ H1 fun y H2=>R x y H2) {Q:Value->Shared->Prop} {f:Value->Value->Sem Value}
 (hf:∀v u s2 x y H2,Inv X pins σ H2 s2->RelV x v->RelV y u->R x y H2->wpAny (model X.prog X.w) X.A (f v u) Q X.xe s2) :
 wpAny (model X.prog X.w) X.A (eval a X.env) (fun v s₁=>wpAny (model X.prog X.w) X.A (eval b X.env) (fun u s₂=>wpAny (model X.prog X.w) X.A (f v u) Q X.xe s₂) X.xe s₁) X.xe s:=by
 refine thn (ha pins s σ H _ I h) fun v s1 hq_=>?_;obtain⟨x,H1,I1,r1,q1⟩:=hq_;refine thn (hb pins s1 σ H1 _ I1 q1) fun u s2 hq_=>?_;obtain⟨y,H2,I2,r2,q2⟩:=hq_;exact hf v u s2 x y H2 I2 r1 r2 q2
theorem aj{op:Operator}{r:R2}(ho:OpR X (binaryOp op) r)(ha:PE X a ta)(hb:PE X b tb):PE X (.BinOp a op b pos) (tOp r ta tb):=by
 intro pins s σ H Q I h;exact wpAny_BinOp (GI ha hb I h fun v u s2 x y H2 I2 rx ry q=>ho pins s2 σ H2 x y v u Q I2 rx ry q)
theorem yf{op:UnaryOp}{r:V->Hp->VK->Prop}(ho:UnR X (unaryOp op) r)(ha:PE X a ta):PE X (.UnaryOp op a pos) (tUn r ta):=by
 intro pins s σ H Q I h;exact UnaryOp_ (thn (ha pins s σ H _ I h) fun v s1 hq_=>(by obtain⟨x,H1,I1,r1,q1⟩:=hq_;exact ho pins s1 σ H1 x v Q I1 r1 q1))
theorem opI{f:Value->Value->Sem Value}{C:Int->Int->Prop}{g:Int->Int->Int}
 (rule:∀(i j:Int) (t u:Tok) (s:Shared) (Q:Value->Shared->Prop) (E:Value->Shared->Prop),C i j->Q (.int (g i j) s.toks) { s with toks:=s.toks+1 }->wpAny (model X.prog X.w) X.A (f (.int i t) (.int j u)) Q E s) :
 OpR X f (rI C fun i j=>.int (g i j)):=by
 intro pins s σ H x y v u Q I rx ry h;obtain⟨i,j,rfl,rfl,hc,q⟩:=h;obtain⟨t,rfl⟩:=rx;obtain⟨t',rfl⟩:=ry;exact rule i j t t' s _ _ hc ⟨.int (g i j),H,I.tok _,⟨_,rfl⟩,q⟩
theorem IT{f:Value->Value->Sem Value}{g:Int->Int->Int}
 (rule:∀(i j:Int) (t u:Tok) (s:Shared) (Q:Value->Shared->Prop) (E:Value->Shared->Prop),Q (.int (g i j) s.toks) { s with toks:=s.toks+1 }->wpAny (model X.prog X.w) X.A (f (.int i t) (.int j u)) Q E s) :
 OpR X f (rI0 fun i j=>.int (g i j)):=by
 intro pins s σ H x y v u Q I rx ry h;obtain⟨i,j,rfl,rfl,q⟩:=h;obtain⟨t,rfl⟩:=rx;obtain⟨t',rfl⟩:=ry;exact rule i j t t' s _ _ ⟨.int (g i j),H,I.tok _,⟨_,rfl⟩,q⟩
theorem GZ{f:Value->Value->Sem Value}{g:Int->Int->Bool}
 (rule:∀(i j:Int) (t u:Tok) (s:Shared) (Q:Value->Shared->Prop) (E:Value->Shared->Prop),Q (.bool (g i j)) s->wpAny (model X.prog X.w) X.A (f (.int i t) (.int j u)) Q E s) :
 OpR X f (rI0 fun i j=>.bl (g i j)):=by
 intro pins s σ H x y v u Q I rx ry h;obtain⟨i,j,rfl,rfl,q⟩:=h;obtain⟨t,rfl⟩:=rx;obtain⟨t',rfl⟩:=ry;exact rule i j t t' s _ _ ⟨.bl (g i j),H,I,rfl,q⟩
def FI(i j:Int):Prop:=0<j/\j<1073741824
def GP(i j:Int):Prop:=0<=j/\j<=1000000/\i.natAbs<2 ^ 64
def CMul(i j:Int):Prop:=(-(2 ^ 64)<i/\i<2 ^ 64)\/(-(2 ^ 64)<j/\j<2 ^ 64)
theorem CMul.ok{i j:Int}(h:CMul i j):IntMulOk i j:=by
 rcases h with ⟨h1,h2⟩|⟨h1,h2⟩
 ·exact .of_left (intBits_le_64 h1 h2)
 ·exact .of_right (intBits_le_64 h1 h2)
theorem GA:OpR X (binaryOp .Add) (rI0 fun i j=>.int (i+j)):=IT fun _ _ _ _ _ _ _ q=>add_int q
theorem Gi:OpR X (binaryOp .Sub) (rI0 fun i j=>.int (i-j)):=IT fun _ _ _ _ _ _ _ q=>sub_int q
theorem Hr:OpR X (binaryOp .Mult) (rI CMul fun i j=>.int (i*j)):=opI fun _ _ _ _ _ _ _ hc q=>mul_int q hc.ok
theorem Dd:OpR X (binaryOp .FloorDiv) (rI FI fun i j=>.int (i / j)):=opI fun i j _ _ _ _ _ hc q=>by
 have h1:(0:Int)<j:=hc.1;have h2:j<1073741824:=hc.2;exact floordiv_int (by lia) (by rw[Int.fdiv_eq_ediv_of_nonneg i (by lia)];exact q) (.inl (PyProof.noPylong_small (by lia)))
theorem G7:OpR X (binaryOp .Mod) (rI (fun _ j=>0<j) fun i j=>.int (i % j)):=opI fun i j _ _ _ _ _ hc q=>by
 have h1:(0:Int)<j:=hc;exact mod_int' (by lia) (by rw[Int.fmod_eq_emod_of_nonneg i (by lia)];exact q)
theorem GT:OpR X (binaryOp .Pow) (rI GP fun i j=>.int (i ^ j.toNat)):=opI fun _ _ _ _ _ _ _ hc q=>pow_int_small hc.1 hc.2.1 hc.2.2 q
theorem unI{f:Value->Sem Value}{g:Int->Int}
 (rule:∀(i:Int) (t:Tok) (s:Shared) (Q:Value->Shared->Prop) (E:Value->Shared->Prop),Q (.int (g i) s.toks) { s with toks:=s.toks+1 }->wpAny (model X.prog X.w) X.A (f (.int i t)) Q E s) :
 UnR X f (rU fun i=>.int (g i)):=by
 intro pins s σ H x v Q I rx h;obtain⟨i,rfl,q⟩:=h;obtain⟨t,rfl⟩:=rx;exact rule i t s _ _ ⟨.int (g i),H,I.tok _,⟨_,rfl⟩,q⟩
theorem HA:UnR X (unaryOp .USub) (rU fun i=>.int (-i)):=unI fun _ _ _ _ _ q=>neg_int q
end
def Fu:V->V->Bool
 | .non,.non=>true | .non,.int _=>true | .int _,.non=>true | .non,.bl _=>true | .bl _,.non=>true | .non,.str _=>true | .str _,.non=>true
 | .int _,.int _=>true | .bl _,.bl _=>true | .str _,.str _=>true | .byt _,.byt _=>true
 | .int _,.str _=>true | .str _,.int _=>true | .bl _,.str _=>true | .str _,.bl _=>true
 |_,_=>false
def rEq:R2:=fun x y H Q=>Fu x y=true/\Q (.bl (decide (x=y))) H
def rNe:R2:=fun x y H Q=>Fu x y=true/\Q (.bl (!decide (x=y))) H
theorem yn:decide (V.int i=V.int j)=(i==j):=by
 rw[Z4];simp
theorem BI:decide (V.bl i=V.bl j)=(i==j):=by
 rw[Z4];simp
theorem yK:decide (V.str i=V.str j)=(i==j):=by
 rw[Z4];simp
theorem yh{i j:Array UInt8}:decide (V.byt i=V.byt j)=(i.toList==j.toList):=by
 rw[Z4];cases i;cases j;simp
section
variable{X:Cx}{a b c:Expr}{ta tb tc:TE}{pos:Pos}
theorem bE(I:Inv X pins σ H s)(q:Q (.bl k) H)(e:k=k'):EP X pins σ Q (.bool k') s:=by
 subst e;exact⟨.bl k,H,I,rfl,q⟩
theorem IL:OpR X (rW .Eq) rEq:=by
 intro pins s σ H x y v u Q I rx ry h;obtain⟨hs,q⟩:=h;cases x with
 |non=>
  cases rx;cases y with
  |non=>cases ry;exact PySem.EqNone.eq_none_none (bE I q (by simp))
  |bl j=>cases ry;exact PySem.EqNone.eq_none_bool (bE I q (by simp))
  |int j=>obtain⟨t',rfl⟩:=ry;exact PySem.EqNone.eq_none_int (bE I q (by simp))
  |str j=>obtain⟨t',rfl⟩:=ry;exact PySem.EqNone.eq_none_str (bE I q (by simp))
  |_=>exact absurd (show false=true from hs) xE
 |bl i=>
  cases rx;cases y with
  |non=>cases ry;exact PySem.EqNone.eq_bool_none (bE I q (by simp))
  |bl j=>cases ry;exact eq_bool (bE I q BI)
  |str j=>obtain⟨t',rfl⟩:=ry;exact PySem.EqMixed.eq_bool_str (bE I q (by simp))
  |_=>exact absurd (show false=true from hs) xE
 |int i=>
  obtain⟨t,rfl⟩:=rx;cases y with
  |non=>cases ry;exact PySem.EqNone.eq_int_none (bE I q (by simp))
  |int j=>obtain⟨t',rfl⟩:=ry;exact eq_int (bE I q yn)
  |str j=>obtain⟨t',rfl⟩:=ry;exact PySem.EqMixed.eq_int_str (bE I q (by simp))
  |_=>exact absurd (show false=true from hs) xE
 |str i=>
  obtain⟨t,rfl⟩:=rx;cases y with
  |non=>cases ry;exact PySem.EqNone.eq_str_none (bE I q (by simp))
  |bl j=>cases ry;exact PySem.EqMixed.eq_str_bool (bE I q (by simp))
  |int j=>obtain⟨t',rfl⟩:=ry;exact PySem.EqMixed.eq_str_int (bE I q (by simp))
  |str j=>obtain⟨t',rfl⟩:=ry;exact eq_str (bE I q yK)
  |_=>exact absurd (show false=true from hs) xE
 |byt i=>
  obtain⟨t,rfl⟩:=rx;cases y with
  |byt j=>obtain⟨t',rfl⟩:=ry;exact PySem.W.eq_bytes (bE I q yh)
  |_=>exact absurd (show false=true from hs) xE
 |_=>cases y <;> exact absurd (show false=true from hs) xE
theorem HW:OpR X (rW .NotEq) rNe:=by
 intro pins s σ H x y v u Q I rx ry h;obtain⟨hs,q⟩:=h;cases x with
 |non=>
  cases rx;cases y with
  |non=>cases ry;exact PySem.EqNone.ne_none_none (bE I q (by simp))
  |bl j=>cases ry;exact PySem.EqNone.ne_none_bool (bE I q (by simp))
  |int j=>obtain⟨t',rfl⟩:=ry;exact PySem.EqNone.ne_none_int (bE I q (by simp))
  |str j=>obtain⟨t',rfl⟩:=ry;exact PySem.EqNone.ne_none_str (bE I q (by simp))
  |_=>exact absurd (show false=true from hs) xE
 |bl i=>
  cases rx;cases y with
  |non=>cases ry;exact PySem.EqNone.ne_bool_none (bE I q (by simp))
  |bl j=>cases ry;exact ne_bool (bE I q (congrArg not BI))
  |str j=>obtain⟨t',rfl⟩:=ry;exact PySem.EqMixed.ne_bool_str (bE I q (by simp))
  |_=>exact absurd (show false=true from hs) xE
 |int i=>
  obtain⟨t,rfl⟩:=rx;cases y with
  |non=>cases ry;exact PySem.EqNone.ne_int_none (bE I q (by simp))
  |int j=>obtain⟨t',rfl⟩:=ry;exact ne_int (bE I q (congrArg not yn))
  |str j=>obtain⟨t',rfl⟩:=ry;exact PySem.EqMixed.ne_int_str (bE I q (by simp))
  |_=>exact absurd (show false=true from hs) xE
 |str i=>
  obtain⟨t,rfl⟩:=rx;cases y with
  |non=>cases ry;exact PySem.EqNone.ne_str_none (bE I q (by simp))
  |bl j=>cases ry;exact PySem.EqMixed.ne_str_bool (bE I q (by simp))
  |int j=>obtain⟨t',rfl⟩:=ry;exact PySem.EqMixed.ne_str_int (bE I q (by simp))
  |str j=>obtain⟨t',rfl⟩:=ry;exact ne_str (bE I q (congrArg not yK))
  |_=>exact absurd (show false=true from hs) xE
 |byt i=>
  obtain⟨t,rfl⟩:=rx;cases y with
  |byt j=>obtain⟨t',rfl⟩:=ry;exact PySem.W.ne_bytes (bE I q (congrArg not yh))
  |_=>exact absurd (show false=true from hs) xE
 |_=>cases y <;> exact absurd (show false=true from hs) xE
theorem Ih:OpR X (rW .Lt) (rI0 fun i j=>.bl (decide (i<j))):=GZ fun _ _ _ _ _ _ _ q=>lt_int q
theorem IQ:OpR X (rW .LtE) (rI0 fun i j=>.bl (decide (i<=j))):=GZ fun _ _ _ _ _ _ _ q=>le_int q
theorem Iw:OpR X (rW .Gt) (rI0 fun i j=>.bl (decide (j<i))):=GZ fun _ _ _ _ _ _ _ q=>gt_int q
theorem y_:OpR X (rW .Lt) (fun x y H Q=>∃i j,x = .str i/\y = .str j/\Q (.bl (decide (i.cps.toList<j.cps.toList))) H):=by
 intro pins s σ H x y v u Q I rx ry h;obtain⟨i,j,rfl,rfl,q⟩:=h;obtain⟨t,rfl⟩:=rx;obtain⟨t',rfl⟩:=ry;exact lt_str (bE I q rfl)
theorem zz:OpR X (rW .In) (fun x y H Q=>∃i j,x = .str i/\y = .str j/\Q (.bl (!(Builtin.Str.occurrences j i 0 j.length 1).isEmpty)) H):=by
 intro pins s σ H x y v u Q I rx ry h;obtain⟨i,j,rfl,rfl,q⟩:=h;obtain⟨t,rfl⟩:=rx;obtain⟨t',rfl⟩:=ry;exact in_str (bE I q rfl)
theorem OpR.or{f:Value->Value->Sem Value}{r r':R2}(h:OpR X f r)(h':OpR X f r'):OpR X f (fun x y H Q=>r x y H Q\/r' x y H Q):=by
 intro pins s σ H x y v u Q I rx ry q;rcases q with q|q
 ·exact h pins s σ H x y v u Q I rx ry q
 ·exact h' pins s σ H x y v u Q I rx ry q
theorem bY(b:Expr)(h:op ≠ .In:=by decide)(h2:op ≠ .NotIn:=by decide):Z7 op b=false:=by
 have e1:(op==CmpOp.In)=false:=by cases op <;> first|rfl|exact absurd rfl h
 have e2:(op==CmpOp.NotIn)=false:=by cases op <;> first|rfl|exact absurd rfl h2
 cases b <;> simp[Z7,e1,e2]
theorem bP{op:CmpOp}{r:R2}(ho:OpR X (rW op) r)(ha:PE X a ta)(hb:PE X b tb)(hm:Z7 op b=false):PE X (.Compare a [op] [b] pos) (tOp r ta tb):=by
 intro pins s σ H Q I h;exact wpAny_Compare1 (GI ha hb I h fun v u s2 x y H2 I2 rx ry q=>ho pins s2 σ H2 x y v u Q I2 rx ry q) hm
def J9(K:W.Frag)(x:V)(H:Hp)(k:Bool):Prop:=
 match x with
 | .non=>k=false
 | .bl b=>k=b
 | .int i=>k=(i != 0)
 | .str y=>y.length<=sizeLine/\k=((y.length:Int) != 0)
 | .byt y=>y.size<=sizeLine/\k=((y.size:Int) != 0)
 | .ref p=>(∃xs,SqL K H p xs/\k = !xs.isEmpty)\/(∃xs,SqT K H p xs/\k = !xs.isEmpty)\/∃kvs,H p=some (.dK kvs)/\k = !kvs.isEmpty
 |_=>False
theorem xj{κ:Type}{kvs:List (κ × V)}{vs:List (κ × Value)}(r:KV kvs vs):(!vs.isEmpty) = !kvs.isEmpty:=by
 cases r <;> rfl
theorem oV{xs:List V}{its:List Value}(r:Vals xs its):(!its.toArray.isEmpty) = !xs.isEmpty:=by
 cases r <;> simp
theorem pY:(sizeLine:Nat)<2 ^ 63:=by rw[um];decide
theorem J0:JD X (fun x H Q=>∃k,J9 X.K x H k/\Q k H):=by
 intro pins s σ H x v Q I rx h;obtain⟨k,e,q⟩:=h;have hl:=pY;have hs:sizeLine=16777216:=um;cases x with
 |non=>
  cases rx;have e':k=false:=e;subst e';exact truthy_none ⟨H,I,q⟩
 |bl b=>
  cases rx;have e':k=b:=e;subst e';exact Zr ⟨H,I,q⟩
 |int i=>
  obtain⟨t,rfl⟩:=rx;have e':k=(i != 0):=e;subst e';exact PySem.P.truthy_int ⟨H,I,q⟩
 |str y=>
  obtain⟨t,rfl⟩:=rx;obtain⟨hy,e'⟩:y.length<=sizeLine/\k=((y.length:Int) != 0):=e;subst e';exact PySem.P.truthy_str (by lia) ⟨H,I.tok _,q⟩
 |byt y=>
  obtain⟨t,rfl⟩:=rx;obtain⟨hy,e'⟩:y.size<=sizeLine/\k=((y.size:Int) != 0):=e;subst e';exact PySem.W.truthy_bytes (by lia) ⟨H,I.tok _,q⟩
 |ref p=>
  cases rx;have e':(∃xs,SqL X.K H p xs/\k = !xs.isEmpty)\/(∃xs,SqT X.K H p xs/\k = !xs.isEmpty)\/∃kvs,H p=some (.dK kvs)/\k = !kvs.isEmpty:=e;rcases e' with ⟨xs,hx,e'⟩|⟨xs,hx,e'⟩|⟨kvs,hx,e'⟩
  ·subst e'
   obtain⟨its,r,pl,hz⟩:=I.list hx;have hlen:=r.length;exact wpAny_truthy_list pl.isList (by simp only[zH];lia) ⟨H,I.tok _,by rw[oV r];exact q⟩
  ·subst e'
   obtain⟨its,r,pl,hz⟩:=I.tuple hx;have hlen:=r.length;exact truthy_tuple pl (by simp only[zH];lia) ⟨H,I.tok _,by rw[oV r];exact q⟩
  ·subst e'
   obtain⟨hz,hS,vs,r,m⟩:kvs.length<=sizeLine/\(p==ZT)=false/\∃vs,KV kvs vs/\s.heap.DictOf (bK X.prog X.w) p vs:=I.hok p _ hx;have hlen:kvs.length=vs.length:=Paired.length r;exact wpAny_truthy_dict hS m (by lia) ⟨H,I.tok _,by rw[xj r];exact q⟩
 |_=>exact(show False from e).elim
theorem xw:OpR X (binaryOp .Add) (fun x y H Q=>∃i j,x = .str i/\y = .str j/\i.length+j.length<=sizeLine/\Q (.str (i++j)) H):=by
 intro pins s σ H x y v u Q I rx ry h;obtain⟨i,j,rfl,rfl,hz,q⟩:=h;obtain⟨t,rfl⟩:=rx;obtain⟨t',rfl⟩:=ry;exact add_str (fun t' tk=>⟨.str (i++j),H,I.tok _,⟨_,rfl⟩,q⟩) hz
theorem dO(r:Vals [x] us):∃u,us=[u]/\RelV x u:=by
 cases r with
 |cons r1 r2=>cases r2;exact⟨_,rfl,r1⟩
theorem xH(r:Vals [x,y] us):∃u w',us=[u,w']/\RelV x u/\RelV y w':=by
 cases r with
 |cons r1 r2=>
  cases r2 with
  |cons r3 r4=>cases r4;exact⟨_,_,rfl,r1,r3⟩
theorem zt(hc:X.calm=true):CallR X (.builtin "max") (fun xs H Q=>∃i j,xs=[.int i,.int j]/\Q (.int (if j > i then j else i)) H):=by
 intro pins s σ H xs us Q I r h;obtain⟨i,j,rfl,q⟩:=h;obtain⟨u,w',rfl,⟨t,rfl⟩,⟨t',rfl⟩⟩:=xH r;refine max_two_ints (I.ok.hd hc) fun h' tk k=>⟨_,H,I.kept k,?_,q⟩;by_cases hj:j > i
 ·rw[if_pos hj,if_pos hj];exact⟨_,rfl⟩
 ·rw[if_neg hj,if_neg hj];exact⟨_,rfl⟩
theorem y8(hc:X.calm=true):CallR X (.builtin "min") (fun xs H Q=>∃i j,xs=[.int i,.int j]/\Q (.int (if j<i then j else i)) H):=by
 intro pins s σ H xs us Q I r h;obtain⟨i,j,rfl,q⟩:=h;obtain⟨u,w',rfl,⟨t,rfl⟩,⟨t',rfl⟩⟩:=xH r;refine min_two_ints (I.ok.hd hc) fun h' tk k=>⟨_,H,I.kept k,?_,q⟩;by_cases hj:j<i
 ·rw[if_pos hj,if_pos hj];exact⟨_,rfl⟩
 ·rw[if_neg hj,if_neg hj];exact⟨_,rfl⟩
theorem zX:CallR X (.type "int") (fun xs H Q=>(∃i,xs=[.int i]/\Q (.int i) H)\/∃k,xs=[.bl k]/\Q (.int (if k then 1 else 0)) H):=by
 intro pins s σ H xs us Q I r h;rcases h with ⟨i,rfl,q⟩|⟨k,rfl,q⟩
 ·obtain⟨u,rfl,t,rfl⟩:=dO r
  exact call_int_int ⟨.int i,H,I,⟨_,rfl⟩,q⟩
 ·obtain⟨u,rfl,r1⟩:=dO r
  cases r1;exact call_int_bool ⟨.int (if k then 1 else 0),H,I.tok _,⟨_,rfl⟩,q⟩
def JI(K:W.Frag)(x:V)(H:Hp)(n:Nat):Prop:=
 match x with
 | .str y=>y.length<=sizeLine/\n=y.length
 | .byt y=>y.size<=sizeLine/\n=y.size
 | .ref p=>(∃xs,SqL K H p xs/\n=xs.length)\/∃xs,SqT K H p xs/\n=xs.length
 |_=>False
theorem Ca:CallR X (.builtin "len") (fun xs H Q=>∃x n,xs=[x]/\JI X.K x H n/\Q (.int n) H):=by
 intro pins s σ H xs us Q I r h;obtain⟨x,n,rfl,e,q⟩:=h;obtain⟨u,rfl,rx⟩:=dO r;have hl:=pY;have hs:sizeLine=16777216:=um;cases x with
 |str y=>
  obtain⟨t,rfl⟩:=rx;obtain⟨hy,e'⟩:y.length<=sizeLine/\n=y.length:=e;subst e';exact len_str (by lia) ⟨.int _,H,I.tok _,⟨_,rfl⟩,q⟩
 |byt y=>
  obtain⟨t,rfl⟩:=rx;obtain⟨hy,e'⟩:y.size<=sizeLine/\n=y.size:=e;subst e';exact PySem.W.len_bytes (by lia) ⟨.int _,H,I.tok _,⟨_,rfl⟩,q⟩
 |ref p=>
  cases rx;have e':(∃xs,SqL X.K H p xs/\n=xs.length)\/∃xs,SqT X.K H p xs/\n=xs.length:=e;rcases e' with ⟨xs,hx,e'⟩|⟨xs,hx,e'⟩
  ·subst e'
   obtain⟨its,r',pl,hz⟩:=I.list hx;have hlen:=r'.length;exact Calls.call_len_list pl.isList (by simp only[zH];lia) ⟨.int xs.length,H,I.tok _,⟨_,by simp only[zH];rw[hlen]⟩,q⟩
  ·subst e'
   obtain⟨its,r',pl,hz⟩:=I.tuple hx;have hlen:=r'.length;exact len_tuple pl (by simp only[zH];lia) ⟨.int xs.length,H,I.tok _,⟨_,by simp only[zH];rw[hlen]⟩,q⟩
 |_=>exact(show False from e).elim
end
structure ObjM(h:Heap)(x dx C:Addr)(mA:Str->Option Value):Prop where
 obj:h.get? x=some (Z1 C dx)
 ns:h.Ns1 dx mA
 ne:dx≠x
theorem zG{h:Heap}(n:h.Ns1 dx mA):∃od,h.get? dx=some od/\∀name,PySem.W.lookIn name od=some (mA name):=by
 obtain⟨o,es,ep,ho,hd,hk,_,hm⟩:=n;refine⟨o,ho,fun name=>?_⟩;have e:=hm name;unfold nsFind findBy at e;rw[<- Array.find?_toList]at e;unfold PySem.W.lookIn;rw[hd];dsimp only;split
 ·rename_i y q
  rw[q]at e;exact congrArg some e
 ·rename_i q
  rw[q]at e;have a:es.toList.any (·.refKey)=false:=by
   rw[List.any_eq_false];intro y hy;obtain⟨z,t,hkey⟩:=hk y (Array.mem_toList_iff.mp hy);simp[Y4.refKey,hkey]
  have a':¬ es.toList.any (·.refKey)=true:=by rw[a];exact xE
  rw[if_neg a'];exact congrArg some e
theorem ObjM.look(I:ObjM h x dx C mA):∃od,PySem.W.InstAt h x (Z1 C dx) C (some od)/\∀name,PySem.W.lookIn name od=some (mA name):=
 let ⟨od,ho,hl⟩:=zG I.ns
 ⟨od,⟨I.obj,rfl,rfl,ho⟩,hl⟩
section
variable{prog:Program}{w:World}{A:Around}{E:Value->Shared->Prop}{s:Shared}{K:W.Frag}{x dx C f:Addr}{mA:Str->Option Value}{name:Str}{v:Value}
theorem DD(X:K.In s.heap)(I:ObjM s.heap x dx C mA)(hg:PySem.W.plainGet K C name=true)(hh:PySem.W.hasDictIn K C=true)
 (ha:Zl K (.ref C) name=some none) (hv:mA name=some v) (hv':PySem.W.handedIn v=true) (h:Q v { s with toks:=s.toks+1 }) :
 wpAny (model prog w) A (getAttr (.ref x) name expr) Q E s:=by
 obtain⟨od,J,hl⟩:=I.look;exact PySem.W.get_value X J (PySem.W.plainGet_of hg).1 (PySem.W.findObj_own hh ha rfl (by rw[hl,hv])) hv' h
theorem AA{Q:Value × List Value->Shared->Prop}(X:K.In s.heap)(I:ObjM s.heap x dx C mA)(hg:PySem.W.plainGet K C name=true)
 (hf:Zl K (.ref C) name=some (some (.ref f))) (ht:PySem.W.isFn K (.ref f)=true) (hv:mA name=none) (h:Q (.ref f,[.ref x]) s) :
 wpAny (model prog w) A (getMethod (.ref x) name pl) Q E s:=by
 obtain⟨od,J,hl⟩:=I.look;exact PySem.W.method_fn X J (PySem.W.plainGet_of hg).1 (PySem.W.plainGet_of hg).2 hf (beq_iff_eq.mp ht) (by show(PySem.W.lookIn name od).map (·.isSome)=some false;rw[hl,hv];rfl) h
theorem DS{ns:List Str}(X:K.In s.heap)(I:ObjM s.heap x dx C mA)
 (hs:Zl K (.ref C) "__setattr__" = some (some (.builtin "object.__setattr__"))) (hp:PySem.W.plainOver K C=true) (ht:PySem.W.takerIn K C name=some none) (hh:PySem.W.hasDictIn K C=true)
 (hw:PySem.Within mA ns) (hsz:ns.length<=sizeLine)
 (h:∀h',ObjM h' x dx C (fun y=>if y=name then some v else mA y)->Heap.SameBut dx s.heap h'->Q () { s with heap:=h',toks:=s.toks+2 }) :
 wpAny (model prog w) A (setAttr (.ref x) name v) Q E s:=by
 obtain⟨od,J,hl⟩:=I.look;refine PySem.W.set_plain X J hs (PySem.W.osa_open (s:={ s with toks:=s.toks+1 }) (r:=none) X J hp ht fun b=>?_);obtain⟨cd,hc,hd'⟩:=PySem.W.any_some hh;have hx:s.heap.get? x=some ⟨.ref C,some dx,.plain,#[]⟩:=I.obj;refine zj (zA (zj (zj (wpAny_loadPart hx (zj (PySem.W.Looks.here (s:={ s with toks:=s.toks+1 }) (PySem.W.looks_clsIn X hc) ?_))))));rw[hd'];refine zA (a:=some dx) (zj (zA (zj ?_)));refine wpAny_nsSet1 (s:={ s with toks:=s.toks+1 }) I.ns fun h' hn2 hs2=>?_;obtain⟨oD,esD,epD,hoD,hdD,hcD⟩:=hn2.count (PySem.Within.cons name v hw);refine zj (wpAny_lookBehind hoD (by rw[hdD];exact pastItsLine_dict (wn hcD (by rw[vN];lia))) ?_);exact zA (h _ ⟨(hs2.2 _ (Ne.symm I.ne)).trans I.obj,hn2,I.ne⟩ hs2)
theorem C5(X:K.In s.heap)(hm:PySem.W.makesIn K C=true)
 (hi:Zl K (.ref C) "__init__" = some (some (.ref f))) (hf:PySem.W.typeIn K (.ref f)=some (.type "function"))
 (h:codeAny (model prog w) (A.under (.builtin "type.__call__" ⟨.ref C::vs,kw⟩)) (.call (.ref f) ⟨.ref (s.heap.objs.size+1)::vs,kw⟩) (PySem.W.InitBack (s.heap.objs.size+1) R)
  { s with heap:=(s.heap.push ZR).push (Z1 C s.heap.objs.size) }) :
 codeAny (model prog w) A (.call (.ref C) ⟨vs,kw⟩) R s:=by
 obtain⟨hh,g,d,t,os⟩:=s;exact PySem.W.make_core (PySem.W.makes_of X hm) (PySem.W.looks_findIn X hi) (fun self=>PySem.W.bind_fn X self hf) (.inl rfl) h
end
def dw(f:Str)(v:V):List (Str × V)->List (Str × V)
 | []=>[(f,v)]
 |(g,x)::r=>if g=f then (g,v)::r else (g,x)::dw f v r
theorem nH(f g:Str)(v:V):∀fs:List (Str × V),(dw f v fs).lookup g=if g=f then some v else fs.lookup g
 | []=>by
  show wO g [(f,v)]=_;by_cases h:g=f
  ·have hb:(g==f)=true:=beq_iff_eq.mpr h
   simp only[wO,hb,if_pos h]
  ·have hb:(g==f)=false:=beq_eq_false_iff_ne.mpr h
   simp only[wO,hb,if_neg h]
 |(k,x)::r=>by
  have ih:=nH f g v r;rw[show dw f v ((k,x)::r)=(if k=f then (k,v)::r else (k,x)::dw f v r) from rfl];by_cases hk:k=f
  ·rw[if_pos hk]
   by_cases h:g=k
   ·have hb:(g==k)=true:=beq_iff_eq.mpr h
    simp only[wO,hb,if_pos (h.trans hk)]
   ·have hb:(g==k)=false:=beq_eq_false_iff_ne.mpr h
    simp only[wO,hb,if_neg (fun e:g=f=>h (e.trans hk.symm))]
  ·rw[if_neg hk]
   by_cases h:g=k
   ·have hb:(g==k)=true:=beq_iff_eq.mpr h
    simp only[wO,hb,if_neg (fun e:g=f=>hk (h.symm.trans e))]
   ·have hb:(g==k)=false:=beq_eq_false_iff_ne.mpr h
    simp only[wO,hb];exact ih
theorem mF(f:Str)(v:V):∀fs:List (Str × V),f∈(dw f v fs).map (·.1)/\∀g,g∈fs.map (·.1)->g∈(dw f v fs).map (·.1)
 | []=>⟨by simp[dw],fun g h=>by simp at h⟩
 |(k,x)::r=>by
  obtain⟨i1,i2⟩:=mF f v r;rw[show dw f v ((k,x)::r)=(if k=f then (k,v)::r else (k,x)::dw f v r) from rfl];by_cases hk:k=f
  ·rw[if_pos hk]
   subst hk;exact⟨by simp,fun g h=>by simpa using h⟩
  ·rw[if_neg hk]
   refine⟨?_,fun g h=>?_⟩
   ·rw[xa]
    exact vf _ i1
   ·rw[xa]at h |-
    rcases zZ.mp h with e|e
    ·exact zZ.mpr (.inl e)
    ·exact vf _ (i2 g e)
theorem m6(f:Str)(v:V):∀fs:List (Str × V),(dw f v fs).length<=fs.length+1
 | []=>by simp[dw]
 |(k,x)::r=>by
  have ih:=m6 f v r;rw[show dw f v ((k,x)::r)=(if k=f then (k,v)::r else (k,x)::dw f v r) from rfl];by_cases hk:k=f
  ·rw[if_pos hk,vN,vN];lia
  ·rw[if_neg hk,vN,vN];lia
theorem RelO.some_of(r:RelO (some v) o):∃u,o=some u/\RelV v u:=by
 cases o with
 |none=>exact(show False from r).elim
 |some u=>exact⟨u,rfl,r⟩
theorem RelO.none_of(r:RelO none o):o=none:=by
 cases o with
 |none=>rfl
 |some u=>exact(show False from r).elim
theorem zO(r:RelV v u):PySem.W.handedIn u=true:=by
 cases v with
 |non=>cases (show u=ZO from r);rfl
 |bl b=>cases (show u=Value.bool b from r);rfl
 |int i=>obtain⟨t,e⟩:=(show ∃t,u=Value.int i t from r);cases e;rfl
 |str x=>obtain⟨t,e⟩:=(show ∃t,u=YM x t from r);cases e;rfl
 |byt b=>obtain⟨t,e⟩:=(show ∃t,u=Value.bytes b t from r);cases e;rfl
 |flt b=>obtain⟨t,e⟩:=(show ∃t,u=Value.float b t from r);cases e;rfl
 |ref a=>cases (show u=yW a from r);rfl
 |ty n=>cases (show u=YU n from r);rfl
section
variable{P:Program}{w:World}{H H':Hp}{h h':Heap}{a C dx:Addr}{fs fs':List (Str × V)}
theorem oq(hok:HOk P w H h)(e:H a=some (.ins C dx fs)):∃mA,ObjM h a dx C mA/\(∀f,RelO (fs.lookup f) (mA f))/\PySem.Within mA (fs.map (·.1))/\fs.length<=1000/\H dx=some (.own a):=by
 obtain⟨d,z,ne,ob,mA,n,r,q⟩:=(show ObjOk P w H h a (.ins C dx fs) from hok a _ e);exact⟨mA,⟨ob,n,ne⟩,r,q,z,d⟩
end
structure Cls(K:W.Frag)(C:Addr):Prop where
 pg:PySem.W.plainGet K C Str.empty=true
 hd:PySem.W.hasDictIn K C=true
 po:PySem.W.plainOver K C=true
 sa:Zl K (.ref C) "__setattr__" = some (some (.builtin "object.__setattr__"))
theorem Cls.get{K:W.Frag}{C:Addr}(c:Cls K C)(f:Str):PySem.W.plainGet K C f=true:=c.pg
def NoAttr(K:W.Frag)(C:Addr)(f:Str):Prop:=Zl K (.ref C) f=some none
theorem NoAttr.taker{K:W.Frag}{C:Addr}{f:Str}(n:NoAttr K C f):PySem.W.takerIn K C f=some none:=by
 unfold PySem.W.takerIn;rw[show Zl K (.ref C) f=some none from n]
 rfl
structure Aa(K:W.Frag)(C:Addr)(m:Str)(f:Addr):Prop where
 at_:Zl K (.ref C) m=some (some (.ref f))
 fn:PySem.W.isFn K (.ref f)=true
 kp:ZP K (.ref f)=true
section
variable{X:Cx}{pins:List (Addr × Obj)}{σ:St}{H:Hp}{s:Shared}{a C dx:Addr}{fs:List (Str × V)}{f:Str}{v:V}{A:Around}{E:Value->Shared->Prop}
theorem wv{b:Bool}{Q:Value->Shared->Prop}(I:Inv X pins σ H s)(e:H a=some (.ins C dx fs))(c:Cls X.K C)(n:NoAttr X.K C f)(l:fs.lookup f=some v)
 (h:∀u s',Inv X pins σ H s'->RelV v u->Q u s'):wpAny (model X.prog X.w) A (getAttr (.ref a) f b) Q E s:=by
 obtain⟨mA,O,r,_,_,_⟩:=oq I.hok e;obtain⟨u,hu,ru⟩:=RelO.some_of (v:=v) (o:=mA f) (by rw[<- l];exact r f);exact DD I.kIn O (c.get f) c.hd n hu (zO ru) (h u _ (I.tok _) ru)
theorem jH{m:Str}{g:Addr}{pl:Sem Bool}{Q:Value × List Value->Shared->Prop}(I:Inv X pins σ H s)(e:H a=some (.ins C dx fs))(c:Cls X.K C)(k:Aa X.K C m g)(l:fs.lookup m=none)
 (h:Q (.ref g,[.ref a]) s):wpAny (model X.prog X.w) A (getMethod (.ref a) m pl) Q E s:=by
 obtain⟨mA,O,r,_,_,_⟩:=oq I.hok e;have hn:mA m=none:=RelO.none_of (by rw[<- l];exact r m);exact AA I.kIn O (c.get m) k.at_ k.fn hn h
theorem xq{y:V}{u:Value}{Q:Unit->Shared->Prop}(I:Inv X pins σ H s)(e:H a=some (.ins C dx fs))(c:Cls X.K C)(n:NoAttr X.K C f)(hl:fs.length<1000)(ry:RelV y u)
 (h:∀s',Inv X pins σ (upd H a (.ins C dx (dw f y fs))) s'->Q () s'):wpAny (model X.prog X.w) A (setAttr (.ref a) f u) Q E s:=by
 obtain⟨mA,O,r,wi,_,ho⟩:=oq I.hok e;have hz:(fs.map (·.1)).length<=sizeLine:=by rw[zg,um];lia
 refine DS I.kIn O c.sa c.po n.taker c.hd wi hz fun h' O' sb=>h _ ?_;have hd:∃o,h'.get? dx=some o:=let ⟨o,_,_,e',_⟩:=O'.ns;⟨o,e'⟩;refine I.write (x:=a) (e:=dx) (by rw[e];exact ZH) (.inr ho) (fun b q hb z=>(sb.2 b hb).trans z) hd ?_;refine⟨by rw[ag O.ne];exact ho,?_,O.ne,O'.obj,_,O'.ns,fun g=>?_,fun g hg=>?_⟩
 ·have:=m6 f y fs;lia
 ·show RelO ((dw f y fs).lookup g) (if g=f then some u else mA g)
  rw[nH];by_cases q:g=f
  ·rw[if_pos q,if_pos q];exact ry
  ·rw[if_neg q,if_neg q];exact r g
 ·by_cases q:g=f
  ·rw[q];exact(mF f y fs).1
  ·refine(mF f y fs).2 g (wi g fun z=>hg ?_)
   show(if g=f then some u else mA g)=none;rw[if_neg q];exact z
theorem Inv.made(I:Inv X pins σ H s):Inv X pins σ (upd (upd H s.heap.objs.size (.own (s.heap.objs.size+1))) (s.heap.objs.size+1) (.ins C s.heap.objs.size []))
 { s with heap:=(s.heap.push ZR).push (Z1 C s.heap.objs.size) }:=by
 have e1:(s.heap.push ZR).get? s.heap.objs.size=some ZR:=Heap.get?_push_size s.heap rfl;have e2:((s.heap.push ZR).push (Z1 C s.heap.objs.size)).get? (s.heap.objs.size+1)=some (Z1 C s.heap.objs.size):=by
  have:=Heap.get?_push_size (s.heap.push ZR) (o:=Z1 C s.heap.objs.size) rfl
  rwa [Heap.size_push]at this
 have e3:(s.heap.push ZR).Ns s.heap.objs.size (fun _=>none):=⟨ZR,#[],_,e1,rfl,(fun e he=>absurd he (by simp)),fun _=>rfl⟩;have I1:=I.laid (a:=s.heap.objs.size) (o:=.own (s.heap.objs.size+1)) (h':=s.heap.push ZR) (t':=s.toks) (fun b u q=>Heap.get?_push_of_some _ q) (zL _) ⟨_,e1⟩;refine I1.laid (a:=s.heap.objs.size+1) (o:=.ins C s.heap.objs.size []) (t':=s.toks) (fun b u q=>Heap.get?_push_of_some _ q) (Nat.le_of_eq (Heap.size_push _ _)) ?_;have ne:s.heap.objs.size≠s.heap.objs.size+1:=uj (Nat.lt_succ_self _);refine⟨by rw[ag ne,ad],wQ _,ne,e2,fun _=>none,(Heap.Ns1.of_empty e3).at fun o q=>Heap.get?_push_of_some _ q,fun _=>ZH,fun y hy=>absurd rfl hy⟩
theorem DH{prog:Program}{w:World}{env:Env}{e:Expr}{f:Str}{pos:Pos}{s:Shared}{Q:Value->Shared->Prop}(hb:YG e f env (eval e env)=eval e env)
 (h:wpAny (model prog w) A (eval e env) (fun o s₁=>wpAny (model prog w) A (getAttr o f true) Q E s₁) E s):wpAny (model prog w) A (eval (.Attribute e f pos) env) Q E s:=
 Attribute_any_ h (by rw[arm_eval_Attribute,hb])
end
section
variable{X:Cx}{o e value:Expr}{f:Str}{pos pos' tpos:Pos}{ta tv:TE}
end
section
variable{X:Cx}{pins:List (Addr × Obj)}{σ:St}{H:Hp}{s:Shared}{A:Around}{E:Value->Shared->Prop}{Q:Value->Shared->Prop}{c:Value}{b:Bool}
inductive jI (K:W.Frag) (H:Hp):V->Value->Prop where
 |non:jI K H .non (.type "NoneType")
 |bl (x:Bool):jI K H (.bl x) (.type "bool")
 |int (i:Int):jI K H (.int i) (.type "int")
 |str (x:Str):jI K H (.str x) (.type "str")
 |flt (x:UInt64):jI K H (.flt x) (.type "float")
 |lst {a:Addr} {xs:List V} (e:H a=some (.lst xs)):jI K H (.ref a) (.type "list")
 |frz {a:Addr} {o:Obj} {xs:List V} (e:H a=some (.frz o (.lst xs))):jI K H (.ref a) (.type "list")
 |tup {a:Addr} {xs:List V} (e:H a=some (.tup xs)):jI K H (.ref a) (.type "tuple")
 |dK {a:Addr} {kvs:List (Key × V)} (e:H a=some (.dK kvs)):jI K H (.ref a) (.type "dict")
 |dT {a:Addr} {kvs:List (List Key × V)} (e:H a=some (.dT kvs)):jI K H (.ref a) (.type "dict")
 |ins {a C dx:Addr} {fs:List (Str × V)} (e:H a=some (.ins C dx fs)) (cl:Cls K C) (ha:Zl K (.ref C) "__class__" = some (some (.builtin "object.__class__")))
  (hn:PySem.W.specialIn K (.builtin "object.__class__") "__get__" = some (some (.builtin "getset_descriptor.__get__"))) (htk:PySem.W.takesIn K (.builtin "object.__class__")=some true)
  (hm:Z8 K C (.type "object")=some true):jI K H (.ref a) (.ref C)
theorem zB(I:Inv X pins σ H s)(rx:RelV x u)(ty:jI X.K H x t)(e:sV X.K t c=some b)(h:∀tk,Q (.bool b) { s with toks:=tk }) :
 wpAny (model X.prog X.w) A (call (.builtin "isinstance") [u,c]) Q E s:=by
 cases ty with
 |non=>cases (show u=ZO from rx);exact ZX PySem.W.kitx_none I.kIn ZH e (fun z=>nomatch z) h
 |bl y=>cases (show u=Value.bool y from rx);exact ZX PySem.W.kitx_bool I.kIn ZH e (fun z=>nomatch z) h
 |int i=>obtain⟨t,q⟩:=(show ∃t,u=Value.int i t from rx);cases q;exact ZX PySem.W.kitx_int I.kIn ZH e (fun z=>nomatch z) h
 |str y=>obtain⟨t,q⟩:=(show ∃t,u=YM y t from rx);cases q;exact ZX PySem.W.kitx_str I.kIn ZH e (fun z=>nomatch z) h
 |flt y=>obtain⟨t,q⟩:=(show ∃t,u=Value.float y t from rx);cases q;exact ZX PySem.W.kitx_float I.kIn ZH e (fun z=>nomatch z) h
 | @lst a xs ea=>
  cases (show u=yW a from rx);obtain⟨_,_,n,_,h1⟩:=(show ObjOk X.prog X.w H s.heap a (.lst xs) from I.hok a _ ea);exact ZX PySem.W.kitx_list I.kIn ⟨_,h1,rfl⟩ e (fun z=>nomatch z) h
 | @frz a ob xs ea=>
  cases (show u=yW a from rx);obtain⟨_,_,_,n,_,h1⟩:=(show ObjOk X.prog X.w H s.heap a (.frz ob (.lst xs)) from I.hok a _ ea);exact ZX PySem.W.kitx_list I.kIn ⟨_,h1,rfl⟩ e (fun z=>nomatch z) h
 | @tup a xs ea=>
  cases (show u=yW a from rx);obtain⟨_,_,_,p⟩:=(show ObjOk X.prog X.w H s.heap a (.tup xs) from I.hok a _ ea);obtain⟨o,h1,h2,_⟩:=p;exact ZX PySem.W.kitx_tuple I.kIn ⟨o,h1,h2⟩ e (fun z=>nomatch z) h
 | @dK a kvs ea=>
  cases (show u=yW a from rx);obtain⟨_,_,vs,_,p⟩:=(show ObjOk X.prog X.w H s.heap a (.dK kvs) from I.hok a _ ea);obtain⟨o,es,ep,h1,h2,_⟩:=p;exact ZX PySem.W.kitx_dict I.kIn ⟨o,h1,h2.1⟩ e (fun z=>nomatch z) h
 | @dT a kvs ea=>
  cases (show u=yW a from rx);obtain⟨_,_,xs,_,o,es,ep,h1,h2,_⟩:=(show ObjOk X.prog X.w H s.heap a (.dT kvs) from I.hok a _ ea);exact ZX PySem.W.kitx_dict I.kIn ⟨o,h1,h2.1⟩ e (fun z=>nomatch z) h
 | @ins a C dx fs ea cl ha hn htk hm=>
  cases (show u=yW a from rx);obtain⟨mA,O,_⟩:=oq I.hok ea;obtain⟨od,J,_⟩:=O.look;exact ZX (PySem.W.kitx_own (cl.get _) cl.hd ha hn htk hm) I.kIn J e (fun z=>nomatch z) h
end
structure Room(k:Nat)(A:Around):Prop where
 hd:A.handled=none
 dp:A.depth+3*k+5<recursionLimit
 un:A.units+16*k+200<cLine
theorem Room.mono(r:Room k A)(h:j<=k):Room j A:=⟨r.hd,by have:=r.dp;lia,by have:=r.un;lia⟩
theorem Room.deeper{A:Around}(r:Room (k+1) A)(env:Env):Room k (A.deeper env):=
 ⟨r.hd,by have:=r.dp;show A.depth+1+3*k+5<_;lia,by have:=r.un;show A.units+3+16*k+200<_;lia⟩
theorem wN{A:Around}:(A.under (.builtin "type.__call__" ⟨.ref C::us,kw⟩)).depth=A.depth+1:=by
 first|rfl|simp[Around.under,Code.weight,Code.isCreation,Code.isGuard,Code.isCaller,Code.frames,Code.isFrame,guardIds]
theorem xh{A:Around}:(A.under (.builtin "type.__call__" ⟨.ref C::us,kw⟩)).units=A.units+1:=by
 first|rfl|simp[Around.under,Code.cUnits,Code.frames,Code.isFrame]
theorem Room.make{A:Around}(r:Room (k+1) A)(C:Addr)(us:List Value)(kw:List (Str × Value)):Room k (A.under (.builtin "type.__call__" ⟨.ref C::us,kw⟩)):=
 ⟨r.hd,by have:=r.dp;rw[wN];lia,by have:=r.un;rw[xh];lia⟩
theorem Room.depth{A:Around}(r:Room k A):A.depth<recursionLimit:=by have:=r.dp;lia
def h8:TA:=fun _ H Q=>Q [] H
def cc(ta:TE)(tr:TA):TA:=fun σ H Q=>ta σ H fun x H1=>tr σ H1 fun xs H2=>Q (x::xs) H2
section
variable{X:Cx}{e:Expr}{es:List Expr}{te:TE}{t:TA}{pos:Pos}
theorem GU:PA X [] h8:=fun _ _ _ _ H Q I h=>Calls.spliced_nil ⟨[],H,I,.nil,h⟩
theorem DY(ha:PE X e te)(hr:PA X es t)(hs:starEach (e::es) X.env=(false,eval e X.env)::starEach es X.env:=by rfl):PA X (e::es) (cc te t):=by
 intro pos pins s σ H Q I h;rw[hs];show wpAny _ _ (spliced ((false,eval e X.env)::backTo pos (starEach es X.env))) _ _ s;refine Y2 (thn (ha pins s σ H _ I h) fun u s1 hq_=>?_);obtain⟨x,H1,I1,r1,q1⟩:=hq_;exact thn (hr pos pins s1 σ H1 _ I1 q1) fun us s2 hq_=>(by obtain⟨xs,H2,I2,r2,q2⟩:=hq_;exact⟨x::xs,H2,I2,.cons r1 r2,q2⟩)
def IF(t:TA):TE:=fun σ H Q=>t σ H fun xs H1=>xs.length<=sizeLine/\∀p,H1 p=none->Q (.ref p) (upd H1 p (.tup xs))
def Hu(t:TA):TE:=fun σ H Q=>t σ H fun xs H1=>xs.length<=sizeLine/\∀p,H1 p=none->Q (.ref p) (upd H1 p (.lst xs))
theorem bd{x1}(h:PA X es t):PE X (.Tuple es x1 pos) (IF t):=by
 intro pins s σ H Q I hq;refine wpAny_Tuple_spliced (thn (h pos pins s σ H _ I hq) fun us s1 ⟨xs,H1,I1,r,z,q⟩=>⟨by rw[<- r.length];exact z,?_⟩);have hf:H1 s1.heap.objs.size=none:=I1.hok.fresh (zL _);refine⟨.ref s1.heap.objs.size,upd H1 s1.heap.objs.size (.tup xs),I1.laid (t':=s1.toks) (fun b u e=>Heap.get?_push_of_some _ e) (zL _) ?_,rfl,q _ hf⟩;exact⟨z,us,r,⟨_,Heap.get?_push_size _ rfl,rfl,_,rfl⟩⟩
theorem bz(h:PA X es t):PE X (.List es pos) (Hu t):=by
 intro pins s σ H Q I hq;refine wpAny_List_spliced (thn (h pos pins s σ H _ I hq) fun us s1 ⟨xs,H1,I1,r,z,q⟩=>⟨by rw[<- r.length];exact z,?_⟩);have hf:H1 s1.heap.objs.size=none:=I1.hok.fresh (zL _);refine⟨.ref s1.heap.objs.size,upd H1 s1.heap.objs.size (.lst xs),I1.laid (t':=s1.toks) (fun b u e=>Heap.get?_push_of_some _ e) (zL _) ?_,rfl,q _ hf⟩;exact⟨z,us,0,r,Heap.get?_push_size _ rfl⟩
end
abbrev Sp:=List V->Hp->VK->XK->Prop
abbrev CXT:=List Env->Hp->Shared->XK->Value->Shared->Prop
structure Env0(P:Program)(w:World)(K:W.Frag)(mg:Str->Option Value)(base:Heap)(A:Around)(outer:List Env)(s:Shared)(H:Hp):Prop where
 frames:A.frames=some outer
 mod:Mod K mg base
 bs:∀b o,base.get? b=some o->s.heap.get? b=some o/\H b=none
 bsz:base.objs.size<=s.heap.objs.size
 funs:s.heap.FunFrames base outer
 frf:∀b∈frs outer,H b=none
 hok:HOk P w H s.heap
 bare:AllBare s.gens
def CE(outer:List Env)(P:Program)(w:World)(H:Hp)(s:Shared)(Q:VK)(u:Value)(s':Shared):Prop:=
 ∃v H',s'.os=s.os/\AllBare s'.gens/\Un (frs outer) [] H H' s.heap s'.heap/\HOk P w H' s'.heap/\RelV v u/\Q v H'
def CR(CX:CXT)(outer:List Env)(P:Program)(w:World)(H:Hp)(s:Shared)(Q:VK)(E:XK)(r:Result)(s':Shared):Prop:=
 match r with
 | .ok (.ret u)=>CE outer P w H s Q u s'
 | .ok _=>False
 | .error e=>CX outer H s E e s'
structure h_(P:Program)(w:World)(K:W.Frag)(mg:Str->Option Value)(base:Heap)(CX:CXT)(k:Nat)(f:Addr)(fd:FuncData)(ps:List Str)(sp:Sp):Prop where
 len:∀vs H Q E,sp vs H Q E->vs.length=ps.length
 run:∀(A:Around) (outer:List Env) (s:Shared) (H:Hp) (args:Args) (us:List Value) (vs:List V) (Q:VK) (E:XK),Room k A->Env0 P w K mg base A outer s H->BindsTo s fd args (ps.zip us)->Vals vs us->sp vs H Q E ->
  codeAny (model P w) A (.call (.ref f) args) (CR CX outer P w H s Q E) s
theorem Env0.make{P:Program}{w:World}{K:W.Frag}{mg:Str->Option Value}{base:Heap}{A:Around}{outer:List Env}{s:Shared}{H:Hp}(e:Env0 P w K mg base A outer s H)(C:Addr)(us:List Value)(kw:List (Str × Value)) :
 Env0 P w K mg base (A.under (.builtin "type.__call__" ⟨.ref C::us,kw⟩)) outer s H:=⟨by first|exact e.frames|(simpa [Around.under,Code.envs,Code.isFrame,pushEnvs] using e.frames),e.mod,e.bs,e.bsz,e.funs,e.frf,e.hok,e.bare⟩
section
variable{X:Cx}{pins:List (Addr × Obj)}{σ:St}{H:Hp}{s s':Shared}
theorem Inv.env0(I:Inv X pins σ H s):Env0 X.prog X.w X.K X.mg X.base X.A X.stack s H:=
 ⟨I.ok.frames,I.ok.mod,I.bs,wn I.ok.bsz I.sz,I.stack,I.stkFree,I.hok,I.bare⟩
theorem Inv.after(I:Inv X pins σ H s)(h:CE X.stack X.prog X.w H s Q u s'):EP X pins σ Q u s':=by
 obtain⟨v,H',os,bare,un,hok,r,q⟩:=h;obtain⟨hh,g,d,t,os'⟩:=s';obtain rfl:os'=s.os:=os;exact⟨v,H',I.call (h':=hh) (g':=g) (d':=d) (t':=t) (ch:=[]) un hok bare (fun b z=>absurd z (by simp)),r,q⟩
end
def Binds(K:W.Frag)(fd:FuncData)(ps:List Str)(ds:List Value):Prop:=
 ∀(s:Shared) (us:List Value),K.In s.heap->(us++ds).length=ps.length->BindsTo s fd ⟨us,[]⟩ (ps.zip (us++ds))
theorem Binds.all{K:W.Frag}{fd:FuncData}{ps:List Str}(h:∀us:List Value,us.length=ps.length->bindArgs fd ⟨us,[]⟩=pure (ps.zip us)):Binds K fd ps []:=fun s us _ hl=>by
 rw[Zs]at hl |-
 exact .of_eq (h us hl)
section
variable{X:Cx}{CX:CXT}{k:Nat}{f C:Addr}{fd:FuncData}{ps:List Str}{sp:Sp}{dvs:List V}{ds:List Value}{E:XK}{x m:Str}{p pos apos:Pos}{e o:Expr}{es:List Expr}{ta:TE}{t:TA}
structure Mk(K:W.Frag)(C f:Addr):Prop where
 makes:PySem.W.makesIn K C=true
 init:Zl K (.ref C) "__init__" = some (some (.ref f))
 fn:PySem.W.isFn K (.ref f)=true
 kp:ZP K (.ref C)=true
end
section
variable{X:Cx}{CX:CXT}{k:Nat}{f C:Addr}{fd:FuncData}{ps ks:List Str}{sp:Sp}{E:XK}{x m:Str}{p pos apos kpos:Pos}{e o:Expr}{es:List Expr}{kws:List Keyword}{te ta:TE}{t tk:TA}{nm:Option Str}
variable{g:List Value->List Value->List Value}{gV:List V->List V->List V}
end
structure bp(N P:List Str)(sc:Scope):Prop where
 kind:sc.kind = .function
 co:sc.isCoroutine=false
 gen:sc.isGenerator=false
 nd:N.Nodup
 pre:N.take P.length=P
 par:∀x∈P,sc.names.lookup x=some .local\/sc.names.lookup x=some .cell
 nofree:∀y∈sc.names,y.2 ≠ .free
theorem rP{kindOf:Str->Option NameKind}{x:Str}:∀ {binds:List (Str × Value)} {m:Str->Option Value},(∀v,(x,v)∉binds)->bindL kindOf binds m x=m x
 | [],_,_=>rfl
 |(n,v)::r,m,h=>by
  unfold bindL;rw[rP fun w hw=>h w (vf _ hw)];split
  ·have:x≠n:=by rintro rfl;exact h v ZF
   simp[this]
  ·rfl
theorem rO{kindOf:Str->Option NameKind}{x:Str}:∀ {binds:List (Str × Value)} {m:Str->Option Value},(∀v,(x,v)∉binds)->bindC kindOf binds m x=m x
 | [],_,_=>rfl
 |(n,v)::r,m,h=>by
  unfold bindC;rw[rO fun w hw=>h w (vf _ hw)];split
  ·rfl
  ·have:x≠n:=by rintro rfl;exact h v ZF
   simp[this]
theorem rp{kindOf:Str->Option NameKind}{x:Str}{v:Value}:∀ {P:List Str} {vs:List Value} {i:Nat} {m:Str->Option Value},P.Nodup->P[i]? = some x->vs[i]? = some v->kindOf x=some .local ->
 bindL kindOf (P.zip vs) m x=some v
 | [],_,_,_,_,h,_,_=>by simp at h
 |_::_,[],_,_,_,_,h,_=>by simp at h
 |p::P,w::vs,0,m,nd,h1,h2,hk=>by
  simp at h1 h2;subst h1;subst h2;show bindL kindOf ((p,w)::P.zip vs) m p=_;unfold bindL;rw[rP fun v hv=>(ZW.mp nd).1 (List.of_mem_zip hv).1,if_pos hk];simp
 |p::P,w::vs,i+1,m,nd,h1,h2,hk=>by
  show bindL kindOf ((p,w)::P.zip vs) m x=_;unfold bindL;exact rp (i:=i) (ZW.mp nd).2 (by simpa using h1) (by simpa using h2) hk
theorem qT{kindOf:Str->Option NameKind}{x:Str}{v:Value}:∀ {P:List Str} {vs:List Value} {i:Nat} {m:Str->Option Value},P.Nodup->P[i]? = some x->vs[i]? = some v->kindOf x≠some .local ->
 bindC kindOf (P.zip vs) m x=some v
 | [],_,_,_,_,h,_,_=>by simp at h
 |_::_,[],_,_,_,_,h,_=>by simp at h
 |p::P,w::vs,0,m,nd,h1,h2,hk=>by
  simp at h1 h2;subst h1;subst h2;show bindC kindOf ((p,w)::P.zip vs) m p=_;unfold bindC;rw[rO fun v hv=>(ZW.mp nd).1 (List.of_mem_zip hv).1,if_neg hk];simp
 |p::P,w::vs,i+1,m,nd,h1,h2,hk=>by
  show bindC kindOf ((p,w)::P.zip vs) m x=_;unfold bindC;exact qT (i:=i) (ZW.mp nd).2 (by simpa using h1) (by simpa using h2) hk
def cS(N:List Str)(vs:List V):St:=vs.map some++t7 (N.length-vs.length) none
def bV(CX:CXT)(P:Program)(w:World)(K:W.Frag)(mg:Str->Option Value)(base:Heap)(N:List Str)(qual:Str)(scope:Scope)(f:Addr)(cd:Value)(A:Around)(outer:List Env)(s:Shared)(H:Hp)(E:XK):Cx where
 prog:=P
 w:=w
 K:=K
 mg:=mg
 base:=base
 A:=A.deeper (envOfC qual scope s.heap.objs.size f cd)
 N:=N
 s₀:=s
 H₀:=H
 env:=envOfC qual scope s.heap.objs.size f cd
 outer:=outer
 stack:=envOfC qual scope s.heap.objs.size f cd::outer
 ex:=[]
 calm:=true
 fn:=fun _=>true
 pn:=[]
 xe:=fun e s'=>wpAny (model P w) (A.deeper (envOfC qual scope s.heap.objs.size f cd)) (leaving (envOfC qual scope s.heap.objs.size f cd) e) (fun _ s''=>CX outer H s E e s'') (fun e' s''=>CX outer H s E e' s'') s'
theorem uS{sc:Scope}(h:sc.names.lookup x=some .cell):∃c,(cellsFrom n sc.names []).lookup x=some c:=by
 have q:=PySem.W.cellsFrom_some sc.names n [] (.inl h);exact Option.isSome_iff_exists.mp q
theorem rE{CX:CXT}{P:Program}{w:World}{K:W.Frag}{mg:Str->Option Value}{base:Heap}{N ps:List Str}{qual:Str}{scope:Scope}{f:Addr}{cd:Value}{A:Around}{outer:List Env}{s s1:Shared}{H:Hp}{E:XK}{us:List Value}{vs:List V}
 (S:bp N ps scope) (hd:A.handled=none) (e0:Env0 P w K mg base A outer s H) (hl:vs.length=ps.length) (r:Vals vs us)
 (x:InCallC s s.heap.objs.size (bindL (envOfC qual scope s.heap.objs.size f cd).kindOf (ps.zip us) fun _=>none) (cellsFrom (s.heap.objs.size+1) scope.names []) (bindC (envOfC qual scope s.heap.objs.size f cd).kindOf (ps.zip us) fun _=>none) s1) :
 Inv (bV CX P w K mg base N qual scope f cd A outer s H E) [] (cS N vs) H s1:=by
 have hpl:ps.length<=N.length:=by have:=congrArg Y5 S.pre;rw[uV]at this;lia
 obtain⟨h1,tk,rfl,hk⟩:=x.done;have noA:∀b:Addr,b∉(bV CX P w K mg base N qual scope f cd A outer s H E).ex:=fun b z=>absurd (show b∈([]:List Addr) from z) (by simp);refine⟨⟨e0.mod,S.kind,rfl,rfl,zL _,fun y z c h1 h2=>?_,fun y hy=>?_,fun y c _ h=>?_,fun _=>hd,Around.frames_deeper e0.frames,.inr ⟨rfl,rfl⟩,fun b z=>absurd z (noA b),e0.bs,e0.bsz,fun b _ _=>noA b,fun b z=>absurd z (noA b),e0.funs,e0.frf⟩,
  rfl,e0.bare,Un.kept hk,⟨_,x.toInCall.ns,fun i y v h1 h2 h3=>?_⟩,fun y c h=>⟨_,x.cell y c h⟩,e0.hok.fresh (zL _),fun y c h=>?_,fun p hp=>absurd (show p∈([]:List (Addr × Obj)) from hp) (by simp),e0.hok.kept hk,?_⟩
 ·exact name_of_addr x.apart (ZL h1) (ZL h2)
 ·have hy:scope.names.lookup y=some .cell\/scope.names.lookup y=some .free:=hy
  rcases hy with hy|hy
  ·exact uS hy
  ·exact absurd rfl (S.nofree _ (ZL hy))
 ·exact ZD (x.above y c (ZL h))
 ·have hi:i<vs.length:=by
   unfold cS at h2;by_cases hi:i<vs.length
   ·exact hi
   ·rw[List.getElem?_append_right (by simpa using hi)]at h2
    rw[List.getElem?_replicate]at h2;split at h2 <;> cases h2
  have ha:vs[i]? = some v:=by
   unfold cS at h2;rw[List.getElem?_append_left (by simpa using hi),List.getElem?_map]at h2;cases e:vs[i]? with
   |none=>rw[e]at h2;cases h2
   |some a=>rw[e]at h2;cases h2;rfl
  obtain⟨u,hu,rv⟩:=r.get ha;have hp:ps[i]? = some y:=by
   rw[<- S.pre,List.getElem?_take_of_lt (by lia)];exact h1
  have ndP:ps.Nodup:=by rw[<- S.pre];exact S.nd.sublist (List.take_sublist _ _)
  refine⟨u,rv,?_⟩;rcases S.par y (ww hp) with k|k
  ·exact .inl ⟨k,rp ndP hp hu k⟩
  ·obtain⟨c,e⟩:=uS (n:=s.heap.objs.size+1) k
   refine .inr ⟨.inl k,c,e,?_⟩;have q:=x.cell y c e;rw[qT ndP hp hu (by show scope.names.lookup y≠_;rw[k];decide)]at q;exact q
 ·exact e0.hok.fresh (ZD (x.above y c (ZL h)))
 ·unfold cS
  show _=N.length;rw[zi,zg,List.length_replicate];lia
theorem Jn{CX:CXT}{P:Program}{w:World}{K:W.Frag}{mg:Str->Option Value}{base:Heap}{k:Nat}{f:Addr}{name qual:Str}{params:Arguments}{body:List Stmt}{scope:Scope}{dV kV doc pm cdv ct oc:Value}{an od:Option Addr}
 {osl:Array (Option Value)} {N ps:List Str} {sp:Sp} (lk:K.lookup f=some ⟨oc,od,.func (ZE name qual params body scope dV kV doc pm an cdv ct),osl⟩) (hcd:YQ K cdv qual=true) (S:bp N ps scope)
 (len:∀vs H Q E,sp vs H Q E->vs.length=ps.length)
 (hbody:∀(A:Around) (outer:List Env) (s:Shared) (H:Hp) (vs:List V) (Q:VK) (E:XK),Room k (A.deeper (envOfC qual scope s.heap.objs.size f cdv))->sp vs H Q E ->
  ∃t,PSs (bV CX P w K mg base N qual scope f cdv A outer s H E) body t/\t { nx:=fun _ H'=>Q .non H',rt:=Q } (cS N vs) H) :
 h_ P w K mg base CX (k+1) f (ZE name qual params body scope dV kV doc pm an cdv ct) ps sp:=by
 refine⟨len,fun A outer s H args us vs Q E hr e0 hb r hsp=>?_⟩;have hl:=len _ _ _ _ hsp;have KX:K.In s.heap:=e0.mod.kin.keeps fun b o e=>(e0.bs b o e).1;have lim:s.heap.NoLimit:=e0.mod.nolimit.keeps fun b o e=>(e0.bs b o e).1;have hkind:∀y∈ps.zip us,scope.names.lookup y.1=some .local\/(scope.names.lookup y.1=some .cell/\((cellsFrom (s.heap.objs.size+1) scope.names []).lookup y.1).isSome=true):=fun hq_ hy=>by
  obtain⟨n,v⟩:=hq_;rcases S.par n (List.of_mem_zip hy).1 with q|q
  ·exact .inl q
  ·exact .inr ⟨q,PySem.W.cellsFrom_some _ _ _ (.inl q)⟩
 refine codeAny_call_function hr.depth (KX _ _ lk) rfl S.co S.gen rfl (PySem.W.codeRec_of KX hcd) (hb _ _ _ _ ?_);refine wpAny_newFunctionEnv_cells S.kind hkind fun env he s1 x=>?_;subst he;refine⟨lim.keeps x.toInCall.keep,codeAny_func ?_⟩;obtain⟨t,ht,hq⟩:=hbody A outer s H vs Q E (hr.deeper _) hsp;have I:Inv (bV CX P w K mg base N qual scope f cdv A outer s H E) [] (cS N vs) H s1:=rE S hr.hd e0 hl r x;refine Zv (ht [] s1 (cS N vs) H _ I hq) (fun fl s' hs=>?_) fun e s' hs=>hs;have fin:∀ {σ':St} {H':Hp} {v:V} {u:Value},Inv (bV CX P w K mg base N qual scope f cdv A outer s H E) [] σ' H' s'->RelV v u->Q v H'->CE outer P w H s Q u s':=
  fun {σ' H' v u} J rv q=>⟨v,H',J.os,J.bare,J.base,J.hok,rv,q⟩
 cases fl with
 |ret u=>
  obtain⟨v,σ',H',J,rv,q⟩:=hs;exact fin J rv q
 |next=>
  obtain⟨σ',H',J,q⟩:=hs;exact fin (v:=V.non) (u:=ZO) J rfl q
 |brk=>
  obtain⟨_,_,_,q⟩:=hs;exact Zf q
 |cont=>
  obtain⟨_,_,_,q⟩:=hs;exact Zf q
section
variable{X:Cx}{x:Str}{p pos:Pos}{e:Expr}{es:List Expr}{t:TA}{id T:String}{r:List V->Hp->VK->Prop}
def tCB(r:List V->Hp->VK->Prop)(t:TA):TE:=fun σ H Q=>t σ H fun vs H1=>r vs H1 Q
theorem aD(hc:CallR X (.builtin id) r)(hg:Gl X x)(hm:X.mg x=none)(hv:Zu x=some (.builtin id))(ha:PA X (e::es) t)(hn:x ≠ "__name__":=by decide)(hdb:(x==("__debug__":Str))=false:=by decide)
 (he:starEach (e::es) X.env=(false,eval e X.env)::starEach es X.env:=by rfl) (hpl:(backTo pos (starEach es X.env)).any (·.1)=false:=by rfl):PE X (.Call (.Name x p) (e::es) [] pos) (tCB r t):=by
 intro pins s σ H Q I h;refine Yw (oX I hg hm hv ?_ hn hdb);exact PyProof.Rows.callWith_builtin1 (thn (ha pos pins s σ H _ I h) fun us s1 hq_=>(by obtain⟨vs,H1,I1,r1,q1⟩:=hq_;exact hc pins s1 σ H1 vs us Q I1 r1 q1)) he hpl
theorem bh(hc:CallR X (.type T) r)(hg:Gl X x)(hm:X.mg x=none)(hv:Zu x=some (.type T))(ha:PA X (e::es) t)(hn:x ≠ "__name__":=by decide)(hdb:(x==("__debug__":Str))=false:=by decide)
 (he:starEach (e::es) X.env=(false,eval e X.env)::starEach es X.env:=by rfl) (hpl:(backTo pos (starEach es X.env)).any (·.1)=false:=by rfl):PE X (.Call (.Name x p) (e::es) [] pos) (tCB r t):=by
 intro pins s σ H Q I h;refine Yw (oX I hg hm hv ?_ hn hdb);exact YX (thn (ha pos pins s σ H _ I h) fun us s1 hq_=>(by obtain⟨vs,H1,I1,r1,q1⟩:=hq_;exact hc pins s1 σ H1 vs us Q I1 r1 q1)) he hpl
end
end L2
namespace HT
open PySem PyProof.Rows
section
open PySem.SeqAt
open PySem.AutoSeq1 (wpAny_loadPart')
open PySem.MeetsSeq PySem.MeetsSeq2 PySem.MeetsSeq3
end
section
variable{prog:Program}{w:World}{A:Around}{E:Value->Shared->Prop}{s:Shared}
def sIx(n d:Nat):Option Int->Nat
 |none=>d
 |some v=>if v<0 then (v+(n:Int)).toNat else min v.toNat n
theorem sIx_none(n d:Nat):sIx n d none=d:=rfl
theorem sIx_nat(n d k:Nat):sIx n d (some (k:Int))=min k n:=by
 show(if (k:Int)<0 then ((k:Int)+(n:Int)).toNat else min (k:Int).toNat n)=min k n;rw[if_neg (by lia),Int.toNat_natCast]
theorem sIx_le(n d:Nat)(hd:d<=n)(o:Option Int):sIx n d o<=n:=by
 cases o with
 |none=>exact hd
 |some v=>
  show(if v<0 then (v+(n:Int)).toNat else min v.toNat n)<=n;by_cases hv:v<0
  ·rw[if_pos hv];lia
  ·rw[if_neg hv];exact Nat.min_le_right _ _
theorem xQ(v:Int)(n d:Nat):(if v<0 then max (v+(n:Int)) 0 else min v (n:Int))=((sIx n d (some v):Nat):Int):=by
 show(if v<0 then max (v+(n:Int)) 0 else min v (n:Int))=(((if v<0 then (v+(n:Int)).toNat else min v.toNat n):Nat):Int);by_cases hv:v<0
 ·simp only[if_pos hv];lia
 ·simp only[if_neg hv];lia
theorem xx(lo hi:Option Int)(n:Nat):YI lo hi 1 (n:Int)=(((sIx n 0 lo:Nat):Int),((sIx n n hi:Nat):Int)):=by
 have h1:¬ ((1:Int)<0):=by lia
 unfold YI;simp only[h1,if_false];refine Prod.ext ?_ ?_
 ·cases lo with
  |none=>rfl
  |some v=>exact xQ v n 0
 ·cases hi with
  |none=>rfl
  |some v=>exact xQ v n n
theorem xi(i j:Nat):Yt (i:Int) (j:Int) 1=j-i:=by
 unfold Yt;have h1:(1:Int) > 0:=by lia
 simp only[h1,if_true,Int.ediv_one];split <;> lia
theorem pL{Q:Option Int->Shared->Prop}(p:IsPart v o)(h:Q o s):wpAny (model prog w) A (Builtin.Slice.slicePartIndex v) Q E s:=by
 cases p with
 |none=>exact slicePart_none h
 |int i t=>exact slicePart_int h
theorem mP{sl:Addr}{vl vu:Value}{lo hi:Option Int}{n:Nat}{Q:Int × Int × Nat->Shared->Prop}(hs:s.heap.IsSliceOf sl vl vu .none)(pl:IsPart vl lo)(pu:IsPart vu hi)
 (h:Q (((sIx n 0 lo:Nat):Int),1,sIx n n hi-sIx n 0 lo) s):wpAny (model prog w) A (Builtin.Slice.sliceApplied (.ref sl) (pure (n:Int))) Q E s:=by
 obtain⟨os,hos,hcs,hds⟩:=id hs;unfold Builtin.Slice.sliceApplied Builtin.Slice.sliceFields;refine zj (zj (wpAny_field hos hds (x:=vl) rfl (zj (wpAny_field hos hds (x:=vu) rfl (zj (wpAny_field hos hds (x:=.none) rfl (zA ?_)))))));refine zj (slicePart_none ?_);show wpAny _ _ (if ((1:Int)==0)=true then _ else _) _ _ s;rw[if_neg (by decide)];refine zj (pL pl (zj (pL pu (zj (zA ?_)))));show wpAny _ _ (match YI lo hi 1 (n:Int) with|(lo,hi)=>pure (lo,(1:Int),Yt lo hi 1)) _ _ s;rw[xx lo hi n];show wpAny _ _ (pure (((sIx n 0 lo:Nat):Int),(1:Int),Yt ((sIx n 0 lo:Nat):Int) ((sIx n n hi:Nat):Int) 1)) _ _ s;rw[xi];exact zA h
theorem Av(xs:Array Value)(i k:Nat):((Zb k).filterMap fun(m:Nat)=>xs[((i:Int)+(m:Int)*1).toNat]?).toArray=((xs.toList.drop i).take k).toArray:=by
 have e:(fun(m:Nat)=>xs[((i:Int)+(m:Int)*1).toNat]?)=fun m=>xs[i+m]?:=by
  funext m;have:((i:Int)+(m:Int)*1).toNat=i+m:=by lia
  rw[this]
 rw[e];have:=pick_run xs i k;rw[List.filterMap_map]at this;have e2:((fun x=>xs[x]?) ∘ fun x=>i+x)=fun m=>xs[i+m]?:=rfl;rw[e2]at this;rw[this]
theorem getItem_tuple_cut{t sl:Addr}{items:Array Value}{vl vu:Value}{lo hi:Option Int}{Q:Value->Shared->Prop}(ht:IsTup s.heap t items)(hs:s.heap.IsSliceOf sl vl vu .none)(pl:IsPart vl lo)(pu:IsPart vu hi)
 (hw:¬ (sIx items.size 0 lo=0/\sIx items.size items.size hi=items.size))
 (h:Q (.ref s.heap.objs.size) { s with heap:=s.heap.push { cls:=.type "tuple",data:=.seq ((items.toList.drop (sIx items.size 0 lo)).take (sIx items.size items.size hi-sIx items.size 0 lo)).toArray } })
 (hsz:items.size<=sizeLine):wpAny (model prog w) A (getItem (.ref t) (.ref sl)) Q E s:=by
 have htake:sizeOk (.seq ((items.toList.drop (sIx items.size 0 lo)).take (sIx items.size items.size hi-sIx items.size 0 lo)).toArray):=by
  show((items.toList.drop (sIx items.size 0 lo)).take (sIx items.size items.size hi-sIx items.size 0 lo)).toArray.size<=sizeLine;rw[zH,uV,List.length_drop,ZS];lia
 have hj:sIx items.size items.size hi<=items.size:=sIx_le _ _ (zL _) hi;obtain⟨os,hos,hcs,hds⟩:=id hs;have hTs:s.TypeIs (.ref sl) "slice":=⟨os,hos,hcs⟩;unfold getItem
 try with_reducible refine YH ?_
 first|refine zj (zA ?_)|skip
 refine zj (wpAny_sequenceKey ht.typeIs (by decide) ?_);refine zj (wpAny_callSpecial?_slot (name:=zf "__getitem__") ht.typeIs PyProof.Rows.slot_tuple_getitem
  (Yz PyProof.Rows.slot_tuple_getitem ht.typeIs entry_tuple_getitem ?_ (args_tuple_getitem _ _)))
 show wpAny _ _ (Builtin.Tuple.tupleItemsOf (.ref t) >>= _) _ _ s;refine zj (tupleItemsOf_ ht ?_);refine zj (wpAny_typeOf hTs ?_);rw[if_pos (by decide)];refine zj (mP hs pl pu ?_);have hno:¬ ((((sIx items.size 0 lo:Nat):Int)==0&&(1:Int)==1&&(sIx items.size items.size hi-sIx items.size 0 lo)==items.size)=true):=by
  intro q;rw[Zj,Zj]at q;have q1:((sIx items.size 0 lo:Nat):Int)=0:=eq_of_beq q.1.1;have q2:sIx items.size items.size hi-sIx items.size 0 lo=items.size:=eq_of_beq q.2;exact hw ⟨by lia,by lia⟩
 show wpAny _ _ (if (((sIx items.size 0 lo:Nat):Int)==0&&(1:Int)==1&&(sIx items.size items.size hi-sIx items.size 0 lo)==items.size)=true then _ else _) _ _ s;rw[if_neg hno,Av]
 first
  |exact zj (m:=Yl _) (ZM (zA ⟨_,rfl,zA h⟩) htake)
  |exact zj (m:=Yl _) (ZM (zj (zA (zA ⟨_,rfl,zA h⟩))) htake)
  |exact zj (zj (m:=Yl _) (ZM (zA (zA ⟨_,rfl,zA h⟩)) htake))
  |exact zj (zj (m:=Yl _) (ZM (zA ⟨_,rfl,zA h⟩) htake))
end
end HT
namespace L2
open PySem PySem.Spec PyProof.Rows
abbrev TO:=St->Hp->(Option Int->Hp->Prop)->Prop
def PO(X:Cx)(e:Option Expr)(t:TO):Prop:=
 ∀(pins:List (Addr × Obj)) (s:Shared) (σ:St) (H:Hp) (Q:Option Int->Hp->Prop),Inv X pins σ H s->t σ H Q ->
  wpAny (model X.prog X.w) X.A (evalPart e X.env) (fun u s'=>∃o H',Inv X pins σ H' s'/\IsPart u o/\Q o H') X.xe s
def yA:TO:=fun _ H Q=>Q none H
def Fc(t:TE):TO:=fun σ H Q=>t σ H fun x H1=>∃i,x = .int i/\Q (some i) H1
theorem oS{ns:List Int}:∀ {us:List Value},Vals (ns.map V.int) us->IntsAre us ns:=by
 induction ns with
 |nil=>intro us r;rw[Z6]at r;cases r;exact .nil
 |cons n ns ih=>
  intro us r;rw[xa]at r;cases r with
  |cons r1 r2=>
   obtain⟨t,e⟩:=r1;subst e;exact .cons n t (ih r2)
section
variable{X:Cx}{e:Expr}{te:TE}{lo hi:Option Expr}{tl th:TO}{pos p2:Pos}
theorem gr:PO X none yA:=by
 intro pins s σ H Q I h;rw[evalPart_none];exact zA ⟨none,H,I,.none,h⟩
theorem eK(h:PE X e te):PO X (some e) (Fc te):=by
 intro pins s σ H Q I hw;rw[evalPart_some];refine thn (h pins s σ H _ I hw) fun u s1 hq_=>?_;obtain⟨x,H1,I1,r1,q1⟩:=hq_;obtain⟨i,rfl,q⟩:=q1;obtain⟨t,rfl⟩:=r1;exact⟨some i,H1,I1,.int i t,q⟩
def SlR(X:Cx)(r:V->Option Int->Option Int->Hp->VK->Prop):Prop:=
 ∀(pins:List (Addr × Obj)) (s:Shared) (σ:St) (H:Hp) (x:V) (v vl vu:Value) (lo hi:Option Int) (sl:Addr) (Q:VK),Inv X pins σ H s->RelV x v->s.heap.IsSliceOf sl vl vu .none->IsPart vl lo->IsPart vu hi->r x lo hi H Q ->
  ∃T id,typeLookup (.type T) "__getitem__" = pure (some (.builtin id))/\s.TypeIs v T/\wpAny (model X.prog X.w) X.A (getItem v (.ref sl)) (EP X pins σ Q) X.xe s
def tSl(r:V->Option Int->Option Int->Hp->VK->Prop)(te:TE)(tl th:TO):TE:=fun σ H Q=>te σ H fun x H1=>tl σ H1 fun l H2=>th σ H2 fun u H3=>r x l u H3 Q
theorem dZ{r:V->Option Int->Option Int->Hp->VK->Prop}(hr:SlR X r)(he:PE X e te)(hl:PO X lo tl)(hu:PO X hi th):PE X (.Subscript e (.Slice lo hi none p2) pos) (tSl r te tl th):=by
 intro pins s σ H Q I h;refine Subscript_ (thn (he pins s σ H _ I h) fun v s1 hq_=>?_);obtain⟨x,H1,I1,r1,q1⟩:=hq_;refine wpAny_Slice (thn (hl pins s1 σ H1 _ I1 q1) fun vl s2 ⟨l,H2,I2,pl,q2⟩=>thn (hu pins s2 σ H2 _ I2 q2) fun vu s3 hq_=>?_);obtain⟨u,H3,I3,pu,q3⟩:=hq_;rw[evalPart_none];refine zA ?_;have I4:Inv X pins σ H3 { s3 with heap:=s3.heap.push { cls:=.type "slice",data:=.fields #[vl,vu,.none] } }:=I3.kept (t':=s3.toks) fun b ob q=>Heap.get?_push_of_some _ q;obtain⟨T,id,hT,ht,hg⟩:=hr pins { s3 with heap:=s3.heap.push { cls:=.type "slice",data:=.fields #[vl,vu,.none] } } σ H3 x v vl vu l u s3.heap.objs.size Q I4 r1 (Heap.IsSliceOf.new ..) pl pu q3;show wpAny (model X.prog X.w) X.A (subscriptTail e (.Slice lo hi none p2) v (.ref s3.heap.objs.size)) (EP X pins σ Q) X.xe { s3 with heap:=s3.heap.push { cls:=.type "slice",data:=.fields #[vl,vu,.none] } };exact tail_any (ops:=[.ref s3.heap.objs.size,v]) ht hT hg (by with_unfolding_all rfl)
def jS(xs:List V)(lo hi:Option Int):List V:=(xs.drop (HT.sIx xs.length 0 lo)).take (HT.sIx xs.length xs.length hi-HT.sIx xs.length 0 lo)
theorem m7(xs:List V)(lo hi:Option Int):(jS xs lo hi).length<=xs.length:=by
 unfold jS;rw[uV,List.length_drop];lia
def Jc(K:W.Frag):V->Option Int->Option Int->Hp->VK->Prop:=fun x lo hi H Q=>∃a xs,x = .ref a/\SqT K H a xs /\
 ¬ (HT.sIx xs.length 0 lo=0/\HT.sIx xs.length xs.length hi=xs.length)/\∀p,H p=none->Q (.ref p) (upd H p (.tup (jS xs lo hi)))
theorem GY:SlR X (Jc X.K):=by
 intro pins s σ H x v vl vu lo hi sl Q I rx hs pl pu h;obtain⟨a,xs,rfl,hx,hw,q⟩:=h;cases rx;obtain⟨its,r,ht,hz⟩:=I.tuple hx;have hlen:its.toArray.size=xs.length:=by rw[zH];exact r.length.symm
 refine⟨"tuple",_,PyProof.Rows.slot_tuple_getitem.lookup,ht.typeIs,?_⟩;refine HT.getItem_tuple_cut ht hs pl pu (by rw[hlen];exact hw) ?_ (by rw[hlen];exact hz);rw[hlen];refine⟨.ref s.heap.objs.size,_,I.laid (t':=s.toks) (o:=.tup (jS xs lo hi)) (fun b ob q=>Heap.get?_push_of_some _ q) (zL _) ?_,rfl,q _ (I.hok.fresh (zL _))⟩;exact⟨wn (m7 xs lo hi) hz,_,(r.drop (HT.sIx xs.length 0 lo)).take (HT.sIx xs.length xs.length hi-HT.sIx xs.length 0 lo),IsTup.new _ _⟩
end
def ixN(n:Nat)(i:Int):Option Nat:=if 0<=i then (if i<n then some i.toNat else none) else if -(n:Int)<=i then some (i+n).toNat else none
def atI{α:Type}(xs:List α)(i:Int):Option α:=(ixN xs.length i).bind fun j=>xs[j]?
theorem EA{i:Int}(h:ixN n i=some j):seqIndex? i n=some j/\j<n /\ -(n:Int)<=i/\i<n:=by
 unfold ixN at h;by_cases h0:0<=i
 ·rw[if_pos h0]at h
  by_cases h1:i<n
  ·rw[if_pos h1]at h
   have e:i.toNat=j:=tZ h;exact⟨by rw[seqIndex_of h0 h1,e],by lia,by lia,h1⟩
  ·rw[if_neg h1]at h;cases h
 ·rw[if_neg h0]at h
  by_cases h1:-(n:Int)<=i
  ·rw[if_pos h1]at h
   have e:(i+n).toNat=j:=tZ h;exact⟨by rw[seqIndex_neg (by lia) h1,e],by lia,h1,by lia⟩
  ·rw[if_neg h1]at h;cases h
theorem tj{α:Type}{xs:List α}{i:Int}{v:α}(h:atI xs i=some v):∃j,seqIndex? i xs.length=some j/\xs[j]? = some v/\j<xs.length /\ -(xs.length:Int)<=i/\i<xs.length:=by
 unfold atI at h;cases e:ixN xs.length i with
 |none=>rw[e]at h;cases h
 |some j=>
  rw[e]at h;obtain⟨h1,h2,h3,h4⟩:=EA e;exact⟨j,h1,h,h2,h3,h4⟩
theorem av{α:Type}{xs:List α}{j:Nat}{v:α}(h:xs[j]? = some v):atI xs (j:Int)=some v:=by
 have hj:j<xs.length:=(List.getElem?_eq_some_iff.mp h).1;have e:ixN xs.length (j:Int)=some j:=by
  unfold ixN;rw[if_pos (by lia),if_pos (by lia)];simp
 unfold atI;rw[e];exact h
theorem vH{α:Type}(xs:List α)(v:α):atI (xs++[v]) (-1)=some v:=by
 have hl:(xs++[v]).length=xs.length+1:=by simp
 have e:ixN (xs++[v]).length (-1)=some xs.length:=by
  unfold ixN;rw[hl,if_neg (by decide),if_pos (by lia)]
  congr 1
  lia
 unfold atI;rw[e];show(xs++[v])[xs.length]? = some v;simp
def tE(b:Expr):Prop:=∀o i,subscripted b false o i=operate [o,i] (getItem o i)
def IxR(X:Cx)(r:R2):Prop:=
 ∀(value slice:Expr) (pins:List (Addr × Obj)) (s:Shared) (σ:St) (H:Hp) (x y:V) (v u:Value) (Q:VK),Inv X pins σ H s->RelV x v->RelV y u->r x y H Q ->
  subscripted slice false v u=operate [v,u] (getItem v u)->wpAny (model X.prog X.w) X.A (subscriptTail value slice v u) (EP X pins σ Q) X.xe s
def MtR(X:Cx)(id:String)(r:V->List V->Hp->VK->Prop):Prop:=
 ∀(pins:List (Addr × Obj)) (s:Shared) (σ:St) (H:Hp) (x:V) (xs:List V) (v:Value) (us:List Value) (Q:VK),Inv X pins σ H s->RelV x v->Vals xs us->r x xs H Q ->
  wpAny (model X.prog X.w) X.A (call (.builtin id) (v::us)) (EP X pins σ Q) X.xe s
section
variable{X:Cx}{a b:Expr}{ta tb:TE}{pos:Pos}
theorem IxR.or{r r':R2}(h:IxR X r)(h':IxR X r'):IxR X (fun x y H Q=>r x y H Q\/r' x y H Q):=by
 intro value slice pins s σ H x y v u Q I rx ry q hs;rcases q with q|q
 ·exact h value slice pins s σ H x y v u Q I rx ry q hs
 ·exact h' value slice pins s σ H x y v u Q I rx ry q hs
theorem HV{r:R2}(hr:IxR X r)(ha:PE X a ta)(hb:PE X b tb)(hs:tE b):PE X (.Subscript a b pos) (tOp r ta tb):=by
 intro pins s σ H Q I h;exact Subscript_ (GI ha hb I h fun v u s2 x y H2 I2 rx ry q=>hr a b pins s2 σ H2 x y v u Q I2 rx ry q (hs _ _))
def Ib(K:W.Frag):R2:=fun x y H Q=>∃p xs i v,x = .ref p/\y = .int i/\SqL K H p xs/\atI xs i=some v/\Q v H
def Ij(K:W.Frag):R2:=fun x y H Q=>∃p xs i v,x = .ref p/\y = .int i/\SqT K H p xs/\atI xs i=some v/\Q v H
def HZ:R2:=fun x y H Q=>∃z i c,x = .str z/\y = .int i/\z.length<=sizeLine/\atI z.cps.toList i=some c/\Q (.str ⟨#[c]⟩) H
theorem yN:IxR X (Ib X.K):=by
 intro value slice pins s σ H x y v u Q I rx ry h hs;obtain⟨p,xs,i,z,rfl,rfl,hq,he,q⟩:=h;cases rx;obtain⟨t,rfl⟩:=ry;obtain⟨its,r,pl,hz⟩:=I.list hq;obtain⟨j,h1,h2,h3,h4,h5⟩:=tj he;obtain⟨w,ew,rw'⟩:=r.get h2;have hl:=r.length;have hn:=pY;have fin:EP X pins σ Q w s:=⟨z,H,I,rw',q⟩;by_cases h0:0<=i
 ·have hj:i.toNat=j:=by
   rw[seqIndex_of h0 h5]at h1;exact tZ h1
  exact item_listR pl.isList h0 (by lia) (by rw[hj];simpa using ew) fin hs
 ·have hj:(i+(its.toArray.size:Int)).toNat=j:=by
   rw[seqIndex_neg (by lia) h4]at h1;rw[zH,<- hl];exact tZ h1
  exact subscriptTail_builtinR (x:=w) pl.isList.typeIs slot_list_getitem.lookup
   (wpAny_getItem_list_neg (Q:=fun r s'=>r=w/\EP X pins σ Q r s') pl.isList (by lia) (by rw[zH] <;> lia) (by lia) (by rw[hj];simpa using ew) ⟨rfl,fin⟩) hs
theorem FX:IxR X (Ij X.K):=by
 intro value slice pins s σ H x y v u Q I rx ry h hs;obtain⟨p,xs,i,z,rfl,rfl,hq,he,q⟩:=h;cases rx;obtain⟨t,rfl⟩:=ry;obtain⟨its,r,pl,hz⟩:=I.tuple hq;obtain⟨j,h1,h2,h3,h4,h5⟩:=tj he;obtain⟨w,ew,rw'⟩:=r.get h2;have hl:=r.length;have hn:=pY;have fin:EP X pins σ Q w s:=⟨z,H,I,rw',q⟩;exact subscriptTail_builtinR (x:=w) pl.typeIs slot_tuple_getitem.lookup
  (getItem_tuple (j:=j) (Q:=fun r s'=>r=w/\EP X pins σ Q r s') pl (by lia) (by lia) (by rw[zH,<- hl];exact h1) (by simpa using ew) ⟨rfl,fin⟩) hs
theorem GR:IxR X HZ:=by
 intro value slice pins s σ H x y v u Q I rx ry h hs;obtain⟨z,i,c,rfl,rfl,hz,he,q⟩:=h;obtain⟨t,rfl⟩:=rx;obtain⟨t',rfl⟩:=ry;obtain⟨j,h1,h2,h3,h4,h5⟩:=tj he;have hl:z.cps.toList.length=z.length:=by simp[ZN]
 rw[hl]at h1 h4 h5;have hn:=pY;exact tail_any (YC s z t) slot_str_getitem.lookup (getItem_str (c:=c) (by
  have e1:decide (i < -(2 ^ 63:Int))=false:=decide_eq_false (by lia);have e2:decide (i ≥ 2 ^ 63)=false:=decide_eq_false (by lia);rw[e1,e2,Bool.or_false]) (by rw[h1];simpa using h2) ⟨.str ⟨#[c]⟩,H,I.tok _,⟨_,rfl⟩,q⟩) hs
def rIx(K:W.Frag):R2:=fun x y H Q=>Ib K x y H Q\/Ij K x y H Q\/HZ x y H Q
theorem GB:IxR X (rIx X.K):=yN.or (FX.or GR)
theorem j4(lo hi:Option Int)(n:Nat):(ZK lo hi none n).1=((HT.sIx n 0 lo:Nat):Int)/\(ZK lo hi none n).2.1=((HT.sIx n n hi:Nat):Int)/\(ZK lo hi none n).2.2=1:=by
 refine⟨?_,?_,rfl⟩
 ·cases lo with
  |none=>simp[ZK,HT.sIx]
  |some i=>
   simp only[ZK,HT.sIx,Option.getD_none,show(1:Int) > 0 by decide,if_true];by_cases h:i<0
   ·simp only[h,if_true] <;> lia
   ·simp only[h,if_false] <;> lia
 ·cases hi with
  |none=>simp[ZK,HT.sIx]
  |some i=>
   simp only[ZK,HT.sIx,Option.getD_none,show(1:Int) > 0 by decide,if_true];by_cases h:i<0
   ·simp only[h,if_true] <;> lia
   ·simp only[h,if_false] <;> lia
theorem qO(its:List Value)(lo hi:Option Int):slicePick its.toArray lo hi none=((its.drop (HT.sIx its.length 0 lo)).take (HT.sIx its.length its.length hi-HT.sIx its.length 0 lo)).toArray:=by
 obtain⟨h1,h2,h3⟩:=j4 lo hi its.toArray.size;unfold slicePick;rw[h1,h2,h3];simp only[sliceRange_one,pick_run,zH] <;> rfl
def Gr(K:W.Frag):V->Option Int->Option Int->Hp->VK->Prop:=fun x lo hi H Q=>∃a xs,x = .ref a/\SqL K H a xs/\∀p,H p=none->Q (.ref p) (upd H p (.lst (jS xs lo hi)))
theorem De:SlR X (Gr X.K):=by
 intro pins s σ H x v vl vu lo hi sl Q I rx hs pl pu h;obtain⟨a,xs,rfl,hx,q⟩:=h;cases rx;obtain⟨its,r,ht,hz⟩:=I.list hx;have hlen:=r.length;refine⟨"list",_,slot_list_getitem.lookup,ht.isList.typeIs,?_⟩;refine wpAny_getItem_list_slice ht.isList hs pl pu .none (by simp) ?_ (by rw[zH] <;> lia);rw[qO,<- hlen];refine⟨.ref s.heap.objs.size,_,I.laid (t':=s.toks) (o:=.lst (jS xs lo hi)) (fun b ob q=>Heap.get?_push_of_some _ q) (zL _) ?_,rfl,q _ (I.hok.fresh (zL _))⟩;exact⟨wn (m7 xs lo hi) hz,_,0,(r.drop (HT.sIx xs.length 0 lo)).take (HT.sIx xs.length xs.length hi-HT.sIx xs.length 0 lo),Heap.get?_push_size _ rfl⟩
def eE:V->Bool
 | .non=>true
 | .bl _=>true
 | .int _=>true
 | .str _=>true
 |_=>false
def eqV:V->V->Bool
 | .non,.non=>true
 | .bl a,.bl b=>a==b
 | .bl a,.int b=>(if a then 1 else 0)==b
 | .int a,.bl b=>a==(if b then 1 else 0)
 | .int a,.int b=>a==b
 | .str a,.str b=>a==b
 |_,_=>false
theorem wF(ry:RelV y u)(rx:RelV x v)(fy:eE y=true)(fx:eE x=true):SeqAt.EqAt A s u v (eqV y x):=by
 cases y with
 |non=>
  cases ry;cases x with
  |non=>cases rx;exact SeqAt.EqAt.same _
  |bl b=>cases rx;exact SeqAt.EqAt.none_bool b
  |int b=>obtain⟨t,rfl⟩:=rx;exact SeqAt.EqAt.none_int b t
  |str b=>obtain⟨t,rfl⟩:=rx;exact SeqAt.EqAt.none_str b t
  |_=>exact absurd (show false=true from fx) xE
 |bl a=>
  cases ry;cases x with
  |non=>cases rx;exact SeqAt.EqAt.bool_none a
  |bl b=>cases rx;exact SeqAt.EqAt.bool_bool a b
  |int b=>obtain⟨t,rfl⟩:=rx;exact SeqAt.EqAt.bool_int a b t
  |str b=>obtain⟨t,rfl⟩:=rx;exact SeqAt.EqAt.bool_str a b t
  |_=>exact absurd (show false=true from fx) xE
 |int a=>
  obtain⟨t',rfl⟩:=ry;cases x with
  |non=>cases rx;exact SeqAt.EqAt.int_none a t'
  |bl b=>cases rx;exact SeqAt.EqAt.int_bool a t' b
  |int b=>obtain⟨t,rfl⟩:=rx;exact SeqAt.EqAt.int_int a t' b t
  |str b=>obtain⟨t,rfl⟩:=rx;exact SeqAt.EqAt.int_str a t' b t
  |_=>exact absurd (show false=true from fx) xE
 |str a=>
  obtain⟨t',rfl⟩:=ry;cases x with
  |non=>cases rx;exact SeqAt.EqAt.str_none a t'
  |bl b=>cases rx;exact SeqAt.EqAt.str_bool a t' b
  |int b=>obtain⟨t,rfl⟩:=rx;exact SeqAt.EqAt.str_int a t' b t
  |str b=>obtain⟨t,rfl⟩:=rx;exact SeqAt.EqAt.str_str a t' b t
  |_=>exact absurd (show false=true from fx) xE
 |_=>exact absurd (show false=true from fy) xE
def eqU(x:V)(u:Value):Bool:=match u with
 | .none=>eqV .non x
 | .bool b=>eqV (.bl b) x
 | .int i _=>eqV (.int i) x
 | .str z _=>eqV (.str z) x
 |_=>false
theorem Ar(r:RelV y u)(f:eE y=true):eqU x u=eqV y x:=by
 cases y with
 |non=>cases r;rfl
 |bl b=>cases r;rfl
 |int i=>obtain⟨t,rfl⟩:=r;rfl
 |str z=>obtain⟨t,rfl⟩:=r;rfl
 |_=>exact absurd (show false=true from f) xE
theorem lQ:∀ {xs:List V} {us:List Value},Vals xs us->xs.all eE=true->us.any (eqU x)=xs.any fun y=>eqV y x
 |_,_,.nil,_=>rfl
 |y::xs,u::us,.cons r t,f=>by
  rw[List.all_cons,Zj]at f;rw[YZ,YZ,Ar r f.1,lQ t f.2]
theorem iK(rx:RelV x v)(fx:eE x=true):∀ {xs:List V} {us:List Value},Vals xs us->xs.all eE=true->∀u∈us,SeqAt.EqAt A s u v (eqU x u)
 |_,_,.nil,_=>fun u hu=>by cases hu
 |y::xs,u::us,.cons r t,f=>fun u' hu=>by
  rw[List.all_cons,Zj]at f;rcases zZ.mp hu with rfl|hu
  ·rw[Ar r f.1];exact wF r rx f.1 fx
  ·exact iK rx fx t f.2 u' hu
def inV(x:V)(xs:List V):Bool:=xs.any fun y=>eqV y x
def rIn(K:W.Frag)(neg:Bool):R2:=fun x y H Q=>∃p xs,y = .ref p/\(SqL K H p xs\/SqT K H p xs)/\eE x=true/\xs.all eE=true/\Q (.bl (if neg then !inV x xs else inV x xs)) H
theorem yZ:OpR X (rW .In) (rIn X.K false):=by
 intro pins s σ H x y v u Q I rx ry h;obtain⟨p,xs,rfl,hq,fx,fs,q⟩:=h;cases ry;rcases hq with hq|hq
 ·obtain⟨its,r,pl,hz⟩:=I.list hq
  refine SeqAt.in_listAt (eqU x) pl.isList (fun w hw=>iK rx fx r fs w (by simpa using hw)) ⟨.bl _,H,I,rfl,?_⟩;rw[show its.toArray.any (eqU x)=its.any (eqU x) by simp,lQ r fs];exact q
 ·obtain⟨its,r,pl,hz⟩:=I.tuple hq
  refine SeqAt.in_tupleAt (eqU x) pl (fun w hw=>iK rx fx r fs w (by simpa using hw)) ⟨.bl _,H,I,rfl,?_⟩;rw[show its.toArray.any (eqU x)=its.any (eqU x) by simp,lQ r fs];exact q
theorem t8:OpR X (rW .NotIn) (rIn X.K true):=by
 intro pins s σ H x y v u Q I rx ry h;obtain⟨p,xs,rfl,hq,fx,fs,q⟩:=h;cases ry;rcases hq with hq|hq
 ·obtain⟨its,r,pl,hz⟩:=I.list hq
  refine SeqAt.notIn_listAt (eqU x) pl.isList (fun w hw=>iK rx fx r fs w (by simpa using hw)) ⟨.bl _,H,I,rfl,?_⟩;rw[show its.toArray.any (eqU x)=its.any (eqU x) by simp,lQ r fs];exact q
 ·obtain⟨its,r,pl,hz⟩:=I.tuple hq
  refine SeqAt.notIn_tupleAt (eqU x) pl (fun w hw=>iK rx fx r fs w (by simpa using hw)) ⟨.bl _,H,I,rfl,?_⟩;rw[show its.toArray.any (eqU x)=its.any (eqU x) by simp,lQ r fs];exact q
theorem CallR.or{f:Value}{r r':List V->Hp->VK->Prop}(h:CallR X f r)(h':CallR X f r'):CallR X f (fun xs H Q=>r xs H Q\/r' xs H Q):=by
 intro pins s σ H xs us Q I rs q;rcases q with q|q
 ·exact h pins s σ H xs us Q I rs q
 ·exact h' pins s σ H xs us Q I rs q
theorem sI:CallR X (.type "list") (fun xs H Q=>∃p ys,xs=[.ref p]/\(SqL X.K H p ys\/SqT X.K H p ys)/\∀l,H l=none->Q (.ref l) (upd H l (.lst ys))):=by
 intro pins s σ H xs us Q I r h;obtain⟨p,ys,rfl,hq,q⟩:=h;obtain⟨u,rfl,rx⟩:=dO r;cases rx;have fin:∀(its:List Value),Vals ys its->ys.length<=sizeLine->∀(h':Heap) (c':Nat),(∀b o',s.heap.get? b=some o'->h'.get? b=some o') ->
  h'.get? s.heap.objs.size=some { cls:=.type "list",dict:=none,data:=.seq its.toArray c',slots:=#[] }->EP X pins σ Q (.ref s.heap.objs.size) { s with heap:=h' }:=fun its r' hz h' c' kp e=>
  ⟨.ref s.heap.objs.size,_,I.laid (t':=s.toks) kp (zL _) (show ObjOk X.prog X.w _ h' _ (.lst ys) from⟨hz,its,c',r',e⟩),rfl,q _ (I.hok.fresh (zL _))⟩
 rcases hq with hq|hq
 ·obtain⟨its,r',pl,hz⟩:=I.list hq
  have hlen:=r'.length;obtain⟨o,ho,hc,n,hd⟩:=pl.isList;exact call_list_seq p (.inl rfl) ho hc hd (fun h' c' kp e=>fin its r' hz h' c' kp e) (by simp only[zH] <;> lia)
 ·obtain⟨its,r',pl,hz⟩:=I.tuple hq
  have hlen:=r'.length;obtain⟨o,ho,hc,n,hd⟩:=pl;exact call_list_seq p (.inr rfl) ho hc hd (fun h' c' kp e=>fin its r' hz h' c' kp e) (by simp only[zH] <;> lia)
theorem qo:CallR X (.type "tuple") (fun xs H Q=>∃p ys,xs=[.ref p]/\((SqL X.K H p ys/\∀l,H l=none->Q (.ref l) (upd H l (.tup ys)))\/(SqT X.K H p ys/\Q (.ref p) H))):=by
 intro pins s σ H xs us Q I r h;obtain⟨p,ys,rfl,h⟩:=h;obtain⟨u,rfl,rx⟩:=dO r;cases rx;rcases h with ⟨hq,q⟩|⟨hq,q⟩
 ·obtain⟨its,r',pl,hz⟩:=I.list hq
  have hlen:=r'.length;refine call_tuple_list pl.isList (fun h' kp=>?_) (by simp only[zH] <;> lia);have I1:Inv X pins σ H { s with heap:=h' }:=I.kept (t':=s.toks) kp;have I2:Inv X pins σ (upd H h'.objs.size (.tup ys)) { s with heap:=h'.push { cls:=.type "tuple",data:=.seq its.toArray } }:=
   I1.laid (t':=s.toks) (fun b o e=>Heap.get?_push_of_some _ e) (zL _) (show ObjOk X.prog X.w _ _ _ (.tup ys) from⟨hz,its,r',IsTup.new _ _⟩)
  exact⟨.ref h'.objs.size,_,I2,rfl,q _ (I1.hok.fresh (zL _))⟩
 ·obtain⟨its,r',pl,hz⟩:=I.tuple hq
  exact call_tuple_same pl ⟨.ref p,H,I,rfl,q⟩
def tyV(K:W.Frag)(T:String)(x:V)(H:Hp):Prop:=match x with
 | .str _=>T = "str"
 | .int _=>T = "int"
 | .ref p=>(T = "list" /\ ∃xs,SqL K H p xs)\/(T = "tuple" /\ ∃o,K.lookup p=some o/\o.cls = .type "tuple" /\ o.dict=none) \/
  (T = "dict" /\ ((∃kvs,H p=some (.dK kvs))\/∃kvs,H p=some (.dT kvs)))\/(T = "set" /\ ∃S n,H p=some (.set S n))
 |_=>False
theorem GE{pins:List (Addr × Obj)}{σ:St}{H:Hp}{s:Shared}{T:String}{x:V}{v:Value}(I:Inv X pins σ H s)(r:RelV x v)(ty:tyV X.K T x H) :
 s.TypeIs v T/\∀a,v = .ref a->∃ob,s.heap.get? a=some ob/\ob.dict=none:=by
 cases x with
 |str z=>
  obtain⟨t,rfl⟩:=r;cases (show T = "str" from ty);exact⟨YC s z t,fun _ e=>nomatch e⟩
 |int i=>
  obtain⟨t,rfl⟩:=r;cases (show T = "int" from ty);exact⟨typeIs_int s i t,fun _ e=>nomatch e⟩
 |ref p=>
  cases r;rcases ty with ⟨rfl,xs,hq⟩|⟨rfl,o,hk,hc,hd⟩|⟨rfl,hk⟩|⟨rfl,S,n,hk⟩
  ·obtain⟨its,_,pl,_⟩:=I.list hq
   refine⟨pl.isList.typeIs,fun a e=>?_⟩;cases e;obtain⟨o,n,e,c,hd,_⟩:=pl;exact⟨o,e,hd⟩
  ·refine⟨⟨o,I.kIn p o hk,hc⟩,fun a e=>?_⟩
   cases e;exact⟨o,I.kIn _ o hk,hd⟩
  ·have z:∃o,s.heap.get? p=some o/\o.ExactDict:=by
    rcases hk with ⟨kvs,hk⟩|⟨kvs,hk⟩
    ·obtain⟨_,_,_,_,o,_,_,e,ex,_⟩:=I.hok p _ hk
     exact⟨o,e,ex⟩
    ·obtain⟨_,_,_,_,o,_,_,e,ex,_⟩:=I.hok p _ hk
     exact⟨o,e,ex⟩
   obtain⟨o,e,ex⟩:=z;refine⟨⟨o,e,ex.1⟩,fun a e2=>?_⟩;cases e2;exact⟨o,e,ex.2.1⟩
  ·obtain⟨o,_,_,_,e,ex,_⟩:=I.hok p _ hk
   refine⟨⟨o,e,ex.1⟩,fun a e2=>?_⟩;cases e2;exact⟨o,e,ex.2.1⟩
 |_=>exact Zf ty
def tBM(K:W.Frag)(T:String)(r:V->List V->Hp->VK->Prop)(to:TE)(t:TA):TE:=fun σ H Q=>to σ H fun x H1=>tyV K T x H1/\t σ H1 fun xs H2=>r x xs H2 Q
variable{o e:Expr}{es:List Expr}{to:TE}{t:TA}{name:Str}{apos cpos:Pos}{T id:String}{r:V->List V->Hp->VK->Prop}
theorem IZ(pa:PlainAttrs T)(slot:Slot T name id)(hty:typeOf (.builtin id)=pure (.type "method_descriptor"))(hm:MtR X id r)(ho:PE X o to)(ha:PA X (e::es) t)
 (hbase:YG o name X.env (eval o X.env)=eval o X.env:=by rfl)
 (hfew:((backTo cpos (starEach (e::es) X.env)).all (fun x=>!x.1)&&(backToKw cpos (Ye [] X.env)).all (fun x=>x.1.isSome)
  && decide ((e::es).length+([]:List Keyword).length+(if ([]:List Keyword).isEmpty then 0 else 1)<30))=true:=by rfl)
 (hline:(apos.endLine==cpos.line)=true:=by rfl) (hs:starEach (e::es) X.env=(false,eval e X.env)::starEach es X.env:=by rfl) (hplain:(backTo cpos (starEach es X.env)).any (·.1)=false:=by rfl) :
 PE X (.Call (.Attribute o name apos) (e::es) [] cpos) (tBM X.K T r to t):=by
 intro pins s σ H Q I h;refine wpAny_Call_method_late hbase hfew hline rfl (thn (ho pins s σ H _ I h) fun v s1 hq_=>?_);obtain⟨x,H1,I1,r1,ty,q1⟩:=hq_;obtain⟨h1,h2⟩:=GE I1 r1 ty;refine⟨T,id,pa,slot,hty,h1,h2,?_⟩;have hA:=ha cpos pins s1 σ H1 _ I1 q1;rw[hs]at hA |-
 refine Calls.callWith_builtin (by show(false || (backTo cpos (starEach es X.env)).any (·.1))=false;rw[hplain] <;> rfl) (YN ?_);exact thn hA fun us s2 hq_=>(by obtain⟨vs,H2,I2,r2,q2⟩:=hq_;exact hm pins s2 σ H2 x vs v us Q I2 r1 r2 q2)
end
def MtM(X:Cx)(id:String)(r:V->List V->Hp->VK->Prop):Prop:=
 ∀(pins:List (Addr × Obj)) (s:Shared) (σ:St) (H:Hp) (x:V) (xs:List V) (v:Value) (us:List Value) (Q:VK),Inv X pins σ H s->RelV x v->Vals xs us->r x xs H Q ->
  wpAny (model X.prog X.w) X.A (call (.builtin id) (v::us)) (EP X pins σ Q) X.xe s
theorem Vals.one:∀ {x:V} {us:List Value},Vals [x] us->∃u,us=[u]/\RelV x u
 |_,_,.cons r .nil=>⟨_,rfl,r⟩
theorem Vals.dropLast{xs:List V}{us:List Value}(h:Vals xs us):Vals xs.dropLast us.dropLast:=by
 induction h with
 |nil=>exact .nil
 |cons r t ih=>
  cases t with
  |nil=>exact .nil
  |cons q t'=>exact .cons r ih
theorem Vals.rep(h:Vals xs us):∀k:Nat,Vals (t7 k xs).flatten (t7 k us).flatten
 |0=>.nil
 |k+1=>by
  rw[Yi,Yi,List.flatten_cons,List.flatten_cons];exact Vals.append h (Vals.rep h k)
theorem rh(its:List Value):∀(k:Nat) (acc:List Value),
 List.foldl (fun x1 x2=>x1++x2) acc.toArray (t7 k its.toArray)=(acc++(t7 k its).flatten).toArray
 |0,acc=>by simp
 |k+1,acc=>by
  have e:acc.toArray++its.toArray=(acc++its).toArray:=by simp
  have e2:(acc++its)++(t7 k its).flatten=acc++(t7 (k+1) its).flatten:=by
   rw[Yi,List.flatten_cons,Yq]
  rw[<- e2,<- rh its k (acc++its),<- e,Yi,List.foldl_cons]
section
variable{X:Cx}{pins:List (Addr × Obj)}{σ:St}{H:Hp}{s:Shared}{l b:Addr}{xs ys zs:List V}
theorem Inv.lset{its its':List Value}{f:Array Value->Array Value}(I:Inv X pins σ H s)(hH:H l=some (.lst xs))
 (e:s.heap.get? l=some { cls:=.type "list",data:=.seq its.toArray n }) (hf:f its.toArray=its'.toArray) (hv:Vals ys its') (hz:ys.length<=sizeLine) :
 Inv X pins σ (upd H l (.lst ys)) { s with heap:=s.heap.update l (YT f),toks:=t' }:=by
 have q:=PySem.IsL.update e f;rw[hf]at q;refine I.write (x:=l) (e:=l) (by rw[hH];exact trivial) (.inl rfl) (fun b' u hb hu=>(Heap.get?_update_other s.heap (YT f) (Ne.symm hb)).trans hu) ⟨_,q⟩ ?_;exact⟨hz,its',_,hv,q⟩
theorem Inv.lnew{its:List Value}(I:Inv X pins σ H s)(hv:Vals ys its)(hz:ys.length<=sizeLine) :
 Inv X pins σ (upd H s.heap.objs.size (.lst ys)) { s with heap:=s.heap.push { cls:=.type "list",data:=.seq its.toArray },toks:=t' }:=
 I.laid (fun _ _ q=>Heap.get?_push_of_some _ q) (zL _) ⟨hz,its,0,hv,Heap.get?_push_size _ rfl⟩
theorem Inv.fresh(I:Inv X pins σ H s):H s.heap.objs.size=none:=I.hok.fresh (zL _)
theorem Inv.lstM(I:Inv X pins σ H s)(hH:H l=some (.lst xs)):xs.length<=sizeLine/\∃(its:List Value) (n:Nat),Vals xs its/\xs.length=its.length/\s.heap.get? l=some { cls:=.type "list",data:=.seq its.toArray n }:=by
 obtain⟨z,its,n,r,e⟩:=I.hok l _ hH;exact⟨z,its,n,r,r.length,e⟩
theorem pK(h:n<=sizeLine):Yk n=false:=by
 unfold Yk;exact decide_eq_false (by lia)
end
section
variable{X:Cx}
def xP:V->List V->Hp->VK->Prop:=fun x vs H Q=>∃l xs y,x = .ref l/\vs=[y]/\H l=some (.lst xs)/\xs.length<sizeLine/\Q .non (upd H l (.lst (xs++[y])))
theorem cn:MtM X "list.append" xP:=by
 intro pins s σ H x vs v us Q I rx rv h;obtain⟨l,xs,y,rfl,rfl,hH,hz,q⟩:=h;cases rx;obtain⟨u,rfl,ru⟩:=rv.one;obtain⟨z,its,n,r,hl,e⟩:=I.lstM hH;refine YV F.slot_list_append ⟨_,e,rfl⟩ F.entry_list_append (F.args_list_append_2 _ _) (PySem.list_append l its.toArray n u (by rw[zH];lia)) ⟨e,?_⟩;refine⟨.non,_,I.lset (its':=its++[u]) hH e (by simp) (r.append (.cons ru .nil)) ?_,rfl,q⟩;rw[zi,Zw];lia
def DW:V->List V->Hp->VK->Prop:=fun x vs H Q=>∃l b xs zs,x = .ref l/\vs=[.ref b]/\H l=some (.lst xs)/\H b=some (.lst zs)/\xs.length+zs.length<=sizeLine/\Q .non (upd H l (.lst (xs++zs)))
theorem HF:MtM X "list.extend" DW:=by
 intro pins s σ H x vs v us Q I rx rv h;obtain⟨l,b,xs,zs,rfl,rfl,hH,hB,hz,q⟩:=h;cases rx;obtain⟨u,rfl,ru⟩:=rv.one;cases ru;obtain⟨z,its,n,r,hl,e⟩:=I.lstM hH;obtain⟨z2,its2,n2,r2,hl2,e2⟩:=I.lstM hB;have hsz:its.toArray.size+its2.toArray.size<=sizeLine:=by rw[zH,zH];lia
 have hlong:¬ (!its.toArray.isEmpty&&Yk (its.toArray.size+its2.toArray.size))=true:=by
  rw[pK hsz,Bool.and_false];exact xE
 refine YV F.slot_list_extend ⟨_,e,rfl⟩ F.entry_list_extend (F.args_list_extend_2 _ _)
  (AutoSeq1.list_extend_list_list_0 l its.toArray n b its2.toArray n2 hlong (by rw[zH];lia) (by lia)) ⟨e,e2,?_⟩
 refine⟨.non,_,I.lset (its':=its++its2) hH e (by simp) (r.append r2) ?_,rfl,q⟩;rw[zi];lia
def J_:R2:=fun x y H Q=>∃l b xs zs,x = .ref l/\y = .ref b/\H l=some (.lst xs)/\H b=some (.lst zs)/\xs.length+zs.length<=sizeLine/\∀p,H p=none->Q (.ref p) (upd H p (.lst (xs++zs)))
theorem Hl:OpR X (binaryOp .Add) J_:=by
 intro pins s σ H x y v u Q I rx ry h;obtain⟨l,b,xs,zs,rfl,rfl,hH,hB,hz,q⟩:=h;cases rx;cases ry;obtain⟨z,its,n,r,hl,e⟩:=I.lstM hH;obtain⟨z2,its2,n2,r2,hl2,e2⟩:=I.lstM hB;refine PySem.P.add_list e e2 ?_ (by rw[zH,zH];lia);have ea:its.toArray++its2.toArray=(its++its2).toArray:=by simp
 rw[ea];exact⟨.ref _,_,I.lnew (t':=s.toks) (r.append r2) (by rw[zi];lia),rfl,q _ I.fresh⟩
def J7:R2:=fun x y H Q=>∃l k xs,x = .ref l/\y = .int k/\H l=some (.lst xs) /\ -(2 ^ 63)<=k/\k<2 ^ 63/\xs.length*k.toNat<=sizeLine /\
 ∀p,H p=none->Q (.ref p) (upd H p (.lst (t7 k.toNat xs).flatten))
theorem Eb{α:Type}(xs:List α)(k:Nat):(t7 k xs).flatten.length=k*xs.length:=by
 induction k with
 |zero=>simp
 |succ k ih=>rw[Yi,List.flatten_cons,zi,ih,Nat.succ_mul,Nat.add_comm]
theorem FP:OpR X (binaryOp .Mult) J7:=by
 intro pins s σ H x y v u Q I rx ry h;obtain⟨l,k,xs,rfl,rfl,hH,h1,h2,hz,q⟩:=h;cases rx;obtain⟨t,rfl⟩:=ry;obtain⟨z,its,n,r,hl,e⟩:=I.lstM hH;have hlen:its.toArray.size*k.toNat<=sizeLine:=by rw[zH,<- hl];exact hz
 have hcap:¬ its.toArray.size*k.toNat > (2 ^ 63-1) / 8:=by
  have:(sizeLine:Nat)<=(2 ^ 63-1) / 8:=by decide
  lia
 have hfit:¬ (!Builtin.List.listFitsIndex k)=true:=by
  rw[fitsIndex_both h1 h2];exact xE
 have hlong:¬ Yk (its.toArray.size*k.toNat)=true:=by
  rw[pK hlen];exact xE
 have hnew:List.foldl (fun x1 x2=>x1++x2) #[] (t7 (if its.toArray.isEmpty=true then 0 else k.toNat) its.toArray)=(t7 k.toNat its).flatten.toArray:=by
  have f0:∀m:Nat,List.foldl (fun x1 x2=>x1++x2) #[] (t7 m its.toArray)=(t7 m its).flatten.toArray:=fun m=>by
   have:=rh its m [];rw[YD]at this;exact this
  rw[f0];cases its with
  |nil=>simp
  |cons a r'=>rw[if_neg (by simp)]
 refine wpAny_binaryOp_repeat_ref (T:="list") (U:="int") (by decide) ⟨_,e,rfl⟩ (fun s'=>typeIs_int s' k t) noFill_list_mul F.fills_int_mul F.slot_int_rmul repeat_list F.slot_int_index.lookup
  (YV F.slot_int_rmul (typeIs_int s k t) F.entry_int_rmul (F.args_int_rmul_2 _ _) (int___rmul___int_list k t l its.toArray n)
   ⟨e,rfl,⟨_,e,rfl⟩,YV F.slot_list_mul ⟨_,e,rfl⟩ F.entry_list_mul (F.args_list_mul_2 _ _) (AutoListH.list___mul___list_int_3 l its.toArray n k t hfit hcap hlong) ⟨e,?_⟩⟩)
 rw[hnew];exact⟨.ref _,_,I.lnew (t':=s.toks) (r.rep k.toNat) (by rw[Eb,Nat.mul_comm];exact hz),rfl,q _ I.fresh⟩
end
section
variable{prog:Program}{w:World}{A:Around}{E:Value->Shared->Prop}{s:Shared}
end
section
variable{X:Cx}
end
end L2
namespace Att
open PySem PySem.W PySem.Calls PyProof.Rows
theorem n9:∀(ns:List Int) (vs:List Value),WellAll P h vs (ns.map WData.int)->IntsAre vs ns:=by
 intro ns
 induction ns with
 |nil=>
  intro vs w;rw[Z6]at w;cases w;exact .nil
 |cons n ns ih=>
  intro vs w;rw[xa]at w;cases w with
  |cons a b=>
   cases a;exact .cons _ _ (ih _ b)
theorem zN{l:OpenLaw}(hn:l.most=some n){h:Heap}
 (hpre:l.row.toRowW.claim.pre args=true) (hwl:WellAll P h vals args) :
 ∃a vs ns,vals=[yW a]/\args=[WData.list (ns.map WData.int)]/\h.get? a=some { cls:=.type "list",data:=.seq vs.toArray }/\IntsAre vs ns/\ns.length<=n:=by
 have hsh:WShape.hasAll [] args [.list .int]=true:=(pre_splitW hpre).1;have hc:l.pre.holds [] { args:=args }=true:=(pre_splitW hpre).2;obtain⟨d,r,rfl,h1,h2⟩:=hasAllW_cons hsh;obtain rfl:=hasAllW_nil h2;obtain⟨xs,rfl,h3⟩:=hasW_list h1;obtain⟨ns,rfl⟩:=items_int h3;have hlen:ns.length<=n:=by
  unfold OpenLaw.pre at hc;have h4:(WTm.not (.lt (.lit (.int (n:Int))) (.len (.arg 0)))).holds [] { args:=[.list (ns.map .int)] }=true:=by
   have h4:=(holds_andW hc).1;rw[hn]at h4;exact h4
  have h5:=condW_of h4 (w_not (w_lt w_lit (w_len_list (w_arg rfl))));rw[zg]at h5;refine Nat.le_of_not_lt fun q=>?_;have q':(n:Int)<((ns.length:Nat):Int):=by lia
  first
   |(rw[decide_eq_true q']at h5;exact absurd h5 (by decide))
   |(simp at h5;lia)
 cases hwl with
 |cons w1 w2=>
  cases w2;cases w1 with
  |list ho hall=>exact⟨_,_,ns,rfl,rfl,ho,n9 ns _ hall,hlen⟩
theorem zu(l:OpenLaw)(args:List WData):l.row.toRowW.claim.post args (.bool true) args=true:=
 postW_of (r:=l.row.toRowW) (X:=(true==true))
  (show WShape.has [] (.bool true) .bool=true by first|rfl|decide|simp[WShape.has,WShape.arms,WShape.armsAll])
  (show(WTm.eq .res (.lit (.bool true))).value [] { args:=args,res:=some (.bool true),after:=args }=some (.bool (true==true)) from w_eq_bool (w_res rfl) w_lit) rfl
theorem attach_call{l:OpenLaw}{XP:(Str->Option Value)->Heap->Prop}{d:DefRec}
 (hn:l.most=some n) (hdf:d.params.defaults=[])
 (call:∀(w:World) (s₀ s₁:Shared) (mg mb:Str->Option Value) (fa:Addr) (o:Obj) (pm cd doc:Value) (a:Addr) (vs:List Value) (ns:List Int),
  Ground q loose [] XP w s₀ mg mb s₁.heap->YP w s₁.heap ->
  s₁.heap.get? fa=some o->o.data = .func (docDef d.name d.params d.body d.scope pm cd doc)->s₁.heap.CodeRec cd d.name->mg d.name=some (.ref fa) ->
  s₁.heap.get? a=some { cls:=.type "list",data:=.seq vs.toArray }->IntsAre vs ns->ns.length<=n->s₁.gens = #[] ->
  codeAny (model l.prog w) callerA (.call (.ref fa) ⟨[.ref a],[]⟩) (fun r s'=>r = .ok (.ret (.bool true))/\OldK s₁.heap s'.heap/\s'.os=s₁.os/\AllBare s'.gens) s₁) :
 WalkO q loose XP YP l.row.toRowW d [] (fun f vs=>PySem.call f vs):=by
 intro w s₀ s₁ mg mb G Y fa o pm cd doc dV kV ho hd hcd hD hmg hg args vals as hpre hlay hrd hwl hlo;obtain rfl:dV = .none:=Dflts.none hD hdf;obtain rfl:kV = .none:=Dflts.noKw hD;obtain⟨a,vs,ns,rfl,rfl,hobj,hints,hlen⟩:=zN hn hpre hwl;refine enter_call (YJ (call w s₀ s₁ mg mb fa o pm cd doc a vs ns G Y ho (fd_plain hd) hcd hmg hobj hints hlen hg) fun r s' hq=>?_);obtain⟨rfl,h2,h3,h4⟩:=hq;exact⟨.inl ⟨.bool true,.bool true,[],rfl,fun _=>rfl,.bool true,zu l _,fun _=>⟨List.Pairwise.nil,fun _ hm=>(nomatch hm)⟩⟩,h2,h3,h4⟩
section
variable{prog:Program}{w:World}{A:Around}{E:Value->Shared->Prop}{s:Shared}{K:Frag}
end
end Att
namespace L2
open PySem PySem.Spec PyProof.Rows
theorem rL:∀ {vs:List Value} {ns:List Int},IntsAre vs ns->Vals (ns.map V.int) vs
 |_,_,.nil=>.nil
 |_,_,.cons n t h=>.cons ⟨t,rfl⟩ (rL h)
def yT(H:Hp):Prop:=∀b,H b=none\/∃o xs,H b=some (.frz o (.lst xs))
theorem B5{K:W.Frag}{s₁:Shared}{vs:List Value}{ns:List Int}
 (KX:K.In s₁.heap) (hns:s₁.heap.Ns Za mg) (hb:s₁.heap.Ns builtinsNs mb) (hbb:∀x:Str,x ≠ "__name__" -> mb x=Zu x) (hlim:s₁.heap.NoLimit) (hg:s₁.gens = #[])
 (ha:s₁.heap.get? a=some { cls:=.type "list",data:=.seq vs.toArray }) (hi:IntsAre vs ns) (hl:ns.length<=sizeLine) (hr:Room k callerA)
 (F:∀base:Heap,K.In base->base.Ns Za mg->h_ P w K mg base CX k fa fd [x] sp) (hbind:∀(s:Shared) (u:Value),BindsTo s fd ⟨[u],[]⟩ [(x,u)])
 (hsp:∀H:Hp,yT H->SqL K H a (ns.map V.int)->sp [.ref a] H (fun v _=>v = .bl true) fun _ _ _=>False)
 (hCX:∀H e s',CX [] H s₁ (fun _ _ _=>False) e s'->False) :
 codeAny (model P w) callerA (.call (.ref fa) ⟨[.ref a],[]⟩) (fun r s'=>r = .ok (.ret (.bool true))/\OldK s₁.heap s'.heap/\s'.os=s₁.os/\AllBare s'.gens) s₁:=by
 have rv:=rL hi;have lenV:=hi.length;have core:∀H:Hp,yT H->SqL K H a (ns.map V.int)->HOk P w H s₁.heap->(∀b,H b≠none->b=a)->(H a≠none->K.lookup a=none) ->
  codeAny (model P w) callerA (.call (.ref fa) ⟨[.ref a],[]⟩) (fun r s'=>r = .ok (.ret (.bool true))/\OldK s₁.heap s'.heap/\s'.os=s₁.os/\AllBare s'.gens) s₁:=by
  intro H hO hS hok hA hK;have base_of:∀ {b:Addr} {o:Obj},s₁.heap.get? b=some o->H b=none->(tS s₁.heap H).get? b=some o:=fun e n=>Co e n;have noA:∀ {b:Addr} {o:Obj} {es:Array Y4} {ep:Nat},s₁.heap.get? b=some o->o.data = .dict es ep->H b=none:=fun {b o es ep} e d=>by
   cases q:H b with
   |none=>rfl
   |some u=>
    have e':b=a:=hA b (by rw[q];simp);subst e';rw[ha]at e;cases e;have d':Data.seq vs.toArray _=YK es ep:=d;cases d'
  have nsK:∀ {b:Addr} {m:Str->Option Value},s₁.heap.Ns b m->(tS s₁.heap H).Ns b m:=fun {b m} ⟨o,es,ep,e,d,r⟩=>⟨o,es,ep,base_of e (noA e d),d,r⟩;have hKb:K.In (tS s₁.heap H):=fun b o e=>base_of (KX b o e) (by
   cases q:H b with
   |none=>rfl
   |some u=>
    have e':b=a:=hA b (by rw[q];simp);subst e';rw[hK (by rw[q];simp)]at e;cases e)
  have hM:Mod K mg (tS s₁.heap H):=⟨hKb,nsK hns,⟨mb,nsK hb,hbb⟩,let ⟨mc,h1,h2⟩:=hlim;⟨mc,nsK h1,h2⟩⟩;have e0:Env0 P w K mg (tS s₁.heap H) callerA [] s₁ H:=⟨rfl,hM,fun b o e=>Eo e,Nat.le_of_eq (yY _ _),trivial,fun b hb=>absurd (show b∈([]:List Addr) from hb) (by simp),hok,.of_eq hg⟩;refine YJ ((F _ hKb (nsK hns)).run callerA [] s₁ H ⟨[.ref a],[]⟩ [.ref a] [.ref a] _ _ hr e0 (hbind s₁ (.ref a)) (.cons rfl .nil) (hsp H hO hS)) fun r s' h=>?_;cases r with
  |error e=>exact(hCX H e s' h).elim
  |ok fl=>
   cases fl with
   |next=>exact Zf h
   |brk=>exact Zf h
   |cont=>exact Zf h
   |ret u=>
    obtain⟨v,H',os,bare,un,hok',r',q⟩:=h;have q':v = .bl true:=q;subst q';obtain rfl:u=Value.bool true:=r';refine⟨rfl,OldK.of_keep fun b o e=>?_,os,bare⟩;cases q:H b with
    |none=>exact un.keep b o e q (by intro z;exact absurd (show b∈([]:List Addr) from z) (by simp)) (by simp)
    |some u=>
     rcases hO b with z|⟨ob,xs,z⟩
     ·rw[q]at z;cases z
     ·have z2:=un.frzs b ob _ z
      obtain⟨e1,_⟩:=hok b _ z;obtain⟨e2,_⟩:=hok' b _ z2;rw[e]at e1;cases e1;exact e2
 cases hk:K.lookup a with
 |some o=>
  have e:=KX a o hk;rw[ha]at e;cases e;refine core (fun _=>none) (fun _=>.inl rfl) (.inr ⟨_,vs.toArray,_,hk,rfl,rfl,rfl,by rw[zH,lenV];exact hl,by simpa using rv⟩) (fun b u z=>by have z':(none:Option HO)=some u:=z;cases z') (fun b z=>absurd rfl z) fun z=>absurd rfl z
 |none=>
  refine core (fun b=>if b=a then some (.frz { cls:=.type "list",data:=.seq vs.toArray } (.lst (ns.map V.int))) else none) (fun b=>?_) (.inl (.inr ⟨{ cls:=.type "list",data:=.seq vs.toArray },if_pos rfl⟩)) (fun b u z=>?_) (fun b z=>?_) fun _=>hk
  ·by_cases hb:b=a
   ·exact .inr ⟨_,_,if_pos hb⟩
   ·exact .inl (if_neg hb)
  ·by_cases hb:b=a
   ·have z':=(if_pos hb).symm.trans z
    cases z';subst hb;exact⟨ha,by rw[zg];exact hl,vs,_,rv,ha⟩
   ·have z':=(if_neg hb).symm.trans z
    cases z'
  ·by_cases hb:b=a
   ·exact hb
   ·exact absurd (if_neg hb) z
theorem DP{l:PySem.W.OpenLaw}{n k:Nat}{q:Program}{loose:List Str}{XP:(Str->Option Value)->Heap->Prop}{YP:World->Heap->Prop}{d:DefRec}{K:Params->W.Frag}{CX:World->CXT}{sp:World->Sp}{x:Str}
 (hn:l.most=some n) (hn2:n<=sizeLine) (hdf:d.params.defaults=[]) (hr:Room k callerA)
 (hY:∀(w:World) (h:Heap),YP w h->(K w.params).In h)
 (F:∀(w:World) (mg:Str->Option Value) (fa:Addr) (h:Heap),(K w.params).In h->h.Ns Za mg->mg d.name=some (.ref fa) ->
  ∃fd:FuncData,(∀(s:Shared) (u:Value),BindsTo s fd ⟨[u],[]⟩ [(x,u)]) /\
   ∀base:Heap,(K w.params).In base->base.Ns Za mg->h_ l.prog w (K w.params) mg base (CX w) k fa fd [x] (sp w))
 (hsp:∀(w:World) (H:Hp) (a:Addr) (ns:List Int),ns.length<=n->yT H->SqL (K w.params) H a (ns.map V.int)->sp w [.ref a] H (fun v _=>v = .bl true) fun _ _ _=>False)
 (hCX:∀(w:World) (H:Hp) (s:Shared) (e:Value) (s':Shared),CX w [] H s (fun _ _ _=>False) e s'->False) :
 PySem.W.WalkO q loose XP YP l.row.toRowW d [] (fun f vs=>PySem.call f vs):=by
 refine Att.attach_call hn hdf fun w s₀ s₁ mg mb fa o pm cd doc a vs ns G Y ho hd hcd hmg hobj hints hlen hg=>?_;have KX:=hY w _ Y;obtain⟨fd,hb,hF⟩:=F w mg fa _ KX G.T.g hmg;exact B5 KX G.T.g G.T.b G.T.builtins G.T.nolimit hg hobj hints (wn hlen hn2) hr hF hb (fun H hO hS=>hsp w H a ns hlen hO hS) fun H e s'=>hCX w H s₁ e s'
abbrev CX0:CXT:=fun _ _ _ _ _ _=>False
structure Fun(K:W.Frag)(x qual:Str)(st:Stmt)(f:Addr)(fd:FuncData):Prop where
 ex:∃(oc:Value) (od:Option Addr) (kV doc pm:Value) (an:Option Addr) (cdv ct:Value) (osl:Array (Option Value)),
  fd=ZE x qual (gv st) (aZ st) (au st) .none kV doc pm an cdv ct/\K.lookup f=some ⟨oc,od,.func fd,osl⟩/\YQ K cdv qual=true
 kp:ZP K (.ref f)=true
section
variable{P:Program}{w:World}{K:W.Frag}{mg:Str->Option Value}{base:Heap}
theorem Fun.binds{x qual:Str}{st:Stmt}{f:Addr}{fd:FuncData}{ps:List Str}(F:Fun K x qual st f fd)
 (h:∀(kV doc pm:Value) (an:Option Addr) (cdv ct:Value) (us:List Value),us.length=ps.length->bindArgs (ZE x qual (gv st) (aZ st) (au st) .none kV doc pm an cdv ct) ⟨us,[]⟩=pure (ps.zip us)):Binds K fd ps []:=by
 obtain⟨oc,od,kV,doc,pm,an,cdv,ct,osl,rfl,lk,hcd⟩:=F.ex;exact .all (h kV doc pm an cdv ct)
theorem wA{x qual:Str}{st:Stmt}{f:Addr}{oc:Value}{od an:Option Addr}{osl:Array (Option Value)}{kV doc pm cdv ct:Value}(l:K.lookup f=some ⟨oc,od,.func (ZE x qual (gv st) (aZ st) (au st) .none kV doc pm an cdv ct),osl⟩)
 (c:YQ K cdv qual=true) (k:ZP K (.ref f)=true):Fun K x qual st f (ZE x qual (gv st) (aZ st) (au st) .none kV doc pm an cdv ct):=⟨⟨oc,od,kV,doc,pm,an,cdv,ct,osl,rfl,l,c⟩,k⟩
end
section
variable{X:Cx}
end
theorem HC{A B:Prop}(h:B):if false=true then A else B:=by
 rw[if_neg xE];exact h
theorem F7{A B:Prop}(h:A):if true=true then A else B:=by
 rw[if_pos rfl];exact h
def Same(H H':Hp):Prop:=∀b o,H b=some o->H' b=some o
theorem Same.refl(H:Hp):Same H H:=fun _ _ h=>h
theorem Same.trans(a:Same H H1)(b:Same H1 H2):Same H H2:=fun c o h=>b c o (a c o h)
theorem Same.free{H H':Hp}(e:Same H H'){l:Addr}(h:H' l=Option.none):H l=Option.none:=by
 cases q:H l with
 |none=>rfl
 |some o=>
  rw[e l o q]at h;cases h
def gN:HO->Bool
 | .dT _=>false
 | .frz _ u=>gN u
 |_=>true
def NoT(H:Hp):Prop:=∀a o,H a=some o->gN o=true
def iE:HO->Bool
 | .lst _=>true
 | .tup _=>true
 | .dK _=>true
 | .rng _ _=>true
 |_=>false
structure Gc(H G H':Hp):Prop where
 a:Same H G
 b:Same G H'
 c:∀p o,G p=some o->H p=some o\/iE o=true
section
variable{P:Program}{w:World}{H G H':Hp}{h h':Heap}{a:Addr}{o:HO}
theorem ObjOk.gc(n:gN o=true)(x0:ObjOk P w H h a o)(x:ObjOk P w H' h' a o):ObjOk P w H h' a o:=by
 induction o with
 |ins C dx fs=>exact⟨x0.1,x.2⟩
 |dT kvs=>cases n
 |frz ob u ih=>exact⟨x.1,ih n x0.2 x.2⟩
 |_=>exact x
theorem ObjOk.plain(n:iE o=true)(x:ObjOk P w H' h' a o):ObjOk P w H h' a o:=by
 cases o with
 |lst xs=>exact x
 |tup xs=>exact x
 |dK kvs=>exact x
 |rng lo hi=>exact x
 |_=>cases n
theorem HOk.gc(n:NoT H)(x0:HOk P w H h)(x:HOk P w H' h')(g:Gc H G H'):HOk P w G h':=fun a o e=>by
 rcases g.c a o e with q|q
 ·refine(((x0 a o q).gc (n a o q) (x a o (g.b a o e)))).stay (fun _ _ _ z=>z) (fun b z=>g.a _ _ z) fun b xs z=>g.a _ _ z
 ·exact(x a o (g.b a o e)).plain q
theorem Un.gc(u:Un fs ex H H' h h')(g:Gc H G H'):Un fs ex H G h h':=
 ⟨u.keep,u.slot,fun b o q n hx=>g.b.free (u.free b o q n hx),u.there,fun b xs q=>g.a _ _ q,fun b o x q=>g.a _ _ q,fun b ps q=>⟨#[],by rw[Array.append_empty];exact g.a _ _ q⟩⟩
theorem Gc.refl:Gc H H H:=⟨Same.refl H,Same.refl H,fun _ _ e=>.inl e⟩
theorem Gc.none(s:Same H H'):Gc H H H':=⟨Same.refl H,s,fun _ _ e=>.inl e⟩
theorem ah(o:HO)(hp:H p=Option.none):Same H (upd H p o):=fun b u e=>by rw[ag (az e hp)];exact e
theorem Gc.one(s:Same H H')(hp:H p=Option.none)(e:H' p=some o)(n:iE o=true):Gc H (upd H p o) H':=
 ⟨ah o hp,fun b u z=>by
  by_cases hb:b=p
  ·subst hb;rw[ad]at z;cases z;exact e
  ·rw[ag hb]at z;exact s b u z,fun b u z=>by
  by_cases hb:b=p
  ·subst hb;rw[ad]at z;cases z;exact .inr n
  ·rw[ag hb]at z;exact .inl z⟩
theorem NoT.upd(n:NoT H)(d:gN o=true):NoT (upd H p o):=fun b u z=>by
 by_cases hb:b=p
 ·subst hb;rw[ad]at z;cases z;exact d
 ·rw[ag hb]at z;exact n b u z
end
theorem Inv.gc(n:NoT H)(I:Inv X pins σ H s)(J:Inv X pins' σ' H' s')(g:Gc H G H'):Inv X pins' σ' G s':=
 ⟨J.ok,J.os,J.bare,⟨J.base.keep,J.base.slot,fun b o q z hx=>g.b.free (J.base.free b o q z hx),J.base.there,fun b xs q=>g.a _ _ (I.base.tups b xs q),fun b o x q=>g.a _ _ (I.base.frzs b o x q),fun b ps q=>let ⟨m,e⟩:=I.base.tbls b ps q;⟨m,g.a _ _ e⟩⟩,
  J.loc,J.cell,g.b.free J.free,fun x c e=>g.b.free (J.freeC x c e),fun p hp=>let ⟨e,z,r⟩:=J.pin p hp;⟨e,g.b.free z,r⟩,HOk.gc n I.hok J.hok g,J.len⟩
def tGc(t:TE):TE:=fun σ H Q=>NoT H/\t σ H fun v H'=>∃G,Gc H G H'/\Q v G
theorem E_(h:PE X e t):PE X e (tGc t):=fun pins s σ H Q I ⟨n,q⟩=>
 thn (h pins s σ H _ I q) fun u s1 ⟨v,H1,I1,r,G,g,q1⟩=>⟨v,G,I.gc n I1 g,r,q1⟩
def IX(t:TT):TT:=fun σ H Q=>NoT H/\t σ H fun v H'=>∃G,Gc H G H'/\Q v G
theorem iU(h:PT X e t):PT X e (IX t):=fun pins s σ H Q I ⟨n,q⟩=>
 thn (h pins s σ H _ I q) fun u s1 ⟨H1,I1,G,g,q1⟩=>⟨G,I.gc n I1 g,q1⟩
def K2{α:Type}:Sem α->Prop
 | .rule _ k=>K2 (k ())
 | .at _ k=>K2 (k ())
 | .load _ _ k=>∀o,K2 (k o)
 | .update _ _ f k=>(∀(o:Obj) vs,o.data = .fields vs->∃ws,(f o).data = .fields ws/\ws[2]? = vs[2]?)/\K2 (k ())
 | .loadIfAlive _ k=>∀o,K2 (k o)
 | .point _ k=>K2 (k ())
 | .alloc _ k=>∀a,K2 (k a)
 | .fresh k=>∀n,K2 (k n)
 | .ask k=>∀x,K2 (k x)
 | .choose _ _ k=>∀n,K2 (k n)
 | .os _ _ k=>∀x,K2 (k x)
 | .call ..=>False
 | .handled _ k=>∀x,K2 (k x)
 | .genState _ k=>∀x,K2 (k x)
 | .newGen _ k=>∀n,K2 (k n)
 | .resume ..=>False
 | .stack k=>∀x,K2 (k x)
 | .thread k=>∀n,K2 (k n)
 |_=>True
def F2(h:Heap)(e:Addr):Prop:=∃o vs,h.get? e=some o/\o.data = .fields vs/\vs[2]? = some .none
theorem K2.bind{α β:Type}{t:Sem α}{f:α->Sem β}(h:K2 t)(g:∀a,K2 (f a)):K2 (t >>= f):=by
 show K2 (t.bind f)
 induction t with
 |pure a=>exact g a
 |rule _ k ih=>exact ih () h
 | «at» _ k ih=>exact ih () h
 |load _ _ k ih=>exact fun o=>ih o (h o)
 |update _ _ _ k ih=>exact⟨h.1,ih () h.2⟩
 |loadIfAlive _ k ih=>exact fun o=>ih o (h o)
 |point _ k ih=>exact ih () h
 |alloc _ k ih=>exact fun o=>ih o (h o)
 |fresh k ih=>exact fun o=>ih o (h o)
 |ask k ih=>exact fun o=>ih o (h o)
 |choose _ _ k ih=>exact fun o=>ih o (h o)
 |os _ _ k ih=>exact fun o=>ih o (h o)
 |call=>exact h.elim
 |handled _ k ih=>exact fun o=>ih o (h o)
 |genState _ k ih=>exact fun o=>ih o (h o)
 |newGen _ k ih=>exact fun o=>ih o (h o)
 |resume=>exact h.elim
 |stack k ih=>exact fun o=>ih o (h o)
 |thread k ih=>exact fun o=>ih o (h o)
 |_=>trivial
theorem F2.push{h:Heap}{e:Addr}(x:F2 h e)(o:Obj):F2 (h.push o) e:=by
 obtain⟨oe,vs,e1,e2⟩:=x;exact⟨oe,vs,Heap.get?_push_of_some _ e1,e2⟩
theorem F2.update{h:Heap}{e:Addr}(x:F2 h e)(a:Addr){f:Obj->Obj}(hf:∀(o:Obj) vs,o.data = .fields vs->∃ws,(f o).data = .fields ws/\ws[2]? = vs[2]?):F2 (h.update a f) e:=by
 obtain⟨oe,vs,e1,e2,e3⟩:=x;by_cases ea:a=e
 ·subst ea
  obtain⟨ws,w1,w2⟩:=hf oe vs e2;exact⟨_,ws,Heap.get?_update_self _ e1 (Obj.isFreed_of_fields w1),w1,w2.trans e3⟩
 ·exact⟨oe,vs,(Heap.get?_update_other _ _ ea).trans e1,e2,e3⟩
theorem IK{α:Type}{M:Model}{Γ:PySem.Ctx}{e:Addr}{t:Sem α}:∀ {Q:α->Pos->Shared->Prop} {E:Value->Pos->Shared->Prop} {p:Pos} {s:Shared},K2 t->Sem.wp M Γ t Q E p s->F2 s.heap e->Sem.wp M Γ t (fun a p s'=>Q a p s'/\F2 s'.heap e) (fun x p s'=>E x p s'/\F2 s'.heap e) p s:=by
 induction t with
 |pure a=>intro Q E p s _ h f;rw[Sem.wp]at h |-; exact⟨h,f⟩
 |raise x=>intro Q E p s _ h f;rw[Sem.wp]at h |-; exact⟨h,f⟩
 |unsupported=>intro Q E p s _ h f;rw[Sem.wp]at h;exact h.elim
 |finish=>intro Q E p s _ h f;rw[Sem.wp]at h;exact h.elim
 |rule _ k ih=>intro Q E p s g h f;rw[Sem.wp]at h |-; exact ih () g h f
 | «at» _ k ih=>intro Q E p s g h f;rw[Sem.wp]at h |-; exact ih () g h f
 |load _ _ k ih=>intro Q E p s g h f;rw[Sem.wp]at h |-; obtain⟨o,h1,h2⟩:=h;exact⟨o,h1,ih o (g o) h2 f⟩
 |update a _ _ k ih=>intro Q E p s g h f;rw[Sem.wp]at h |-; exact⟨h.1,ih () g.2 h.2 (f.update a g.1)⟩
 |loadIfAlive _ k ih=>intro Q E p s g h f;rw[Sem.wp]at h |-; exact ih _ (g _) h f
 |point _ k ih=>intro Q E p s g h f;rw[Sem.wp]at h |-; exact ih () g h f
 |register=>intro Q E p s _ h f;rw[Sem.wp]at h;exact h.elim
 |alloc o k ih=>intro Q E p s g h f;rw[Sem.wp]at h |-; exact ih _ (g _) h (f.push o)
 |fresh k ih=>intro Q E p s g h f;rw[Sem.wp]at h |-; exact ih _ (g _) h f
 |ask k ih=>intro Q E p s g h f;rw[Sem.wp]at h |-; exact ih _ (g _) h f
 |choose _ _ k ih=>intro Q E p s g h f;rw[Sem.wp]at h |-; exact⟨h.1,ih _ (g _) h.2 f⟩
 |os _ _ k ih=>intro Q E p s g h f;rw[Sem.wp]at h |-; exact ih _ (g _) h f
 |call=>intro Q E p s g;exact g.elim
 |handled _ k ih=>intro Q E p s g h f;rw[Sem.wp]at h |-; exact ih _ (g _) h f
 |genState _ k ih=>intro Q E p s g h f;rw[Sem.wp]at h |-; obtain⟨st,h1,h2⟩:=h;exact⟨st,h1,ih _ (g _) h2 f⟩
 |newGen _ k ih=>intro Q E p s g h f;rw[Sem.wp]at h |-; exact ih _ (g _) h f
 |resume=>intro Q E p s g;exact g.elim
 |yield=>intro Q E p s _ h f;rw[Sem.wp]at h;exact h.elim
 |stack k ih=>intro Q E p s g h f;rw[Sem.wp]at h |-; exact ih _ (g _) h f
 |fork=>intro Q E p s _ h f;rw[Sem.wp]at h;exact h.elim
 |thread k ih=>intro Q E p s g h f;rw[Sem.wp]at h |-; exact ih _ (g _) h f
 |await=>intro Q E p s _ h f;rw[Sem.wp]at h;exact h.elim
theorem B0{α:Type}{M:Model}{A:Around}{e:Addr}{t:Sem α}{Q:α->Shared->Prop}{E:Value->Shared->Prop}{s:Shared}(k:K2 t)(f:F2 s.heap e)(h:wpAny M A t Q E s):wpAny M A t (fun a s'=>Q a s'/\F2 s'.heap e) (fun x s'=>E x s'/\F2 s'.heap e) s:=fun Γ p hg=>IK k (h Γ p hg) f
theorem ka(v:Value)(i:Nat):K2 (field v i):=by
 refine K2.bind ?_ fun vs=>?_
 ·unfold fieldsOf
  split
  ·refine K2.bind (fun o=>trivial) fun o=>?_
   split <;> trivial
  ·trivial
 ·split <;> trivial
theorem iD(v:Value){i:Nat}(h:i≠2)(x:Value):K2 (setField v i x):=by
 unfold setField;split
 ·unfold updateField
  refine K2.bind (fun o=>trivial) fun o=>?_;split
  ·split
   ·refine⟨fun o vs e=>⟨_,Obj.data_mapFields e _,?_⟩,trivial⟩
    rw[Array.getElem?_setIfInBounds_ne h]
   ·trivial
  ·trivial
 ·trivial
theorem ui:∀l:List Env,K2 (readyFrames l)
 | []=>trivial
 |env::outer=>by
  unfold readyFrames;split
  ·refine K2.bind (fun o=>trivial) fun o=>?_
   split
   ·trivial
   ·refine K2.bind ?_ fun im=>K2.bind ?_ fun bk=>K2.bind ?_ fun _=>ui outer
    ·unfold behindIsImport
     split
     ·trivial
     ·split
      ·trivial
      ·exact K2.bind (ka _ _) fun _=>trivial
    ·unfold keptBack
     split
     ·split
      ·trivial
      ·refine K2.bind ?_ fun _=>trivial
       exact K2.bind (fun st=>trivial) fun _=>trivial
     ·trivial
    ·exact⟨fun o vs e=>⟨vs,e,rfl⟩,trivial⟩
  ·trivial
theorem xB(env:Env):K2 (PySem.frameOf env):=by
 unfold PySem.frameOf frameEnvs;refine K2.bind (fun st=>trivial) fun es=>K2.bind ?_ fun o=>?_
 ·unfold frameObject
  split
  ·trivial
  ·exact K2.bind (ui _) fun _=>trivial
 ·split <;> trivial
theorem CQ(a b c d f:Value)(p:List Value):K2 (EntryCells.newEntry a b c d f p):=by
 unfold EntryCells.newEntry newFields newObj;dsimp only;have nw:∀d:Data,K2 (newObjAsIs (YU "traceback") d):=fun d=>by
  unfold newObjAsIs;exact K2.bind (fun a=>trivial) fun a=>trivial
 generalize ([a,b,c,d,f]++if p.isEmpty=true then t7 6 ZO else p).toArray=l;split
 ·exact K2.bind trivial fun _=>nw _
 ·exact nw _
theorem Bh(f:Addr)(b:Bool):K2 (entryPlaceOf f b):=by
 unfold entryPlaceOf;refine K2.bind (fun st=>trivial) fun st=>?_;split <;> trivial
theorem yu(e:Value)(env:Env):K2 (noteFrame e env):=by
 unfold noteFrame;split
 ·refine K2.bind (ka _ _) fun hd=>?_
  have jp:∀f:Addr,K2 (do let a <- PySem.frameOf env;let b <- entryPlaceOf f (hd != ZO);let c <- EntryCells.newEntry hd a ZO (rawInt f) ZO b;setField e 1 c):=fun f=>K2.bind (xB _) fun a=>K2.bind (Bh _ _) fun b=>K2.bind (CQ ..) fun c=>iD _ (by decide) _;dsimp only;split
  ·refine K2.bind (ka _ _) fun x=>?_
   split
   ·trivial
   ·exact K2.bind (iD _ (by decide) _) fun _=>jp _
  ·exact jp _
 ·trivial
theorem lX(e:Value)(fr:Option Addr):K2 (setFlight e fr):=by
 unfold setFlight;refine K2.bind (ka _ _) fun tb=>?_;split
 ·exact iD _ (by decide) _
 ·trivial
theorem pJ(env:Env)(e:Value):K2 (leaving env e):=by
 unfold leaving;exact K2.bind (yu _ _) fun _=>lX _ _
theorem dY{α:Type}{M:Model}{A:Around}{e:Addr}{t:Sem α}{Q:α->Shared->Prop}{E:Value->Shared->Prop}{s:Shared}(k:K2 t)(f:F2 s.heap e)(h:wpAny M A t (fun a s'=>F2 s'.heap e->Q a s') E s):wpAny M A t Q E s:=
 Zv (B0 k f h) (fun _ _ q=>q.1 q.2) (fun _ _ q=>q.1)
theorem ObjOk.at_(x:ObjOk P w H h a o):∃ob,h.get? a=some ob:=by
 cases o with
 |lst xs=>obtain⟨_,_,_,_,e⟩:=x;exact⟨_,e⟩
 |tup xs=>obtain⟨_,_,_,ob,e,_⟩:=x;exact⟨_,e⟩
 |dK kvs=>obtain⟨_,_,_,_,o,_,_,e,_⟩:=x;exact⟨_,e⟩
 |dT kvs=>obtain⟨_,_,_,_,o,_,_,e,_⟩:=x;exact⟨_,e⟩
 |set S n=>obtain⟨o,_,_,_,e,_⟩:=x;exact⟨_,e⟩
 |ins C dx fs=>obtain⟨_,_,_,e,_⟩:=x;exact⟨_,e⟩
 |own y=>obtain⟨_,e⟩:=x;exact⟨_,e⟩
 |xd fs=>obtain⟨_,⟨_,_,_,e,_⟩,_⟩:=x;exact⟨_,e⟩
 |rng lo hi=>obtain⟨_,_,_,e⟩:=x;exact⟨_,e⟩
 |frz ob u=>obtain⟨e,_⟩:=x;exact⟨_,e⟩
 |tbl ps=>exact⟨_,(show h.get? a=some _ from x)⟩
 |met f y=>exact⟨_,(show h.get? a=some _ from x)⟩
 |ext φ=>obtain⟨_,⟨_,e⟩,_⟩:=x;exact⟨_,e⟩
theorem HOk.none_of(x:HOk P w H h)(e:h.get? a=none):H a=none:=by
 cases q:H a with
 |none=>rfl
 |some u=>
  obtain⟨ob,z⟩:=(x a u q).at_;rw[e]at z;cases z
def hid(h:Heap)(l:List Env)(rs:List Addr):Heap:=PySem.W.hideAll h (frs l++rs)
theorem kJ(e:h.get? b=some o)(h1:b∉frs l)(h2:b∉rs):(hid h l rs).get? b=some o:=
 PySem.W.hideAll_get _ e fun z=>(z7.mp z).elim h1 h2
theorem wL(e:(hid h l rs).get? b=some o):h.get? b=some o:=PySem.W.of_hideAll _ e
theorem tL(e:b∈rs):(hid h l rs).get? b=none:=PySem.W.hideAll_none _ (zd _ e)
theorem jW{h base:Heap}(e:h.FunFrames base l):h.FunFrames (hid h l rs) l:=
 PySem.W.funFrames_hide e fun _ he _ ha=>wW _ (List.mem_filterMap.mpr ⟨_,he,ha⟩)
def Fly(l:List Env)(rs:List Addr)(e:Addr)(cls:Value)(h:Heap):Prop:=e∈rs/\∃a0,Heap.FlyingW (hid h l rs) l e cls a0 h/\F2 h e
def XE(P:Program)(w:World):CXT:=fun outer H s E ev s'=>∃(e:Addr) (C:Value) (rs:List Addr) (H':Hp),ev = .ref e/\s'.os=s.os/\AllBare s'.gens/\Un (frs outer) [] H H' s.heap s'.heap /\
 HOk P w H' s'.heap/\(∀b∈rs,s.heap.get? b=none/\H' b=none)/\Fly outer rs e C s'.heap/\E C none H'
section
variable{X:Cx}{pins:List (Addr × Obj)}{σ:St}{H:Hp}{s:Shared}{h':Heap}{rs:List Addr}
theorem Inv.s0_none(I:Inv X pins σ H s)(hex:X.ex=[])(e:s.heap.get? b=none):X.s₀.heap.get? b=none:=by
 cases q:X.s₀.heap.get? b with
 |none=>rfl
 |some o=>
  obtain⟨o',z⟩:=I.base.there b o q (by rw[hex];simp);rw[e]at z;cases z
theorem Inv.noteUn(I:Inv X pins σ H s)(hex:X.ex=[])(hrs:∀b∈rs,X.s₀.heap.get? b=none)
 (stay:∀b o,s.heap.get? b=some o->b∉frs X.stack->b∉rs->h'.get? b=some o) (up:s.heap.UpToSlots h'):Un X.fs [] X.H₀ H X.s₀.heap h':=by
 have B:=I.base;rw[hex]at B;have nrs:∀b o,X.s₀.heap.get? b=some o->b∉rs:=fun b o e z=>by rw[hrs b z]at e;cases e
 have nst:∀b o,X.s₀.heap.get? b=some o->b∉X.fs->b∉frs X.stack:=fun b o e hb z=>by
  rcases zZ.mp (I.stkSub b z) with q|q
  ·exact absurd (vD (xb e) I.ok.above) (by rw[q];exact ZQ _)
  ·exact hb q
 refine⟨fun b o q n hb hx=>stay b o (B.keep b o q n hb hx) (nst b o q hb) (nrs b o q),fun b o q n hb hx=>?_,fun b o q n hx=>B.free b o q n hx,fun b o q hx=>?_,B.tups,B.frzs,B.tbls⟩
 ·obtain⟨sl,e1⟩:=B.slot b o q n hb hx
  obtain⟨_,o',ho',hd⟩:=I.funs.mem hb;rw[e1]at ho';cases ho';obtain⟨sl',e2⟩:=up b _ e1 hd;exact⟨sl',e2⟩
 ·obtain⟨o',e1⟩:=B.there b o q hx
  by_cases hb:b∈frs X.stack
  ·obtain⟨_,o2,ho2,hd⟩:=I.stack.mem hb
   obtain⟨sl',e2⟩:=up b _ ho2 hd;exact⟨_,e2⟩
  ·exact⟨o',stay b o' e1 hb (nrs b o q)⟩
theorem Inv.noteOk(I:Inv X pins σ H s)(hrs:∀b∈rs,H b=none)(stay:∀b o,s.heap.get? b=some o->b∉frs X.stack->b∉rs->h'.get? b=some o):HOk X.prog X.w H h':=fun a o e=>
 (I.hok a o e).stay (fun b u hb q=>stay b u q (fun z=>by
  have n:=I.stkFree b z;rcases hb with r|r
  ·rw[r,e]at n;cases n
  ·rw[r]at n;cases n) fun z=>by
  have n:=hrs b z;rcases hb with r|r
  ·rw[r,e]at n;cases n
  ·rw[r]at n;cases n) (fun _ q=>q) fun _ _ q=>q
theorem yp(hl:h.FunFrames base l)(up:h.UpToSlots h1)(e:(hid h l rs).get? T=none)(hT:h1.get? T=some oT)(hd:oT.data = .fields ts):h.get? T=none\/T∈rs:=by
 by_cases hr:T∈rs
 ·exact .inr hr
 ·refine .inl ?_
  cases q:h.get? T with
  |none=>rfl
  |some o=>
   by_cases hf:T∈frs l
   ·obtain⟨_,o2,ho2,hnf⟩:=hl.mem hf
    rw[q]at ho2;cases ho2;obtain⟨sl,e2⟩:=up T o q hnf;rw[hT]at e2;cases e2;exact absurd hd (hnf ts)
   ·rw[kJ q hf hr]at e;cases e
end
section
variable{P:Program}{w:World}{K:W.Frag}{mg:Str->Option Value}{base:Heap}{N:List Str}{qual:Str}{scope:Scope}{f:Addr}{cd:Value}{A:Around}{outer:List Env}{s₀:Shared}{H₀:Hp}{E:XK}
theorem wY{s:Shared}
 (I:Inv (bV (XE P w) P w K mg base N qual scope f cd A outer s₀ H₀ E) pins σ H s) (hx:Heap.MadeExcOf s.heap h' e cls args) (q:E cls none H) :
 (bV (XE P w) P w K mg base N qual scope f cd A outer s₀ H₀ E).xe (.ref e) { s with heap:=h' }:=by
 show wpAny (model P w) (A.deeper (envOfC qual scope s₀.heap.objs.size f cd)) (leaving (envOfC qual scope s₀.heap.objs.size f cd) (.ref e)) (fun _ s''=>XE P w outer H₀ s₀ E (.ref e) s'') (fun e' s''=>XE P w outer H₀ s₀ E e' s'') { s with heap:=h' };have hst:s.heap.FunFrames base (envOfC qual scope s₀.heap.objs.size f cd::outer):=I.stack;have g0:F2 h' e:=by
  obtain⟨t,he,_,_⟩:=hx.there;exact⟨_,_,he,rfl,rfl⟩
 refine dY (e:=e) (pJ _ _) g0 (wpAny_leaves_madeW (base:=hid s.heap (envOfC qual scope s₀.heap.objs.size f cd::outer) []) (h:=s.heap) I.ok.frames rfl (fun b o z=>wL z) (jW hst) hx fun h'' t fl tup tn up g2=>?_);obtain⟨f1,f2,f3,oe,vs,T,oT,ts,he,hc,hd,h1,hnT,hTe,hT,hdT,h3⟩:=fl;have up':s.heap.UpToSlots h'':=(Heap.UpToSlots.of_keeps hx.keeps).trans up;have nT:s.heap.get? T=none:=(yp hst up' hnT hT hdT).elim id fun z=>nomatch z;have stay:∀b o,s.heap.get? b=some o->b∉frs (envOfC qual scope s₀.heap.objs.size f cd::outer)->b∉[e,T]->h''.get? b=some o:=fun b o z hb _=>f1 b o (kJ z hb fun y=>nomatch y);have n0:∀b∈[e,T],s.heap.get? b=none:=fun b hb=>by
  rcases zZ.mp hb with r|r
  ·rw[r];exact hx.new
  ·rw[zq.mp r];exact nT
 have n1:∀b∈[e,T],s₀.heap.get? b=none:=fun b hb=>I.s0_none rfl (n0 b hb);have n2:∀b∈[e,T],H b=none:=fun b hb=>I.hok.none_of (n0 b hb);refine⟨e,cls,[e,T],H,rfl,I.os,I.bare,I.noteUn rfl n1 stay up',I.noteOk n2 stay,fun b hb=>⟨n1 b hb,n2 b hb⟩,⟨.head _,.ref t,?_,g2⟩,q⟩;exact⟨fun b o z=>wL z,tL (.head _),jW f3,oe,vs,T,oT,ts,he,hc,hd,h1,tL (.tail _ (.head _)),hTe,hT,hdT,h3⟩
abbrev XKs:=St->XK
def bS(CX:CXT)(X:Cx)(E:XKs):Prop:=∀(pins:List (Addr × Obj)) (σ:St) (H:Hp) (s:Shared) (e:Value) (s':Shared),Inv X pins σ H s->CX X.stack H s (E σ) e s'->X.xe e s'
def wz(X:Cx)(E:XKs):Prop:=∀(pins:List (Addr × Obj)) (σ:St) (H:Hp) (s:Shared) (h':Heap) (e:Addr) (cls:Value) (args:List Value),Inv X pins σ H s->Heap.MadeExcOf s.heap h' e cls args->E σ cls none H->X.xe (.ref e) { s with heap:=h' }
theorem bA:wz (bV (XE P w) P w K mg base N qual scope f cd A outer s₀ H₀ E) (fun _=>E):=fun _ _ _ _ _ _ _ _ I hx q=>wY I hx q
theorem aA:bS (XE P w) (bV (XE P w) P w K mg base N qual scope f cd A outer s₀ H₀ E) (fun _=>E):=by
 intro pins σ H s ev s' I hq;obtain⟨e,C,rs,H',rfl,os,bare,un,hok,hrs,⟨her,a0,fl,g0⟩,q⟩:=hq;have J:Inv (bV (XE P w) P w K mg base N qual scope f cd A outer s₀ H₀ E) pins σ H' s':=I.call' os un hok bare (fun b z=>nomatch z);show wpAny (model P w) (A.deeper (envOfC qual scope s₀.heap.objs.size f cd)) (leaving (envOfC qual scope s₀.heap.objs.size f cd) (.ref e)) (fun _ s''=>XE P w outer H₀ s₀ E (.ref e) s'') (fun e' s''=>XE P w outer H₀ s₀ E e' s'') s';have hst:s'.heap.FunFrames base (envOfC qual scope s₀.heap.objs.size f cd::outer):=J.stack;refine dY (e:=e) (pJ _ _) g0 (wpAny_leaves_onW (base:=hid s'.heap (envOfC qual scope s₀.heap.objs.size f cd::outer) rs) I.ok.frames rfl fl fun h'' fl' up g2=>?_);obtain⟨f1,f2,f3,oe,vs,T,oT,ts,he,hc,hd,h1,hnT,hTe,hT,hdT,h3⟩:=fl';have nT:=yp hst up hnT hT hdT;have stay:∀b o,s'.heap.get? b=some o->b∉frs (envOfC qual scope s₀.heap.objs.size f cd::outer)->b∉T::rs->h''.get? b=some o:=fun b o z hb hr=>f1 b o (kJ z hb fun y=>hr (.tail _ y));have n1:∀b∈T::rs,s₀.heap.get? b=none:=fun b hb=>by
  rcases zZ.mp hb with r|r
  ·rw[r]
   rcases nT with z|z
   ·exact J.s0_none rfl z
   ·exact I.s0_none rfl (hrs T z).1
  ·exact I.s0_none rfl (hrs b r).1
 have n2:∀b∈T::rs,H' b=none:=fun b hb=>by
  rcases zZ.mp hb with r|r
  ·rw[r]
   rcases nT with z|z
   ·exact hok.none_of z
   ·exact(hrs T z).2
  ·exact(hrs b r).2
 refine⟨e,C,T::rs,H',rfl,J.os,J.bare,J.noteUn rfl n1 stay up,J.noteOk n2 stay,fun b hb=>⟨n1 b hb,n2 b hb⟩,⟨.tail _ her,a0,?_,g2⟩,q⟩;exact⟨fun b o z=>wL z,tL (.tail _ her),jW f3,oe,vs,T,oT,ts,he,hc,hd,h1,tL (.head _),hTe,hT,hdT,h3⟩
end
def lY(sp:Sp)(dvs:List V)(E:XKs)(t:TA):TE:=fun σ H Q=>t σ H fun vs H1=>sp (vs++dvs) H1 Q (E σ)
section
variable{X:Cx}{CX:CXT}{k:Nat}{f C:Addr}{fd:FuncData}{ps:List Str}{sp:Sp}{dvs:List V}{ds:List Value}{E:XKs}{x m:Str}{p pos apos:Pos}{e o:Expr}{es:List Expr}{ta:TE}{t:TA}
theorem t_(F:h_ X.prog X.w X.K X.mg X.base CX k f fd ps sp)(hr:Room k X.A)(hb:Binds X.K fd ps ds)(hd:Vals dvs ds)(hx:bS CX X E)
 (I:Inv X pins σ H s) (r:Vals vs us) (h:sp (vs++dvs) H Q (E σ)):wpAny (model X.prog X.w) X.A (call (.ref f) us) (EP X pins σ Q) X.xe s:=by
 have r2:Vals (vs++dvs) (us++ds):=r.append hd;have hl:(us++ds).length=ps.length:=by rw[<- r2.length];exact F.len _ _ _ _ h
 refine wpAny_call (YJ (F.run X.A X.stack s H ⟨us,[]⟩ (us++ds) (vs++dvs) Q (E σ) hr I.env0 (hb s us I.kIn hl) r2 h) fun r s' hq=>?_);cases r with
 |error e=>exact hx pins σ H s e s' I hq
 |ok fl=>
  cases fl with
  |ret u=>exact I.after hq
  |next=>exact Zf hq
  |brk=>exact Zf hq
  |cont=>exact Zf hq
theorem AQ(F:h_ X.prog X.w X.K X.mg X.base CX k f fd ps sp)(hr:Room k X.A)(hg:Gl X x)(hm:X.mg x=some (.ref f))(hk:ZP X.K (.ref f)=true)(hb:Binds X.K fd ps ds)(hd:Vals dvs ds)(hx:bS CX X E)
 (ha:PA X (e::es) t) (hdb:(x==("__debug__":Str))=false:=by decide) (he:starEach (e::es) X.env=(false,eval e X.env)::starEach es X.env:=by rfl) (hpl:(backTo pos (starEach es X.env)).any (·.1)=false:=by rfl) :
 PE X (.Call (.Name x p) (e::es) [] pos) (lY sp dvs E t):=by
 intro pins s σ H Q I h;refine Yw (gu I hg hm ?_ hdb);refine YA (h₀:=X.base) I.ok.mod.kin hk (thn (ha pos pins s σ H _ I h) fun us s1 ⟨vs,H1,I1,r,q⟩=>⟨I1.kIn,?_⟩) he hpl;exact t_ F hr hb hd hx I1 r q
end
section
variable{P:Program}{w:World}{K:W.Frag}{mg:Str->Option Value}{base:Heap}
theorem Fun.okX{x qual:Str}{st:Stmt}{f:Addr}{fd:FuncData}{N ps:List Str}{k:Nat}{sp:Sp}(F:Fun K x qual st f fd)(S:bp N ps (au st))(len:∀vs H Q E,sp vs H Q E->vs.length=ps.length)
 (hbody:∀(cdv:Value) (A:Around) (outer:List Env) (s:Shared) (H:Hp) (vs:List V) (Q:VK) (E:XK),Room k (A.deeper (envOfC qual (au st) s.heap.objs.size f cdv))->sp vs H Q E ->
  ∃t,PSs (bV (XE P w) P w K mg base N qual (au st) f cdv A outer s H E) (aZ st) t/\t { nx:=fun _ H'=>Q .non H',rt:=Q } (cS N vs) H):h_ P w K mg base (XE P w) (k+1) f fd ps sp:=by
 obtain⟨oc,od,kV,doc,pm,an,cdv,ct,osl,rfl,lk,hcd⟩:=F.ex;exact Jn lk hcd S len fun A outer s H vs Q E hr hsp=>hbody cdv A outer s H vs Q E hr hsp
end
theorem EE{K:W.Frag}{h:Heap}(X:K.In h)(q:PySem.W.excIn K C bmB newId=true) :
 ∃bm N nm qn bs hdct sn sub ab col dd k0 k1 k2 k3 k5 mN,h.get? C=some (excClassObj nm qn C N bs bm hdct sn sub ab col dd k0 k1 k2 k3 k5 newId)/\h.Ns N mN/\mN "__init__" = none/\OwnTail h bmB bm:=by
 unfold PySem.W.excIn at q;split at q
 ·rename_i dd cd sl ho
  split at q
  ·rename_i C' bm k0 k1 k2 k3 n k5 hm hs
   simp only[Zj,beq_iff_eq,Bool.not_eq_true']at q;obtain⟨⟨⟨⟨⟨rfl,rfl⟩,hdel⟩,ht⟩,hok⟩,hni⟩:=q;obtain⟨nm,bs,mro,ns,qn,hd,sn,sub,ab,col,del⟩:=cd;dsimp only at hm hdel hok hni;subst hm hdel;have hsl:sl = #[k0,k1,k2,k3,some (.builtin n),k5]:=by
    obtain⟨l⟩:=sl;simp only at hs;rw[hs]
   subst hsl;exact⟨bm,ns,nm,qn,bs,hd,sn,sub,ab,col,dd,k0,k1,k2,k3,k5,_,X _ _ ho,.of_isNs (PySem.W.isNs_of_in X hok),PySem.W.nsMap_none_of_in X hok hni,PySem.W.tail_of_in X ht⟩
  ·cases q
 ·cases q
def xg(C:Addr)(E:XKs)(t:TA):TS:=fun _ σ H=>t σ H fun vs H1=>vs.length<=sizeLine/\E σ (.ref C) none H1
theorem Bu{X:Cx}(O:PySem.W.excIn X.K C bmB newId=true)(FB:ExcBaseFacts B newId initId bmB)
 (hc:X.calm=true) (hg:Gl X x) (hm:X.mg x=some (.ref C)) (hx:wz X E) (ha:PA X (e::es) t) (hdb:(x==("__debug__":Str))=false:=by decide)
 (he:starEach (e::es) X.env=(false,eval e X.env)::starEach es X.env:=by rfl) (hpl:(backTo cpos (starEach es X.env)).any (·.1)=false:=by rfl) :
 PS X (.Raise (some (.Call (.Name x np) (e::es) [] cpos)) none pos) (xg C E t):=by
 intro pins s σ H D I h;obtain⟨tl,N,nm,q,bs,hdct,sn,sub,ab,col,dd,k0,k1,k2,k3,k5,mN,hC,hN,hni,T⟩:=EE I.mod.kin O;refine wpAny_Raise_call_subT (C:=C) (nm:=nm) (q:=q) (N:=N) (bs:=bs) (bm:=tl) (hdct:=hdct) (sn:=sn) (sub:=sub) (ab:=ab) (col:=col) (dd:=dd) (k0:=k0) (k1:=k1) (k2:=k2) (k3:=k3) (k5:=k5)
  FB (mN:=mN) (T.hasType FB.hasBase) (I.ok.hd hc) (by rw[he];show(false || (backTo cpos (starEach es X.env)).any (·.1))=false;rw[hpl];rfl) hni (gu I hg hm ⟨rfl,?_⟩ hdb)
 have hA:=ha cpos pins s σ H _ I h;rw[he]at hA |-
 refine YN (thn hA fun us s1 ⟨vs,H1,I1,r,hz,q1⟩=>⟨rfl,by rw[<- r.length];exact hz,I1.bk _ _ hC,hN.keeps I1.bk,T.keeps I1.bk,fun h' e' hm'=>?_⟩);exact hx pins σ H1 s1 h' e' (.ref C) us I1 hm' q1
section
variable{X:Cx}{pins:List (Addr × Obj)}{σ:St}{H:Hp}{s:Shared}{h':Heap}{rs:List Addr}
theorem Inv.noted(I:Inv X pins σ H s)(hrs:∀b∈rs,X.s₀.heap.get? b=none/\H b=none)(hpin:∀p∈X.pn++pins,p.1∉rs)
 (stay:∀b o,s.heap.get? b=some o->b∉frs X.stack->b∉rs->h'.get? b=some o) (up:s.heap.UpToSlots h'):Inv X pins σ H { s with heap:=h',toks:=t' }:=by
 have B:=I.base;have cellK:∀c v,s.heap.IsCell c v->h'.IsCell c v:=fun c v hq_=>by
  obtain⟨o,ho,hd⟩:=hq_;obtain⟨sl,e⟩:=up c o ho fun vs q=>by rw[hd]at q;cases q
  exact⟨_,e,hd⟩
 have nrs:∀b o,X.s₀.heap.get? b=some o->b∉rs:=fun b o e z=>by rw[(hrs b z).1]at e;cases e
 have nst:∀b o,X.s₀.heap.get? b=some o->b∉X.fs->b∉frs X.stack:=fun b o e hb z=>by
  rcases zZ.mp (I.stkSub b z) with q|q
  ·exact absurd (vD (xb e) I.ok.above) (by rw[q];exact ZQ _)
  ·exact hb q
 refine⟨I.ok,I.os,I.bare,⟨fun b o q n hb hx=>stay b o (B.keep b o q n hb hx) (nst b o q hb) (nrs b o q),fun b o q n hb hx=>?_,fun b o q n hx=>B.free b o q n hx,fun b o q hx=>?_,B.tups,B.frzs,B.tbls⟩,?_,fun x c e=>?_,I.free,I.freeC,fun p hp=>?_,I.noteOk (fun b hb=>(hrs b hb).2) stay,I.len⟩
 ·obtain⟨sl,e1⟩:=B.slot b o q n hb hx
  obtain⟨_,o',ho',hd⟩:=I.funs.mem hb;rw[e1]at ho';cases ho';obtain⟨sl',e2⟩:=up b _ e1 hd;exact⟨sl',e2⟩
 ·obtain⟨o',e1⟩:=B.there b o q hx
  by_cases hb:b∈frs X.stack
  ·obtain⟨_,o2,ho2,hd⟩:=I.stack.mem hb
   obtain⟨sl',e2⟩:=up b _ ho2 hd;exact⟨_,e2⟩
  ·exact⟨o',stay b o' e1 hb (nrs b o q)⟩
 ·obtain⟨m,hn,hl⟩:=I.loc
  refine⟨m,up.ns hn,fun i x v e1 e2 e3=>?_⟩;obtain⟨u,r,l⟩:=hl i x v e1 e2 e3;refine⟨u,r,?_⟩;rcases l with l|⟨k,c,e,z⟩
  ·exact .inl l
  ·exact .inr ⟨k,c,e,cellK c _ z⟩
 ·obtain⟨v,z⟩:=I.cell x c e
  exact⟨v,cellK c v z⟩
 ·obtain⟨e,n,ne,nf,d⟩:=I.pin p hp
  exact⟨stay p.1 p.2 e (fun z=>(zZ.mp (I.stkSub _ z)).elim ne nf) (hpin p hp),n,ne,nf,d⟩
theorem Inv.track(I:Inv X pins σ H s)(hn:H a=none)(h0:X.s₀.heap.get? a=none)(hL:a≠X.env.locals)(hc:∀x c,X.env.cells.lookup x=some c->c≠a)(hp:∀p∈X.pn++pins,p.1≠a)
 (new:ObjOk X.prog X.w (upd H a o) s.heap a o):Inv X pins σ (upd H a o) s:=by
 have B:=I.base;refine⟨I.ok,I.os,I.bare,⟨B.keep,B.slot,fun b ob q n hx=>?_,B.there,fun b xs q=>?_,fun b ob xs q=>?_,fun b ps q=>?_⟩,I.loc,I.cell,?_,fun x c e=>?_,fun p hp'=>?_,fun b u e=>?_,I.len⟩
 ·have:b≠a:=fun z=>by rw[z,h0]at q;cases q
  rw[ag this];exact B.free b ob q n hx
 ·have e:=B.tups b xs q
  rw[ag (az e hn)];exact e
 ·have e:=B.frzs b ob xs q
  rw[ag (az e hn)];exact e
 ·obtain⟨m,e⟩:=B.tbls b ps q
  exact⟨m,by rw[ag (az e hn)];exact e⟩
 ·rw[ag (Ne.symm hL)];exact I.free
 ·rw[ag (hc x c e)];exact I.freeC x c e
 ·obtain⟨e,n,ne,nf,d⟩:=I.pin p hp'
  exact⟨e,by rw[ag (hp p hp')];exact n,ne,nf,d⟩
 ·by_cases hb:b=a
  ·subst hb
   rw[ad]at e;cases e;exact new
  ·rw[ag hb]at e
   refine(I.hok b u e).stay (fun c v _ q=>q) (fun c q=>?_) fun c xs q=>?_
   ·rw[ag (az q hn)];exact q
   ·rw[ag (az q hn)];exact q
theorem Cx.Ok.re(ok:X.Ok)(A':Around)(hf:A'.frames=X.A.frames)(cm:Bool)(hh:cm=true->A'.handled=none)(pn:List (Addr × Obj))(xe:Value->Shared->Prop):({ X with A:=A',calm:=cm,pn:=pn,xe:=xe }:Cx).Ok:=
 ⟨ok.mod,ok.kind,ok.glob,ok.blt,ok.above,ok.inj,ok.has,ok.cab,hh,hf.trans ok.frames,ok.stk,ok.exf,ok.bs,ok.bsz,ok.noex,ok.exfs,ok.funs,ok.frf⟩
theorem Inv.toPn(I:Inv X pins σ H s)(xe:Value->Shared->Prop):Inv { X with pn:=X.pn++pins,xe:=xe } [] σ H s:=
 ⟨I.ok.re X.A rfl X.calm I.ok.hd _ _,I.os,I.bare,I.base,I.loc,I.cell,I.free,I.freeC,fun p hp=>I.pin p (by rw[Zs]at hp;exact hp),I.hok,I.len⟩
theorem Inv.ofPn(ok:X.Ok)(I:Inv { X with pn:=X.pn++pins,xe:=xe } pins' σ H s):Inv X pins σ H s:=
 ⟨ok,I.os,I.bare,I.base,I.loc,I.cell,I.free,I.freeC,fun p hp=>I.pin p (wW _ hp),I.hok,I.len⟩
abbrev Cx.caught(X:Cx)(e:Addr):Cx:={ X with A:=X.A.mark (some (.ref e)),calm:=false,pn:=X.pn,xe:=fun _ _=>False }
theorem Inv.toCaught(I:Inv X pins σ H s)(e:Addr):Inv (X.caught e) pins σ H s:=
 ⟨I.ok.re (X.A.mark (some (.ref e))) rfl false (fun z=>nomatch z) _ _,I.os,I.bare,I.base,I.loc,I.cell,I.free,I.freeC,I.pin,I.hok,I.len⟩
theorem Inv.ofCaught(ok:X.Ok)(I:Inv (X.caught e) pins σ H s):Inv X pins σ H s:=
 ⟨ok,I.os,I.bare,I.base,I.loc,I.cell,I.free,I.freeC,I.pin,I.hok,I.len⟩
theorem i9(I:Inv X pins σ H s)(hN:X.N.Nodup)(hi:X.N[i]? = some n)(hk:X.env.kindOf n=some .local)
 (h:∀s',Inv X pins (σ.set i none) H s'->Q () s'):wpAny M A (do bindName X.env n .none;unbindBehindTheSuite X.env n pos) Q E s:=by
 obtain⟨m,hn,hl⟩:=id I.loc;have hcls:(X.env.scope.kind == .class || (X.env.scope.kind == .module&&X.env.locals != X.env.globals))=false:=by rw[I.ok.kind];rfl
 have cne:=I.cne;refine wpAny_nameGoes_keeps hk hn hcls fun h' v hn' hs=>?_;obtain⟨oL,_,_,hoL,_⟩:=id hn;refine h _ ⟨I.ok,I.os,I.bare,⟨fun b o e n hb hx=>?_,fun b o e n hb hx=>?_,I.base.free,fun b o e hx=>?_,I.base.tups,I.base.frzs,I.base.tbls⟩,⟨_,hn',fun j y v' e1 e2 e3=>?_⟩,fun y c e=>?_,I.free,I.freeC,fun p hp=>?_,fun b ob e=>?_,by simpa using I.len⟩
 ·exact(hs.2 b (uj (vD (xb e) I.ok.above))).trans (I.base.keep b o e n hb hx)
 ·obtain⟨sl,e1⟩:=I.base.slot b o e n hb hx
  exact⟨sl,(hs.2 b (uj (vD (xb e) I.ok.above))).trans e1⟩
 ·obtain⟨o',e1⟩:=I.base.there b o e hx
  exact⟨o',(hs.2 b (uj (vD (xb e) I.ok.above))).trans e1⟩
 ·by_cases hj:j=i
  ·subst hj
   rw[List.getElem?_set]at e2;simp at e2
  ·rw[List.getElem?_set_ne (Ne.symm hj)]at e2
   obtain⟨u',r',q⟩:=hl j y v' e1 e2 e3;refine⟨u',r',?_⟩;rcases q with ⟨k,e⟩|⟨k,c,e,z⟩
   ·refine .inl ⟨k,?_⟩
    have:y≠n:=fun e=>hj (oO hN e1 (e ▸ hi));simp[this,e]
   ·exact .inr ⟨k,c,e,z.sameBut hs (cne y c e)⟩
 ·obtain⟨w',z⟩:=I.cell y c e
  exact⟨w',z.sameBut hs (cne y c e)⟩
 ·obtain⟨e,n,ne,nf,d⟩:=I.pin p hp
  exact⟨(hs.2 p.1 ne).trans e,n,ne,nf,d⟩
 ·refine(I.hok b ob e).stay (fun c w' hc q=>(hs.2 c ?_).trans q) (fun _ q=>q) fun _ _ q=>q
  rintro rfl;rcases hc with rfl|hc
  ·rw[I.free]at e;cases e
  ·rw[I.free]at hc;cases hc
end
theorem tJ{s:Shared}{K:W.Frag}{e C D:Addr}{oe:Obj}(X:K.In s.heap)(he:s.heap.get? e=some oe)(hcls:oe.cls = .ref C)
 (hx:ZZ K (.ref C) (.ref D)=some true) (h:Q true s):wpAny M A (excMatches (.ref e) (.ref D)) Q E s:=
 (PySem.W.exm_one (M:=M) X (hcls ▸ (PySem.W.Looks.ld he).andThen .now) hx).here h
def gZ(C:Value)(e:Addr):HO:=HO.ext fun h=>∃o vs,h.get? e=some o/\o.cls=C/\o.data = .fields vs/\vs[2]? = some .none
def Ja(K:W.Frag)(CH:Addr)(i:Nat)(tb:XKs->TS)(th:Addr->TS):TS:=fun D σ H=>
 tb (fun σ' C _ H'=>∃Ce,C = .ref Ce/\ZZ K (.ref Ce) (.ref CH)=some true/\∀e,H' e=none ->
  th e { nx:=fun σ2 H2=>D.nx (σ2.set i none) H2,rt:=D.rt,bk:=fun σ2 H2=>D.bk (σ2.set i none) H2,ct:=fun σ2 H2=>D.ct (σ2.set i none) H2 } (σ'.set i (some (.ref e))) (upd H' e (gZ (.ref Ce) e))) D σ H
def Jy(K:W.Frag)(CH:Addr)(i:Nat)(tb:XKs->TS)(th:TS):TS:=fun D σ H=>
 tb (fun σ' C _ H'=>∃Ce,C = .ref Ce/\ZZ K (.ref Ce) (.ref CH)=some true/\∀e,H' e=none ->
  th { nx:=fun σ2 H2=>D.nx (σ2.set i none) H2,rt:=D.rt,bk:=fun σ2 H2=>D.bk (σ2.set i none) H2,ct:=fun σ2 H2=>D.ct (σ2.set i none) H2 } (σ'.set i (some (.ref e))) (upd H' e (gZ (.ref Ce) e))) D σ H
theorem Df(hN:X.N.Nodup)(hi:X.N[i]? = some n)(hk:X.env.kindOf n=some .local)
 (hg:Gl X x) (hm:X.mg x=some (.ref CH))
 (hex:X.ex=[]) (hst:X.stack=X.env::X.outer) (hfr:X.env.frame=some X.env.locals)
 (hb:∀(pn:List (Addr × Obj)) (Ee:Value->Shared->Prop) (Ex:XKs),bS (XE X.prog X.w) { X with pn:=pn,xe:=Ee } Ex->PSs { X with pn:=pn,xe:=Ee } body (tb Ex))
 (hh:∀e:Addr,PSs (X.caught e) (b₀::suite) (th e)) (hdb:(x==("__debug__":Str))=false:=by decide) :
 PS X (.Try body [.ExceptHandler (some (.Name x np)) (some n) (b₀::suite) hpos] [] [] pos) (Ja X.K CH i tb th):=by
 intro pins s σ H D I h;refine wpAny_Try_except ?_;have ok:=I.ok;refine Zv (hb (X.pn++pins) _ _ ?hP [] s σ H D (I.toPn _) h) (fun f s1 hf=>?_) (fun _ _ z=>z)
 case hP=>
  intro pins' σ' H1 s1 ev s1' I1 hq;obtain⟨e,C,rs,H',rfl,os,bare,un,hok,hrs,⟨her,a0,fl,g0⟩,⟨Ce,rfl,hmro,hth⟩⟩:=hq;have J1:=I1.call' os un hok bare (fun b z=>nomatch z);have J:Inv X pins σ' H' s1':=J1.ofPn ok;have I0:Inv X pins σ' H1 s1:=I1.ofPn ok;have hn0:∀b∈rs,X.s₀.heap.get? b=none/\H' b=none:=fun b hb=>by
   refine⟨?_,(hrs b hb).2⟩;cases q:X.s₀.heap.get? b with
   |none=>rfl
   |some o=>
    obtain⟨o',z⟩:=I0.base.there b o q (by rw[hex];simp);rw[(hrs b hb).1]at z;cases z
  have hpin:∀p∈X.pn++pins,p.1∉rs:=fun p hp z=>by
   have:=(I0.pin p hp).1;rw[(hrs _ z).1]at this;cases this
  have hstk:s1'.heap.FunFrames X.base (X.env::X.outer):=by rw[<- hst];exact J.stack
  rw[show X.stack=X.env::X.outer from hst]at fl;have hfrm:X.A.frames=some (X.env::X.outer):=by rw[<- hst];exact ok.frames
  show wpAny (model X.prog X.w) X.A (noteFrame (.ref e) X.env) _ _ s1';refine dY (e:=e) (yu _ _) g0 (wpAny_looks_onW (base:=hid s1'.heap (X.env::X.outer) rs) hfrm hfr fl fun h₄ held up4 g4=>?_);refine dY (e:=e) (lX _ _) g4 (wpAny_landsW held fun h₅ fl5 up5 g5=>?_);have nin:∀b,b∉frs X.stack->b∉frs (X.env::X.outer):=fun b hb=>by rw[<- hst];exact hb
  have stay5:∀b o,s1'.heap.get? b=some o->b∉frs X.stack->b∉rs->h₅.get? b=some o:=fun b o z hb hr=>fl5.1 b o (kJ z (nin b hb) hr);have I5:Inv X pins σ' H' { s1' with heap:=h₅,toks:=s1'.toks }:=J.noted hn0 hpin stay5 (up4.trans up5);obtain⟨ob,hob,hobc⟩:=fl5.there;refine wpAny_handleBy_cons (codeAny_handlers_test (gu (X:=X.caught e) (I5.toCaught e) hg hm (tJ I5.kIn hob hobc hmro ?_) hdb)) (by intro q;cases q);refine codeAny_handlers_suite_as (dY (e:=e) (lX _ _) g5 (lands_againW fl5 fun h₆ fl6 up6 g6=>?_));have stay6:∀b o,s1'.heap.get? b=some o->b∉frs X.stack->b∉rs->h₆.get? b=some o:=fun b o z hb hr=>fl6.1 b o (kJ z (nin b hb) hr);have I6:Inv X pins σ' H' { s1' with heap:=h₆,toks:=s1'.toks }:=J.noted hn0 hpin stay6 ((up4.trans up5).trans up6);have e1:s1.heap.get? e=none:=(hrs e her).1;obtain⟨oe,vs,hoe,hoed,ho2⟩:=g6;have hoec:oe.cls = .ref Ce:=by
   obtain⟨o2,q1,q2⟩:=fl6.there;rw[hoe]at q1;cases q1;exact q2
  have I6':Inv X pins σ' (upd H' e (gZ (.ref Ce) e)) { s1' with heap:=h₆,toks:=s1'.toks }:=by
   refine I6.track (hrs e her).2 (hn0 e her).1 ?_ ?_ (fun p hp z=>hpin p hp (by rw[z];exact her)) ?_
   ·intro z
    obtain⟨m,⟨oL,_,_,hoL,_⟩,_⟩:=I0.loc;rw[<- z,e1]at hoL;cases hoL
   ·intro x c hc z
    obtain⟨v,o,ho,_⟩:=I0.cell x c hc;rw[z,e1]at ho;cases ho
   ·exact⟨⟨oe,vs,hoe,hoec,hoed,ho2⟩,⟨oe,hoe⟩,fun h1 h2 hq_ k=>(by obtain⟨o,ws,a1,a2,a3⟩:=hq_;exact⟨o,ws,k o a1,a2,a3⟩)⟩
  refine p9 (X:=X.caught e) (I6'.toCaught e) hN hi (Or.inl hk) (v:=.ref e) rfl (fun s7 I7=>?_) (.inr hk);refine Zv (hh e pins s7 _ _ _ I7 (hth e (hrs e her).2)) (fun f s8 hf=>?_) (fun _ _ z=>z.elim);show wpAny (model X.prog X.w) X.A (do bindName X.env n .none;unbindBehindTheSuite X.env n hpos) (fun _ s₃=>SP X pins D f s₃) X.xe s8;cases f with
  |next=>
   obtain⟨σ2,H2,J2,q⟩:=hf;exact i9 (J2.ofCaught ok) hN hi hk fun s9 I9=>⟨_,_,I9,q⟩
  |brk=>
   obtain⟨σ2,H2,J2,q⟩:=hf;exact i9 (J2.ofCaught ok) hN hi hk fun s9 I9=>⟨_,_,I9,q⟩
  |cont=>
   obtain⟨σ2,H2,J2,q⟩:=hf;exact i9 (J2.ofCaught ok) hN hi hk fun s9 I9=>⟨_,_,I9,q⟩
  |ret u=>
   obtain⟨v,σ2,H2,J2,r,q⟩:=hf;exact i9 (J2.ofCaught ok) hN hi hk fun s9 I9=>⟨v,_,_,I9,r,q⟩
 cases f with
 |next=>
  obtain⟨σ',H',J,q⟩:=hf;exact YF ⟨σ',H',J.ofPn ok,q⟩
 |brk=>
  obtain⟨σ',H',J,q⟩:=hf;exact⟨σ',H',J.ofPn ok,q⟩
 |cont=>
  obtain⟨σ',H',J,q⟩:=hf;exact⟨σ',H',J.ofPn ok,q⟩
 |ret u=>
  obtain⟨v,σ',H',J,r,q⟩:=hf;exact⟨v,σ',H',J.ofPn ok,r,q⟩
theorem Cl(hN:X.N.Nodup)(hi:X.N[i]? = some n)(hk:X.env.kindOf n=some .local)
 (hg:Gl X x) (hm:X.mg x=some (.ref CH))
 (hex:X.ex=[]) (hst:X.stack=X.env::X.outer) (hfr:X.env.frame=some X.env.locals)
 (hb:∀(pn:List (Addr × Obj)) (Ee:Value->Shared->Prop) (Ex:XKs),bS (XE X.prog X.w) { X with pn:=pn,xe:=Ee } Ex->PSs { X with pn:=pn,xe:=Ee } body (tb Ex))
 (hh:∀e:Addr,PSs (X.caught e) (b₀::suite) th) (hdb:(x==("__debug__":Str))=false:=by decide) :
 PS X (.Try body [.ExceptHandler (some (.Name x np)) (some n) (b₀::suite) hpos] [] [] pos) (Jy X.K CH i tb th):=Df (th:=fun _=>th) hN hi hk hg hm hex hst hfr hb hh hdb
end L2
namespace L2
open PySem PySem.Spec PyProof.Rows PySem.W
inductive zC:V->Value->Prop where
 |ty (n:String):zC (.ty n) (.type n)
 |own (a:Addr):zC (.ref a) (.ref a)
section
variable{X:Cx}
theorem vo:CallR X (.builtin "isinstance") (fun xs H Q=>∃x c t u b,xs=[x,c]/\zC c u/\jI X.K H x t/\sV X.K t u=some b/\Q (.bl b) H):=by
 intro pins s σ H xs us Q I r h;obtain⟨x,c,t,u,b,rfl,rc,ty,e,q⟩:=h;obtain⟨ux,uc,rfl,rx,rc'⟩:=xH r;have ec:uc=u:=by
  cases rc with
  |ty n=>exact rc'
  |own a=>exact rc'
 subst ec;exact zB I rx ty e fun tk=>⟨.bl b,H,I.tok _,rfl,q⟩
end
structure cL(K:Frag)(C:Addr):Prop where
 l1:findIn K (.ref C) "__getattribute__" = some (some (.builtin "BaseException.__getattribute__"))
 l2:findIn K (.ref C) "__getattr__" = some none
 l3:findIn K (.ref C) "__class__" = some (some (.builtin "object.__class__"))
 c1:(clsIn K C).isSome=true
 m1:mroIn K C (.type "object")=some true
 m2:mroIn K C (.type "BaseException")=some true
section
variable{prog:Program}{w:World}{A:Around}{E:Value->Shared->Prop}{K:Frag}{e C:Addr}{o:Obj}{s:Shared}
open Builtin Builtin.ObjectAttr Builtin.Getset_descriptor PySem.Calls in
theorem qM(X:K.In s.heap)(Z:cL K C)(hx:s.heap.get? e=some o)(hc:o.cls = .ref C)
 (h:R (.ok (.ret (.ref C))) s):codeAny (model prog w) A (.call (.builtin "getset_descriptor.__get__") ⟨[.builtin "object.__class__",.ref e,tp],[]⟩) R s:=by
 obtain⟨hh,g,dr,t,os⟩:=s;have L0:Looks (model prog w) hh (typeOf (.ref e)) (.ref C):=hc ▸ (Looks.ld hx).andThen .now;have L1:=looks_mroIn (M:=model prog w) X Z.m1;refine codeAny_call_builtin KF.slot_gs.plain KF.entry_gs (KF.slot_gs.check _ _ _ _ _ _ _ _ KF.type_class (KF.args_gs _ _ _) ?_);unfold Builtin.«getset_descriptor.__get__» descrGet;rw[dga_obj];refine zj (zA ?_);unfold descrGetter descrCheckInstance descrNameAndClass isInstance;simp only[KF.owner_class]
 repeat lk
 refine⟨Code.quiet_builtin _ (by decide +kernel),codeAny_builtin KF.entry_class ?_⟩;unfold Builtin.«object.__class__» shownTypeOf
 repeat lk
 exact h
theorem sU(X:K.In s.heap)(Z:cL K C)(hx:s.heap.get? e=some o)(hc:o.cls = .ref C)(hq:Q () s) :
 wpAny M A (checkBuiltinCall "BaseException.__getattribute__" ⟨[.ref e,nameV],[]⟩) Q E s:=by
 have hk:builtinKind "BaseException.__getattribute__" = some .slot:=by decide +kernel
 have hsplit:splitId "BaseException.__getattribute__" = some ("BaseException","__getattribute__"):=by decide +kernel
 have ha:=F.args_bexc_ga (.ref e) nameV;obtain⟨hh,g,dr,t,os⟩:=s;have L0:Looks M hh (typeOf (.ref e)) (.ref C):=hc ▸ (Looks.ld hx).andThen .now;have L1:=looks_mroIn (M:=M) X Z.m2;have LI:Looks M hh (isInstance (.ref e) (.type "BaseException")) true:=L0.andThen L1;simp only[checkBuiltinCall,hk,hsplit];refine zj (LI.at ?_)
 repeat (first|assumption|wp_step)
theorem sC(X:K.In s.heap)(Z:cL K C)(hx:s.heap.get? e=some o)(hc:o.cls = .ref C)(hq:Q (.done (.ret (.ref C))) s) :
 wpAny (model prog w) A (Builtin.«object.__getattribute__» ⟨[.ref e,.str "__class__" tk],[]⟩) Q E s:=by
 obtain⟨hh,g,dr,t,os⟩:=s;have L0:Looks (model prog w) hh (typeOf (.ref e)) (.ref C):=hc ▸ (Looks.ld hx).andThen .now;have L3:=looks_findIn (M:=model prog w) X Z.l3;have f5:=KF.type_class;have f6:=F.slot_gs_get.lookup;have f7:=F.slot_gs_set.lookup
 repeat (any_goals (first|assumption|with_reducible refine L0.at ?_|with_reducible refine L3.at ?_|wp_step))
 refine qM X Z hx hc ?_
 repeat (any_goals (first|assumption|wp_step))
theorem o8(X:K.In s.heap)(Z:cL K C)(hx:s.heap.get? e=some o)(hc:o.cls = .ref C)(h:Q (some (.ref C)) { s with toks:=s.toks+1 }) :
 wpAny (model prog w) A (getAttr? (.ref e) "__class__") Q E s:=by
 obtain⟨hh,g,dr,t,os⟩:=s;have L0:Looks (model prog w) hh (typeOf (.ref e)) (.ref C):=hc ▸ (Looks.ld hx).andThen .now;have L1:=looks_findIn (M:=model prog w) X Z.l1;have L2:=looks_findIn (M:=model prog w) X Z.l2;have f3:=F.excAttr_ValueError.ga.bind (.ref e);have hx2:(Value.builtin "BaseException.__getattribute__" == Value.builtin "object.__getattribute__")=false:=by decide +kernel
 have hx0:∀ex:Bool,(ex&&onTheHeap (Value.builtin "BaseException.__getattribute__"))=false:=fun ex=>by cases ex <;> rfl
 have hx1:(onTheHeap (yW C)&&Value.builtin "BaseException.__getattribute__" == Value.builtin "object.__getattribute__")=false:=by rw[hx2];rfl
 unfold getAttr?
 repeat (any_goals (first|assumption|with_reducible refine L0.at ?_|with_reducible refine L1.at ?_|with_reducible refine L2.at ?_|wp_step))
 refine codeAny_call_builtin F.excAttr_ValueError.ga.plain F.entry_bexc_ga (sU X Z hx hc (sC X Z hx hc ?_))
 repeat (any_goals (first|assumption|wp_step))
theorem BV(Z:cL K C):KitX K (.ref e) (.ref C) (fun h=>∃o,h.get? e=some o/\o.cls = .ref C) where
 ty:=fun M h _ hq_=>(by obtain⟨o,h1,h2⟩:=hq_;exact h2 ▸ (Looks.ld h1).andThen .now)
 it:=fun M h X _=>by
  have c1:=Z.c1;unfold clsIn at c1;split at c1
  ·rename_i c' d' cd' sl' ho
   intro A' Q' E' s' k q;unfold isType loadHead;exact zj (wpAny_loadPart (k _ _ (X _ _ ho)) (zA q))
  ·cases c1
 ne:=fun h tp dd its n sl X htp=>by
  refine Bool.eq_false_iff.mpr fun q=>?_;have e':C=tp:=yW.inj (beq_iff_eq.mp q);subst e';have c1:=Z.c1;unfold clsIn at c1;split at c1
  ·rename_i c' d' cd' sl' ho
   have z:=(X _ _ ho).symm.trans htp;cases z
  ·cases c1
 ca:=fun X hq_ k=>(by obtain⟨o,h1,h2⟩:=hq_;exact o8 X Z h1 h2 k)
end
section
variable{X:Cx}
theorem sQ:CallR X (.builtin "isinstance") (fun xs H Q=>∃e c C u b,xs=[.ref e,c]/\zC c u/\H e=some (gZ (.ref C) e)/\cL X.K C/\sV X.K (.ref C) u=some b/\Q (.bl b) H):=by
 intro pins s σ H xs us Q I r h;obtain⟨e,c,C,u,b,rfl,rc,he,Z,k,q⟩:=h;obtain⟨ux,uc,rfl,rx,rc'⟩:=xH r;have ec:uc=u:=by
  cases rc with
  |ty n=>exact rc'
  |own a=>exact rc'
 subst ec;cases (show ux=yW e from rx);obtain⟨⟨o,vs,h1,h2,_⟩,_,_⟩:=(show ObjOk X.prog X.w H s.heap e (gZ (.ref C) e) from I.hok e _ he);exact kia_one (BV Z) I.kIn ⟨o,h1,h2⟩ k (fun z=>nomatch z) fun tk=>⟨.bl b,H,I.tok _,rfl,q⟩
theorem sW(hc:X.calm=true):CallR X (.builtin "sum") (fun xs H Q=>∃(p:Addr) (ns:List Int),xs=[.ref p]/\SqT X.K H p (ns.map V.int)/\Q (.int ns.sum) H):=by
 intro pins s σ H xs us Q I r h;obtain⟨p,ns,rfl,hq,q⟩:=h;obtain⟨u,rfl,rx⟩:=dO r;cases (show u=yW p from rx);obtain⟨its,r',pl,hz⟩:=I.tuple hq;have hi:=oS r';obtain⟨ys,hy⟩:=hi.allInts.items;have hn:numsOf its.toArray.toList=ns:=by rw[show its.toArray.toList=its from rfl,hi.numsOf]
 rw[hy]at pl hn;rw[nums_intItems]at hn;refine ktm_sumG (I.ok.hd hc) pl fun h' tk t' hk=>?_;rw[preSum_eq,Zd (by simp),hn];exact⟨.int ns.sum,H,I.kept hk,⟨_,rfl⟩,q⟩
end
end L2
namespace L2
open PySem PySem.Spec PyProof.Rows
section
variable{X:Cx}{a b:Expr}{ta:TE}
def G_(xs ys:List V):Bool:=(Zb (min xs.length ys.length)).all (fun j=>eqV (xs.getD j .non) (ys.getD j .non))&&xs.length==ys.length
def EG(K:W.Frag)(neg:Bool):R2:=fun x y H Q=>∃p p' xs ys,x = .ref p/\y = .ref p'/\SqT K H p xs/\SqT K H p' ys/\xs.all eE=true/\ys.all eE=true/\Q (.bl (neg ^^ G_ xs ys)) H
theorem pZ(r:Vals xs us)(r':Vals ys vs)(fx:xs.all eE=true)(fy:ys.all eE=true)(j:Nat)(h1:j<us.toArray.size)(h2:j<vs.toArray.size) :
 SeqAt.EqAt A s us.toArray[j] vs.toArray[j] (eqV (xs.getD j .non) (ys.getD j .non)):=by
 have e1:us[j]? = some us.toArray[j]:=by simp at h1;simp[h1]
 have e2:vs[j]? = some vs.toArray[j]:=by simp at h2;simp[h2]
 have l1:j<xs.length:=by rw[r.length];simpa using h1
 have l2:j<ys.length:=by rw[r'.length];simpa using h2
 have g1:xs[j]? = some (xs.getD j .non):=by simp[Y3,l1]
 have g2:ys[j]? = some (ys.getD j .non):=by simp[Y3,l2]
 obtain⟨u,hu,ru⟩:=r.get g1;obtain⟨v,hv,rv⟩:=r'.get g2;rw[e1]at hu;rw[e2]at hv;rw[tZ hu,tZ hv];exact wF ru rv (Zk.mp fx _ (ww g1)) (Zk.mp fy _ (ww g2))
theorem F3(hu:X.A.units<cLine):OpR X (rW .Eq) (EG X.K false):=by
 intro pins s σ H x y v u Q I rx ry h;obtain⟨p,p',xs,ys,rfl,rfl,hx,hy,fx,fy,q⟩:=h;cases (show v=yW p from rx);cases (show u=yW p' from ry);obtain⟨its,r,pl,hz⟩:=I.tuple hx;obtain⟨its',r',pl',hz'⟩:=I.tuple hy;refine SeqAt.eq_tupleAt pl pl' hu (fun j h1 h2=>pZ r r' fx fy j h1 h2) ⟨.bl _,H,I,rfl,?_⟩;rw[zH,zH,<- r.length,<- r'.length]
 simpa [G_] using q
theorem Hn(hu:X.A.units<cLine):OpR X (rW .NotEq) (EG X.K true):=by
 intro pins s σ H x y v u Q I rx ry h;obtain⟨p,p',xs,ys,rfl,rfl,hx,hy,fx,fy,q⟩:=h;cases (show v=yW p from rx);cases (show u=yW p' from ry);obtain⟨its,r,pl,hz⟩:=I.tuple hx;obtain⟨its',r',pl',hz'⟩:=I.tuple hy;refine SeqAt.RcNeAt.tuples pl pl' hu (fun j h1 h2=>pZ r r' fx fy j h1 h2) X.prog X.w X.xe _ ⟨.bl _,H,I,rfl,?_⟩;rw[zH,zH,<- r.length,<- r'.length]
 simpa [G_] using q
theorem Hf(hu:X.A.units<cLine):OpR X (rW .Eq) (fun x y H Q=>rEq x y H Q\/EG X.K false x y H Q):=IL.or (F3 hu)
theorem FF(hu:X.A.units<cLine):OpR X (rW .NotEq) (fun x y H Q=>rNe x y H Q\/EG X.K true x y H Q):=HW.or (Hn hu)
theorem zU:CallR X (.builtin "isinstance") (fun xs H Q=>(∃x c t u b,xs=[x,c]/\zC c u/\jI X.K H x t/\sV X.K t u=some b/\Q (.bl b) H) \/
 ∃e c C u b,xs=[.ref e,c]/\zC c u/\H e=some (gZ (.ref C) e)/\cL X.K C/\sV X.K (.ref C) u=some b/\Q (.bl b) H):=vo.or sQ
end
abbrev T(l:List Nat):V:=.str ⟨⟨l⟩⟩
def cs(x:Str):List Nat:=x.cps.toList
theorem D4(x:Str):V.str x=T (cs x):=rfl
section
variable{X:Cx}{e a b c:Expr}{pos:Pos}
theorem PE.imp(h:PE X e t)(i:∀σ H Q,t' σ H Q->t σ H Q):PE X e t':=fun pins s σ H Q I q=>h pins s σ H Q I (i σ H Q q)
theorem OpR.imp(h:OpR X f r)(i:∀x y H Q,r' x y H Q->r x y H Q):OpR X f r':=fun pins s σ H x y v u Q I rx ry q=>h pins s σ H x y v u Q I rx ry (i _ _ _ _ q)
theorem UnR.imp(h:UnR X f r)(i:∀x H Q,r' x H Q->r x H Q):UnR X f r':=fun pins s σ H x v Q I rx q=>h pins s σ H x v Q I rx (i _ _ _ q)
theorem CallR.imp(h:CallR X f r)(i:∀x H Q,r' x H Q->r x H Q):CallR X f r':=fun pins s σ H x v Q I rx q=>h pins s σ H x v Q I rx (i _ _ _ q)
theorem IxR.imp(h:IxR X r)(i:∀x y H Q,r' x y H Q->r x y H Q):IxR X r':=fun va sl pins s σ H x y v u Q I rx ry q hs=>h va sl pins s σ H x y v u Q I rx ry (i _ _ _ _ q) hs
def uC(i:Nat):TE:=fun σ H Q=>match σ[i]? with
 |some (some v)=>Q v H
 |_=>False
theorem fv(i:Nat)(hN:X.N[i]? = some x:=by rfl)(hv:Vis X.env.scope x:=by first|exact Or.inl rfl|exact Or.inr (Or.inl rfl)|exact Or.inr (Or.inr rfl))(hd:(x==("__debug__":Str))=false:=by decide)
 (hcd:(x==("__classdict__":Str))=false:=by decide):PE X (.Name x pos) (uC i):=(HD hN hv hd hcd).imp fun σ H Q h=>by
 unfold uC at h;split at h
 ·exact⟨_,by assumption,h⟩
 ·exact h.elim
theorem ak{j}(l:List Nat)(h:x=⟨⟨l⟩⟩:=by decide +kernel):PE X (.Constant (.str x) j pos) (tC (T l)):=h ▸ AS
def qN:R2
 | .int i,.int j,H,Q=>Q (.int (i+j)) H
 | .str i,.str j,H,Q=>(cs i).length+(cs j).length<=sizeLine/\Q (T (cs i++cs j)) H
 |_,_,_,_=>False
theorem Hi(i j:Str):V.str (i++j)=T (cs i++cs j):=by
 show V.str ⟨i.cps++j.cps⟩=V.str ⟨⟨i.cps.toList++j.cps.toList⟩⟩
 congr 1
 congr 1
 exact(Array.ext' (by simp))
theorem aE:OpR X (binaryOp .Add) qN:=(GA.or xw).imp fun x y H Q h=>by
 cases x with
 |int _=>
  cases y with
  |int _=>exact .inl ⟨_,_,rfl,rfl,h⟩
  |_=>exact(id h:False).elim
 |str _=>
  cases y with
  |str _=>
   refine .inr ⟨_,_,rfl,rfl,by simpa [cs,ZN] using h.1,?_⟩;rw[Hi];exact h.2
  |_=>exact(id h:False).elim
 |_=>exact(id h:False).elim
def gI(g:Int->Int->V):R2
 | .int i,.int j,H,Q=>Q (g i j) H
 |_,_,_,_=>False
def gIC(C:Int->Int->Prop)(g:Int->Int->V):R2
 | .int i,.int j,H,Q=>C i j/\Q (g i j) H
 |_,_,_,_=>False
theorem E2:∀x y H Q,gI g x y H Q->rI0 g x y H Q:=fun x y H Q h=>by
 cases x with
 |int _=>
  cases y with
  |int _=>exact⟨_,_,rfl,rfl,h⟩
  |_=>exact(id h:False).elim
 |_=>exact(id h:False).elim
theorem sL:∀x y H Q,gIC C g x y H Q->rI C g x y H Q:=fun x y H Q h=>by
 cases x with
 |int _=>
  cases y with
  |int _=>exact⟨_,_,rfl,rfl,h.1,h.2⟩
  |_=>exact(id h:False).elim
 |_=>exact(id h:False).elim
theorem cJ:OpR X (binaryOp .Sub) (gI fun i j=>.int (i-j)):=Gi.imp E2
theorem cW:OpR X (binaryOp .Mult) (gIC CMul fun i j=>.int (i*j)):=Hr.imp sL
theorem aW:OpR X (binaryOp .Mod) (gIC (fun _ j=>0<j) fun i j=>.int (i % j)):=G7.imp sL
theorem aX:OpR X (binaryOp .FloorDiv) (gIC FI fun i j=>.int (i / j)):=Dd.imp sL
theorem Ct:OpR X (binaryOp .Pow) (gIC GP fun i j=>.int (i ^ j.toNat)):=GT.imp sL
def Jj:V->Hp->VK->Prop
 | .int i,H,Q=>Q (.int (-i)) H
 |_,_,_=>False
theorem tM:UnR X (unaryOp .USub) Jj:=HA.imp fun x H Q h=>by
 cases x with
 |int _=>exact⟨_,rfl,h⟩
 |_=>exact(id h:False).elim
def leN(a b:List Nat):Bool:=!decide (b<a)
theorem za:OpR X (rW .LtE) (fun x y H Q=>∃i j,x = .str i/\y = .str j/\Q (.bl (leN (cs i) (cs j))) H):=by
 intro pins s σ H x y v u Q I rx ry h;obtain⟨i,j,rfl,rfl,q⟩:=h;obtain⟨t,rfl⟩:=rx;obtain⟨t',rfl⟩:=ry;exact PySem.P.le_str ⟨.bl _,H,I,rfl,q⟩
def gLe:R2
 | .int i,.int j,H,Q=>Q (.bl (decide (i<=j))) H
 | .str i,.str j,H,Q=>Q (.bl (leN (cs i) (cs j))) H
 |_,_,_,_=>False
theorem d4:OpR X (rW .LtE) gLe:=(IQ.or za).imp fun x y H Q h=>by
 cases x with
 |int _=>
  cases y with
  |int _=>exact .inl ⟨_,_,rfl,rfl,h⟩
  |_=>exact(id h:False).elim
 |str _=>
  cases y with
  |str _=>exact .inr ⟨_,_,rfl,rfl,h⟩
  |_=>exact(id h:False).elim
 |_=>exact(id h:False).elim
def gLt:R2
 | .int i,.int j,H,Q=>Q (.bl (decide (i<j))) H
 | .str i,.str j,H,Q=>Q (.bl (decide (cs i<cs j))) H
 |_,_,_,_=>False
theorem rj:OpR X (rW .Lt) gLt:=(Ih.or y_).imp fun x y H Q h=>by
 cases x with
 |int _=>
  cases y with
  |int _=>exact .inl ⟨_,_,rfl,rfl,h⟩
  |_=>exact(id h:False).elim
 |str _=>
  cases y with
  |str _=>exact .inr ⟨_,_,rfl,rfl,h⟩
  |_=>exact(id h:False).elim
 |_=>exact(id h:False).elim
theorem kq:OpR X (rW .Gt) (gI fun i j=>.bl (decide (j<i))):=Iw.imp E2
def eqS:V->V->Option Bool
 | .int i,.int j=>some (decide (i=j))
 | .bl i,.bl j=>some (decide (i=j))
 | .str i,.str j=>some (decide (cs i=cs j))
 | .non,.non=>some true
 | .non,.int _=>some false | .int _,.non=>some false | .non,.bl _=>some false | .bl _,.non=>some false | .non,.str _=>some false | .str _,.non=>some false
 | .int _,.str _=>some false | .str _,.int _=>some false | .bl _,.str _=>some false | .str _,.bl _=>some false
 |_,_=>none
theorem xp(i j:Str):V.str i=V.str j↔cs i=cs j:=by
 constructor
 ·intro h;injection h with h;rw[h]
 ·intro h
  congr 1
  obtain⟨⟨a⟩⟩:=i;obtain⟨⟨b⟩⟩:=j;have h':a=b:=h;rw[h']
theorem vC(h:eqS x y=some k):Fu x y=true/\decide (x=y)=k:=by
 cases x with
 |int i=>
  cases y with
  |int j=>cases h;exact⟨rfl,decide_eq_decide.mpr (by simp)⟩
  |non=>cases h;exact⟨rfl,rfl⟩
  |str j=>cases h;exact⟨rfl,rfl⟩
  |_=>cases h
 |bl i=>
  cases y with
  |bl j=>cases h;exact⟨rfl,decide_eq_decide.mpr (by simp)⟩
  |non=>cases h;exact⟨rfl,rfl⟩
  |str j=>cases h;exact⟨rfl,rfl⟩
  |_=>cases h
 |str i=>
  cases y with
  |str j=>cases h;exact⟨rfl,decide_eq_decide.mpr (xp i j)⟩
  |non=>cases h;exact⟨rfl,rfl⟩
  |int j=>cases h;exact⟨rfl,rfl⟩
  |bl j=>cases h;exact⟨rfl,rfl⟩
  |_=>cases h
 |non=>
  cases y with
  |non=>cases h;exact⟨rfl,rfl⟩
  |int j=>cases h;exact⟨rfl,rfl⟩
  |bl j=>cases h;exact⟨rfl,rfl⟩
  |str j=>cases h;exact⟨rfl,rfl⟩
  |_=>cases h
 |_=>cases h
variable{ta tb tc:TE}{rest:List Expr}
def kB(Q:Bool->Hp->Prop):VK:=fun x H=>match x with
 | .bl k=>Q k H
 |_=>False
def oR(t:TE):TT:=fun σ H Q=>t σ H (kB Q)
theorem lG(h:kB Q x H):∃k,x = .bl k/\Q k H:=by
 cases x with
 |bl _=>exact⟨_,rfl,h⟩
 |_=>exact(id h:False).elim
theorem jP(ho:OpR X (rW op) r)(ha:PE X a ta)(hb:PE X b tb)(hm:Z7 op b=false):PT X (.Compare a [op] [b] pos) (oR (tOp r ta tb)):=by
 intro pins s σ H Q I h;refine wpAny_isTrue_Compare1 (thn (ha pins s σ H _ I h) fun v s1 ⟨x,H1,I1,r1,q1⟩=>thn (hb pins s1 σ H1 _ I1 q1) fun u s2 ⟨y,H2,I2,r2,q2⟩=>
  thn (ho pins s2 σ H2 x y v u _ I2 r1 r2 q2) fun c s3 ⟨z,H3,I3,r3,q3⟩=>?_) hm
 obtain⟨k,e,q3⟩:=lG q3;subst e;cases r3;exact Zr ⟨H3,I3,q3⟩
theorem dX(h:PC X op a b t)(h1:Z7 op b=false:=by first|exact vk _ (by decide) (by decide)|rfl):PT X (.Compare a [op] [b] pos) (oR t):=by
 intro pins s σ H Q I hw;refine wpAny_isTrue_Compare1 (thn (h pins s σ H _ I hw) fun v s1 h1=>thn h1 fun u s2 h2=>thn h2 fun c s3 hq_=>?_) h1;obtain⟨x,H1,I1,r1,q1⟩:=hq_;obtain⟨d,rfl,q⟩:=lG q1;cases r1;exact Zr ⟨H1,I1,q⟩
theorem bL(h:PE X e t)(he:∀whole,isTrue e X.env whole=(do let v <- whole;standAt e.pos;holding [v] (truthy v)):=by intro _;rfl):PT X e (oR t):=by
 intro pins s σ H Q I hw;refine isTrue_plain (thn (h pins s σ H _ I hw) fun v s1 hq_=>?_) (he _);obtain⟨x,H1,I1,r1,q1⟩:=hq_;obtain⟨d,rfl,q⟩:=lG q1;cases r1;exact Zr ⟨H1,I1,q⟩
def wo(r r':R2)(ta tb tc:TE):TE:=fun σ H Q=>ta σ H fun x H1=>tb σ H1 fun y H2=>r x y H2 (kB fun k H3=>if k=true then tc σ H3 fun w' H4=>r' y w' H4 Q else Q (.bl false) H3)
theorem kg(ho:OpR X (rW op) r)(ho':OpR X (rW op') r')(ha:PE X a ta)(hb:PE X b tb)(hc:PE X c tc)
 (hm:lastMarks [op,op'] [b,c]=false:=by with_unfolding_all rfl):PE X (.Compare a [op,op'] [b,c] pos) (wo r r' ta tb tc):=by
 intro pins s σ H Q I h;refine Compare_chain (thn (ha pins s σ H _ I h) fun v s1 ⟨x,H1,I1,r1,q1⟩=>chain_link (thn (hb pins s1 σ H1 _ I1 q1) fun u s2 ⟨y,H2,I2,r2,q2⟩=>
  thn (ho pins s2 σ H2 x y v u _ I2 r1 r2 q2) fun d s3 ⟨z,H3,I3,r3,q3⟩=>?_)) hm
 obtain⟨k,e,q3⟩:=lG q3;subst e;cases r3;refine Zr ?_;cases k with
 |false=>exact ite_ff ⟨.bl false,H3,I3,rfl,q3⟩
 |true=>exact ite_tt (chain_last (thn (hc pins s3 σ H3 _ I3 q3) fun w' s4 hq_=>(by obtain⟨z',H4,I4,r4,q4⟩:=hq_;exact ho' pins s4 σ H4 y z' u w' Q I4 r2 r4 q4)))
theorem BX(ho:OpR X (rW op) r)(ho':OpR X (rW op') r')(ha:PE X a ta)(hb:PE X b tb)(hc:PE X c tc)
 (hm:lastMarks [op,op'] [b,c]=false:=by with_unfolding_all rfl):PT X (.Compare a [op,op'] [b,c] pos) (oR (wo r r' ta tb tc)):=by
 intro pins s σ H Q I h;refine isTrue_chain (thn (ha pins s σ H _ I h) fun v s1 ⟨x,H1,I1,r1,q1⟩=>test_link (thn (hb pins s1 σ H1 _ I1 q1) fun u s2 ⟨y,H2,I2,r2,q2⟩=>
  thn (ho pins s2 σ H2 x y v u _ I2 r1 r2 q2) fun d s3 ⟨z,H3,I3,r3,q3⟩=>?_)) hm
 obtain⟨k,e,q3⟩:=lG q3;subst e;cases r3;refine Zr ?_;cases k with
 |false=>exact ite_ff ⟨H3,I3,q3⟩
 |true=>
  refine ite_tt (test_last (thn (hc pins s3 σ H3 _ I3 q3) fun w' s4 ⟨z',H4,I4,r4,q4⟩=>thn (ho' pins s4 σ H4 y z' u w' _ I4 r2 r4 q4) fun d' s5 hq_=>?_));obtain⟨z2,H5,I5,r5,q5⟩:=hq_;obtain⟨k2,e2,q5⟩:=lG q5;subst e2;cases r5;exact Zr ⟨H5,I5,q5⟩
def Jv(ta tb:TE):TE:=fun σ H Q=>ta σ H (kB fun c H1=>if c=true then tb σ H1 Q else Q (.bl false) H1)
def fOr(ta tb:TE):TE:=fun σ H Q=>ta σ H (kB fun c H1=>if c=true then Q (.bl true) H1 else tb σ H1 Q)
def Jd(ta:TE):TE:=fun σ H Q=>ta σ H (kB fun c H1=>Q (.bl (!c)) H1)
theorem cj(ha:PE X a ta)(hb:PE X (.BoolOp .And (b::rest) pos) tb):PE X (.BoolOp .And (a::b::rest) pos) (Jv ta tb):=by
 intro pins s σ H Q I h;refine BoolOp_and (thn (ha pins s σ H _ I h) fun v s1 hq_=>?_);obtain⟨x,H1,I1,r1,q1⟩:=hq_;obtain⟨c,rfl,q1⟩:=lG q1;cases r1;refine Zr ?_;cases c with
 |true=>exact hb pins s1 σ H1 Q I1 q1
 |false=>exact⟨.bl false,H1,I1,rfl,q1⟩
theorem Bf(ha:PE X a ta)(hb:PE X (.BoolOp .Or (b::rest) pos) tb):PE X (.BoolOp .Or (a::b::rest) pos) (fOr ta tb):=by
 intro pins s σ H Q I h;refine BoolOp_or (thn (ha pins s σ H _ I h) fun v s1 hq_=>?_);obtain⟨x,H1,I1,r1,q1⟩:=hq_;obtain⟨c,rfl,q1⟩:=lG q1;cases r1;refine Zr ?_;cases c with
 |false=>exact hb pins s1 σ H1 Q I1 q1
 |true=>exact⟨.bl true,H1,I1,rfl,q1⟩
theorem C0(ha:PE X a ta):PE X (.UnaryOp .Not a pos) (Jd ta):=by
 intro pins s σ H Q I h;refine UnaryOp_ (thn (ha pins s σ H _ I h) fun v s1 hq_=>?_);obtain⟨x,H1,I1,r1,q1⟩:=hq_;obtain⟨c,rfl,q1⟩:=lG q1;cases r1;exact not_of (Zr ⟨.bl (!c),H1,I1,rfl,q1⟩)
def JL:List V->Hp->VK->Prop
 | [.int i],H,Q=>Q (.int (if i<0 then -i else i)) H
 |_,_,_=>False
def HG:List V->Hp->VK->Prop
 | [.int i,.int j],H,Q=>Q (.int (if j<i then j else i)) H
 |_,_,_=>False
theorem GX(hc:X.calm=true):CallR X (.builtin "min") HG:=(y8 hc).imp fun x H Q h=>by
 rcases x with _|⟨i,x⟩
 ·exact(id h:False).elim
 cases i with
 |int i=>
  rcases x with _|⟨j,x⟩
  ·exact(id h:False).elim
  cases j with
  |int j=>
   cases x with
   |nil=>exact⟨_,_,rfl,h⟩
   |cons=>exact(id h:False).elim
  |_=>exact(id h:False).elim
 |_=>exact(id h:False).elim
def Jx:List V->Hp->VK->Prop
 | [.int i,.int j],H,Q=>Q (.int (if j > i then j else i)) H
 |_,_,_=>False
theorem o7(hc:X.calm=true):CallR X (.builtin "max") Jx:=(zt hc).imp fun x H Q h=>by
 rcases x with _|⟨i,x⟩
 ·exact(id h:False).elim
 cases i with
 |int i=>
  rcases x with _|⟨j,x⟩
  ·exact(id h:False).elim
  cases j with
  |int j=>
   cases x with
   |nil=>exact⟨_,_,rfl,h⟩
   |cons=>exact(id h:False).elim
  |_=>exact(id h:False).elim
 |_=>exact(id h:False).elim
def FH(K:W.Frag):List V->Hp->VK->Prop
 | [.str y],H,Q=>(cs y).length<=sizeLine/\Q (.int (cs y).length) H
 | [.ref p],H,Q=>∃xs,(SqL K H p xs\/SqT K H p xs)/\Q (.int xs.length) H
 |_,_,_=>False
theorem Ga:CallR X (.builtin "len") (FH X.K):=Ca.imp fun x H Q h=>by
 rcases x with _|⟨i,x⟩
 ·exact(id h:False).elim
 cases i with
 |str y=>
  cases x with
  |nil=>exact⟨_,_,rfl,⟨by simpa [cs,ZN] using h.1,rfl⟩,by simpa [cs,ZN] using h.2⟩
  |cons=>exact(id h:False).elim
 |ref p=>
  cases x with
  |nil=>
   obtain⟨xs,hx,q⟩:=h;rcases hx with hx|hx
   ·exact⟨_,_,rfl,.inl ⟨xs,hx,rfl⟩,q⟩
   ·exact⟨_,_,rfl,.inr ⟨xs,hx,rfl⟩,q⟩
  |cons=>exact(id h:False).elim
 |_=>exact(id h:False).elim
def cP(H:Hp):V->Option String
 | .non=>some "NoneType"
 | .bl _=>some "bool"
 | .int _=>some "int"
 | .str _=>some "str"
 | .ref p=>match H p with
  |some (.lst _)=>some "list"
  |some (.frz _ (.lst _))=>some "list"
  |some (.tup _)=>some "tuple"
  |some (.dK _)=>some "dict"
  |_=>none
 |_=>none
def bZ(t n:String):Bool:=t==n || (t == "bool" && n == "int")
def iu(t:String):Prop:=t = "NoneType" \/ t = "bool" \/ t = "int" \/ t = "str" \/ t = "list" \/ t = "tuple" \/ t = "dict"
theorem HQ{K:W.Frag}{t n:String}(h:iu t)(hn:n = "int" \/ n = "bool" \/ n = "str" \/ n = "list" \/ n = "tuple" \/ n = "dict"):sV K (.type t) (.type n)=some (bZ t n):=by
 rcases h with rfl|rfl|rfl|rfl|rfl|rfl|rfl <;> rcases hn with rfl|rfl|rfl|rfl|rfl|rfl <;> kernel_rfl
theorem vV{K:W.Frag}{H:Hp}{x:V}{t:String}(h:cP H x=some t):jI K H x (.type t)/\iu t:=by
 unfold cP at h;split at h
 ·cases h;exact⟨.non,by simp[iu]⟩
 ·cases h;exact⟨.bl _,by simp[iu]⟩
 ·cases h;exact⟨.int _,by simp[iu]⟩
 ·cases h;exact⟨.str _,by simp[iu]⟩
 ·split at h
  ·rename_i e;cases h;exact⟨.lst e,by simp[iu]⟩
  ·rename_i e;cases h;exact⟨.frz e,by simp[iu]⟩
  ·rename_i e;cases h;exact⟨.tup e,by simp[iu]⟩
  ·rename_i e;cases h;exact⟨.dK e,by simp[iu]⟩
  ·cases h
 ·cases h
def wa(n:String):Bool:=n == "int" || n == "bool" || n == "str" || n == "list" || n == "tuple" || n == "dict"
def BU(K:W.Frag):List V->Hp->VK->Prop
 | [x,.ty n],H,Q=>(match cP H x with
  |some t=>wa n=true/\Q (.bl (bZ t n)) H
  |none=>∃e C b,x = .ref e/\H e=some (gZ (.ref C) e)/\cL K C/\sV K (.ref C) (.type n)=some b/\Q (.bl b) H)
 | [.ref e,.ref D],H,Q=>∃C b,H e=some (gZ (.ref C) e)/\cL K C/\sV K (.ref C) (.ref D)=some b/\Q (.bl b) H
 |_,_,_=>False
theorem FU:CallR X (.builtin "isinstance") (BU X.K):=zU.imp fun xs H Q h=>by
 unfold BU at h;split at h
 ·rename_i x n
  split at h
  ·rename_i t ht
   obtain⟨ty,hb⟩:=vV (K:=X.K) ht;obtain⟨hn,q⟩:=h;refine .inl ⟨x,_,_,_,_,rfl,.ty n,ty,HQ hb ?_,q⟩
   simpa [wa,or_assoc] using hn
  ·obtain⟨e,C,b,rfl,he,Z,k,q⟩:=h
   exact .inr ⟨e,_,C,_,b,rfl,.ty n,he,Z,k,q⟩
 ·rename_i e D
  obtain⟨C,b,he,Z,k,q⟩:=h;exact .inr ⟨e,_,C,_,b,rfl,.own D,he,Z,k,q⟩
 ·exact h.elim
end
section
variable{X:Cx}{a b:Expr}{ta tb:TE}{pos pos':Pos}
def gIx(K:W.Frag):R2
 | .str z,.int i,H,Q=>(cs z).length<=sizeLine/\(match atI (cs z) i with
  |some c=>Q (T [c]) H
  |none=>False)
 | .ref p,.int i,H,Q=>∃xs v,(SqL K H p xs\/SqT K H p xs)/\atI xs i=some v/\Q v H
 |_,_,_,_=>False
theorem Hy:IxR X (gIx X.K):=GB.imp fun x y H Q h=>by
 unfold gIx at h;split at h
 ·obtain⟨hz,h⟩:=h
  split at h
  ·rename_i c hc
   exact .inr (.inr ⟨_,_,c,rfl,rfl,by simpa [cs,ZN] using hz,hc,h⟩)
  ·exact h.elim
 ·obtain⟨xs,v,hs|hs,hv,q⟩:=h
  ·exact .inl ⟨_,xs,_,v,rfl,rfl,hs,hv,q⟩
  ·exact .inr (.inl ⟨_,xs,_,v,rfl,rfl,hs,hv,q⟩)
 ·exact h.elim
def fH(xs:List V)(H H1:Hp)(Q:VK):V->Prop
 | .int i=>(match atI xs i with
  |some (.ref q)=>H q=none/\(match H1 q with
   |some o=>iE o=true/\Q (.ref q) (upd H q o)
   |none=>False)
  |some v=>Q v H
  |none=>False)
 |_=>False
def BL(ta:TA)(ti:TE):TE:=fun σ H Q=>NoT H/\ta σ H fun xs H1=>Same H H1/\xs.length<=sizeLine/\∀p,H1 p=none->ti σ (upd H1 p (.lst xs)) fun y H2=>H2=upd H1 p (.lst xs)/\fH xs H H1 Q y
theorem Ao(s:Same H H1)(hp:H1 p=none)(h:fH xs H H1 Q y):∃i v G,y = .int i/\atI xs i=some v/\Gc H G (upd H1 p o)/\Q v G:=by
 unfold fH at h;have s2:Same H (upd H1 p o):=s.trans (ah o hp);split at h
 ·rename_i i
  split at h
  ·rename_i q hq
   obtain⟨hn,h⟩:=h;split at h
   ·rename_i o' ho'
    exact⟨i,_,_,rfl,hq,Gc.one s2 hn (by rw[ag (az ho' hp)];exact ho') h.1,h.2⟩
   ·exact h.elim
  ·rename_i v _ hv
   exact⟨i,v,H,rfl,hv,Gc.none s2,h⟩
  ·exact h.elim
 ·exact h.elim
theorem d6(ha:PA X es t)(hb:PE X b tb)(hs:tE b):PE X (.Subscript (.List es pos') b pos) (BL t tb):=by
 intro pins s σ H Q I h;obtain⟨n,h⟩:=h;refine Subscript_ (wpAny_List_spliced (thn (ha pos' pins s σ H _ I h) fun us s1 ⟨xs,H1,I1,r,sm,z,q⟩=>⟨by rw[<- r.length];exact z,?_⟩));have hf:H1 s1.heap.objs.size=none:=I1.hok.fresh (zL _);refine thn (hb pins _ σ (upd H1 s1.heap.objs.size (.lst xs)) _ (I1.laid (t':=s1.toks) (fun b u e=>Heap.get?_push_of_some _ e) (zL _) ⟨z,us,0,r,Heap.get?_push_size _ rfl⟩) (q _ hf)) fun u s3 ⟨y,H3,I3,ry,e,k⟩=>?_;subst e;obtain⟨i,v,G,rfl,hv,g,hq⟩:=Ao (o:=.lst xs) sm hf k;exact thn (yN (.List es pos') b pins s3 σ _ (.ref _) (.int i) _ u (fun v' H'=>v'=v/\H'=upd H1 s1.heap.objs.size (.lst xs)) I3 rfl ry ⟨_,xs,i,v,rfl,rfl,SqL.of ad,hv,rfl,rfl⟩ (hs _ _))
  fun u' s4 hq_=>(by obtain⟨v',H4,I4,r4,e1,e2⟩:=hq_;exact⟨v,G,I.gc n (e2 ▸ I4) g,e1 ▸ r4,hq⟩)
end
def sp0(f:Hp->VK->XK->Prop):Sp:=fun vs H Q E=>match vs with
 | []=>f H Q E
 |_=>False
def sp1(f:V->Hp->VK->XK->Prop):Sp:=fun vs H Q E=>match vs with
 | [x]=>f x H Q E
 |_=>False
def sp2(f:V->V->Hp->VK->XK->Prop):Sp:=fun vs H Q E=>match vs with
 | [x,y]=>f x y H Q E
 |_=>False
def sp3(f:V->V->V->Hp->VK->XK->Prop):Sp:=fun vs H Q E=>match vs with
 | [x,y,z]=>f x y z H Q E
 |_=>False
def sp4(f:V->V->V->V->Hp->VK->XK->Prop):Sp:=fun vs H Q E=>match vs with
 | [x,y,z,u]=>f x y z u H Q E
 |_=>False
section
variable{vs:List V}{H:Hp}{Q:VK}{E:XK}
theorem sp1.inv{f}(h:sp1 f vs H Q E):∃x,vs=[x]/\f x H Q E:=by
 rcases vs with _|⟨x,_|⟨w,r⟩⟩
 rotate_left 1
 ·exact⟨_,rfl,h⟩
 all_goals exact(id h:False).elim
theorem sp2.inv{f}(h:sp2 f vs H Q E):∃x y,vs=[x,y]/\f x y H Q E:=by
 rcases vs with _|⟨x,_|⟨y,_|⟨w,r⟩⟩⟩
 rotate_left 2
 ·exact⟨_,_,rfl,h⟩
 all_goals exact(id h:False).elim
theorem sp3.inv{f}(h:sp3 f vs H Q E):∃x y z,vs=[x,y,z]/\f x y z H Q E:=by
 rcases vs with _|⟨x,_|⟨y,_|⟨z,_|⟨w,r⟩⟩⟩⟩
 rotate_left 3
 ·exact⟨_,_,_,rfl,h⟩
 all_goals exact(id h:False).elim
theorem sp4.inv{f}(h:sp4 f vs H Q E):∃x y z u,vs=[x,y,z,u]/\f x y z u H Q E:=by
 rcases vs with _|⟨x,_|⟨y,_|⟨z,_|⟨u,_|⟨w,r⟩⟩⟩⟩⟩
 rotate_left 4
 ·exact⟨_,_,_,_,rfl,h⟩
 all_goals exact(id h:False).elim
theorem sp1.len{f}(h:sp1 f vs H Q E):vs.length=1:=by obtain⟨_,rfl,_⟩:=sp1.inv h;rfl
theorem sp2.len{f}(h:sp2 f vs H Q E):vs.length=2:=by obtain⟨_,_,rfl,_⟩:=sp2.inv h;rfl
theorem sp3.len{f}(h:sp3 f vs H Q E):vs.length=3:=by obtain⟨_,_,_,rfl,_⟩:=sp3.inv h;rfl
theorem sp4.len{f}(h:sp4 f vs H Q E):vs.length=4:=by obtain⟨_,_,_,_,rfl,_⟩:=sp4.inv h;rfl
end
def asI(x:V)(f:Int->Prop):Prop:=match x with
 | .int i=>f i
 |_=>False
def asT(x:V)(f:List Nat->Prop):Prop:=match x with
 | .str y=>f (cs y)
 |_=>False
def asB(x:V)(f:Bool->Prop):Prop:=match x with
 | .bl y=>f y
 |_=>False
def asR(x:V)(f:Addr->Prop):Prop:=match x with
 | .ref y=>f y
 |_=>False
theorem asI.inv(h:asI x f):∃i,x = .int i/\f i:=by
 cases x with
 |int _=>exact⟨_,rfl,h⟩
 |_=>exact(id h:False).elim
theorem asT.inv(h:asT x f):∃l,x=T l/\f l:=by
 unfold asT at h;split at h
 ·exact⟨_,rfl,h⟩
 ·exact h.elim
theorem asR.inv(h:asR x f):∃i,x = .ref i/\f i:=by
 cases x with
 |ref _=>exact⟨_,rfl,h⟩
 |_=>exact(id h:False).elim
def asK(H:Hp)(x:V)(f:String->Prop):Prop:=match cP H x with
 |some t=>f t
 |none=>False
theorem asK.inv{H:Hp}{x:V}{f:String->Prop}(h:asK H x f):∃t,cP H x=some t/\iu t/\f t:=by
 unfold asK at h;split at h
 ·rename_i t ht
  exact⟨t,ht,(vV (K:=default) ht).2,h⟩
 ·exact h.elim
theorem asK.of(e:cP H x=some t)(h:f t):asK H x f:=by unfold asK;rw[e];exact h
theorem GJ{ns:List Int}{k:Int}(h0:0<=k)(h1:k<ns.length):atI (ns.map V.int) k=some (.int (ns.getD k.toNat 0)):=by
 obtain⟨j,rfl⟩:∃j:Nat,k=j:=⟨k.toNat,by lia⟩;refine av ?_;have l:j<ns.length:=by lia
 simp[Y3,l]
theorem zV{ns:List Int}{i:Int}(h0:0<=i)(h1:i<ns.length)(q:Q (.int (ns.getD i.toNat 0)) H):fH (ns.map V.int) H H1 Q (.int i):=by
 unfold fH;simp only[GJ h0 h1];exact q
section
variable{X:Cx}(K:W.Frag)
theorem bU(h:X.K=K:=by rfl):CallR X (.builtin "isinstance") (BU K):=h ▸ FU
theorem bQ(h:X.K=K:=by rfl):CallR X (.builtin "len") (FH K):=h ▸ Ga
theorem D5(h:X.K=K:=by rfl):IxR X (gIx K):=h ▸ Hy
theorem Ec(h:X.K=K:=by rfl):SlR X (Jc K):=h ▸ GY
theorem iV(hl:PE X l tl)(h:X.K=K:=by rfl):PI X tg l (zD K tl):=h ▸ Gz hl
theorem bM(hl:PE X l tl)(h:X.K=K:=by rfl):PI X tg l (oP K tl):=h ▸ DB hl
end
theorem II:cP H (.bl b)=some "bool":=rfl
theorem Gq:cP H (.int i)=some "int":=rfl
theorem Gj:cP H (.str s)=some "str":=rfl
theorem Fs:cP H .non=some "NoneType":=rfl
theorem Gg:wa "int" = true:=by decide
theorem n8:bZ "NoneType" "int" = false:=by decide
theorem vx:bZ "bool" "int" = true:=by decide
theorem xA:bZ "int" "int" = true:=by decide
theorem wx:bZ "str" "int" = false:=by decide
theorem uH:bZ "list" "int" = false:=by decide
theorem tK:bZ "tuple" "int" = false:=by decide
theorem vZ:bZ "dict" "int" = false:=by decide
theorem EJ:wa "bool" = true:=by decide
theorem mM:bZ "NoneType" "bool" = false:=by decide
theorem su:bZ "bool" "bool" = true:=by decide
theorem vc:bZ "int" "bool" = false:=by decide
theorem uq:bZ "str" "bool" = false:=by decide
theorem rT:bZ "list" "bool" = false:=by decide
theorem qB:bZ "tuple" "bool" = false:=by decide
theorem r8:bZ "dict" "bool" = false:=by decide
theorem Gy:wa "str" = true:=by decide
theorem oh:bZ "NoneType" "str" = false:=by decide
theorem uh:bZ "bool" "str" = false:=by decide
theorem xy:bZ "int" "str" = false:=by decide
theorem xC:bZ "str" "str" = true:=by decide
theorem vT:bZ "list" "str" = false:=by decide
theorem tw:bZ "tuple" "str" = false:=by decide
theorem uK:bZ "dict" "str" = false:=by decide
theorem DG:wa "list" = true:=by decide
theorem mh:bZ "NoneType" "list" = false:=by decide
theorem tO:bZ "bool" "list" = false:=by decide
theorem uw:bZ "int" "list" = false:=by decide
theorem uo:bZ "str" "list" = false:=by decide
theorem sx:bZ "list" "list" = true:=by decide
theorem qA:bZ "tuple" "list" = false:=by decide
theorem tm:bZ "dict" "list" = false:=by decide
theorem CW:wa "tuple" = true:=by decide
theorem j9:bZ "NoneType" "tuple" = false:=by decide
theorem qI:bZ "bool" "tuple" = false:=by decide
theorem sj:bZ "int" "tuple" = false:=by decide
theorem rZ:bZ "str" "tuple" = false:=by decide
theorem qw:bZ "list" "tuple" = false:=by decide
theorem oN:bZ "tuple" "tuple" = true:=by decide
theorem qr:bZ "dict" "tuple" = false:=by decide
theorem DU:wa "dict" = true:=by decide
theorem mE:bZ "NoneType" "dict" = false:=by decide
theorem sN:bZ "bool" "dict" = false:=by decide
theorem uO:bZ "int" "dict" = false:=by decide
theorem vF:bZ "str" "dict" = false:=by decide
theorem s_:bZ "list" "dict" = false:=by decide
theorem qK:bZ "tuple" "dict" = false:=by decide
theorem sf:bZ "dict" "dict" = true:=by decide
theorem Je:asK H (.bl b) f=f "bool":=rfl
theorem GL:asK H (.int i) f=f "int":=rfl
theorem Go:asK H (.str i) f=f "str":=rfl
theorem HB:asK H .non f=f "NoneType":=rfl
def bW:Expr->Bool
 | .Starred _ _=>false
 |_=>true
theorem Ad(h:bW e=true):starEach (e::es) env=(false,eval e env)::starEach es env:=by
 cases e <;> first|rfl|cases h
structure FA(X:Cx)(es:List Expr)(t:TA):Prop where
 pa:PA X es t
theorem ce:FA X [] h8:=⟨GU⟩
theorem bc(ha:PE X e te)(hr:FA X es t)(h:bW e=true:=by rfl):FA X (e::es) (cc te t):=⟨DY ha hr.pa (Ad h)⟩
theorem Ei{H:Hp}{P:Hp->Prop}:(∃G,Gc H G H/\P G)↔P H:=by
 constructor
 ·rintro⟨G,g,p⟩
  have e:G=H:=by
   funext b;cases h:H b with
   |none=>exact g.b.free h
   |some o=>exact g.a b o h
  rw[<- e];exact p
 ·exact fun p=>⟨H,Gc.refl,p⟩
theorem JT{CX:CXT}{P:Program}{w:World}{K:W.Frag}{mg:Str->Option Value}{base:Heap}{N:List Str}{qual:Str}{scope:Scope}{f:Addr}{cd:Value}{A:Around}{outer:List Env}{s:Shared}{H:Hp}{E:XK} :
 (bV CX P w K mg base N qual scope f cd A outer s H E).K=K:=rfl
def isI:V->Bool
 | .int _=>true
 |_=>false
def isS:V->Bool
 | .str _=>true
 |_=>false
theorem uU(h:cP H x=some t):(t == "int")=isI x:=by
 unfold cP at h;split at h
 case h_5=>split at h <;> cases h <;> simp[isI]
 all_goals (cases h <;> simp[isI])
theorem uB(h:cP H x=some t):(t == "str")=isS x:=by
 unfold cP at h;split at h
 case h_5=>split at h <;> cases h <;> simp[isS]
 all_goals (cases h <;> simp[isS])
theorem zT:Same H H↔True:=⟨fun _=>trivial,fun _=>Same.refl H⟩
theorem aq(hN:NoT H)(d:gN o=true):NoT (upd H p o):=hN.upd d
theorem C7:isI (.int i)=true:=rfl
theorem GG:isI (.bl i)=false:=rfl
theorem DR:isI (.str i)=false:=rfl
theorem Da:isI (.ref i)=false:=rfl
theorem DL  : isI (.non)=false:=rfl
theorem C_:isS (.int i)=false:=rfl
theorem FY:isS (.bl i)=false:=rfl
theorem El:isS (.str i)=true:=rfl
theorem Di:isS (.ref i)=false:=rfl
theorem EK  : isS (.non)=false:=rfl
theorem AU(h:yT H):NoT H:=fun b o e=>by
 rcases h b with z|⟨ob,xs,z⟩
 ·rw[e]at z;cases z
 ·rw[e]at z;cases z;rfl
def gcE(H:Hp)(E:XK):XK:=fun C d H'=>∃G,Gc H G H'/\E C d G
theorem Fun.okG{P:Program}{w:World}{K:W.Frag}{mg:Str->Option Value}{base:Heap}{x qual:Str}{st:Stmt}{f:Addr}{fd:FuncData}{N ps:List Str}{k:Nat}{sp:Sp}(F:Fun K x qual st f fd)(S:bp N ps (au st))
 (len:∀vs H Q E,sp vs H Q E->vs.length=ps.length)
 (hbody:∀(cdv:Value) (A:Around) (outer:List Env) (s:Shared) (H:Hp) (vs:List V) (Q:VK) (E:XK),Room k (A.deeper (envOfC qual (au st) s.heap.objs.size f cdv))->sp vs H Q E ->
  NoT H/\∃t,PSs (bV (XE P w) P w K mg base N qual (au st) f cdv A outer s H (gcE H E)) (aZ st) t/\t { nx:=fun _ H'=>∃G,Gc H G H'/\Q .non G,rt:=fun v H'=>∃G,Gc H G H'/\Q v G } (cS N vs) H):h_ P w K mg base (XE P w) (k+1) f fd ps sp:=by
 have F':h_ P w K mg base (XE P w) (k+1) f fd ps (fun vs H Q' E'=>∃Q E,sp vs H Q E/\Q'=(fun v H'=>∃G,Gc H G H'/\Q v G)/\E'=gcE H E):=by
  refine F.okX S (fun vs H Q' E' hq_=>(by obtain⟨Q,E,h,_⟩:=hq_;exact len vs H Q E h)) (fun cdv A outer s H vs Q' E' hr h=>?_);obtain⟨Q,E,h,rfl,rfl⟩:=h;exact(hbody cdv A outer s H vs Q E hr h).2
 refine⟨len,fun A outer s H args us vs Q E hr e0 hb r hsp=>?_⟩;have nT:NoT H:=by
  obtain⟨oc,od,kV,doc,pm,an,cdv,ct,osl,rfl,lk,hcd⟩:=F.ex;exact(hbody cdv A outer s H vs Q E (hr.deeper _) hsp).1
 refine YJ (F'.run A outer s H args us vs _ _ hr e0 hb r ⟨Q,E,hsp,rfl,rfl⟩) fun res s' h=>?_;cases res with
 |error e=>
  obtain⟨ea,C,rs,H',h1,h2,h3,un,hok,hrs,fly,G,g,q⟩:=h;exact⟨ea,C,rs,G,h1,h2,h3,un.gc g,HOk.gc nT e0.hok hok g,fun b hb=>⟨(hrs b hb).1,g.b.free (hrs b hb).2⟩,fly,q⟩
 |ok fl=>
  cases fl with
  |ret u=>
   obtain⟨v,H',h1,h2,un,hok,rv,G,g,q⟩:=h;exact⟨v,G,h1,h2,un.gc g,HOk.gc nT e0.hok hok g,rv,q⟩
  |next=>exact h
  |brk=>exact h
  |cont=>exact h
section
variable{K:W.Frag}{C D:Addr}{b:Bool}{cl:ClassData}
theorem rf(o:PySem.W.clsIn K D=some cl)(t:PySem.W.typeIn K (.ref D)=some (.type "type"))(m:Z8 K C (.ref D)=some b):PySem.W.kitCls K (.ref C) (.ref D)=some b:=by
 unfold PySem.W.kitCls;simp only[o,t,Option.isSome_some,beq_self_eq_true,Bool.and_self,if_true];exact m
theorem yU(o:PySem.W.clsIn K D=some cl)(t:PySem.W.typeIn K (.ref D)=some (.type "type"))(s:Z8 K D (.type "BaseException")=some true)(m:Z8 K C (.ref D)=some b):ZZ K (.ref C) (.ref D)=some b:=by
 unfold ZZ;have e:PySem.W.subIn K (.ref D) (.type "BaseException")=some true:=s;rw[e,if_pos (by rfl)];exact rf o t m
theorem zQ(o:PySem.W.clsIn K D=some cl)(t:PySem.W.typeIn K (.ref D)=some (.type "type"))(s:Z8 K C (.ref C)=some true)(m:Z8 K C (.ref D)=some b):sV K (.ref C) (.ref D)=some b:=by
 unfold sV;by_cases e:((yW C==yW D)=true)
 ·rw[if_pos e]
  have e':C=D:=yW.inj (beq_iff_eq.mp e);subst e';rw[s]at m;exact m
 ·rw[if_neg e];exact rf o t m
theorem wq:PySem.W.kitMeta "ValueError" = true:=by kernel_rfl
theorem zI(m:Z8 K C (.type "ValueError")=some b):sV K (.ref C) (.type "ValueError")=some b:=by
 unfold sV;rw[if_neg (by intro z;cases (beq_iff_eq.mp z))];unfold PySem.W.kitCls;simp only[wq,if_true];exact m
end
theorem CS{l:PySem.W.OpenLaw}{n k:Nat}{q:Program}{loose:List Str}{XP:(Str->Option Value)->Heap->Prop}{YP:World->Heap->Prop}{d:DefRec}{K:Params->W.Frag}{sp:W.Frag->Sp}{x:Str}
 (hn:l.most=some n) (hn2:n<=sizeLine) (hdf:d.params.defaults=[]) (hr:Room k callerA)
 (hY:∀(w:World) (h:Heap),YP w h->(K w.params).In h)
 (F:∀(w:World) (mg:Str->Option Value) (fa:Addr) (h:Heap),(K w.params).In h->h.Ns Za mg->mg d.name=some (.ref fa) ->
  ∃fd:FuncData,(∀(s:Shared) (u:Value),BindsTo s fd ⟨[u],[]⟩ [(x,u)]) /\
   ∀base:Heap,(K w.params).In base->base.Ns Za mg->h_ l.prog w (K w.params) mg base (XE l.prog w) k fa fd [x] (sp (K w.params)))
 (hsp:∀(K:W.Frag) (H:Hp) (a:Addr) (ns:List Int),ns.length<=n->yT H->SqL K H a (ns.map V.int)->sp K [.ref a] H (fun v _=>v = .bl true) fun _ _ _=>False) :
 PySem.W.WalkO q loose XP YP l.row.toRowW d [] (fun f vs=>PySem.call f vs):=
 DP (K:=K) (CX:=fun w=>XE l.prog w) (sp:=fun w=>sp (K w.params)) hn hn2 hdf hr hY F (fun w H a ns h1 h2 h3=>hsp (K w.params) H a ns h1 h2 h3) fun w H s e s' hq_=>(by obtain⟨_,_,_,_,_,_,_,_,_,_,_,z⟩:=hq_;exact z)
section
variable{prog:Program}{w:World}{A:Around}{R:Result->Shared->Prop}{s:Shared}
theorem rY(I:Nat->Shared->Prop)
 (turn:∀n s,I n s->wpAny (model prog w) A (pyNext it) (fun r s₁=>match r with
  |none=>R (.ok .next) s₁
  |some v=>wpAny (model prog w) A (YE target it v) (fun _ s₁'=>wpAny (model prog w) A (assign target env v) (fun _ s₂=>
   wpAny (model prog w) A (forIn ifs true fun c r=>if r=true then do let ok <- isTrue c env (eval c env);pure (ForInStep.yield ok) else pure (ForInStep.yield r)) (fun ok s₃=>
    if ok=true then wpAny (model prog w) A (eval elt env) (fun x s₄=>
     wpAny (model prog w) A (call (.builtin "list.append") [acc,x]) (fun _ s₅=>∃m,m<n/\I m s₅) (notedBy (model prog w) A env fun e s'=>R (.error e) s') s₄) (notedBy (model prog w) A env fun e s'=>R (.error e) s') s₃
    else ∃m,m<n/\I m s₃) (notedBy (model prog w) A env fun e s'=>R (.error e) s') s₂) (notedBy (model prog w) A env fun e s'=>R (.error e) s') s₁') (notedBy (model prog w) A env fun e s'=>R (.error e) s') s₁) (notedBy (model prog w) A env fun e s'=>R (.error e) s') s)
 (n:Nat) (h:I n s) :
 codeAny (model prog w) A (.compLoop (.ListComp elt [⟨target,iter,ifs,0⟩] scope pos) 0 it acc env) R s:=by
 refine codeAny_loop rfl I (fun n s hI=>?_) n h;show wpAny _ A ((compTurn (.ListComp elt [⟨target,iter,ifs,0⟩] scope pos) 0 it acc env).onRaise (fun x=>do noteFrame x env;theTreesLotGoes x)) _ _ s;refine wpAny_noted ?_;rw[compTurn_list];refine zj (wpAny_standAt (zj (Zv (turn n s hI) (fun r s₁ h₁=>?_) fun _ _ h'=>h')));cases r with
 |none=>exact zA h₁
 |some v=>
  refine zj (Zv h₁ (fun _ s₁' h₁'=>?_) fun _ _ h'=>h');refine zj (Zv h₁' (fun _ s₂ h₂=>zj (Zv h₂ (fun ok s₃ h₃=>?_) fun _ _ h'=>h')) fun _ _ h'=>h');cases ok with
  |false=>exact zA ⟨rfl,h₃⟩
  |true=>
   exact zj (zj (Zv h₃ (fun x s₄ h₄=>zj (Zv h₄ (fun _ s₅ h₅=>zA (zA ⟨rfl,h₅⟩)) fun _ _ h'=>h')) fun _ _ h'=>h'))
end
def cY(X:Cx)(N:List Str)(scope:Scope)(cl:List (Str × Addr))(C:Addr)(s₂:Shared)(H₂:Hp)(ex:List Addr)(pn:List (Addr × Obj)):Cx:=
 { X with N:=N,s₀:=s₂,H₀:=H₂,env:=compEnvC scope cl C X.env,outer:=X.stack,stack:=X.stack,ex:=ex,fn:=fun _=>false,pn:=pn,xe:=fun _ _=>False }
structure CompScope(X:Cx)(scope:Scope)(cl:List (Str × Addr))(x:Str)(fr:List Str):Prop where
 clos:closureFor scope X.env=pure cl
 nocell:∀y∈scope.names,y.2 ≠ .cell
 kind:scope.kind = .function
 names:∀y∈scope.names,y.2 = .local->scope.names.lookup y.1=some .local
 own:scope.names.lookup x=some .local
 keys:∀y∈cl,y.1∈fr
 cells:fr.map (fun y=>cl.lookup y)=fr.map (fun y=>X.env.cells.lookup y)
 kinds:∀y∈fr,X.env.kindOf y=some .cell\/X.env.kindOf y=some .free
 kin:∀y∈fr,(relabel scope X.env).names.lookup y=some .cell\/(relabel scope X.env).names.lookup y=some .free
 only:∀y,((relabel scope X.env).names.lookup y=some .cell\/(relabel scope X.env).names.lookup y=some .free)->y∈fr
theorem wk{α:Type}{l:List (Str × α)}{y:Str}{c:α}(h:l.lookup y=some c):(y,c)∈l:=ZL h
theorem CompScope.cell(S:CompScope X scope cl x fr)(h:y∈fr):cl.lookup y=X.env.cells.lookup y:=by
 have e:=S.cells;obtain⟨i,hi,rfl⟩:=List.getElem_of_mem h;have:=congrArg (fun l=>l[i]?) e
 simpa [hi] using this
theorem CompScope.sub{X:Cx}{scope:Scope}{cl:List (Str × Addr)}{x:Str}{fr:List Str}(S:CompScope X scope cl x fr){y:Str}{c:Addr}(h:cl.lookup y=some c):X.env.cells.lookup y=some c:=by
 rw[<- S.cell (S.keys _ (wk h))];exact h
def PTs(X:Cx)(ifs:List Expr)(t:TT):Prop:=
 ∀(pins:List (Addr × Obj)) (s:Shared) (σ:St) (H:Hp) (Q:Bool->Hp->Prop),Inv X pins σ H s->t σ H Q ->
  wpAny (model X.prog X.w) X.A (forIn ifs true fun c r=>if r=true then do let ok <- isTrue c X.env (eval c X.env);pure (ForInStep.yield ok) else pure (ForInStep.yield r)) (TP X pins σ Q) X.xe s
theorem dH:PTs X [] (fun _ H Q=>Q true H):=fun pins s σ H Q I h=>wpAny_tests_nil ⟨H,I,h⟩
theorem cN(h:PT X c t):PTs X [c] t:=fun pins s σ H Q I hw=>wpAny_tests_one (h pins s σ H Q I hw)
end L2
namespace MT
def dg(n:Nat):List Nat:=(Nat.toDigits 10 n).map Char.toNat
def isD(c:Nat):Bool:=decide (48<=c)&&decide (c<=57)
def vl(t:List Nat):Nat:=t.foldl (fun n c=>10*n+(c-48)) 0
def nin(t:List Nat):Nat:=t.foldl (fun n c=>if isD c then 10*n+(c-48) else n) 0
def pd:Nat->Nat->List Nat
 |0,_=>[]
 |k+1,m=>pd k (m / 10)++[48+m % 10]
end MT
namespace L2
open PySem PySem.Spec PyProof.Rows Builtin Builtin.Str
section
variable{X:Cx}{e a b c:Expr}{pos:Pos}
def gIn(neg:Bool):R2
 | .str i,.str j,H,Q=>(match cs i with
  | [c]=>Q (.bl (neg ^^ decide (c∈cs j))) H
  |_=>False)
 |_,_,_,_=>False
theorem w6{i:Str}{c:Nat}(h:cs i=[c]):i=⟨#[c]⟩:=by
 obtain⟨⟨l⟩⟩:=i;have h':l=[c]:=h;rw[h']
theorem H_:OpR X (rW .In) (gIn false):=zz.imp fun x y H Q h=>by
 cases x with
 |str v_1=>
  cases y with
  |str v_2=>
   delta gIn at h
   dsimp only at h;split at h
   ·rename_i c hc
    refine⟨_,_,rfl,rfl,?_⟩;rw[w6 hc,PySem.StrLaws.found_one]
    simpa [cs] using h
   ·exact h.elim
  |_=>exact(id h:False).elim
 |_=>exact(id h:False).elim
def ie(l:List Nat)(lo hi:Option Int):List Nat:=(l.drop (HT.sIx l.length 0 lo)).take (HT.sIx l.length l.length hi-HT.sIx l.length 0 lo)
def gSl:V->Option Int->Option Int->Hp->VK->Prop
 | .str y,lo,hi,H,Q=>(cs y).length<=sizeLine/\Q (T (ie (cs y) lo hi)) H
 |_,_,_,_,_=>False
theorem Hc(lo hi:Option Int)(n:Nat):YW lo hi 1 n=(Zb (HT.sIx n n hi-HT.sIx n 0 lo)).map (HT.sIx n 0 lo + ·):=by
 obtain⟨h1,h2,h3⟩:=j4 lo hi n;have e:YW lo hi 1 n=sliceRange (ZK lo hi none n).1 (ZK lo hi none n).2.1 1:=by
  unfold YW ZK;cases lo <;> cases hi <;> rfl
 rw[e,h1,h2,sliceRange_one]
theorem z5(y:Str)(lo hi:Option Int):V.str (Txt.slice y lo hi)=T (ie (cs y) lo hi):=by
 have hl:y.length=(cs y).length:=by simp[cs,ZN]
 have ha:HT.sIx y.length 0 lo<=y.length:=HT.sIx_le _ _ (wQ _) lo;have hb:HT.sIx y.length y.length hi<=y.length:=HT.sIx_le _ _ (zL _) hi;unfold Txt.slice;rw[Hc];split
 ·rename_i h
  simp only[beq_self_eq_true,Z9,zg,List.length_range,beq_iff_eq]at h;have e1:HT.sIx y.length 0 lo=0:=by lia
  have e2:HT.sIx y.length y.length hi=y.length:=by lia
  rw[D4]
  congr 3
  unfold ie;rw[<- hl,e1,e2,List.drop_zero,Nat.sub_zero,hl,Zo]
 ·rw[pick_run]
  show V.str ⟨_⟩=V.str ⟨⟨_⟩⟩;unfold ie cs;rw[ZS]
  rfl
theorem sT:SlR X gSl:=by
 intro pins s σ H x v vl vu lo hi sl Q I rx hs pl pu h;cases x with
 |str y=>
  obtain⟨hz,q⟩:=h;obtain⟨t,rfl⟩:=rx;have hz':y.length<=sizeLine:=by simpa [cs,ZN] using hz
  refine⟨"str",_,F.slot_str_getitem.lookup,YC _ _ _,?_⟩;have fin:∀t' k,EP X pins σ Q (.str (Txt.slice y lo hi) t') { s with toks:=k }:=fun t' k=>⟨.str (Txt.slice y lo hi),H,I.tok _,⟨_,rfl⟩,by rw[z5];exact q⟩;cases pl with
  |none=>cases pu with
   |none=>exact Yg (l:=none) (u:=none) (st:=none) hs rfl (post_val_or_str ⟨wn (Txt.slice_le y _ _) hz',fin⟩)
   |int j u=>exact Yg (l:=none) (u:=some (j,u)) (st:=none) hs rfl (post_val_or_str ⟨wn (Txt.slice_le y _ _) hz',fin⟩)
  |int i u'=>cases pu with
   |none=>exact Yg (l:=some (i,u')) (u:=none) (st:=none) hs rfl (post_val_or_str ⟨wn (Txt.slice_le y _ _) hz',fin⟩)
   |int j u=>exact Yg (l:=some (i,u')) (u:=some (j,u)) (st:=none) hs rfl (post_val_or_str ⟨wn (Txt.slice_le y _ _) hz',fin⟩)
 |_=>exact(id h:False).elim
def gSt:V->List V->Hp->VK->Prop
 | .str x,[.str y],H,Q=>(match cs y with
  | [c]=>Q (.bl (decide ((cs x).head? = some c))) H
  |_=>False)
 |_,_,_,_=>False
def gEn:V->List V->Hp->VK->Prop
 | .str x,[.str y],H,Q=>(match cs y with
  | [c]=>Q (.bl (decide ((cs x).getLast? = some c))) H
  |_=>False)
 |_,_,_,_=>False
theorem Fx(x:Str)(c:Nat):(decide (0+(⟨#[c]⟩:Str).length<=x.length)&&Yp x ⟨#[c]⟩ (x.length-(⟨#[c]⟩:Str).length))=decide ((cs x).getLast? = some c):=by
 obtain⟨⟨l⟩⟩:=x;by_cases hl:l=[]
 ·subst hl;simp[ZN,cs,Yp]
 ·obtain⟨i,a,rfl⟩:∃i a,l=i++[a]:=⟨l.dropLast,l.getLast hl,(List.dropLast_concat_getLast hl).symm⟩
  have e:Yp ⟨⟨i++[a]⟩⟩ ⟨#[c]⟩ i.length=decide (a=c):=by
   simp[Yp,ZN];rw[Z4];simp
  have e2:(⟨⟨i++[a]⟩⟩:Str).length-(⟨#[c]⟩:Str).length=i.length:=by simp[ZN]
  rw[e2,e];simp[ZN,cs]
theorem uv:MtR X "str.endswith" gEn:=by
 intro pins s σ H x xs v us Q I rx rs h;cases x with
 |str v_1=>
  rcases xs with _|⟨e_2,r_2⟩
  ·exact(id h:False).elim
  cases e_2 with
  |str v_3=>
   cases r_2 with
   |nil=>
    delta gEn at h
    dsimp only at h;split at h
    ·rename_i c hc
     obtain⟨t,rfl⟩:=rx;obtain⟨u,rfl,t',rfl⟩:=dO rs;rw[w6 hc];refine YV F.slot_str_endswith (YC _ _ _) F.entry_str_endswith (F.args_str_endswith_2 _ _) (gives_str_endswith _ ⟨#[c]⟩ t t').meets ?_;exact⟨.bl _,H,I,rfl,by rw[Fx];exact h⟩
    ·exact h.elim
   |cons=>exact(id h:False).elim
  |_=>exact(id h:False).elim
 |_=>exact(id h:False).elim
def JH:V->List V->Hp->VK->Prop
 | .str x,[.str y],H,Q=>(match cs y with
  | [c]=>c∈cs x/\∀i:Nat,(cs x)[i]? = some c->Q (.int i) H
  |_=>False)
 |_,_,_,_=>False
def yC:List V->Hp->VK->Prop
 | [.int i],H,Q=>Q (.int i) H
 | [.bl k],H,Q=>Q (.int (if k then 1 else 0)) H
 | [.str x],H,Q=>((cs x)≠[]/\(∀c∈cs x,MT.isD c=true)/\(cs x).length<=640)/\Q (.int (MT.vl (cs x))) H
 |_,_,_=>False
theorem qE:CallR X (.type "int") (fun xs H Q=>∃x,xs=[.str x]/\((cs x)≠[]/\(∀c∈cs x,MT.isD c=true)/\(cs x).length<=640)/\Q (.int (MT.vl (cs x))) H):=by
 intro pins s σ H xs us Q I r h;obtain⟨x,rfl,⟨h0,hd,hl⟩,q⟩:=h;obtain⟨u,rfl,t,rfl⟩:=dO r;have hl':x.length<=640:=by simpa [cs,ZN] using hl
 have e:PySem.NumText.digitsVal x.cps.toList=MT.vl (cs x):=by
  unfold PySem.NumText.digitsVal MT.vl cs
  congr 1
  funext a c;lia
 have hn:intText? x=some ((MT.vl (cs x):Nat):Int):=by
  rw[PySem.intText_digits (fun c hc=>by have:=hd c hc;simpa [MT.isD] using this) h0 (by lia),e]
 exact PySem.W.KIN.call_text hn hl' ⟨.int _,H,I.tok _,⟨_,rfl⟩,q⟩
theorem dW:CallR X (.type "int") yC:=(zX.or qE).imp fun xs H Q h=>by
 unfold yC at h;split at h
 ·exact .inl (.inl ⟨_,rfl,h⟩)
 ·exact .inl (.inr ⟨_,rfl,h⟩)
 ·exact .inr ⟨_,rfl,h.1,h.2⟩
 ·exact h.elim
end
end L2
namespace L2
open PySem PySem.Spec PyProof.Rows
def Its(x:Str):It:=⟨fun i _=>i<x.cps.size,fun i H v H'=>H'=H/\∃c,x.cps[i]? = some c/\v = .str ⟨#[c]⟩,fun i _=>x.cps.size<=i⟩
theorem As{P:Program}{w:World}{K:W.Frag}{tg:Expr}(x:Str)(t:Tok)(it:Addr):zo P w K tg (Its x) [it] it (fun i h=>h.IsStrIter it "str_ascii_iterator" x t i) where
 mem:=by simp
 obj:=fun i h st b hb=>by
  have e:b=it:=by simpa using hb
  subst e;obtain⟨o,e,c,d⟩:=st;exact⟨o,e,fun v z=>by rw[d]at z;cases z⟩
 keep:=fun i h h' st k=>by
  obtain⟨o,e,c,d⟩:=st;exact⟨o,k it (by simp) o e,c,d⟩
 item:=by
  intro X hP hw hK hc i pins s σ H E I hf st hg;subst hP hw hK;have hg':i<x.cps.size:=hg;obtain⟨f0,f1,f2,f3,f4,f5⟩:=hf it (by simp);have hx:x.cps[i]? = some x.cps[i]:=by simp[hg']
  refine wpAny_pyNext_ascii_item st hx fun h' st' sb=>?_;have I1:Inv X pins σ H { s with heap:=h',toks:=s.toks+1 }:=I.turned (fun b o hb e=>(sb.2 b hb).trans e) f0 f1 f3 f4 f5;obtain⟨o,e,c,d⟩:=id st';exact⟨_,rfl,pT (s:={ s with heap:=h',toks:=s.toks+1 }) e c d (by decide) ⟨.str ⟨#[x.cps[i]]⟩,H,I1,⟨_,rfl⟩,⟨rfl,_,hx,rfl⟩,st',fun b hb=>(hf b hb).1⟩⟩
 done:=by
  intro X hP hw hK hc i pins s σ H E I hf st hg;subst hP hw hK;have hg':x.cps.size<=i:=hg;obtain⟨f0,f1,f2,f3,f4,f5⟩:=hf it (by simp);have hx:x.cps[i]? = none:=by simp[hg']
  exact wpAny_pyNext_ascii_end (I.ok.hd hc) st hx fun h' eb=>⟨rfl,I.turned (fun b o hb e=>eb b o hb e) f0 f1 f3 f4 f5⟩
 self:=fun _ _ _ _ _ st h=>wpAny_pyIter_striter_ascii st h
def IH(tl:TE):TI:=fun σ H R=>tl σ H fun v H1=>match v with
 | .str x=>(∀c∈cs x,c<128)/\R (Its x) H1
 |_=>False
theorem At{X:Cx}{tg l:Expr}{tl:TE}(hl:PE X l tl):PI X tg l (IH tl):=by
 intro pins s σ H R I h;refine thn (hl pins s σ H _ I h) fun v s1 ⟨y,H1,I1,r1,q⟩=>?_;dsimp only at q;split at q
 ·rename_i x
  obtain⟨ha,q⟩:=q;obtain⟨t,rfl⟩:=r1;have ha':x.cps.all (· < 128)=true:=by
   rw[Array.all_eq_true];intro i hi;exact decide_eq_true (ha _ (by unfold cs;rw[Array.mem_toList_iff];exact Array.getElem_mem hi))
  refine wpAny_pyIter_ascii ha' ?_;refine⟨s1.heap.objs.size,[s1.heap.objs.size],_,_,H1,rfl,I1.kept (t':=s1.toks) fun b o e=>Heap.get?_push_of_some _ e,As x t _,⟨_,Heap.get?_push_size _ rfl,rfl,rfl⟩,fun b hb=>?_,q⟩;have e:b=s1.heap.objs.size:=by simpa using hb
  subst e;exact I1.fpOk (zL _) (I1.hok.fresh (zL _))
 ·exact q.elim
section
variable{X:Cx}
theorem o0:∀ {bs:List Bool} {us:List Value},Vals (bs.map V.bl) us->LSm.BoolsAre us bs
 | [],_,.nil=>.nil
 |b::r,_,.cons e t=>by
  cases (show _=Value.bool b from e);exact .cons b (o0 t)
def IR(K:W.Frag):List V->Hp->VK->Prop
 | [.ref p],H,Q=>∃bs:List Bool,SqL K H p (bs.map V.bl)/\Q (.bl (bs.all id)) H
 |_,_,_=>False
theorem tX(K:W.Frag)(hc:X.calm=true)(hK:X.K=K:=by rfl):CallR X (.builtin "all") (IR K):=by
 subst hK;intro pins s σ H xs us Q I r h;rcases xs with _|⟨e_1,r_1⟩
 ·exact(id h:False).elim
 cases e_1 with
 |ref p=>
  cases r_1 with
  |nil=>
   obtain⟨bs,hq,q⟩:=h;obtain⟨u,rfl,rx⟩:=dO r;cases (show u=yW p from rx);obtain⟨its,rv,pl,hz⟩:=I.list hq;have hne:p≠s.heap.objs.size:=uj (by obtain⟨_,e,_⟩:=pl.isList;exact xb e);have hb:LSm.BoolsAre its bs:=o0 rv;refine call_all_walk (YY pl.isList ?_);refine⟨s.heap.objs.size,[s.heap.objs.size,p],[s.heap.objs.size],its.toArray.size,_,_,fun i=>(bs[i]?).getD true,rfl,Walks.list (A:=X.A.in1) (I.ok.hd hc) _ p hne its.toArray,
    ⟨⟨_,Heap.get?_push_size _ rfl,rfl,rfl⟩,pl.isList.push _⟩,fun i v s' Q' E' hP hQ=>?_,fun h' tk hk=>?_⟩
   ·obtain⟨b,e,rfl⟩:=hb.get i v (by simpa using hP)
    simp only[e,Option.getD_some]at hQ;exact Zr hQ
   ·have e:((Zb its.toArray.size).all fun i=>(bs[i]?).getD true)=bs.all id:=by
     rw[zH,hb.length];exact LSm.range_all bs
    rw[e];exact⟨.bl (bs.all id),H,I.kept (LSm.kept_iter hk),rfl,q⟩
  |cons=>exact(id h:False).elim
 |_=>exact(id h:False).elim
end
end L2
namespace L2
open PySem PySem.Spec PyProof.Rows Builtin Builtin.Str
def cx(sep:List Nat):List (List Nat)->List Nat
 | []=>[]
 | [x]=>x
 |x::y::r=>x++sep++cx sep (y::r)
def S(l:List Nat):Str:=⟨⟨l⟩⟩
theorem rJ(sep:List Nat):∀(r:List (List Nat)) (x:List Nat),((r.map S).foldl (fun acc p=>acc++(S sep).cps++p.cps) (S x).cps)=(S (cx sep (x::r))).cps
 | [],x=>rfl
 |y::r,x=>by
  rw[xa,List.foldl_cons];have e:(S x).cps++(S sep).cps++(S y).cps=(S (x++sep++y)).cps:=by
   apply Array.ext';simp[S]
  rw[e,rJ sep r]
  congr 1
  cases r with
  |nil=>rfl
  |cons z r'=>unfold cx;simp[cx,Yq]
theorem yl(sep:List Nat)(ls:List (List Nat)):Txt.join (S sep) (ls.map S)=S (cx sep ls):=by
 unfold Txt.join glued;cases ls with
 |nil=>rfl
 |cons x r=>
  show(⟨((x::r).map S).drop 1 |>.foldl _ _⟩:Str)=_;rw[xa,List.drop_one,List.tail_cons,List.headD_cons,rJ]
theorem xG:∀ {ls:List (List Nat)} {us:List Value},Vals (ls.map T) us->StrsAre us (ls.map S)
 | [],_,.nil=>.nil
 |l::r,_,.cons e t=>by
  obtain⟨k,rfl⟩:=e;exact .cons _ k (xG t)
def Ed(sep:List Nat)(ls:List (List Nat)):Prop:=(ls.map Y5).sum+ls.length*sep.length<=16777216
theorem DQ(h:Ed sep ls):(((ls.map S).map (·.length)).sum+(ls.map S).length*(S sep).length<=16777216):=by
 have e:(ls.map S).map (·.length)=ls.map Y5:=by rw[tf];apply nE;intro l _;rfl
 rw[e,zg];exact h
section
variable{X:Cx}
def IJ(K:W.Frag):V->List V->Hp->VK->Prop
 | .str x,[.ref p],H,Q=>∃ls:List (List Nat),SqL K H p (ls.map T)/\Ed (cs x) ls/\Q (T (cx (cs x) ls)) H
 |_,_,_,_=>False
theorem v8(K:W.Frag)(hK:X.K=K:=by rfl):MtR X "str.join" (IJ K):=by
 subst hK;intro pins s σ H x xs v us Q I rx rs h;cases x with
 |str y=>
  rcases xs with _|⟨e_1,r_1⟩
  ·exact(id h:False).elim
  cases e_1 with
  |ref p=>
   cases r_1 with
   |nil=>
    obtain⟨ls,hq,hf,q⟩:=h;obtain⟨t,rfl⟩:=rx;obtain⟨u,rfl,ru⟩:=dO rs;cases (show u=yW p from ru);obtain⟨its,rv,pl,hz⟩:=I.list hq;refine join_list pl.isList (xG rv) (DQ hf) fun t' k=>?_;exact⟨.str (Txt.join y (ls.map S)),H,I.tok _,⟨_,rfl⟩,by rw[show y=S (cs y) from rfl,yl];exact q⟩
   |cons=>exact(id h:False).elim
  |_=>exact(id h:False).elim
 |_=>exact(id h:False).elim
end
end L2
namespace PySem
open Sem (wp)
open Builtin Builtin.Str Builtin.Int
namespace F
end F
section
variable{prog:Program}{w:World}{A:Around}{E:Value->Shared->Prop}{s:Shared}{I:Addr}{fp wr:List Addr}{G:Array GenState->Array GenState->Prop}{n:Nat}{P:Nat->Value->Prop}{St:Nat->Shared->Prop}
end
end PySem
namespace L2
open PySem PySem.Spec PyProof.Rows Builtin Builtin.Str
section
variable{X:Cx}{o e:Expr}{to te:TE}{apos cpos p pos:Pos}
end
section
variable{X:Cx}
structure GH(J:It)(vs:List V):Prop where
 go:∀i H,i<vs.length->J.go i H
 yld:∀i H x H',i<vs.length->J.yld i H x H'->H'=H/\vs[i]? = some x
 stop:∀H,J.stop vs.length H
theorem Ai(l:List Nat):GH (Its ⟨⟨l⟩⟩) (l.map fun c=>T [c]):=by
 refine⟨fun i H h=>by simpa [Its] using h,fun i H x H' _ y=>?_,fun H=>by simp[Its]⟩;obtain⟨e,c,hc,rfl⟩:=y;refine⟨e,?_⟩;have:l[i]? = some c:=by simpa using hc
 rw[List.getElem?_map,this];rfl
theorem qX{J:It}{vs:List V}(E:GH J vs){σ':St}{H1:Hp}{Q:VK}{tt:TT}{te:TE}(C:Hp->Prop)(p:V->Bool)(f:V->V)(hlen:vs.length<=sizeLine)
 (hp:∀x∈vs,∀H (R:Bool->Hp->Prop),C H->R (p x) H->tt (some x::σ') H R) (hf:∀x∈vs,p x=true->∀H (R:VK),C H->R (f x) H->te (some x::σ') H R)
 (D:Addr) (hD:H1 D=none) (hC:∀ys,C (upd H1 D (.lst ys))) (q:Q (.ref D) (upd H1 D (.lst ((vs.filter p).map f)))) :
 ∃W:Nat->Nat->List V->Hp->Prop,(∃m,W 0 m [] (upd H1 D (.lst []))) /\
  ∀i m ys H2,W i m ys H2->H2 D=some (.lst ys)/\((J.stop i H2/\Q (.ref D) H2)\/(J.go i H2/\∀x H3,J.yld i H2 x H3 ->
   tt (some x::σ') H3 fun b H4=>if b=true then te (some x::σ') H4 fun y H5=>H5 D=some (.lst ys)/\ys.length<sizeLine/\∃m',m'<m/\W (i+1) m' (ys++[y]) (upd H5 D (.lst (ys++[y])))
    else ∃m',m'<m/\W (i+1) m' ys H4)):=by
 refine⟨fun i m ys H2=>m=vs.length-i/\i<=vs.length/\ys=((vs.take i).filter p).map f/\H2=upd H1 D (.lst ys),⟨vs.length,by simp,wQ _,by simp,rfl⟩,?_⟩;rintro i m ys H2 ⟨rfl,hi,hys,rfl⟩;refine⟨ad,?_⟩;by_cases hlt:i<vs.length
 ·refine .inr ⟨E.go i _ hlt,fun x H3 y=>?_⟩
  obtain⟨e,hx⟩:=E.yld i _ x H3 hlt y;subst e;have hm:x∈vs:=ww hx;have htk:vs.take (i+1)=vs.take i++[x]:=by
   rw[Yx,hx];rfl
  have hyl:ys.length<=i:=by
   rw[hys,zg];exact wn (Zp _ _) (by simp[uV];lia)
  refine hp x hm _ _ (hC _) ?_;cases hb:p x with
  |true=>
   rw[if_pos rfl];refine hf x hm hb _ _ (hC _) ⟨ad,by lia,vs.length-(i+1),by lia,rfl,hlt,?_,?_⟩
   ·rw[htk,Ze,vX,<- hys]
    simp[hb]
   ·funext z
    by_cases hz:z=D
    ·subst hz;rw[ad,ad]
    ·rw[ag hz,ag hz,ag hz]
  |false=>
   rw[if_neg xE];refine⟨vs.length-(i+1),by lia,rfl,hlt,?_,rfl⟩;rw[htk,Ze,vX,<- hys];simp[hb]
 ·have e:i=vs.length:=by lia
  subst e;refine .inl ⟨E.stop _,?_⟩;rw[Zo]at hys;rw[hys];exact q
end
theorem SqL.same{K:W.Frag}{H H':Hp}{a:Addr}{xs:List V}(s:Same H H')(h:SqL K H a xs):SqL K H' a xs:=by
 rcases h with (h|⟨o,h⟩)|h
 ·exact .inl (.inl (s _ _ h))
 ·exact .inl (.inr ⟨o,s _ _ h⟩)
 ·exact .inr h
theorem kF:bS (XE P w) X (fun _ _ _ _=>False):=fun _ _ _ _ _ _ _ hq_=>(by obtain⟨_,_,_,_,_,_,_,_,_,_,_,q⟩:=hq_;exact q.elim)
def A_:Option NameKind->Bool
 |some .cell=>true
 |some .free=>true
 |_=>false
theorem vq:A_ k=true↔(k=some .cell\/k=some .free):=by
 cases k with
 |none=>simp[A_]
 |some k=>cases k <;> simp[A_]
theorem bG{cl:List (Str × Addr)}{fr:List Str}(h:(cl.map (·.1)).all (fun y=>fr.elem y)=true):∀y∈cl,y.1∈fr:=fun y hy=>by
 have:=Zk.mp h y.1 (wR hy)
 simpa using this
theorem aI{fr:List Str}{k:Str->Option NameKind}(h:fr.all (fun y=>A_ (k y))=true):∀y∈fr,k y=some .cell\/k y=some .free:=fun y hy=>vq.mp (Zk.mp h y hy)
theorem bH{names:List (Str × NameKind)}{fr:List Str}(h:names.all (fun p=>!A_ (some p.2) || fr.elem p.1)=true):∀y,(names.lookup y=some .cell\/names.lookup y=some .free)->y∈fr:=fun y hy=>by
 have hy':=vq.mpr hy;cases e:names.lookup y with
 |none=>rw[e]at hy';cases hy'
 |some k=>
  rw[e]at hy';have:=Zk.mp h (y,k) (ZL e)
  simpa [hy'] using this
section
variable{X:Cx}{pos:Pos}
theorem FT(I:Inv X pins σ H s):ZT<s.heap.objs.size:=
 Nat.lt_trans (by decide) (show Za<s.heap.objs.size from(I.mod.glob.keeps I.bk).lt)
def Fh:TE:=fun _ H Q=>∀p,H p=none->Q (.ref p) (upd H p (.dK []))
theorem ot:PE X (.Dict [] [] pos) Fh:=by
 intro pins s σ H Q I h;have new:ObjOk X.prog X.w (upd H s.heap.objs.size (.dK [])) (s.heap.push { cls:=.type "dict",data:=.dict #[] }) s.heap.objs.size (.dK []):=
  ⟨wQ _,beq_eq_false_iff_ne.mpr (Ne.symm (uj (FT I))),[],.nil,Heap.DictOf.new s.heap⟩
 exact wpAny_Dict_empty ⟨.ref s.heap.objs.size,_,I.laid (t':=s.toks) (fun _ _ q=>Heap.get?_push_of_some _ q) (zL _) new,rfl,h _ (I.hok.fresh (zL _))⟩
theorem uR:∀(l:List (Array Nat)) (acc:Array Nat),(l.foldl (· ++ ·) acc).toList=acc.toList++(l.map Array.toList).flatten
 | [],acc=>by simp
 |a::r,acc=>by rw[List.foldl_cons,uR r];simp
theorem F_(x:Str)(n:Int):V.str (Txt.mul x n)=T ((t7 n.toNat (cs x)).flatten):=by
 unfold Txt.mul;split
 ·rename_i h
  have e:n.toNat=0:=by lia
  rw[e];rfl
 ·rename_i h
  split
  ·rename_i h2
   rcases Bool.or_eq_true_iff.mp h2 with h3|h3
   ·have e:n.toNat=1:=by have:=eq_of_beq h3;lia
    rw[e,D4];simp
   ·have e:cs x=[]:=by
     have:=eq_of_beq h3
     simpa [cs,ZN] using this
    rw[D4,e];simp
  ·rw[D4]
   congr 1
   show((t7 n.toNat x.cps).foldl (· ++ ·) #[]).toList=_;rw[uR,List.map_replicate];rfl
end
section
variable{X:Cx}
structure EW(C:Hp->Prop)(J:It)(vs:List V):Prop where
 go:∀i H,C H->i<vs.length->J.go i H
 yld:∀i H x H',C H->i<vs.length->J.yld i H x H'->H'=H/\vs[i]? = some x
 stop:∀H,C H->J.stop vs.length H
theorem wf{J:It}{vs:List V}{σ':St}{H1:Hp}{Q:VK}{tt:TT}{te:TE}(C:Hp->Prop)(E:EW C J vs)(p:V->Bool)(f:V->V)(hlen:vs.length<=sizeLine)
 (hp:∀x∈vs,∀H (R:Bool->Hp->Prop),C H->R (p x) H->tt (some x::σ') H R) (hf:∀x∈vs,p x=true->∀H (R:VK),C H->R (f x) H->te (some x::σ') H R)
 (D:Addr) (hD:H1 D=none) (hC:∀ys,C (upd H1 D (.lst ys))) (q:Q (.ref D) (upd H1 D (.lst ((vs.filter p).map f)))) :
 ∃W:Nat->Nat->List V->Hp->Prop,(∃m,W 0 m [] (upd H1 D (.lst []))) /\
  ∀i m ys H2,W i m ys H2->H2 D=some (.lst ys)/\((J.stop i H2/\Q (.ref D) H2)\/(J.go i H2/\∀x H3,J.yld i H2 x H3 ->
   tt (some x::σ') H3 fun b H4=>if b=true then te (some x::σ') H4 fun y H5=>H5 D=some (.lst ys)/\ys.length<sizeLine/\∃m',m'<m/\W (i+1) m' (ys++[y]) (upd H5 D (.lst (ys++[y])))
    else ∃m',m'<m/\W (i+1) m' ys H4)):=by
 refine⟨fun i m ys H2=>m=vs.length-i/\i<=vs.length/\ys=((vs.take i).filter p).map f/\H2=upd H1 D (.lst ys),⟨vs.length,by simp,wQ _,by simp,rfl⟩,?_⟩;rintro i m ys H2 ⟨rfl,hi,hys,rfl⟩;refine⟨ad,?_⟩;by_cases hlt:i<vs.length
 ·refine .inr ⟨E.go i _ (hC _) hlt,fun x H3 y=>?_⟩
  obtain⟨e,hx⟩:=E.yld i _ x H3 (hC _) hlt y;subst e;have hm:x∈vs:=ww hx;have htk:vs.take (i+1)=vs.take i++[x]:=by
   rw[Yx,hx];rfl
  have hyl:ys.length<=i:=by
   rw[hys,zg];exact wn (Zp _ _) (by simp[uV];lia)
  refine hp x hm _ _ (hC _) ?_;cases hb:p x with
  |true=>
   rw[if_pos rfl];refine hf x hm hb _ _ (hC _) ⟨ad,by lia,vs.length-(i+1),by lia,rfl,hlt,?_,?_⟩
   ·rw[htk,Ze,vX,<- hys]
    simp[hb]
   ·funext z
    by_cases hz:z=D
    ·subst hz;rw[ad,ad]
    ·rw[ag hz,ag hz,ag hz]
  |false=>
   rw[if_neg xE];refine⟨vs.length-(i+1),by lia,rfl,hlt,?_,rfl⟩;rw[htk,Ze,vX,<- hys];simp[hb]
 ·have e:i=vs.length:=by lia
  subst e;refine .inl ⟨E.stop _ (hC _),?_⟩;rw[Zo]at hys;rw[hys];exact q
theorem Bt{K:W.Frag}{C:Hp->Prop}{a:Addr}{vs:List V}(h:∀H,C H->SqL K H a vs):EW C (Itl K a) vs:=
 ⟨fun i H c hi=>⟨vs,vs[i],h H c,List.getElem?_eq_getElem hi⟩,fun i H x H' c _ y=>⟨y.1,y.2 vs (h H c)⟩,fun H c=>⟨vs,h H c,zL _⟩⟩
end
end L2
namespace L2
open PySem PySem.Spec PyProof.Rows
section
variable{X:Cx}{K:W.Frag}{pos:Pos}
theorem fJ(K:W.Frag)(hc:X.calm=true)(h:PGs X es t)(hK:X.K=K:=by rfl)
 (hn:(Yn es X.env).length=n:=by rfl) (hst:(Yn es X.env).findIdx? (·.1)=none:=by rfl):PG X (.Tuple es k pos) (FC K n t):=by
 subst hK;exact GO hc h hn hst
end
section
variable{X:Cx}{T name id:String}{r:V->List V->Hp->VK->Prop}{o e:Expr}{es:List Expr}{to:TE}{t:TA}{apos cpos:Pos}
theorem cK(K:W.Frag)(pa:PlainAttrs T)(slot:Slot T name id)(hty:typeOf (.builtin id)=pure (.type "method_descriptor"))(hm:MtR X id r)(ho:PE X o to)(ha:PA X (e::es) t)(hK:X.K=K:=by rfl)
 (hbase:YG o name X.env (eval o X.env)=eval o X.env:=by rfl)
 (hfew:((backTo cpos (starEach (e::es) X.env)).all (fun x=>!x.1)&&(backToKw cpos (Ye [] X.env)).all (fun x=>x.1.isSome)
  && decide ((e::es).length+([]:List Keyword).length+(if ([]:List Keyword).isEmpty then 0 else 1)<30))=true:=by rfl)
 (hline:(apos.endLine==cpos.line)=true:=by rfl) (hs:starEach (e::es) X.env=(false,eval e X.env)::starEach es X.env:=by rfl) (hplain:(backTo cpos (starEach es X.env)).any (·.1)=false:=by rfl) :
 PE X (.Call (.Attribute o name apos) (e::es) [] cpos) (tBM K T r to t):=by
 subst hK;exact IZ pa slot hty hm ho ha hbase hfew hline hs hplain
end
section
variable{K:W.Frag}{tl:TE}{ks:List Nat}{σ:St}{H:Hp}{Q:VK}{tt:TT}{te:TE}
end
end L2
namespace L2
end L2
namespace L2
open PySem PySem.Spec PyProof.Rows Builtin Builtin.Str
def spN(c:Nat):List Nat->List (List Nat)
 | []=>[[]]
 |a::r=>if a=c then []::spN c r else match spN c r with
  |h::t=>(a::h)::t
  | []=>[[a]]
theorem jN(c:Nat):∀l,spN c l≠[]
 | []=>by simp[spN]
 |a::r=>by
  unfold spN;split
  ·simp
  ·split <;> simp
theorem lg(c:Nat):∀l:List Nat,c∉l->spN c l=[l]
 | [],_=>rfl
 |a::r,h=>by
  have h1:¬ a=c:=fun z=>h (by rw[z];simp);have h2:c∉r:=fun z=>h (vf _ z);unfold spN;rw[if_neg h1,lg c r h2]
theorem xW(c:Nat):∀(l r:List Nat),c∉l->spN c (l++c::r)=l::spN c r
 | [],r,_=>by simp[spN]
 |a::l,r,h=>by
  have h1:¬ a=c:=fun z=>h (by rw[z];simp);have h2:c∉l:=fun z=>h (vf _ z);rw[ZG];show(if a=c then _ else _)=_;rw[if_neg h1,xW c l r h2]
theorem oU(c:Nat):∀ps:List (List Nat),ps≠[]->(∀p∈ps,c∉p)->spN c (cx [c] ps)=ps
 | [],h,_=>absurd rfl h
 | [p],_,h=>lg c p (h p (by simp))
 |p::q::r,_,h=>by
  rw[cx,Yq,List.singleton_append,xW c p _ (h p (by simp)),oU c (q::r) (by simp) fun x hx=>h x (vf _ hx)]
theorem qc(c:Nat):∀l:List Nat,cx [c] (spN c l)=l
 | []=>rfl
 |a::r=>by
  have ih:=qc c r;unfold spN;split
  ·rename_i e
   cases es:spN c r with
   |nil=>exact absurd es (jN c r)
   |cons h t=>rw[es]at ih;rw[cx,ih,e];rfl
  ·cases es:spN c r with
   |nil=>exact absurd es (jN c r)
   |cons h t=>
    rw[es]at ih;cases t with
    |nil=>simp[cx]at ih |-; exact ih
    |cons h2 t=>rw[cx]at ih |-; rw[<- ih];simp
theorem iX(c:Nat):∀(l:List Nat),∀p∈spN c l,c∉p
 | [],p,hp=>by simp[spN]at hp;rw[hp];simp
 |a::r,p,hp=>by
  unfold spN at hp;split at hp
  ·rcases zZ.mp hp with h|h
   ·rw[h];simp
   ·exact iX c r p h
  ·rename_i hne
   split at hp
   ·rename_i h t es
    rcases zZ.mp hp with e|e
    ·rw[e]
     have:=iX c r h (by rw[es];simp);simp only[zZ,not_or];exact⟨fun z=>hne z.symm,this⟩
    ·exact iX c r p (by rw[es];exact vf _ e)
   ·rename_i es;exact absurd es (jN c r)
theorem oA(c:Nat):∀l:List Nat,(spN c l).length<=l.length+1
 | []=>by simp[spN]
 |a::r=>by
  have ih:=oA c r;unfold spN;split
  ·simp;lia
  ·split
   ·rename_i es;rw[es]at ih;simp at ih |-; lia
   ·simp
theorem lV(c:Nat):∀l:List Nat,∀p∈spN c l,p.length<=l.length/\∀d∈p,d∈l
 | [],p,hp=>by simp[spN]at hp;rw[hp];simp
 |a::r,p,hp=>by
  unfold spN at hp;split at hp
  ·rcases zZ.mp hp with h|h
   ·rw[h];simp
   ·obtain⟨h1,h2⟩:=lV c r p h
    exact⟨by rw[vN];lia,fun d hd=>vf _ (h2 d hd)⟩
  ·split at hp
   ·rename_i h t es
    rcases zZ.mp hp with e|e
    ·obtain⟨h1,h2⟩:=lV c r h (by rw[es];simp)
     rw[e];refine⟨by rw[vN,vN];lia,fun d hd=>?_⟩;rcases zZ.mp hd with z|z
     ·rw[z];simp
     ·exact vf _ (h2 d z)
    ·obtain⟨h1,h2⟩:=lV c r p (by rw[es];exact vf _ e)
     exact⟨by rw[vN];lia,fun d hd=>vf _ (h2 d hd)⟩
   ·rename_i es;exact absurd es (jN c r)
theorem Bs(x y:Str):Txt.split x y≠[]:=by
 unfold Txt.split;split
 ·simp
 ·split
  ·simp
  ·rw[StrLaws.partsBetween_eq]
   obtain⟨p,r,e⟩:=StrLaws.partsFrom_ne x y.length 0 (occurrences x y 0 x.length (x.length+1));rw[e];simp
theorem CM(l:List Nat)(c:Nat):(Txt.split ⟨⟨l⟩⟩ ⟨#[c]⟩).map (fun x=>cs x)=spN c l:=by
 have h1:=StrLaws.join_split ⟨⟨l⟩⟩ ⟨#[c]⟩;have h2:=StrLaws.split_free ⟨⟨l⟩⟩ c;have h0:=Bs ⟨⟨l⟩⟩ ⟨#[c]⟩;generalize Txt.split ⟨⟨l⟩⟩ ⟨#[c]⟩=ps at h0 h1 h2;have hj:cx [c] (ps.map fun x=>cs x)=l:=by
  have e:ps=(ps.map fun x=>cs x).map S:=by
   rw[tf]
   conv=>lhs;rw[<- YR ps]
   apply nE;intro x _;rfl
  rw[e]at h1;have h3:Str.join (S [c]) ((ps.map fun x=>cs x).map S)=S (cx [c] (ps.map fun x=>cs x)):=by
   have:=yl [c] (ps.map fun x=>cs x);exact(StrLaws.glued_eq_join _ _).symm.trans this
  have h4:S (cx [c] (ps.map fun x=>cs x))=⟨⟨l⟩⟩:=h3.symm.trans h1;have h5:=congrArg cs h4;exact h5
 have hne:(ps.map fun x=>cs x)≠[]:=by
  intro z;exact h0 (List.map_eq_nil_iff.mp z)
 rw[<- hj,oU c _ hne];intro p hp;obtain⟨x,hx,rfl⟩:=yS.mp hp;exact h2 x hx
section
variable{X:Cx}{e a b c:Expr}{pos:Pos}
def Ic:V->List V->Hp->VK->Prop
 | .str x,[.str y],H,Q=>(∃c,cs y=[c]/\(cs x).length+2<=sizeLine/\∀p,H p=none->Q (.ref p) (upd H p (.lst ((spN c (cs x)).map T))))
 |_,_,_,_=>False
theorem qS:∀(l:List (Str × Tok)),Vals (l.map fun p=>V.str p.1) (strValues l)
 | []=>.nil
 |p::r=>.cons ⟨p.2,rfl⟩ (qS r)
theorem oJ:MtR X "str.split" Ic:=by
 intro pins s σ H x xs v us Q I rx rs h;cases x with
 |str x=>
  rcases xs with _|⟨e_1,r_1⟩
  ·exact(id h:False).elim
  cases e_1 with
  |str y=>
   cases r_1 with
   |nil=>
    obtain⟨c,hc,hz,q⟩:=h;obtain⟨t,rfl⟩:=rx;obtain⟨u,rfl,t',rfl⟩:=dO rs;have hy:=w6 hc;subst hy;obtain⟨⟨l⟩⟩:=x;have hx:(⟨⟨l⟩⟩:Str).length+2<=sizeLine:=hz;have fin:∀(l':List (Str × Tok)) (k:Nat),l'.map (·.1)=Txt.split ⟨⟨l⟩⟩ ⟨#[c]⟩->EP X pins σ Q (.ref s.heap.objs.size) { s with toks:=k,heap:=s.heap.push { cls:=.type "list",data:=.seq (strValues l').toArray } }:=fun l' k hl=>by
     have e:(spN c l).map T=l'.map fun p=>V.str p.1:=by
      rw[<- CM,<- hl,tf,tf];apply nE;intro p _;rfl
     have hlen:((spN c l).map T).length<=sizeLine:=by
      rw[zg];have:=oA c l;have hz':l.length+2<=sizeLine:=hz;lia
     have hv:Vals ((spN c l).map T) (strValues l'):=by rw[e];exact qS l'
     exact⟨.ref s.heap.objs.size,_,I.lnew (t':=k) hv hlen,rfl,q _ I.fresh⟩
    have hn:(partsBetween ⟨⟨l⟩⟩ (occurrences ⟨⟨l⟩⟩ ⟨#[c]⟩ 0 (⟨⟨l⟩⟩:Str).length ((⟨⟨l⟩⟩:Str).length+1)) (⟨#[c]⟩:Str).length).length<=sizeLine:=by
     have e1:=StrLaws.occ_length_le ⟨⟨l⟩⟩ ⟨#[c]⟩ 0 (⟨⟨l⟩⟩:Str).length ((⟨⟨l⟩⟩:Str).length+1);rw[length_partsBetween];lia
    have hy:((⟨#[c]⟩:Str).length==0)=false:=rfl;cases h1:(decide ((⟨⟨l⟩⟩:Str).length<(⟨#[c]⟩:Str).length) || decide (strKind ⟨⟨l⟩⟩<strKind ⟨#[c]⟩))
    ·cases hf:(occurrences ⟨⟨l⟩⟩ ⟨#[c]⟩ 0 (⟨⟨l⟩⟩:Str).length ((⟨⟨l⟩⟩:Str).length+1)).isEmpty
     ·refine YV F.slot_str_split (YC _ _ _) F.entry_str_split (F.args_str_split_2 _ _) (meets_str_split_sep ⟨⟨l⟩⟩ ⟨#[c]⟩ t t' h1 hy hf (by lia) hn) ?_
      show wants _ _ _ { s with toks:=_,heap:=s.heap.push { cls:=.type "list",data:=.seq (strsFrom s.toks (partsBetween ⟨⟨l⟩⟩ (occurrences ⟨⟨l⟩⟩ ⟨#[c]⟩ 0 (⟨⟨l⟩⟩:Str).length ((⟨⟨l⟩⟩:Str).length+1)) (⟨#[c]⟩:Str).length)).toArray } };rw[strsFrom_eq];exact fin (numbered s.toks _) _ ((numbered_texts _ _).trans ((if_neg (ne_true_of_eq_false h1)).trans (if_neg (ne_true_of_eq_false hf))).symm)
     ·refine YV F.slot_str_split (YC _ _ _) F.entry_str_split (F.args_str_split_2 _ _) (meets_str_split_not_found ⟨⟨l⟩⟩ ⟨#[c]⟩ t t' h1 hy hf) ?_
      exact fin [(⟨⟨l⟩⟩,t)] s.toks ((if_neg (ne_true_of_eq_false h1)).trans (if_pos hf)).symm
    ·refine YV F.slot_str_split (YC _ _ _) F.entry_str_split (F.args_str_split_2 _ _) (meets_str_split_cannot_occur ⟨⟨l⟩⟩ ⟨#[c]⟩ t t' h1) ?_
     exact fin [(⟨⟨l⟩⟩,t)] s.toks (if_pos h1).symm
   |cons=>exact(id h:False).elim
  |_=>exact(id h:False).elim
 |_=>exact(id h:False).elim
def uI:List Nat->List Nat->Bool
 |_,[]=>true
 | [],_::_=>false
 |a::l,b::r=>decide (a=b)&&uI l r
theorem vW:∀(x y:List Nat),uI x y=true↔x.take y.length=y
 |x,[]=>by simp[uI]
 | [],b::r=>by simp[uI]
 |a::l,b::r=>by simp[uI,vW l r]
def ID:V->List V->Hp->VK->Prop
 | .str x,[.str y],H,Q=>Q (.bl (uI (cs x) (cs y))) H
 |_,_,_,_=>False
theorem Dq(x y:Str):(decide (0+y.length<=x.length)&&Yp x y 0)=uI (cs x) (cs y):=by
 obtain⟨⟨l⟩⟩:=x;obtain⟨⟨r⟩⟩:=y;rw[Z4,vW,Zj];unfold Yp;simp only[ZN,cs,Nat.zero_add,decide_eq_true_eq,zH,beq_iff_eq];have e:(⟨l⟩:Array Nat).extract 0 r.length=⟨r⟩↔l.take r.length=r:=by
  constructor
  ·intro h
   have:=congrArg Array.toList h
   simpa using this
  ·intro h
   apply Array.toList_inj.mp
   simpa using h
 constructor
 ·rintro⟨_,h⟩;exact e.mp h
 ·intro h
  refine⟨?_,e.mpr h⟩;have:=congrArg Y5 h;rw[uV]at this;lia
theorem pM:MtR X "str.startswith" ID:=by
 intro pins s σ H x xs v us Q I rx rs h;cases x with
 |str x=>
  rcases xs with _|⟨e_1,r_1⟩
  ·exact(id h:False).elim
  cases e_1 with
  |str y=>
   cases r_1 with
   |nil=>
    obtain⟨t,rfl⟩:=rx;obtain⟨u,rfl,t',rfl⟩:=dO rs;refine YV F.slot_str_startswith (YC _ _ _) F.entry_str_startswith (F.args_str_startswith_2 _ _) (gives_str_startswith _ y t t').meets ?_;exact⟨.bl _,H,I,rfl,by rw[Dq];exact h⟩
   |cons=>exact(id h:False).elim
  |_=>exact(id h:False).elim
 |_=>exact(id h:False).elim
def FR:R2
 | .ref l,.ref b,H,Q=>∃xs zs,H l=some (.lst xs)/\H b=some (.lst zs)/\xs.length+zs.length<=sizeLine/\∀p,H p=none->Q (.ref p) (upd H p (.lst (xs++zs)))
 |_,_,_,_=>False
theorem gw:OpR X (binaryOp .Add) FR:=Hl.imp fun x y H Q h=>by
 cases x with
 |ref v_1=>
  cases y with
  |ref v_2=>
   obtain⟨xs,zs,h1,h2,h3,q⟩:=h;exact⟨_,_,xs,zs,rfl,rfl,h1,h2,h3,q⟩
  |_=>exact(id h:False).elim
 |_=>exact(id h:False).elim
def F5:R2
 | .ref l,.int k,H,Q=>∃xs,H l=some (.lst xs) /\ -(2 ^ 63)<=k/\k<2 ^ 63/\xs.length*k.toNat<=sizeLine/\∀p,H p=none->Q (.ref p) (upd H p (.lst (t7 k.toNat xs).flatten))
 |_,_,_,_=>False
theorem jQ:OpR X (binaryOp .Mult) F5:=FP.imp fun x y H Q h=>by
 cases x with
 |ref v_1=>
  cases y with
  |int v_2=>
   obtain⟨xs,h1,h2,h3,h4,q⟩:=h;exact⟨_,_,xs,rfl,rfl,h1,h2,h3,h4,q⟩
  |_=>exact(id h:False).elim
 |_=>exact(id h:False).elim
theorem pR(K:W.Frag)(h:X.K=K:=by rfl):SlR X (Gr K):=h ▸ De
def xY(K:W.Frag):List V->Hp->VK->Prop
 | [.ref p],H,Q=>∃ys,(SqL K H p ys\/SqT K H p ys)/\∀l,H l=none->Q (.ref l) (upd H l (.lst ys))
 |_,_,_=>False
theorem kX(K:W.Frag)(hK:X.K=K:=by rfl):CallR X (.type "list") (xY K):=by
 subst hK;refine sI.imp fun xs H Q h=>?_;rcases xs with _|⟨e_1,r_1⟩
 ·exact(id h:False).elim
 cases e_1 with
 |ref v_2=>
  cases r_1 with
  |nil=>
   obtain⟨ys,h1,q⟩:=h;exact⟨_,ys,rfl,h1,q⟩
  |cons=>exact(id h:False).elim
 |_=>exact(id h:False).elim
def CT(K:W.Frag):List V->Hp->VK->Prop
 | [.ref p],H,Q=>∃ys,(SqL K H p ys/\∀l,H l=none->Q (.ref l) (upd H l (.tup ys)))\/(SqT K H p ys/\Q (.ref p) H)
 |_,_,_=>False
theorem fR(K:W.Frag)(hK:X.K=K:=by rfl):CallR X (.type "tuple") (CT K):=by
 subst hK;refine qo.imp fun xs H Q h=>?_;rcases xs with _|⟨e_1,r_1⟩
 ·exact(id h:False).elim
 cases e_1 with
 |ref v_2=>
  cases r_1 with
  |nil=>
   obtain⟨ys,h1⟩:=h;exact⟨_,ys,rfl,h1⟩
  |cons=>exact(id h:False).elim
 |_=>exact(id h:False).elim
inductive EqH (K:W.Frag) (H:Hp):Nat->V->V->Bool->Prop
 |flat {n x y}:eE x=true->eE y=true->EqH K H n x y (eqV x y)
 |same {n p}:EqH K H n (.ref p) (.ref p) true
 |lst {n p q xs ys} {e:Nat->Bool}:p≠q->SqL K H p xs->SqL K H q ys->xs.length=ys.length->(∀j x y,xs[j]? = some x->ys[j]? = some y->EqH K H n x y (e j))->EqH K H (n+1) (.ref p) (.ref q) ((Zb xs.length).all e)
 |len {n p q xs ys}:p≠q->SqL K H p xs->SqL K H q ys->xs.length≠ys.length->EqH K H (n+1) (.ref p) (.ref q) false
 |tup {n p q xs ys} {e:Nat->Bool}:p≠q->SqT K H p xs->SqT K H q ys->(∀j x y,xs[j]? = some x->ys[j]? = some y->EqH K H n x y (e j))->EqH K H (n+1) (.ref p) (.ref q) ((Zb (min xs.length ys.length)).all e&&xs.length==ys.length)
 |lt {n p q xs ys}:SqL K H p xs->SqT K H q ys->EqH K H (n+1) (.ref p) (.ref q) false
 |tl {n p q xs ys}:SqT K H p xs->SqL K H q ys->EqH K H (n+1) (.ref p) (.ref q) false
theorem fT{P:Value->Value->Bool->Prop}{xs ys:List V}{its its':List Value}{e:Nat->Bool}(r:Vals xs its)(r':Vals ys its')(h:∀j x y u v,xs[j]? = some x->ys[j]? = some y->RelV x u->RelV y v->P u v (e j)) :
 ∀j (h1:j<its.toArray.size) (h2:j<its'.toArray.size),P its.toArray[j] its'.toArray[j] (e j):=fun j g1 g2=>by
 have h1:xs.length=its.length:=r.length;have h2:ys.length=its'.length:=r'.length;have g1':j<its.length:=by simpa using g1
 have g2':j<its'.length:=by simpa using g2
 have l1:j<xs.length:=by lia
 have l2:j<ys.length:=by lia
 obtain⟨w1,e1,r1⟩:=r.get (List.getElem?_eq_getElem l1);obtain⟨w2,e2,r2⟩:=r'.get (List.getElem?_eq_getElem l2);have z1:its.toArray[j]=w1:=by
  have:its[j]? = some its[j]:=List.getElem?_eq_getElem g1';rw[this]at e1;simpa using tZ e1
 have z2:its'.toArray[j]=w2:=by
  have:its'[j]? = some its'[j]:=List.getElem?_eq_getElem g2';rw[this]at e2;simpa using tZ e2
 rw[z1,z2];exact h j _ _ _ _ (List.getElem?_eq_getElem l1) (List.getElem?_eq_getElem l2) r1 r2
theorem EqH.at{K:W.Frag}{H:Hp}{n:Nat}{x y:V}{b:Bool}(h:EqH K H n x y b):∀ {X:Cx} {pins:List (Addr × Obj)} {σ:St} {s:Shared} {A:Around} {u v:Value},X.K=K->Inv X pins σ H s->A.units+n<cLine->RelV x u->RelV y v->SeqAt.EqAt A s u v b:=by
 induction h with
 |flat fx fy=>
  intro X pins σ s A u v hK I hu rx ry;exact wF rx ry fx fy
 |same=>
  intro X pins σ s A u v hK I hu rx ry;cases rx;cases ry;exact SeqAt.EqAt.same _
 | @lst n p q xs ys e hpq hx hy hl _ ih=>
  intro X pins σ s A u v hK I hu rx ry;cases rx;cases ry;subst hK;obtain⟨its,r,pl,hz⟩:=I.list hx;obtain⟨its',r',pl',hz'⟩:=I.list hy;have h1:xs.length=its.length:=r.length;have h2:ys.length=its'.length:=r'.length;have:=SeqAt.RcAt.lists (A:=A) (e:=e) pl.isList pl'.isList (by simp;lia) (by lia) (fT r r' fun j x y u v g1 g2 r1 r2=>ih j x y g1 g2 rfl I (by show A.units+1+n<cLine;lia) r1 r2);rw[zH,<- h1]at this;exact .of_refs hpq this
 | @len n p q xs ys hpq hx hy hl=>
  intro X pins σ s A u v hK I hu rx ry;cases rx;cases ry;subst hK;obtain⟨its,r,pl,hz⟩:=I.list hx;obtain⟨its',r',pl',hz'⟩:=I.list hy;have h1:xs.length=its.length:=r.length;have h2:ys.length=its'.length:=r'.length;exact .of_refs hpq (SeqAt.RcAt.lists_lengths pl.isList pl'.isList (by simp;lia) (by lia))
 | @tup n p q xs ys e hpq hx hy _ ih=>
  intro X pins σ s A u v hK I hu rx ry;cases rx;cases ry;subst hK;obtain⟨its,r,pl,hz⟩:=I.tuple hx;obtain⟨its',r',pl',hz'⟩:=I.tuple hy;have h1:xs.length=its.length:=r.length;have h2:ys.length=its'.length:=r'.length;have:=SeqAt.RcAt.tuples (A:=A) (e:=e) pl pl' (by lia) (fT r r' fun j x y u v g1 g2 r1 r2=>ih j x y g1 g2 rfl I (by show A.units+1+n<cLine;lia) r1 r2);rw[zH,zH,<- h1,<- h2]at this;exact .of_refs hpq this
 |lt hx hy=>
  intro X pins σ s A u v hK I hu rx ry;cases rx;cases ry;subst hK;obtain⟨its,r,pl,hz⟩:=I.list hx;obtain⟨its',r',pl',hz'⟩:=I.tuple hy;exact SeqAt.EqAt.list_tuple pl.isList pl' (by lia)
 |tl hx hy=>
  intro X pins σ s A u v hK I hu rx ry;cases rx;cases ry;subst hK;obtain⟨its,r,pl,hz⟩:=I.tuple hx;obtain⟨its',r',pl',hz'⟩:=I.list hy;exact SeqAt.EqAt.tuple_list pl pl'.isList (by lia)
inductive EqR (K:W.Frag) (H:Hp) (p q:Addr):Bool->Prop
 |lst {xs ys} {e:Nat->Bool}:SqL K H p xs->SqL K H q ys->xs.length=ys.length->(∀j x y,xs[j]? = some x->ys[j]? = some y->EqH K H 50 x y (e j))->EqR K H p q ((Zb xs.length).all e)
 |len {xs ys}:SqL K H p xs->SqL K H q ys->xs.length≠ys.length->EqR K H p q false
 |tup {xs ys} {e:Nat->Bool}:SqT K H p xs->SqT K H q ys->(∀j x y,xs[j]? = some x->ys[j]? = some y->EqH K H 50 x y (e j))->EqR K H p q ((Zb (min xs.length ys.length)).all e&&xs.length==ys.length)
def Ht(K:W.Frag)(neg:Bool):R2
 | .ref p,.ref q,H,Q=>∃b,EqR K H p q b/\Q (.bl (neg ^^ b)) H
 |_,_,_,_=>False
theorem GD(K:W.Frag)(hu:X.A.units+100<cLine)(hK:X.K=K:=by rfl):OpR X (rW .Eq) (Ht K false):=by
 subst hK;intro pins s σ H x y v u Q I rx ry h;cases x with
 |ref p=>
  cases y with
  |ref q=>
   obtain⟨b,hb,q⟩:=h;cases rx;cases ry;cases hb with
   | @lst xs ys e hx hy hl he=>
    obtain⟨its,r,pl,hz⟩:=I.list hx;obtain⟨its',r',pl',hz'⟩:=I.list hy;have h1:xs.length=its.length:=r.length;have h2:ys.length=its'.length:=r'.length;refine SeqAt.eq_listAt (e:=e) pl.isList pl'.isList (by simp;lia) (by lia) (fT r r' fun j x y u v g1 g2 r1 r2=>(he j x y g1 g2).at rfl I (by show X.A.units+1+50<cLine;lia) r1 r2) ⟨.bl _,H,I,rfl,?_⟩;rw[zH,<- h1];simpa using q
   | @len xs ys hx hy hl=>
    obtain⟨its,r,pl,hz⟩:=I.list hx;obtain⟨its',r',pl',hz'⟩:=I.list hy;have h1:xs.length=its.length:=r.length;have h2:ys.length=its'.length:=r'.length;exact SeqAt.eq_list_lengthsAt pl.isList pl'.isList (by simp;lia) (by lia) ⟨.bl false,H,I,rfl,by simpa using q⟩
   | @tup xs ys e hx hy he=>
    obtain⟨its,r,pl,hz⟩:=I.tuple hx;obtain⟨its',r',pl',hz'⟩:=I.tuple hy;have h1:xs.length=its.length:=r.length;have h2:ys.length=its'.length:=r'.length;refine SeqAt.eq_tupleAt (e:=e) pl pl' (by lia) (fT r r' fun j x y u v g1 g2 r1 r2=>(he j x y g1 g2).at rfl I (by show X.A.units+1+50<cLine;lia) r1 r2) ⟨.bl _,H,I,rfl,?_⟩;rw[zH,zH,<- h1,<- h2];simpa using q
  |_=>exact(id h:False).elim
 |_=>exact(id h:False).elim
theorem FN(K:W.Frag)(hu:X.A.units+100<cLine)(hK:X.K=K:=by rfl):OpR X (rW .NotEq) (Ht K true):=by
 subst hK;intro pins s σ H x y v u Q I rx ry h;cases x with
 |ref p=>
  cases y with
  |ref q=>
   obtain⟨b,hb,q⟩:=h;cases rx;cases ry;cases hb with
   | @lst xs ys e hx hy hl he=>
    obtain⟨its,r,pl,hz⟩:=I.list hx;obtain⟨its',r',pl',hz'⟩:=I.list hy;have h1:xs.length=its.length:=r.length;have h2:ys.length=its'.length:=r'.length;refine SeqAt.RcNeAt.lists (e:=e) pl.isList pl'.isList (by simp;lia) (by lia) (fT r r' fun j x y u v g1 g2 r1 r2=>(he j x y g1 g2).at rfl I (by show X.A.units+1+50<cLine;lia) r1 r2) X.prog X.w X.xe _ ⟨.bl _,H,I,rfl,?_⟩;rw[zH,<- h1];simpa using q
   | @len xs ys hx hy hl=>
    obtain⟨its,r,pl,hz⟩:=I.list hx;obtain⟨its',r',pl',hz'⟩:=I.list hy;have h1:xs.length=its.length:=r.length;have h2:ys.length=its'.length:=r'.length;exact SeqAt.RcNeAt.lists_lengths pl.isList pl'.isList (by simp;lia) (by lia) X.prog X.w X.xe _ ⟨.bl true,H,I,rfl,by simpa using q⟩
   | @tup xs ys e hx hy he=>
    obtain⟨its,r,pl,hz⟩:=I.tuple hx;obtain⟨its',r',pl',hz'⟩:=I.tuple hy;have h1:xs.length=its.length:=r.length;have h2:ys.length=its'.length:=r'.length;refine SeqAt.RcNeAt.tuples (e:=e) pl pl' (by lia) (fT r r' fun j x y u v g1 g2 r1 r2=>(he j x y g1 g2).at rfl I (by show X.A.units+1+50<cLine;lia) r1 r2) X.prog X.w X.xe _ ⟨.bl _,H,I,rfl,?_⟩;rw[zH,zH,<- h1,<- h2];simpa using q
  |_=>exact(id h:False).elim
 |_=>exact(id h:False).elim
end
end L2
namespace PySem
open Sem (wp)
open Builtin
end PySem
namespace L2
open PySem PySem.Spec PyProof.Rows Builtin Builtin.Str
section
variable{X:Cx}{e a b c:Expr}{pos:Pos}
def io(K:W.Frag)(neg:Bool):R2:=fun x y H Q=>match eqS x y with
 |some k=>Q (.bl (neg ^^ k)) H
 |none=>Ht K neg x y H Q
theorem bF(K:W.Frag)(hu:X.A.units+100<cLine)(hK:X.K=K:=by rfl):OpR X (rW .Eq) (io K false):=((Hf (by lia)).or (GD K hu hK)).imp fun x y H Q h=>by
 unfold io at h;split at h
 ·rename_i k hk
  obtain⟨h1,h2⟩:=vC hk;exact .inl (.inl ⟨h1,by rw[h2];simpa using h⟩)
 ·exact .inr h
theorem cE(K:W.Frag)(hu:X.A.units+100<cLine)(hK:X.K=K:=by rfl):OpR X (rW .NotEq) (io K true):=((FF (by lia)).or (FN K hu hK)).imp fun x y H Q h=>by
 unfold io at h;split at h
 ·rename_i k hk
  obtain⟨h1,h2⟩:=vC hk;exact .inl (.inl ⟨h1,by rw[h2];simpa using h⟩)
 ·exact .inr h
variable{K:W.Frag}{neg:Bool}{H:Hp}{Q:VK}
theorem xN:io K neg (.int i) (.int j) H Q=Q (.bl (neg ^^ decide (i=j))) H:=rfl
theorem BN:io K neg (.bl i) (.bl j) H Q=Q (.bl (neg ^^ decide (i=j))) H:=rfl
theorem yF:io K neg (.str i) (.str j) H Q=Q (.bl (neg ^^ decide (i.cps.toList=j.cps.toList))) H:=rfl
theorem xI:io K neg (.ref p) (.ref q) H Q = ∃b,EqR K H p q b/\Q (.bl (neg ^^ b)) H:=rfl
theorem CV:io K neg .non .non H Q=Q (.bl (neg ^^ true)) H:=rfl
theorem CB:io K neg .non (.int i) H Q=Q (.bl (neg ^^ false)) H:=rfl
theorem Cv:io K neg (.int i) .non H Q=Q (.bl (neg ^^ false)) H:=rfl
theorem A0:io K neg (.int i) (.str s) H Q=Q (.bl (neg ^^ false)) H:=rfl
theorem Bl:io K neg (.str s) (.int i) H Q=Q (.bl (neg ^^ false)) H:=rfl
end
theorem pP{K:W.Frag}{tl:TE}{g:TG}{tb:TS}{D:eA}{σ:St}{H:Hp}(h:tl σ H fun v H1=>sO (zD K (tC v)) g tb D σ H1):sO (zD K tl) g tb D σ H:=h
theorem iC{K:W.Frag}{tl:TE}{g:TG}{tb:TS}{D:eA}{σ:St}{H:Hp}(h:tl σ H fun v H1=>sO (oP K (tC v)) g tb D σ H1):sO (oP K tl) g tb D σ H:=h
theorem qh{K:W.Frag}{a:Addr}{xs:List V}{g:TG}{tb:TS}{D:eA}{σ:St}{H:Hp}(hq:SqT K H a xs)(h:∃W:Nat->Nat->St->Hp->Prop,(∃m,W 0 m σ H)/\∀i m σ H,W i m σ H ->
 ((Itt K a).stop i H/\D.nx σ H)\/((Itt K a).go i H/\∃N:St->Hp->Prop,(∀σ' H',N σ' H'->∃m',m'<m/\W (i+1) m' σ' H')/\∀x H',(Itt K a).yld i H x H'->g x σ H' fun σ2 H2=>tb { D with nx:=N,ct:=N,bk:=D.nx } σ2 H2)):sO (zD K (tC (.ref a))) g tb D σ H:=⟨a,rfl,⟨xs,hq⟩,h⟩
theorem il{K:W.Frag}{a:Addr}{xs:List V}{g:TG}{tb:TS}{D:eA}{σ:St}{H:Hp}(hq:SqL K H a xs)(h:∃W:Nat->Nat->St->Hp->Prop,(∃m,W 0 m σ H)/\∀i m σ H,W i m σ H ->
 ((Itl K a).stop i H/\D.nx σ H)\/((Itl K a).go i H/\∃N:St->Hp->Prop,(∀σ' H',N σ' H'->∃m',m'<m/\W (i+1) m' σ' H')/\∀x H',(Itl K a).yld i H x H'->g x σ H' fun σ2 H2=>tb { D with nx:=N,ct:=N,bk:=D.nx } σ2 H2)):sO (oP K (tC (.ref a))) g tb D σ H:=⟨a,rfl,⟨xs,hq⟩,h⟩
theorem rH(s:Same H H')(h:cP H x=some t):cP H' x=some t:=by
 cases x with
 |ref p=>
  unfold cP at h |-
  dsimp only at h |-
  cases e:H p with
  |none=>rw[e]at h;cases h
  |some o=>rw[e]at h;rw[s _ _ e];exact h
 |_=>exact h
theorem AM(h:atI xs i=some (.ref q))(hq:H q=none)(ho:H1 q=some o)(po:iE o=true)(k:Q (.ref q) (upd H q o)):fH xs H H1 Q (.int i):=by
 unfold fH;simp only[h,ho];exact⟨hq,po,k⟩
theorem qU{ls:List (List Nat)}{i:Int}(h0:0<=i)(h1:i<ls.length)(q:∀l∈ls,Q (T l) H):fH (ls.map T) H H1 Q (.int i):=by
 obtain⟨j,rfl⟩:∃j:Nat,i=j:=⟨i.toNat,by lia⟩;have hj:j<ls.length:=by lia
 have e:atI (ls.map T) (j:Int)=some (T ls[j]):=av (by simp[hj]);simp only[fH,e];exact q _ (Yh hj)
theorem zW(lo:Int)(n:Nat):GH (Itr lo n) ((Zb n).map fun k=>V.int (lo+(k:Nat))):=by
 refine⟨fun i H h=>by simpa [Itr] using h,fun i H x H' hi y=>?_,fun H=>by simp[Itr]⟩;obtain⟨e,rfl⟩:=y;refine⟨e,?_⟩;have hi':i<n:=by simpa using hi
 simp[hi']
end L2
namespace L2
theorem c8(r:Room k A):A.units+100<PySem.cLine:=by have:=r.un;lia
end L2
namespace L2
open PySem PySem.Spec PyProof.Rows
section
variable{κ:Type}[DecidableEq κ]
def dN(kvs:List (κ × V))(k:κ):Option V:=(kvs.find? fun kv=>decide (kv.1=k)).map (·.2)
def dB(kvs:List (κ × V))(k:κ)(v:V):List (κ × V):=
 if (kvs.any fun kv=>decide (kv.1=k))=true then kvs.map (fun kv=>if kv.1=k then (kv.1,v) else kv) else kvs++[(k,v)]
def Kb(kvs:List (κ × V))(k:κ):List (κ × V):=kvs.filter fun kv=>decide (kv.1≠k)
theorem d9{p:κ × V}{r:List (κ × V)}{k:κ}(e:p.1=k):dN (p::r) k=some p.2:=by simp[dN,List.find?_cons,e]
theorem de{p:κ × V}{r:List (κ × V)}{k:κ}(e:¬ p.1=k):dN (p::r) k=dN r k:=by simp[dN,List.find?_cons,e]
theorem oZ(k:κ):∀kvs:List (κ × V),(kvs.any fun kv=>decide (kv.1=k))=(dN kvs k).isSome
 | []=>rfl
 |p::r=>by
  rw[YZ];by_cases e:p.1=k
  ·simp only[d9 e,decide_eq_true e,Bool.true_or,Option.isSome_some]
  ·rw[de e,decide_eq_false e,Bool.false_or];exact oZ k r
theorem iJ(kvs:List (κ × V))(k:κ)(v:V):(dB kvs k v).length<=kvs.length+1:=by
 unfold dB;split
 ·rw[zg];lia
 ·rw[zi,vN,Z2];lia
theorem p8{kvs:List (κ × V)}{k:κ}(v:V)(h:dN kvs k=none):dB kvs k v=kvs++[(k,v)]:=by
 unfold dB;rw[oZ,h];exact if_neg (by decide)
theorem RelO.isSome_eq{o:Option V}{u:Option Value}(r:RelO o u):o.isSome=u.isSome:=by
 cases o with
 |none=>cases u with
  |none=>rfl
  |some _=>exact(show False from r).elim
 |some _=>cases u with
  |none=>exact(show False from r).elim
  |some _=>rfl
theorem RelO.getD{o:Option V}{u:Option Value}{d:V}{d':Value}(r:RelO o u)(rd:RelV d d'):RelV (o.getD d) (u.getD d'):=by
 cases o with
 |none=>cases u with
  |none=>exact rd
  |some _=>exact(show False from r).elim
 |some _=>cases u with
  |none=>exact(show False from r).elim
  |some _=>exact r
theorem KV.val{kvs:List (κ × V)}{vs:List (κ × Value)}(r:KV kvs vs)(k:κ):RelO (dN kvs k) (valueAt vs k):=by
 unfold KV at r
 induction r with
 |nil=>exact ZH
 | @cons p q ps qs h t ih=>
  obtain⟨h1,h2⟩:=h;by_cases e:p.1=k
  ·have e':q.1=k:=h1.symm.trans e
   have b:valueAt (q::qs) k=some q.2:=by simp[valueAt,List.find?_cons,e']
   rw[d9 e,b];exact h2
  ·have e':¬ q.1=k:=fun z=>e (h1.trans z)
   have b:valueAt (q::qs) k=valueAt qs k:=by simp[valueAt,List.find?_cons,e']
   rw[de e,b];exact ih
theorem KV.any{kvs:List (κ × V)}{vs:List (κ × Value)}(r:KV kvs vs)(k:κ):(kvs.any fun kv=>decide (kv.1=k))=vs.any fun kv=>decide (kv.1=k):=by
 unfold KV at r
 induction r with
 |nil=>rfl
 |cons h t ih=>rw[YZ,YZ,ih,h.1]
theorem KV.repl{kvs:List (κ × V)}{vs:List (κ × Value)}(r:KV kvs vs)(k:κ){y:V}{u:Value}(ry:RelV y u) :
 KV (kvs.map fun kv=>if kv.1=k then (kv.1,y) else kv) (vs.map fun kv=>if kv.1=k then (kv.1,u) else kv):=by
 unfold KV at r |-
 induction r with
 |nil=>exact .nil
 | @cons p q ps qs h t ih=>
  rw[xa,xa];refine .cons ?_ ih;obtain⟨h1,h2⟩:=h;by_cases e:p.1=k
  ·rw[if_pos e,if_pos (h1.symm.trans e)];exact⟨h1,ry⟩
  ·rw[if_neg e,if_neg (fun z=>e (h1.trans z))];exact⟨h1,h2⟩
theorem KV.put{kvs:List (κ × V)}{vs:List (κ × Value)}(r:KV kvs vs)(k:κ){y:V}{u:Value}(ry:RelV y u):KV (dB kvs k y) (stored vs k u):=by
 unfold dB stored;rw[r.any k];by_cases e:(vs.any fun kv=>decide (kv.1=k))=true
 ·rw[if_pos e,if_pos e];exact r.repl k ry
 ·rw[if_neg e,if_neg e];exact Paired.snoc r ⟨rfl,ry⟩
theorem KV.keys{kvs:List (κ × V)}{vs:List (κ × Value)}(r:KV kvs vs):kvs.map (·.1)=vs.map (·.1):=by
 unfold KV at r
 induction r with
 |nil=>rfl
 |cons h t ih=>rw[xa,xa,ih,h.1]
theorem KV.length{kvs:List (κ × V)}{vs:List (κ × Value)}(r:KV kvs vs):kvs.length=vs.length:=Paired.length r
end
theorem nB{P:Program}{w:World}{k:Key}{u:Value}(r:RelV (kV k) u):(bK P w).is k u=true:=by
 cases k with
 |inl i=>obtain⟨t,e⟩:=(show ∃t,u=Value.int i t from r);subst e;exact uJ P w i t
 |inr x=>obtain⟨t,e⟩:=(show ∃t,u=YM x t from r);subst e;exact we P w x t
theorem G9{a b:Key}(e:kV a=kV b):a=b:=by
 cases a with
 |inl i=>cases b with
  |inl j=>have e':V.int i=V.int j:=e;injection e' with e';rw[e']
  |inr y=>exact nomatch (show V.int i=V.str y from e)
 |inr x=>cases b with
  |inl j=>exact nomatch (show V.str x=V.int j from e)
  |inr y=>have e':V.str x=V.str y:=e;injection e' with e';rw[e']
theorem yD:∀ {a b:List Key},a.map kV=b.map kV->a=b
 | [],[],_=>rfl
 | [],_::_,e=>by simp at e
 |_::_,[],e=>by simp at e
 |x::xs,y::ys,e=>by
  rw[xa,xa]at e;injection e with e1 e2
  rw[G9 e1,yD e2]
theorem rC{P:Program}{w:World}:∀ {ks:List Key} {us:List Value},Vals (ks.map kV) us->ItemsAre (bK P w) ks us
 | [],_,r=>by rw[Z6]at r;cases r;exact .nil
 |k::ks,_,r=>by
  rw[xa]at r;cases r with
  |cons h t=>exact .cons (nB h) (rC t)
abbrev KT(H:Hp):List (List Key × V)->List (List Key × Addr × Value)->Prop:=Paired fun p q=>p.1=q.1/\H q.2.1=some (.tup (p.1.map kV))/\RelV p.2 q.2.2
theorem KT.val{H:Hp}{kvs:List (List Key × V)}{xs:List (List Key × Addr × Value)}(r:KT H kvs xs)(k:List Key):RelO (dN kvs k) ((atKey xs k).map (·.2)):=by
 induction r with
 |nil=>exact ZH
 | @cons p q ps qs h t ih=>
  obtain⟨h1,_,h2⟩:=h;by_cases e:p.1=k
  ·have e':q.1=k:=h1.symm.trans e
   have b:atKey (q::qs) k=some q.2:=by simp[atKey,List.find?_cons,e']
   rw[d9 e,b];exact h2
  ·have e':¬ q.1=k:=fun z=>e (h1.trans z)
   have b:atKey (q::qs) k=atKey qs k:=by simp[atKey,List.find?_cons,e']
   rw[de e,b];exact ih
theorem KT.repl{H:Hp}{kvs:List (List Key × V)}{xs:List (List Key × Addr × Value)}(r:KT H kvs xs)(k:List Key){y:V}{u:Value}(ry:RelV y u) :
 KT H (kvs.map fun kv=>if kv.1=k then (kv.1,y) else kv) (xs.map (putAt k u)):=by
 induction r with
 |nil=>exact .nil
 | @cons p q ps qs h t ih=>
  rw[xa,xa];refine .cons ?_ ih;obtain⟨h1,h2,h3⟩:=h;unfold putAt;by_cases e:p.1=k
  ·rw[if_pos e,if_pos (h1.symm.trans e)];exact⟨h1,h2,ry⟩
  ·rw[if_neg e,if_neg (fun z=>e (h1.trans z))];exact⟨h1,h2,h3⟩
theorem KT.put{H:Hp}{kvs:List (List Key × V)}{xs:List (List Key × Addr × Value)}(r:KT H kvs xs)(k:List Key){b:Addr}{y:V}{u:Value}(hb:H b=some (.tup (k.map kV)))(ry:RelV y u) :
 KT H (dB kvs k y) (storedH xs k b u):=by
 have e:(kvs.any fun kv=>decide (kv.1=k))=(atKey xs k).isSome:=by
  rw[oZ,(r.val k).isSome_eq,ZA]
 unfold dB storedH;rw[e];by_cases q:(atKey xs k).isSome=true
 ·rw[if_pos q,if_pos q];exact r.repl k ry
 ·rw[if_neg q,if_neg q];exact Paired.snoc r ⟨rfl,hb,ry⟩
theorem KT.keeps{H H':Hp}{kvs:List (List Key × V)}{xs:List (List Key × Addr × Value)}(r:KT H kvs xs)(ht:∀b ys,H b=some (.tup ys)->H' b=some (.tup ys)):KT H' kvs xs:=
 Paired.mapP r fun _ _ z=>⟨z.1,ht _ _ z.2.1,z.2.2⟩
section
variable{P:Program}{w:World}{H:Hp}{h:Heap}{a:Addr}
theorem A7{u:HO}(ok:HOk P w H h)(e:Rd H a u):ObjOk P w H h a u:=e.ok ok
theorem m4{kvs:List (Key × V)}(ok:HOk P w H h)(e:Rd H a (.dK kvs)):kvs.length<=sizeLine/\(a==ZT)=false/\∃vs,KV kvs vs/\h.DictOf (bK P w) a vs:=
 show ObjOk P w H h a (.dK kvs) from A7 ok e
theorem yw{kvs:List (Key × V)}(ok:HOk P w H h)(e:H a=some (.dK kvs)):kvs.length<=sizeLine/\(a==ZT)=false/\∃vs,KV kvs vs/\h.DictOf (bK P w) a vs:=m4 ok (.inl e)
theorem jK{ks:List Key}(ok:HOk P w H h)(e:H a=some (.tup (ks.map kV))):(tupleKind (bK P w)).is h ks a:=by
 obtain⟨_,its,r,o,h1,h2,n,h3⟩:=(show ObjOk P w H h a (.tup (ks.map kV)) from ok a _ e);exact⟨o,its.toArray,n,h1,h2,h3,by simpa using rC r⟩
theorem nv{kvs:List (List Key × V)}(ok:HOk P w H h)(e:Rd H a (.dT kvs)):kvs.length<=sizeLine/\(a==ZT)=false /\
 ∃xs,KT H kvs xs/\h.DictOfH (tupleKind (bK P w)) a xs:=by
 obtain⟨z,y,xs,r,o,es,ep,h1,h2,h3,h4,h5⟩:=(show ObjOk P w H h a (.dT kvs) from A7 ok e);refine⟨z,y,xs,r,o,es,ep,h1,h2,h3,h4,fun x hx=>?_,h5⟩;have all:∀ {l:List (List Key × V)} {m:List (List Key × Addr × Value)},KT H l m->∀x∈m,(tupleKind (bK P w)).is h x.1 x.2.1:=by
  intro l m q
  induction q with
  |nil=>intro x hx;exact nomatch hx
  | @cons p q ps qs hq t ih=>
   intro x hx;rcases zZ.mp hx with e|hx
   ·subst e
    exact jK ok (by rw[<- hq.1];exact hq.2.1)
   ·exact ih x hx
 exact all r x hx
theorem E0{kvs:List (List Key × V)}(ok:HOk P w H h)(e:H a=some (.dT kvs)):kvs.length<=sizeLine/\(a==ZT)=false /\
 ∃xs,KT H kvs xs/\h.DictOfH (tupleKind (bK P w)) a xs:=nv ok (.inl e)
end
def DGet(H:Hp)(a:Addr)(y:V)(r:Option V):Prop:=
 (∃kvs k,Rd H a (.dK kvs)/\y=kV k/\r=dN kvs k)\/∃kvs k b,Rd H a (.dT kvs)/\y = .ref b/\H b=some (.tup (k.map kV))/\r=dN kvs k
def DPut(H:Hp)(a:Addr)(y v:V)(H':Hp):Prop:=
 (∃kvs k,H a=some (.dK kvs)/\y=kV k/\kvs.length<sizeLine/\H'=upd H a (.dK (dB kvs k v))) \/
 ∃kvs k b,H a=some (.dT kvs)/\y = .ref b/\H b=some (.tup (k.map kV))/\kvs.length<sizeLine/\H'=upd H a (.dT (dB kvs k v))
theorem DGet.k{H:Hp}{a:Addr}{kvs:List (Key × V)}{k:Key}(e:H a=some (.dK kvs)):DGet H a (kV k) (dN kvs k):=.inl ⟨kvs,k,.inl e,rfl,rfl⟩
theorem DGet.t{H:Hp}{a b:Addr}{kvs:List (List Key × V)}{k:List Key}(e:H a=some (.dT kvs))(eb:H b=some (.tup (k.map kV))):DGet H a (.ref b) (dN kvs k):=.inr ⟨kvs,k,b,.inl e,rfl,eb,rfl⟩
theorem DPut.k{H:Hp}{a:Addr}{kvs:List (Key × V)}{k:Key}{v:V}(e:H a=some (.dK kvs))(hl:kvs.length<sizeLine):DPut H a (kV k) v (upd H a (.dK (dB kvs k v))):=.inl ⟨kvs,k,e,rfl,hl,rfl⟩
theorem DPut.t{H:Hp}{a b:Addr}{kvs:List (List Key × V)}{k:List Key}{v:V}(e:H a=some (.dT kvs))(eb:H b=some (.tup (k.map kV)))(hl:kvs.length<sizeLine) :
 DPut H a (.ref b) v (upd H a (.dT (dB kvs k v))):=.inr ⟨kvs,k,b,e,rfl,eb,hl,rfl⟩
section
variable{X:Cx}{pins:List (Addr × Obj)}{σ:St}{H:Hp}{s:Shared}{a:Addr}{y v:V}{u r:Value}{o:Option V}{A:Around}{E:Value->Shared->Prop}
theorem Inv.big(I:Inv X pins σ H s):ZT<s.heap.objs.size:=by
 have h:Za<s.heap.objs.size:=(I.mod.glob.keeps I.bk).lt;exact Nat.lt_trans (by decide) h
theorem zJ{Q:Value->Shared->Prop}(hu:A.units+1<cLine)(I:Inv X pins σ H s)(g:DGet H a y (some v))(ry:RelV y u)(h:∀w' s',Inv X pins σ H s'->RelV v w'->Q w' s') :
 wpAny (model X.prog X.w) A (getItem (.ref a) u) Q E s:=by
 rcases g with ⟨kvs,k,e,ey,l⟩|⟨kvs,k,b,e,ey,eb,l⟩
 ·subst ey
  obtain⟨z,hd,vs,rel,dd⟩:=m4 I.hok e;obtain⟨w',hw,rw'⟩:=RelO.some_of (v:=v) (o:=valueAt vs k) (by rw[l];exact rel.val k);exact wpAny_getItem_of (nB ry) dd.mapOf hw (h w' _ (I.tok _) rw')
 ·subst ey
  cases (show u=yW b from ry);obtain⟨z,hd,xs,rel,dd⟩:=nv I.hok e;obtain⟨w',hw,rw'⟩:=RelO.some_of (v:=v) (o:=(atKey xs k).map (·.2)) (by rw[l];exact rel.val k);obtain⟨p,hp,hp2⟩:=Zt.mp hw;refine wpAny_getItem_heap (Yv hu) (jK I.hok eb) dd hp ?_;rw[hp2];exact h w' _ (I.tok _) rw'
theorem JU{Q:Value->Shared->Prop}(hu:A.units+1<cLine)(I:Inv X pins σ H s)(g:DGet H a y o)(ry:RelV y u)(h:∀s',Inv X pins σ H s'->Q (.bool o.isSome) s') :
 wpAny (model X.prog X.w) A (rW .In u (.ref a)) Q E s:=by
 rcases g with ⟨kvs,k,e,ey,l⟩|⟨kvs,k,b,e,ey,eb,l⟩
 ·subst ey
  obtain⟨z,hd,vs,rel,dd⟩:=m4 I.hok e;refine wpAny_in_of (nB ry) hd dd.mapOf ?_;rw[<- (rel.val k).isSome_eq,<- l];exact h _ (I.tok _)
 ·subst ey
  cases (show u=yW b from ry);obtain⟨z,hd,xs,rel,dd⟩:=nv I.hok e;refine wpAny_in_heap (Yv hu) (jK I.hok eb) hd dd ?_;have q:=(rel.val k).isSome_eq;rw[ZA]at q;rw[<- q,<- l];exact h _ (I.tok _)
theorem Er{Q:Value->Shared->Prop}(hu:A.units+1<cLine)(I:Inv X pins σ H s)(g:DGet H a y o)(ry:RelV y u)(h:∀s',Inv X pins σ H s'->Q (.bool (!o.isSome)) s') :
 wpAny (model X.prog X.w) A (rW .NotIn u (.ref a)) Q E s:=by
 rcases g with ⟨kvs,k,e,ey,l⟩|⟨kvs,k,b,e,ey,eb,l⟩
 ·subst ey
  obtain⟨z,hd,vs,rel,dd⟩:=m4 I.hok e;refine wpAny_notIn_of (nB ry) hd dd.mapOf ?_;rw[<- (rel.val k).isSome_eq,<- l];exact h _ (I.tok _)
 ·subst ey
  cases (show u=yW b from ry);obtain⟨z,hd,xs,rel,dd⟩:=nv I.hok e;refine wpAny_notIn_heap (Yv hu) (jK I.hok eb) hd dd ?_;have q:=(rel.val k).isSome_eq;rw[ZA]at q;rw[<- q,<- l];exact h _ (I.tok _)
theorem sP{h':Heap}{t':Nat}{ob:HO}(I:Inv X pins σ H s)(mu:Mut (H a))(hs:Heap.SameBut a s.heap h')(he:∃q,h'.get? a=some q)(new:ObjOk X.prog X.w (upd H a ob) h' a ob) :
 Inv X pins σ (upd H a ob) { s with heap:=h',toks:=t' }:=
 I.write (x:=a) (e:=a) mu (.inl rfl) (fun b q hb z=>(hs.2 b hb).trans z) he new
theorem Al{P:Program}{w:World}{H':Hp}{h':Heap}{kvs:List (Key × V)}{vs:List (Key × Value)}(z:kvs.length<=sizeLine)(hd:(a==ZT)=false)(rel:KV kvs vs)(dd:h'.DictOf (bK P w) a vs) :
 ObjOk P w H' h' a (.dK kvs):=⟨z,hd,vs,rel,dd⟩
theorem zE{H':Hp}{Q:Unit->Shared->Prop}(hu:A.units+1<cLine)(I:Inv X pins σ H s)(g:DPut H a y v H')(ry:RelV y u)(rv:RelV v r)(h:∀s',Inv X pins σ H' s'->Q () s') :
 wpAny (model X.prog X.w) A (setItem (.ref a) u r) Q E s:=by
 rcases g with ⟨kvs,k,e,ey,l,eH⟩|⟨kvs,k,b,e,ey,eb,l,eH⟩
 ·subst ey eH
  obtain⟨z,hd,vs,rel,dd⟩:=yw I.hok e;have hz:vs.length<=sizeLine:=by rw[<- rel.length];exact z
  have hl:(dB kvs k v).length<=sizeLine:=by have:=iJ kvs k v;lia
  refine wpAny_setItem_pairs (hsz:=hz) (nB ry) dd fun h' dd' hs=>h _ ?_;have he:∃q,h'.get? a=some q:=let ⟨q,_,_,hq,_⟩:=dd';⟨q,hq⟩;exact sP I (by rw[e];exact ZH) hs he (Al hl hd (rel.put k rv) dd')
 ·subst ey eH
  cases (show u=yW b from ry);obtain⟨z,hd,xs,rel,dd⟩:=E0 I.hok e;have hz:xs.length<=sizeLine:=by rw[<- Paired.length rel];exact z
  have hl:(dB kvs k v).length<=sizeLine:=by have:=iJ kvs k v;lia
  refine wpAny_setItem_heap (hsz:=hz) (Yv hu) (jK I.hok eb) dd fun h' dd' hs=>h _ ?_;obtain⟨q,es,ep,hq,h2,h3,h4,_,h5⟩:=dd';refine sP I (by rw[e];exact ZH) hs ⟨q,hq⟩ ⟨hl,hd,_,(rel.put k eb rv).keeps fun c ys ec=>?_,q,es,ep,hq,h2,h3,h4,h5⟩;rw[ag (IB ec e (fun z=>nomatch z))];exact ec
end
section
variable{X:Cx}{pins:List (Addr × Obj)}{σ:St}{H:Hp}{s:Shared}{a:Addr}{kvs:List (Key × V)}{k:Key}{u:Value}{A:Around}{E:Value->Shared->Prop}
end
def Iq(i:Expr):Prop:=∀ov iv,subscripted i false ov iv=operate [ov,iv] (getItem ov iv)
theorem DV{prog:Program}{w:World}{A:Around}{E:Value->Shared->Prop}{s:Shared}{env:Env}{value slice:Expr}{pos:Pos}{T id:String}{Q:Value->Shared->Prop}
 (hl:typeLookup (.type T) "__getitem__" = pure (some (.builtin id))) (hs:Iq slice)
 (h:wpAny (model prog w) A (eval value env) (fun o s₁=>wpAny (model prog w) A (eval slice env) (fun i s₂=>s₂.TypeIs o T/\wpAny (model prog w) A (getItem o i) Q E s₂) E s₁) E s) :
 wpAny (model prog w) A (eval (.Subscript value slice pos) env) Q E s:=by
 refine Subscript_ (Zv h (fun o s₁ h₁=>Zv h₁ (fun i s₂ h₂=>?_) fun _ _ x=>x) fun _ _ x=>x);obtain⟨hT,h₂⟩:=h₂;unfold subscriptTail;refine zj ?_;rw[getitemInPython_of_ne hT.not_modules];refine zj (wpAny_specialOf hT hl ?_);have fin:wpAny (model prog w) A (subscripted slice false o i) (fun r s₃=>wpAny (model prog w) A (letTemporaryGo value o r >>= fun _=>pure r) Q E s₃) E s₂:=by
  rw[hs o i];exact wpAny_operating (Zv h₂ (fun r s₃ h₃=>zj (wpAny_letTemporaryGo (zA h₃))) fun _ _ x=>x)
 first
  |exact zA (zj fin)
  |exact zj (zA (zj fin))
  |exact zj fin
theorem uQ{X:Cx}{pins:List (Addr × Obj)}{σ:St}{H:Hp}{s:Shared}{a:Addr}{y:V}{o:Option V}(I:Inv X pins σ H s)(g:DGet H a y o):s.TypeIs (.ref a) "dict":=by
 rcases g with ⟨kvs,k,e,_,_⟩|⟨kvs,k,b,e,_,_,_⟩
 ·obtain⟨_,_,vs,_,dd⟩:=m4 I.hok e
  exact dd.typeIs
 ·obtain⟨_,_,xs,_,dd⟩:=nv I.hok e
  exact dd.typeIs
def Cs(td ty:TE):TE:=fun σ H Q=>td σ H fun x H1=>ty σ H1 fun y H2=>∃a v,x = .ref a/\DGet H2 a y (some v)/\Q v H2
def Iy(ty td:TE):TE:=fun σ H Q=>ty σ H fun y H1=>td σ H1 fun x H2=>∃a o,x = .ref a/\DGet H2 a y o/\Q (.bl o.isSome) H2
def xU(ty td:TE):TE:=fun σ H Q=>ty σ H fun y H1=>td σ H1 fun x H2=>∃a o,x = .ref a/\DGet H2 a y o/\Q (.bl (!o.isSome)) H2
def E6(td ty tv:TE):TS:=fun D σ H=>tv σ H fun v H1=>td σ H1 fun x H2=>ty σ H2 fun y H3=>∃a H4,x = .ref a/\DPut H3 a y v H4/\D.nx σ H4
section
variable{X:Cx}{o i e value:Expr}{pos pos' tpos:Pos}{td ty tv:TE}
theorem aL(hu:X.A.units+1<cLine)(ho:PE X o td)(hi:PE X i ty)(hs:Iq i):PE X (.Subscript o i pos) (Cs td ty):=by
 intro pins s σ H Q I h;refine DV PySem.F.slot_dict_getitem.lookup hs (thn (ho pins s σ H _ I h) fun u s1 ⟨x,H1,I1,rx,q1⟩=>thn (hi pins s1 σ H1 _ I1 q1) fun iv s2 hq_=>?_);obtain⟨y,H2,I2,ry,a,v,ex,g,q2⟩:=hq_;subst ex;obtain rfl:u=yW a:=rx;exact⟨uQ I2 g,zJ hu I2 g ry fun w' s3 I3 rw'=>⟨v,H2,I3,rw',q2⟩⟩
theorem wH(hu:X.A.units+1<cLine)(hi:PE X i ty)(ho:PE X o td):PC X .In i o (Iy ty td):=by
 intro pins s σ H Q I h;refine thn (hi pins s σ H _ I h) fun iv s1 ⟨y,H1,I1,ry,q1⟩=>thn (ho pins s1 σ H1 _ I1 q1) fun u s2 hq_=>?_;obtain⟨x,H2,I2,rx,a,ov,ex,g,q2⟩:=hq_;subst ex;obtain rfl:u=yW a:=rx;exact JU hu I2 g ry fun s3 I3=>⟨.bl ov.isSome,H2,I3,rfl,q2⟩
theorem rN(hu:X.A.units+1<cLine)(hi:PE X i ty)(ho:PE X o td):PC X .NotIn i o (xU ty td):=by
 intro pins s σ H Q I h;refine thn (hi pins s σ H _ I h) fun iv s1 ⟨y,H1,I1,ry,q1⟩=>thn (ho pins s1 σ H1 _ I1 q1) fun u s2 hq_=>?_;obtain⟨x,H2,I2,rx,a,ov,ex,g,q2⟩:=hq_;subst ex;obtain rfl:u=yW a:=rx;exact Er hu I2 g ry fun s3 I3=>⟨.bl (!ov.isSome),H2,I3,rfl,q2⟩
theorem dL(hu:X.A.units+1<cLine)(ho:PE X o td)(hi:PE X i ty)(hv:PE X value tv)(hs:swapsWith value (some (.Subscript o i pos')) pos.line X.env=pure false) :
 PS X (.Assign [.Subscript o i pos'] value pos) (E6 td ty tv):=by
 intro pins s σ H D I h;refine wpAny_Assign_Subscript (thn (hv pins s σ H _ I h) fun r s1 ⟨v,H1,I1,rv,q1⟩=>thn (ho pins s1 σ H1 _ I1 q1) fun u s2 ⟨x,H2,I2,rx,q2⟩=>thn (hi pins s2 σ H2 _ I2 q2) fun iv s3 hq_=>?_) hs;obtain⟨y,H3,I3,ry,a,H4,ex,g,q3⟩:=hq_;subst ex;obtain rfl:u=yW a:=rx;exact zE hu I3 g ry rv fun s4 I4=>⟨σ,H4,I4,q3⟩
end
theorem Cf{P:Program}{w:World}{H:Hp}(h:Heap)(hb:ZT<h.objs.size):ObjOk P w H (h.push { cls:=.type "dict",data:=.dict #[] }) h.objs.size (.dK []):=
 ⟨wQ _,beq_eq_false_iff_ne.mpr (Ne.symm (uj hb)),[],.nil,Heap.DictOf.new h⟩
theorem Br{P:Program}{w:World}{H:Hp}(h:Heap)(hb:ZT<h.objs.size):ObjOk P w H (h.push { cls:=.type "dict",data:=.dict #[] }) h.objs.size (.dT []):=
 ⟨wQ _,beq_eq_false_iff_ne.mpr (Ne.symm (uj hb)),[],.nil,_,#[],0,Heap.get?_push_size _ rfl,⟨rfl,rfl,rfl⟩,rfl,rfl,List.nodup_nil⟩
def Bw:TE:=fun _ H Q=>∀p,H p=none->Q (.ref p) (upd H p (.dT []))
section
variable{X:Cx}{pos:Pos}
theorem ue:PE X (.Dict [] [] pos) Bw:=fun pins s σ H Q I h=>
 wpAny_Dict_empty ⟨.ref s.heap.objs.size,_,I.laid (a:=s.heap.objs.size) (o:=.dT []) (t':=s.toks) (fun _ _ q=>Heap.get?_push_of_some _ q) (zL _) (Br s.heap I.big),rfl,h _ (I.hok.fresh (zL _))⟩
end
def rX:List (TE × TE)->St->Hp->(List (V × V)->Hp->Prop)->Prop
 | [],_,H,Q=>Q [] H
 |(tk,tv)::r,σ,H,Q=>tk σ H fun x H1=>tv σ H1 fun y H2=>rX r σ H2 fun ps H3=>Q ((x,y)::ps) H3
abbrev VV:List (V × V)->List (Value × Value)->Prop:=Paired fun p q=>RelV p.1 q.1/\RelV p.2 q.2
def PPs(X:Cx)(pos:Pos)(keys:List (Option Expr))(values:List Expr)(trs:List (TE × TE)):Prop:=
 ∀(pins:List (Addr × Obj)) (s:Shared) (σ:St) (H:Hp) (Q:List (V × V)->Hp->Prop),Inv X pins σ H s->rX trs σ H Q ->
  wpAny (model X.prog X.w) X.A (evalPairs (pairTrees keys values X.env pos)) (fun vs s'=>∃ps H',Inv X pins σ H' s'/\VV ps vs/\Q ps H') X.xe s
theorem Ey{X:Cx}{pos:Pos}:PPs X pos [] [] []:=fun pins s σ H Q I h=>pairTrees_nil_walk ⟨[],H,I,.nil,h⟩
theorem lT{X:Cx}{pos:Pos}{k v:Expr}{ks:List (Option Expr)}{vs:List Expr}{tk tv:TE}{trs:List (TE × TE)}(hk:PE X k tk)(hv:PE X v tv)(hr:PPs X pos ks vs trs) :
 PPs X pos (some k::ks) (v::vs) ((tk,tv)::trs):=fun pins s σ H Q I h=>
 pairTrees_cons_walk (thn (hk pins s σ H _ I h) fun u s1 ⟨x,H1,I1,rx,q1⟩=>thn (hv pins s1 σ H1 _ I1 q1) fun w2 s2 ⟨y,H2,I2,ry,q2⟩=>
  thn (hr pins s2 σ H2 _ I2 q2) fun ws s3 hq_=>(by obtain⟨ps,H3,I3,rel,q3⟩:=hq_;exact⟨(x,y)::ps,H3,I3,.cons ⟨rx,ry⟩ rel,q3⟩))
def o_(kvs more:List (Key × V)):List (Key × V):=more.foldl (fun acc kv=>dB acc kv.1 kv.2) kvs
theorem KV.merge:∀ {more:List (Key × V)} {rs:List (Key × Value)} {kvs:List (Key × V)} {vs:List (Key × Value)},KV more rs->KV kvs vs->KV (o_ kvs more) (merged vs rs):=by
 intro more rs kvs vs r;unfold KV at r
 induction r generalizing kvs vs with
 |nil=>intro q;exact q
 | @cons p q ps qs h t ih=>
  intro r0;have e:KV (dB kvs p.1 p.2) (stored vs q.1 q.2):=by
   have:=r0.put p.1 h.2;rw[<- h.1];exact this
  exact ih e
theorem jC:∀(more kvs:List (Key × V)),(o_ kvs more).length<=kvs.length+more.length
 | [],kvs=>by show kvs.length<=kvs.length+0;lia
 |p::r,kvs=>by
  have h1:=jC r (dB kvs p.1 p.2);have h2:=iJ kvs p.1 p.2;show(o_ (dB kvs p.1 p.2) r).length<=_;rw[vN];lia
theorem pU{P:Program}{w:World}:∀ {kvs:List (Key × V)} {ws:List (Value × Value)},VV (kvs.map fun kv=>(kV kv.1,kv.2)) ws->∃rs,Carries (bK P w) ws rs/\KV kvs rs
 | [],_,r=>by rw[Z6]at r;cases r;exact⟨[],ZH,.nil⟩
 |p::kvs,_,r=>by
  rw[xa]at r;cases r with
  | @cons a b as bs h t=>
   obtain⟨rs,c,q⟩:=pU (P:=P) (w:=w) t;obtain⟨b1,b2⟩:=b;exact⟨(p.1,b2)::rs,⟨nB h.1,rfl,c⟩,.cons ⟨rfl,h.2⟩ q⟩
def Iu(trs:List (TE × TE)):TE:=fun σ H Q=>∀p,H p=none->rX trs σ (upd H p (.dK [])) fun ps H2=>H2 p=some (.dK [])/\∃kvs:List (Key × V),ps=kvs.map (fun kv=>(kV kv.1,kv.2))/\kvs.length<=15/\Q (.ref p) (upd H2 p (.dK (o_ [] kvs)))
theorem EB{X:Cx}{pos:Pos}{keys:List (Option Expr)}{values:List Expr}{trs:List (TE × TE)}(h:PPs X pos keys values trs)(hall:keys.all (·.isSome)=true)(hl:keys.length=values.length)(h0:keys≠[])
 (h15:keys.length<=15):PE X (.Dict keys values pos) (Iu trs):=by
 intro pins s σ H Q I q;have hn:=I.hok.fresh (zL s.heap.objs.size);have I1:=I.laid (a:=s.heap.objs.size) (o:=.dK []) (h':=s.heap.push { cls:=.type "dict",data:=.dict #[] }) (t':=s.toks) (fun _ _ q=>Heap.get?_push_of_some _ q) (zL _) (Cf s.heap I.big);refine wpAny_Dict_walk (knd:=bK X.prog X.w) hall hl h0 h15 (thn (h pins _ σ _ _ I1 (q _ hn)) fun ws s2 hq_=>?_);obtain⟨ps,H2,I2,rel,e,kvs,ep,lk,q2⟩:=hq_;subst ep;obtain⟨rs,c,rk⟩:=pU (P:=X.prog) (w:=X.w) rel;obtain⟨z,hd,vs0,r0,dd⟩:=yw I2.hok e;cases r0;refine⟨rs,c,dd,fun h' dd' hs=>⟨.ref s.heap.objs.size,_,?_,rfl,q2⟩⟩;have hz:(o_ [] kvs).length<=sizeLine:=by
  have h1:=jC kvs [];rw[Z2]at h1;rw[um];lia
 have he:∃q,h'.get? s.heap.objs.size=some q:=let ⟨q,_,_,hq,_⟩:=dd';⟨q,hq⟩;exact sP I2 (by rw[e];exact ZH) hs he (Al hz hd (rk.merge .nil) dd')
structure M1(X:Cx)(o:Expr)(m:Str)(apos:Pos)(e:Expr)(cpos:Pos):Prop where
 base:YG o m X.env (eval o X.env)=eval o X.env
 few:((backTo cpos (starEach [e] X.env)).all (fun x=>!x.1)&&(backToKw cpos (Ye [] X.env)).all (fun x=>x.1.isSome)
  && decide (([e]:List Expr).length+([]:List Keyword).length+(if ([]:List Keyword).isEmpty then 0 else 1)<30))=true
 line:(apos.endLine==cpos.line)=true
 trees:backTo cpos (starEach [e] X.env)=[(false,eval e X.env)]
structure M2(X:Cx)(o:Expr)(m:Str)(apos:Pos)(e f:Expr)(cpos:Pos):Prop where
 base:YG o m X.env (eval o X.env)=eval o X.env
 few:((backTo cpos (starEach [e,f] X.env)).all (fun x=>!x.1)&&(backToKw cpos (Ye [] X.env)).all (fun x=>x.1.isSome)
  && decide (([e,f]:List Expr).length+([]:List Keyword).length+(if ([]:List Keyword).isEmpty then 0 else 1)<30))=true
 line:(apos.endLine==cpos.line)=true
 trees:backTo cpos (starEach [e,f] X.env)=[(false,eval e X.env),(false,eval f X.env)]
def IsD(H:Hp)(a:Addr):Prop:=(∃kvs,Rd H a (.dK kvs))\/∃kvs,Rd H a (.dT kvs)
theorem Ay{X:Cx}{pins:List (Addr × Obj)}{σ:St}{H:Hp}{s:Shared}{a:Addr}(I:Inv X pins σ H s)(d:IsD H a) :
 s.TypeIs (.ref a) "dict" /\ (∀b,yW a = .ref b->∃ob,s.heap.get? b=some ob/\ob.dict=none)/\(a==ZT)=false:=by
 rcases d with ⟨kvs,e⟩|⟨kvs,e⟩
 ·obtain⟨_,hd,vs,_,dd⟩:=m4 I.hok e
  refine⟨dd.typeIs,fun b q=>?_,hd⟩;cases q;obtain⟨ob,_,_,h1,h2,_⟩:=dd;exact⟨ob,h1,h2.2.1⟩
 ·obtain⟨_,hd,xs,_,dd⟩:=nv I.hok e
  refine⟨dd.typeIs,fun b q=>?_,hd⟩;cases q;obtain⟨ob,_,_,h1,h2,_⟩:=dd;exact⟨ob,h1,h2.2.1⟩
section
variable{X:Cx}{pins:List (Addr × Obj)}{σ:St}{H:Hp}{s:Shared}{a:Addr}{y d:V}{u r:Value}{o:Option V}{A:Around}{E:Value->Shared->Prop}
theorem Fr{Q:Value->Shared->Prop}(hu:A.units+1<cLine)(I:Inv X pins σ H s)(g:DGet H a y o)(ry:RelV y u)(h:∀w' s',Inv X pins σ H s'->RelV (o.getD .non) w'->Q w' s') :
 wpAny (model X.prog X.w) A (call (.builtin "dict.get") [.ref a,u]) Q E s:=by
 rcases g with ⟨kvs,k,e,ey,l⟩|⟨kvs,k,b,e,ey,eb,l⟩
 ·subst ey
  obtain⟨z,hd,vs,rel,dd⟩:=m4 I.hok e;refine call_meetsIn ZI dd.typeIs Yc (PySem.F.args_dict_get_2 _ _) (meets_dict_get (bK X.prog X.w) a (nB ry) hd) ⟨_,dd.mapOf,h _ _ (I.tok _) ?_⟩;rw[l];exact(rel.val k).getD rfl
 ·subst ey
  cases (show u=yW b from ry);obtain⟨z,hd,xs,rel,dd⟩:=nv I.hok e;refine call_meetsIn ZI dd.typeIs Yc (PySem.F.args_dict_get_2 _ _) (meetsH_dict_get (tupleKind (bK X.prog X.w)) a b hd) ⟨Yv hu,k,xs,jK I.hok eb,dd,h _ _ (I.tok _) ?_⟩;rw[l];exact(rel.val k).getD rfl
theorem GN{Q:Value->Shared->Prop}(hu:A.units+1<cLine)(I:Inv X pins σ H s)(g:DGet H a y o)(ry:RelV y u)(rd:RelV d r)(h:∀w' s',Inv X pins σ H s'->RelV (o.getD d) w'->Q w' s') :
 wpAny (model X.prog X.w) A (call (.builtin "dict.get") [.ref a,u,r]) Q E s:=by
 rcases g with ⟨kvs,k,e,ey,l⟩|⟨kvs,k,b,e,ey,eb,l⟩
 ·subst ey
  obtain⟨z,hd,vs,rel,dd⟩:=m4 I.hok e;refine call_meetsIn ZI dd.typeIs Yc (PySem.F.args_dict_get_3 _ _ _) (meets_dict_get_default (bK X.prog X.w) a (nB ry) hd r) ⟨_,dd.mapOf,h _ _ (I.tok _) ?_⟩;rw[l];exact(rel.val k).getD rd
 ·subst ey
  cases (show u=yW b from ry);obtain⟨z,hd,xs,rel,dd⟩:=nv I.hok e;refine call_meetsIn ZI dd.typeIs Yc (PySem.F.args_dict_get_3 _ _ _) (meetsH_dict_get_default (tupleKind (bK X.prog X.w)) a b hd r) ⟨Yv hu,k,xs,jK I.hok eb,dd,h _ _ (I.tok _) ?_⟩;rw[l];exact(rel.val k).getD rd
end
def BD(td ty:TE):TE:=fun σ H Q=>td σ H fun x H1=>∃a,x = .ref a/\IsD H1 a/\ty σ H1 fun y H2=>∃o,DGet H2 a y o/\Q (o.getD .non) H2
def C6(td ty tx:TE):TE:=fun σ H Q=>td σ H fun x H1=>∃a,x = .ref a/\IsD H1 a/\ty σ H1 fun y H2=>tx σ H2 fun z H3=>∃o,DGet H3 a y o/\Q (o.getD z) H3
section
variable{X:Cx}{o e f:Expr}{apos cpos:Pos}{td ty tx:TE}
theorem Af(hu:X.A.units+1<cLine)(ho:PE X o td)(he:PE X e ty)(m:M1 X o "get" apos e cpos):PE X (.Call (.Attribute o "get" apos) [e] [] cpos) (BD td ty):=by
 intro pins s σ H Q I h;refine wpAny_Call_method m.base m.few m.line PySem.F.plainAttrs_dict ZI PySem.F.type_dict_get (thn (ho pins s σ H _ I h) fun u s1 hq_=>?_);obtain⟨x,H1,I1,rx,a,ex,d,q1⟩:=hq_;subst ex;obtain rfl:u=yW a:=rx;obtain⟨t1,t2,_⟩:=Ay I1 d;refine⟨t1,t2,?_⟩;rw[m.trees];refine Calls.callWith_builtin rfl (YN (Y2 (thn (he pins s1 σ H1 _ I1 q1) fun iv s2 ⟨y,H2,I2,ry,ov,g,q2⟩=>Calls.spliced_nil ?_)));exact Fr hu I2 g ry fun w' s3 I3 rw'=>⟨_,H2,I3,rw',q2⟩
theorem qf(hu:X.A.units+1<cLine)(ho:PE X o td)(he:PE X e ty)(hf:PE X f tx)(m:M2 X o "get" apos e f cpos):PE X (.Call (.Attribute o "get" apos) [e,f] [] cpos) (C6 td ty tx):=by
 intro pins s σ H Q I h;refine wpAny_Call_method m.base m.few m.line PySem.F.plainAttrs_dict ZI PySem.F.type_dict_get (thn (ho pins s σ H _ I h) fun u s1 hq_=>?_);obtain⟨x,H1,I1,rx,a,ex,d,q1⟩:=hq_;subst ex;obtain rfl:u=yW a:=rx;obtain⟨t1,t2,_⟩:=Ay I1 d;refine⟨t1,t2,?_⟩;rw[m.trees];refine Calls.callWith_builtin rfl (YN (Y2 (thn (he pins s1 σ H1 _ I1 q1) fun iv s2 ⟨y,H2,I2,ry,q2⟩=>
  Y2 (thn (hf pins s2 σ H2 _ I2 q2) fun fv s3 ⟨z,H3,I3,rz,ov,g,q3⟩=>Calls.spliced_nil ?_))))
 exact GN hu I3 g ry rz fun w' s4 I4 rw'=>⟨_,H3,I4,rw',q3⟩
end
section
variable{X:Cx}{pins:List (Addr × Obj)}{σ:St}{H:Hp}{s:Shared}{a:Addr}{kvs:List (Key × V)}{A:Around}{E:Value->Shared->Prop}
end
section
variable{X:Cx}{pins:List (Addr × Obj)}{σ:St}{H:Hp}{s:Shared}{a:Addr}{y:V}{u:Value}{A:Around}{E:Value->Shared->Prop}
end
section
variable{X:Cx}{e o value:Expr}{f:Str}{ta tv:TE}{pos pos':Pos}
def FV(K:W.Frag)(f:Str):V->Hp->VK->Prop
 | .ref p,H,Q=>∃C dx fs v,H p=some (.ins C dx fs)/\Cls K C/\NoAttr K C f/\fs.lookup f=some v/\Q v H
 |_,_,_=>False
def Fl(K:W.Frag)(ta:TE)(f:Str):TE:=fun σ H Q=>ta σ H fun x H1=>FV K f x H1 Q
theorem ba(K:W.Frag)(he:PE X e ta)(hK:X.K=K:=by rfl)(hb:YG e f X.env (eval e X.env)=eval e X.env:=by rfl):PE X (.Attribute e f pos) (Fl K ta f):=by
 subst hK;intro pins s σ H Q I h;refine DH hb (thn (he pins s σ H _ I h) fun u s1 ⟨x,H1,I1,rx,q⟩=>?_);dsimp only at q;unfold FV at q;split at q
 ·rename_i a
  obtain⟨C,dx,fs,v,ea,c,n,l,q⟩:=q;obtain rfl:u=yW a:=rx;exact wv I1 ea c n l fun u' s2 I2 ru=>⟨v,H1,I2,ru,q⟩
 ·exact q.elim
def BH(K:W.Frag)(f:Str)(y:V):V->Hp->(Hp->Prop)->Prop
 | .ref p,H,Q=>∃C dx fs,H p=some (.ins C dx fs)/\Cls K C/\NoAttr K C f/\fs.length<1000/\Q (upd H p (.ins C dx (dw f y fs)))
 |_,_,_=>False
def Ff(K:W.Frag)(ta tv:TE)(f:Str):TS:=fun D σ H=>tv σ H fun y H1=>ta σ H1 fun x H2=>BH K f y x H2 fun H3=>D.nx σ H3
theorem di(K:W.Frag)(ha:PE X o ta)(hv:PE X value tv)(hK:X.K=K:=by rfl)(hs:swapsWith value (some (.Attribute o f pos')) pos.line X.env=pure false:=by rfl):PS X (.Assign [.Attribute o f pos'] value pos) (Ff K ta tv f):=by
 subst hK;intro pins s σ H D I h;refine plainObj_wpAny_Assign_Attribute (thn (hv pins s σ H _ I h) fun u s1 ⟨y,H1,I1,ry,q⟩=>thn (ha pins s1 σ H1 _ I1 q) fun ov s2 ⟨x,H2,I2,rx,q2⟩=>?_) hs;dsimp only at q2;unfold BH at q2;split at q2
 ·rename_i a
  obtain⟨C,dx,fs,ea,c,n,l,q2⟩:=q2;obtain rfl:ov=yW a:=rx;exact xq I2 ea c n l ry fun s3 I3=>⟨σ,_,I3,q2⟩
 ·exact q2.elim
end
section
variable{X:Cx}{CX:CXT}{k:Nat}{f C:Addr}{fd:FuncData}{ps:List Str}{sp:Sp}{dvs:List V}{ds:List Value}{E:XKs}{x m:Str}{p pos apos:Pos}{e o:Expr}{es:List Expr}{ta:TE}{t:TA}
def uZ(C:Addr)(m:Str):V->Hp->(V->Prop)->Prop
 | .ref p,H,Q=>∃dx fs,H p=some (.ins C dx fs)/\fs.lookup m=none/\Q (.ref p)
 |_,_,_=>False
def mq(C:Addr)(m:Str)(sp:Sp)(dvs:List V)(E:XKs)(ta:TE)(t:TA):TE:=fun σ H Q=>ta σ H fun x0 H1=>uZ C m x0 H1 (fun x=>t σ H1 fun vs H2=>sp (x::(vs++dvs)) H2 Q (E σ))
theorem Bv(he:PE X o ta)(c:Cls X.K C)(hm:Aa X.K C m f)(F:h_ X.prog X.w X.K X.mg X.base CX k f fd ps sp)(hr:Room k X.A)(hb:Binds X.K fd ps ds)(hd:Vals dvs ds)(hx:bS CX X E)(ha:PA X (e::es) t)
 (hst:starEach (e::es) X.env=(false,eval e X.env)::starEach es X.env:=by rfl) (hpl:(backTo pos (starEach es X.env)).any (·.1)=false:=by rfl)
 (ht:eval (.Call (.Attribute o m apos) (e::es) [] pos) X.env=(do
  let ov <- eval o X.env
  standAt apos.atName
  let (f,first) <- holding [ov] (getMethod ov m pl)
  callWith pos f first (backTo pos (starEach (e::es) X.env)) (backToKw pos (Ye [] X.env))):=by rfl) :
 PE X (.Call (.Attribute o m apos) (e::es) [] pos) (mq C m sp dvs E ta t):=by
 intro pins s σ H Q I h;refine PySem.W.methodCall_KW (pl:=pl) (thn (he pins s σ H _ I h) fun u s1 ⟨xo,H1,I1,rx,q⟩=>?_) ht;dsimp only at q;unfold uZ at q;split at q
 ·rename_i a
  obtain⟨dx,fs,ea,l,q⟩:=q;obtain rfl:u=yW a:=rx;refine jH I1 ea c hm l ?_;refine YA (first:=[.ref a]) (h₀:=X.base) I.ok.mod.kin hm.kp (thn (ha pos pins s1 σ _ _ I1 q) fun us s2 ⟨vs,H2,I2,r,q2⟩=>⟨I2.kIn,?_⟩) hst hpl;exact t_ (us:=.ref a::us) (vs:=.ref a::vs) F hr hb hd hx I2 (.cons rfl r) q2
 ·exact q.elim
theorem zn(he:PE X o ta)(c:Cls X.K C)(hm:Aa X.K C m f)(F:h_ X.prog X.w X.K X.mg X.base CX k f fd ps sp)(hr:Room k X.A)(hb:Binds X.K fd ps ds)(hd:Vals dvs ds)(hx:bS CX X E)
 (ht:eval (.Call (.Attribute o m apos) [] [] pos) X.env=(do
  let ov <- eval o X.env
  standAt apos.atName
  let (f,first) <- holding [ov] (getMethod ov m pl)
  callWith pos f first (backTo pos (starEach [] X.env)) (backToKw pos (Ye [] X.env))):=by rfl) :
 PE X (.Call (.Attribute o m apos) [] [] pos) (mq C m sp dvs E ta h8):=by
 intro pins s σ H Q I h;refine PySem.W.methodCall_KW (pl:=pl) (thn (he pins s σ H _ I h) fun u s1 ⟨xo,H1,I1,rx,q⟩=>?_) ht;dsimp only at q;unfold uZ at q;split at q
 ·rename_i a
  obtain⟨dx,fs,ea,l,q⟩:=q;obtain rfl:u=yW a:=rx;refine jH I1 ea c hm l ?_;exact PySem.W.callWith_K0 (first:=[.ref a]) I1.kIn hm.kp (t_ (us:=[.ref a]) (vs:=[.ref a]) F hr hb hd hx I1 (.cons rfl .nil) q)
 ·exact q.elim
def pF(C:Addr)(sp:Sp)(dvs:List V)(E:XKs)(t:TA):TE:=fun σ H Q=>t σ H fun vs H1=>∀x dx,H1 x=none->H1 dx=none->dx≠x ->
 sp (.ref x::(vs++dvs)) (upd (upd H1 dx (.own x)) x (.ins C dx [])) (fun v H2=>v = .non/\Q (.ref x) H2) (E σ)
theorem rl(M:Mk X.K C f)(F:h_ X.prog X.w X.K X.mg X.base CX k f fd ps sp)(hr:Room (k+1) X.A)(hb:Binds X.K fd ps ds)(hd:Vals dvs ds)
 (hx:bS CX X E) (I:Inv X pins σ H s) (r:Vals vs us)
 (h:∀x dx,H x=none->H dx=none->dx≠x->sp (.ref x::(vs++dvs)) (upd (upd H dx (.own x)) x (.ins C dx [])) (fun v H2=>v = .non/\Q (.ref x) H2) (E σ)) :
 wpAny (model X.prog X.w) X.A (call (.ref C) us) (EP X pins σ Q) X.xe s:=by
 have hq:=h (s.heap.objs.size+1) s.heap.objs.size (I.hok.fresh (YS _)) (I.hok.fresh (zL _)) (uj (Nat.lt_succ_self _));have I2:=Inv.made (C:=C) I;have r2:Vals (V.ref (s.heap.objs.size+1)::(vs++dvs)) (yW (s.heap.objs.size+1)::(us++ds)):=.cons rfl (r.append hd);have hl:(yW (s.heap.objs.size+1)::us++ds).length=ps.length:=by
  have e:=r2.length;rw[F.len _ _ _ _ hq]at e;exact e.symm
 refine wpAny_call (C5 (f:=f) I.kIn M.makes M.init (beq_iff_eq.mp M.fn) (YJ (F.run _ X.stack _ _ ⟨yW (s.heap.objs.size+1)::us,[]⟩ (yW (s.heap.objs.size+1)::(us++ds)) _ _ (E σ) (hr.make C us [])
  (I2.env0.make C us []) (hb _ (yW (s.heap.objs.size+1)::us) I2.kIn hl) r2 hq) fun r s' hq'=>?_))
 cases r with
 |error e=>exact hx pins σ _ _ e s' I2 hq'
 |ok fl=>
  cases fl with
  |ret u=>
   obtain⟨v,H',I3,rv,ev,q3⟩:=I2.after hq';subst ev;exact⟨rv,⟨V.ref (s.heap.objs.size+1),H',I3,rfl,q3⟩⟩
  |next=>exact Zf hq'
  |brk=>exact Zf hq'
  |cont=>exact Zf hq'
theorem CO(M:Mk X.K C f)(F:h_ X.prog X.w X.K X.mg X.base CX k f fd ps sp)(hr:Room (k+1) X.A)(hg:Gl X x)(hm:X.mg x=some (.ref C))(hb:Binds X.K fd ps ds)(hd:Vals dvs ds)(hx:bS CX X E)
 (ha:PA X (e::es) t) (hdb:(x==("__debug__":Str))=false:=by decide) (he:starEach (e::es) X.env=(false,eval e X.env)::starEach es X.env:=by rfl) (hpl:(backTo pos (starEach es X.env)).any (·.1)=false:=by rfl) :
 PE X (.Call (.Name x p) (e::es) [] pos) (pF C sp dvs E t):=by
 intro pins s σ H Q I h;refine Yw (gu I hg hm ?_ hdb);refine YA (h₀:=X.base) I.ok.mod.kin M.kp (thn (ha pos pins s σ H _ I h) fun us s1 ⟨vs,H1,I1,r,q⟩=>⟨I1.kIn,?_⟩) he hpl;exact rl M F hr hb hd hx I1 r q
theorem zy(M:Mk X.K C f)(F:h_ X.prog X.w X.K X.mg X.base CX k f fd ps sp)(hr:Room (k+1) X.A)(hg:Gl X x)(hm:X.mg x=some (.ref C))(hb:Binds X.K fd ps ds)(hd:Vals dvs ds)(hx:bS CX X E)
 (hdb:(x==("__debug__":Str))=false:=by decide):PE X (.Call (.Name x p) [] [] pos) (pF C sp dvs E h8):=by
 intro pins s σ H Q I h;refine Yw (gu I hg hm ?_ hdb);exact PySem.W.callWith_K0 I.kIn M.kp (rl (us:=[]) M F hr hb hd hx I .nil h)
end
def cQ(wi:TI)(n:Nat)(g:TG)(ks:List Nat)(tt:TT)(te:TE):TE:=fun σ H Q=>wi σ H fun J H1=>∀D,H1 D=none->∃W:Nat->Nat->List V->Hp->Prop,(∃m,W 0 m [] (upd H1 D (.lst []))) /\
 ∀i m ys H2,W i m ys H2->H2 D=some (.lst ys)/\((J.stop i H2/\Q (.ref D) H2)\/(J.go i H2/\∀x H3,J.yld i H2 x H3->∀zs:St,zs.length=n ->
  g x (zs++ks.map fun k=>(σ[k]?).join) H3 fun σ4 H4=>(∃zs4:St,zs4.length=n/\σ4=zs4++ks.map fun k=>(σ[k]?).join) /\
   tt σ4 H4 fun b H5=>if b=true then te σ4 H5 fun y H6=>H6 D=some (.lst ys)/\ys.length<sizeLine/\∃m',m'<m/\W (i+1) m' (ys++[y]) (upd H6 D (.lst (ys++[y])))
    else ∃m',m'<m/\W (i+1) m' ys H5))
structure HS(gd:Cx->Prop)(P:Program)(w:World)(K:W.Frag)(tg:Expr)(J:It)(fp:List Addr)(it:Addr)(tn:Nat->Heap->Prop):Prop where
 mem:it∈fp
 obj:∀i h,tn i h->∀b∈fp,∃o,h.get? b=some o/\∀v,o.data ≠ .cell v
 keep:∀i h h',tn i h->(∀b∈fp,∀o,h.get? b=some o->h'.get? b=some o)->tn i h'
 item:∀(X:Cx),X.prog=P->X.w=w->X.K=K->gd X->∀(i:Nat) (pins:List (Addr × Obj)) (s:Shared) (σ:St) (H:Hp) (E:Value->Shared->Prop),Inv X pins σ H s->(∀b∈fp,lL X pins H b)->tn i s.heap->J.go i H ->
  wpAny (model P w) X.A (pyNext (.ref it)) (fun r s1=>∃u,r=some u /\
   wpAny (model P w) X.A (YE tg (.ref it) u) (fun _ s2=>∃x H',Inv X pins σ H' s2/\RelV x u/\J.yld i H x H'/\tn (i+1) s2.heap/\∀b∈fp,H' b=none) E s1) E s
 done:∀(X:Cx),X.prog=P->X.w=w->X.K=K->gd X->∀(i:Nat) (pins:List (Addr × Obj)) (s:Shared) (σ:St) (H:Hp) (E:Value->Shared->Prop),Inv X pins σ H s->(∀b∈fp,lL X pins H b)->tn i s.heap->J.stop i H ->
  wpAny (model P w) X.A (pyNext (.ref it)) (fun r s1=>r=none/\Inv X pins σ H s1) E s
 self:∀(A:Around) (i:Nat) (s:Shared) (Q:Value->Shared->Prop) (E:Value->Shared->Prop),tn i s.heap->Q (.ref it) s->wpAny (model P w) A (pyIter (.ref it)) Q E s
def PIG(gd:Cx->Prop)(X:Cx)(tg iter:Expr)(wi:TI):Prop:=
 ∀(pins:List (Addr × Obj)) (s:Shared) (σ:St) (H:Hp) (R:It->Hp->Prop),Inv X pins σ H s->wi σ H R ->
  wpAny (model X.prog X.w) X.A (eval iter X.env) (fun v s1=>wpAny (model X.prog X.w) X.A (pyIter v) (fun itv s2=>∃(it:Addr) (fp:List Addr) (tn:Nat->Heap->Prop) (J:It) (H':Hp),itv = .ref it/\Inv X pins σ H' s2/\HS gd X.prog X.w X.K tg J fp it tn/\tn 0 s2.heap/\(∀b∈fp,lL X pins H' b)/\R J H') X.xe s1) X.xe s
theorem xS(h:PI X tg iter wi):PIG (fun X=>X.calm=true) X tg iter wi:=fun pins s σ H R I q=>
 Zv (h pins s σ H R I q) (fun v s1 h1=>Zv h1 (fun itv s2 hq_=>(by obtain⟨it,fp,tn,J,H',e,I2,T,r⟩:=hq_;exact⟨it,fp,tn,J,H',e,I2,⟨T.mem,T.obj,T.keep,T.item,T.done,T.self⟩,r⟩)) fun _ _ z=>z) fun _ _ z=>z
def cT(X:Cx)(N:List Str)(scope:Scope)(cl:List (Str × Addr))(fnc:Str->Bool)(C:Addr)(s₂:Shared)(H₂:Hp)(ex:List Addr)(pn:List (Addr × Obj)):Cx:=
 { cY X N scope cl C s₂ H₂ ex pn with fn:=fnc }
structure l_(X:Cx)(scope:Scope)(cl:List (Str × Addr))(cl2:Addr->List (Str × Addr))(fnc:Str->Bool)(fr:List Str):Prop where
 clos:closureFor scope X.env=pure cl
 kind:scope.kind = .function
 names:∀y∈scope.names,y.2 = .local->scope.names.lookup y.1=some .local
 lay:∀(M:Model) (A:Around) (E:Value->Shared->Prop) (Q:Env->Shared->Prop) (s:Shared),(∀h₁ t₁ m,h₁.Ns s.heap.objs.size m->(∀b o,s.heap.get? b=some o->h₁.get? b=some o)->(∀y c,fnc y=true->(cl2 s.heap.objs.size).lookup y=some c->s.heap.objs.size<c/\h₁.IsCell c none) ->
  Q { scope:=scope,locals:=s.heap.objs.size,globals:=X.env.globals,cells:=cl2 s.heap.objs.size,qual:=X.env.qual,func:=none,code:=X.env.code,frame:=X.env.frame,builtins:=X.env.builtins } { s with heap:=h₁,toks:=t₁ })->wpAny M A (newFunctionEnv scope X.env.globals cl [] X.env.qual none .none (some X.env)) Q E s
 only:∀C y,((relabel scope X.env).names.lookup y=some .cell\/(relabel scope X.env).names.lookup y=some .free)->y∈fr\/∃c,(cl2 C).lookup y=some c
 sub:∀C y c,(cl2 C).lookup y=some c->fnc y=false->X.env.cells.lookup y=some c
 cell:∀C,∀y∈fr,(cl2 C).lookup y=X.env.cells.lookup y
 inj:∀C y z c,fnc y=true->fnc z=true->(cl2 C).lookup y=some c->(cl2 C).lookup z=some c->y=z
 kinds:∀y∈fr,X.env.kindOf y=some .cell\/X.env.kindOf y=some .free
 kin:∀y∈fr,(relabel scope X.env).names.lookup y=some .cell\/(relabel scope X.env).names.lookup y=some .free
theorem rn(hc:∀C s₂ H₂ ex pn,gd (cT X (xs++fr) scope (cl2 C) fnc C s₂ H₂ ex pn))(S:l_ X scope cl cl2 fnc fr)
 (hks:ks.map (fun k=>X.N[k]?)=fr.map some) (hi:PIG gd X tg iter wi) (hg:∀C s₂ H₂ ex pn,PG (cT X (xs++fr) scope (cl2 C) fnc C s₂ H₂ ex pn) tg g)
 (ht:∀C s₂ H₂ ex pn,PTs (cT X (xs++fr) scope (cl2 C) fnc C s₂ H₂ ex pn) ifs tt) (he:∀C s₂ H₂ ex pn,PE (cT X (xs++fr) scope (cl2 C) fnc C s₂ H₂ ex pn) elt te)
 (hs:∀x,ZB iter X.env x=pure x:=by intro _;rfl)
 (I:Inv X pins σ H s) (h:cQ wi xs.length g ks tt te σ H Q) (use:Option (Value->Sem Unit)) (Qp:Value->Shared->Prop)
 (hend:∀(D C:Addr) (H':Hp) (s':Shared) (mC:Str->Option Value) (f:Flow),Inv X pins σ H' s'->lL X pins H' C->s'.heap.Ns C mC->Q (.ref D) H'->compPost (model X.prog X.w) X.A X.xe use Qp (.ref D) C (.ok f) s') :
 wpAny (model X.prog X.w) X.A (comprehension (.ListComp elt [⟨tg,iter,ifs,0⟩] scope pos) scope X.env (firstIterPos [⟨tg,iter,ifs,0⟩] pos) (newList []) false (firstIter [⟨tg,iter,ifs,0⟩] X.env) use) Qp X.xe s:=by
 refine wpAny_comprehension_free (use:=use) rfl hs S.clos S.kind S.names (thn (hi pins s σ H _ I h) fun v s1 h1=>thn h1 fun itv s2 h2=>?_);obtain⟨it,fp,tn,J,H2,e,I2,T,st2,f2,hW⟩:=h2;subst e;refine ZM ?_;have hD0:H2 s2.heap.objs.size=none:=I2.hok.fresh (zL _);obtain⟨W,⟨m0,w0⟩,turn⟩:=hW s2.heap.objs.size hD0;generalize hs3:s2.heap.push { cls:=.type "list",dict:=none,data:=.seq ([]:List Value).toArray }=g3;have hsz3:g3.objs.size=s2.heap.objs.size+1:=by rw[<- hs3,Heap.size_push]
 have up3:∀b o,s2.heap.get? b=some o->g3.get? b=some o:=fun b o e=>by rw[<- hs3];exact Heap.get?_push_of_some _ e
 have gD:g3.get? s2.heap.objs.size=some { cls:=.type "list",dict:=none,data:=.seq ([]:List Value).toArray }:=by rw[<- hs3];exact Heap.get?_push_size _ rfl
 have I3:Inv X pins σ (upd H2 s2.heap.objs.size (.lst [])) { s2 with heap:=g3 }:=I2.laid (t':=s2.toks) up3 (zL _) ⟨by simp,[],0,.nil,gD⟩;refine S.lay _ _ _ _ _ fun h₁ t₁ m₁ hns₁ keep4 hnew=>?_;dsimp only at hns₁ keep4 hnew |-
 have hsub:∀y c,(cl2 g3.objs.size).lookup y=some c->X.env.cells.lookup y=some c\/(fnc y=true/\g3.objs.size<c/\h₁.IsCell c none):=fun y c e=>by
  cases hf:fnc y with
  |false=>exact .inl (S.sub _ y c e hf)
  |true=>exact .inr ⟨rfl,hnew y c hf e⟩
 have hCn:(upd H2 s2.heap.objs.size (.lst [])) g3.objs.size=none:=I3.hok.fresh (zL _);have fpD:∀b∈fp,b≠s2.heap.objs.size:=fun b hb z=>by
  obtain⟨o,e,_⟩:=T.obj 0 _ st2 b hb;exact absurd (xb e) (by rw[z];exact ZQ _)
 have fpC:∀b∈fp,b≠g3.objs.size:=fun b hb z=>by
  obtain⟨o,e,_⟩:=T.obj 0 _ st2 b hb;exact absurd (xb (up3 b o e)) (by rw[z];exact ZQ _)
 have fpN:∀b∈fp,(upd H2 s2.heap.objs.size (.lst [])) b=none:=fun b hb=>by rw[ag (fpD b hb)];exact(f2 b hb).1
 have old:∀y c,X.env.cells.lookup y=some c->c<g3.objs.size:=fun y c e=>by
  obtain⟨v,q⟩:=I3.cell y c e;exact q.lt
 have cfp:∀b∈fp,∀y c,(cl2 g3.objs.size).lookup y=some c->c≠b:=fun b hb y c e=>by
  rcases hsub y c e with q|⟨_,l,_⟩
  ·exact(f2 b hb).2.2.2.2.1 y c q
  ·obtain⟨o,e,_⟩:=T.obj 0 _ st2 b hb
   exact fun z=>absurd (xb (up3 b o e)) (by rw[<- z];exact Nat.not_lt.mpr (ZD l))
 have Ok:(cT X (xs++fr) scope (cl2 g3.objs.size) fnc g3.objs.size { s2 with heap:=g3 } (upd H2 s2.heap.objs.size (.lst [])) fp (X.pn++pins)).Ok:=by
  refine⟨I.ok.mod,S.kind,I.ok.glob,I.ok.blt,zL _,fun y z c e1 e2=>?_,fun y hy=>?_,fun y c z e=>ZD (hnew y c z e).1,I.ok.hd,I.ok.frames,.inl rfl,fun b hb=>⟨fpC b hb,cfp b hb⟩,I3.bs,wn I.ok.bsz I3.sz,fun b o e hb=>?_,fun b hb z=>?_,I3.stack,I3.stkFree⟩
  ·rcases hsub y c e1 with q|⟨q,l,_⟩ <;> rcases hsub z c e2 with q'|⟨q',l',_⟩
   ·exact I.ok.inj y z c q q'
   ·exact absurd (old y c q) (Nat.not_lt.mpr (ZD l'))
   ·exact absurd (old z c q') (Nat.not_lt.mpr (ZD l))
   ·exact S.inj _ y z c q q' e1 e2
  ·rcases S.only _ y hy with hy|hy
   ·obtain⟨c,e⟩:=I.ok.has y (S.kinds y hy)
    exact⟨c,(S.cell _ y hy).trans e⟩
   ·exact hy
  ·rcases(f2 b hb).2.2.2.1 with q|q
   ·exact I.ok.noex b o e q
   ·exact absurd (xb e) (Nat.not_lt.mpr (wn I.ok.bsz q))
  ·rcases zZ.mp (I3.stkSub b z) with q|q
   ·exact(f2 b hb).2.1 q
   ·exact(f2 b hb).2.2.1 q
 have I4:Inv (cT X (xs++fr) scope (cl2 g3.objs.size) fnc g3.objs.size { s2 with heap:=g3 } (upd H2 s2.heap.objs.size (.lst [])) fp (X.pn++pins)) [] ((xs.map fun _=>none)++ks.map fun k=>(σ[k]?).join) (upd H2 s2.heap.objs.size (.lst [])) { s2 with heap:=h₁,toks:=t₁ }:=by
  refine⟨Ok,rfl,I3.bare,Un.kept keep4,⟨_,hns₁,fun i y v e1 e2 e3=>?_⟩,fun y c e=>?_,hCn,fun y c e=>?_,fun p hp=>?_,I3.hok.kept keep4,?_⟩
  ·have e1':(xs++fr)[i]? = some y:=e1
   by_cases hix:i<xs.length
   ·rw[List.getElem?_append_left (by simpa using hix)]at e2
    simp[hix]at e2
   ·obtain⟨i,rfl⟩:∃i',i=xs.length+i':=⟨i-xs.length,by lia⟩
    rw[List.getElem?_append_right (by lia)]at e1';rw[List.getElem?_append_right (by simp)]at e2;have e1':fr[i]? = some y:=by simpa using e1'
    have e2:(ks.map fun k=>(σ[k]?).join)[i]? = some (some v):=by simpa using e2
    have hy:y∈fr:=ww e1';have ek:(ks.map (fun k=>X.N[k]?))[i]? = (fr.map some)[i]?:=by rw[hks]
    rw[List.getElem?_map,List.getElem?_map,e1']at ek;have e2':=e2;rw[List.getElem?_map]at e2';cases hk:ks[i]? with
    |none=>rw[hk]at ek;cases ek
    |some k=>
     rw[hk]at ek e2';have ek':X.N[k]? = some y:=by simpa using ek
     have e2'':(σ[k]?).join=some v:=by simpa using e2'
     have es:σ[k]? = some (some v):=by
      cases q:σ[k]? with
      |none=>rw[q]at e2'';cases e2''
      |some z=>rw[q]at e2'';rw[show z=some v from e2'']
     obtain⟨m,hn,hl⟩:=I3.loc;have hkd:=S.kinds y hy;obtain⟨u,r,lk⟩:=hl k y v ek' es (by rcases hkd with q|q;exact .inr (.inl q);exact .inr (.inr q));refine⟨u,r,.inr ⟨S.kin y hy,?_⟩⟩;rcases lk with ⟨q,_⟩|⟨_,c,ec,hcell⟩
     ·rcases hkd with z|z <;> (rw[q]at z;cases z)
     ·obtain⟨o,ho,hd⟩:=hcell
      exact⟨c,(S.cell _ y hy).trans ec,o,keep4 _ _ ho,hd⟩
  ·rcases hsub y c e with q|⟨_,_,q⟩
   ·obtain⟨v,o,ho,hd⟩:=I3.cell y c q
    exact⟨v,o,keep4 _ _ ho,hd⟩
   ·exact⟨_,q⟩
  ·rcases hsub y c e with q|⟨_,l,_⟩
   ·exact I3.freeC y c q
   ·exact I3.hok.fresh (ZD l)
  ·have hp':p∈X.pn++pins:=by simpa [cT,cY] using hp
   obtain⟨a1,a2,a3,a4,a5⟩:=I3.pin p hp';refine⟨keep4 _ _ a1,a2,uj (xb a1),fun z=>?_,a5⟩;rcases zZ.mp (I3.stkSub p.1 z) with q|q
   ·exact a3 q
   ·exact a4 q
  ·show((xs.map fun _=>none)++ks.map _).length=(xs++fr).length
   have:=congrArg Y5 hks;simp at this;simp[this]
 have st4:tn 0 h₁:=T.keep 0 _ _ st2 fun b hb o e=>keep4 _ _ (up3 _ _ e);have stat:∀ {H':Hp},(∀b∈fp,H' b=none)->∀b∈fp,lL (cT X (xs++fr) scope (cl2 g3.objs.size) fnc g3.objs.size { s2 with heap:=g3 } (upd H2 s2.heap.objs.size (.lst [])) fp (X.pn++pins)) [] H' b:=fun hn b hb=>
  ⟨hn b hb,fpC b hb,Ok.exfs b hb,.inl hb,cfp b hb,fun p hp=>(f2 b hb).2.2.2.2.2 p (by simpa [cT,cY] using hp)⟩
 have loop:codeAny (model X.prog X.w) X.A (.compLoop (.ListComp elt [⟨tg,iter,ifs,0⟩] scope pos) 0 (.ref it) (.ref s2.heap.objs.size) (compEnvC scope (cl2 g3.objs.size) g3.objs.size X.env))
  (compPost (model X.prog X.w) X.A X.xe use Qp (.ref s2.heap.objs.size) g3.objs.size) { s2 with heap:=h₁,toks:=t₁ }:=by
  refine rY (fun n s'=>∃i ys σ' H',Inv (cT X (xs++fr) scope (cl2 g3.objs.size) fnc g3.objs.size { s2 with heap:=g3 } (upd H2 s2.heap.objs.size (.lst [])) fp (X.pn++pins)) [] σ' H' s'/\(∃zs,zs.length=xs.length/\σ'=zs++ks.map fun k=>(σ[k]?).join)/\tn i s'.heap/\(∀b∈fp,H' b=none)/\W i n ys H') ?_ m0
   ⟨0,[],_,_,I4,⟨xs.map fun _=>none,by simp,rfl⟩,st4,fpN,w0⟩
  rintro n s' ⟨i,ys,σ',H',I5,⟨zs,hzs,rfl⟩,st5,fr5,w5⟩;obtain⟨hD,hor⟩:=turn i n ys H' w5;rcases hor with ⟨stop,qn⟩|⟨go,step⟩
  ·refine Zv (T.done (cT X (xs++fr) scope (cl2 g3.objs.size) fnc g3.objs.size { s2 with heap:=g3 } (upd H2 s2.heap.objs.size (.lst [])) fp (X.pn++pins)) rfl rfl rfl (hc _ _ _ _ _) i [] s' _ H' (fun _ _=>False) I5 (stat fr5) st5 stop) (fun r s6 hq_=>?_) (fun _ _ f=>f.elim)
   obtain⟨hr,I6⟩:=hq_;subst hr;obtain⟨mC,hnC,_⟩:=I6.loc;have tr:∀b o,b≠g3.objs.size->s6.heap.get? b=some o->s6.heap.get? b=some o:=fun b o hb e=>e;have U:=I6.base;have neC:∀b o,g3.get? b=some o->b≠g3.objs.size:=fun b o e=>uj (xb e);have U':Un (frs X.stack) fp (upd H2 s2.heap.objs.size (.lst [])) H' g3 s6.heap:=⟨fun b o q n hb hx=>tr b o (neC b o q) (U.keep b o q n hb hx),fun b o q n hb hx=>let ⟨sl,e⟩:=U.slot b o q n hb hx;⟨sl,tr _ _ (neC b o q) e⟩,U.free,fun b o q hx=>let ⟨o',e⟩:=U.there b o q hx;⟨o',tr _ _ (neC b o q) e⟩,U.tups,U.frzs,U.tbls⟩;have ok':HOk X.prog X.w H' s6.heap:=fun a o e=>(I6.hok a o e).stay (fun b u hb q=>tr b u (fun z=>by
    have fC:H' g3.objs.size=none:=I6.free;rcases hb with r|r
    ·rw[<- z,r,e]at fC;cases fC
    ·rw[<- z,r]at fC;cases fC) q) (fun _ q=>q) fun _ _ q=>q
   have J6:Inv X pins σ H' s6:=I3.call' (s':=s6) (ch:=fp) I6.os U' ok' I6.bare fun b hb=>⟨(f2 b hb).2.2.2.1,(f2 b hb).2.1,(f2 b hb).2.2.2.2.1,(f2 b hb).2.2.2.2.2⟩;exact hend s2.heap.objs.size g3.objs.size H' s6 mC _ J6 (I3.fpOk (zL _) I6.free) hnC qn
  ·refine Zv (T.item (cT X (xs++fr) scope (cl2 g3.objs.size) fnc g3.objs.size { s2 with heap:=g3 } (upd H2 s2.heap.objs.size (.lst [])) fp (X.pn++pins)) rfl rfl rfl (hc _ _ _ _ _) i [] s' _ H' (fun _ _=>False) I5 (stat fr5) st5 go) (fun r s6 hq_=>?_) (fun _ _ f=>f.elim)
   obtain⟨u,hr,h6⟩:=hq_;subst hr;refine Zv h6 (fun _ s7 hq_=>?_) (fun _ _ f=>f.elim);obtain⟨xv,H7,I7,r7,y7,st7,fr7⟩:=hq_;have I7':=I7.pinned (stat fr7) (T.obj _ _ st7);have pinsTo:∀ {σ9:St} {H9:Hp} {s9:Shared},Inv (cT X (xs++fr) scope (cl2 g3.objs.size) fnc g3.objs.size { s2 with heap:=g3 } (upd H2 s2.heap.objs.size (.lst [])) fp (X.pn++pins)) ([]++o9 fp s7.heap) σ9 H9 s9->tn (i+1) s9.heap/\∀b∈fp,H9 b=none:=fun {σ9 H9 s9} I9=>
    ⟨T.keep _ _ _ st7 fun b hb o e=>(I9.pin (b,o) (zd _ (zd _ (gz hb e)))).1,fun b hb=>by
     obtain⟨o,e,d⟩:=T.obj _ _ st7 b hb;exact(I9.pin (b,o) (zd _ (zd _ (gz hb e)))).2.1⟩
   refine Zv (hg _ _ _ _ _ _ s7 _ H7 xv u _ I7' r7 (step xv H7 y7 zs hzs)) (fun _ s8 hq_=>?_) (fun _ _ f=>f.elim);obtain⟨σ8,H8,I8,⟨zs4,hz4,e8⟩,q8⟩:=hq_;subst e8;refine Zv (ht _ _ _ _ _ _ s8 _ H8 _ I8 q8) (fun ok s9 hq_=>?_) (fun _ _ f=>f.elim);obtain⟨H9,I9,q9⟩:=hq_;cases ok with
   |false=>
    rw[if_neg xE]at q9 |-
    obtain⟨m',hm,w9⟩:=q9;obtain⟨t9,f9⟩:=pinsTo I9;exact⟨m',hm,i+1,ys,_,H9,I9.unpinned,⟨zs4,hz4,rfl⟩,t9,f9,w9⟩
   |true=>
    rw[if_pos rfl]at q9 |-
    refine Zv (he _ _ _ _ _ _ s9 _ H9 _ I9 q9) (fun yv s10 hq_=>?_) (fun _ _ f=>f.elim);obtain⟨y,H10,I10,r10,hD10,hlen,m',hm,w10⟩:=hq_;refine Zv (cn (X:=cT X (xs++fr) scope (cl2 g3.objs.size) fnc g3.objs.size { s2 with heap:=g3 } (upd H2 s2.heap.objs.size (.lst [])) fp (X.pn++pins)) _ s10 _ H10 (.ref s2.heap.objs.size) [y] (.ref s2.heap.objs.size) [yv]
     (fun _ H'=>H'=upd H10 s2.heap.objs.size (.lst (ys++[y]))) I10 rfl (.cons r10 .nil) ⟨_,ys,y,rfl,rfl,hD10,hlen,rfl⟩) (fun _ s11 ⟨_,H11,I11,_,e11⟩=>?_) (fun _ _ f=>f.elim)
    subst e11;obtain⟨t11,f11⟩:=pinsTo I11;exact⟨m',hm,i+1,ys++[y],_,_,I11.unpinned,⟨zs4,hz4,rfl⟩,t11,f11,w10⟩
 exact codeAny_compStart_list loop (T.self X.A 0 _ _ _ st4 loop)
theorem CompScope.cs(S:CompScope X scope cl x fr):l_ X scope cl (fun _=>cl) (fun _=>false) fr:=
 ⟨S.clos,S.kind,S.names,fun M A E Q s k=>wpAny_newFunctionEnv S.nocell (by intro y hy;simp at hy) (fun h₁ hn hs=>k h₁ _ _ hn (fun b o e=>(hs.2 b (uj (xb e))).trans (Heap.get?_push_of_some _ e)) fun _ _ z=>nomatch z) S.kind,
  fun _ y hy=>.inl (S.only y hy),fun _ _ _ e _=>S.sub e,fun _ _ h=>S.cell h,(fun _ _ _ _ z=>nomatch z),S.kinds,S.kin⟩
theorem zc(hc:∀C s₂ H₂ ex pn,gd (cY X (xs++fr) scope cl C s₂ H₂ ex pn))(S:CompScope X scope cl x fr)
 (hks:ks.map (fun k=>X.N[k]?)=fr.map some) (hi:PIG gd X tg iter wi) (hg:∀C s₂ H₂ ex pn,PG (cY X (xs++fr) scope cl C s₂ H₂ ex pn) tg g)
 (ht:∀C s₂ H₂ ex pn,PTs (cY X (xs++fr) scope cl C s₂ H₂ ex pn) ifs tt) (he:∀C s₂ H₂ ex pn,PE (cY X (xs++fr) scope cl C s₂ H₂ ex pn) elt te)
 (hs:∀x,ZB iter X.env x=pure x:=by intro _;rfl)
 (I:Inv X pins σ H s) (h:cQ wi xs.length g ks tt te σ H Q) (use:Option (Value->Sem Unit)) (Qp:Value->Shared->Prop)
 (hend:∀(D C:Addr) (H':Hp) (s':Shared) (mC:Str->Option Value) (f:Flow),Inv X pins σ H' s'->lL X pins H' C->s'.heap.Ns C mC->Q (.ref D) H'->compPost (model X.prog X.w) X.A X.xe use Qp (.ref D) C (.ok f) s') :
 wpAny (model X.prog X.w) X.A (comprehension (.ListComp elt [⟨tg,iter,ifs,0⟩] scope pos) scope X.env (firstIterPos [⟨tg,iter,ifs,0⟩] pos) (newList []) false (firstIter [⟨tg,iter,ifs,0⟩] X.env) use) Qp X.xe s:=rn (gd:=gd) (cl2:=fun _=>cl) (fnc:=fun _=>false) hc S.cs hks hi hg ht he hs I h use Qp hend
theorem z8(hc:X.calm=true)(S:CompScope X scope cl x fr)
 (hks:ks.map (fun k=>X.N[k]?)=fr.map some) (hi:PI X tg iter wi) (hg:∀C s₂ H₂ ex pn,PG (cY X (xs++fr) scope cl C s₂ H₂ ex pn) tg g)
 (ht:∀C s₂ H₂ ex pn,PTs (cY X (xs++fr) scope cl C s₂ H₂ ex pn) ifs tt) (he:∀C s₂ H₂ ex pn,PE (cY X (xs++fr) scope cl C s₂ H₂ ex pn) elt te)
 (hs:∀x,ZB iter X.env x=pure x:=by intro _;rfl)
 (I:Inv X pins σ H s) (h:cQ wi xs.length g ks tt te σ H Q) (use:Option (Value->Sem Unit)) (Qp:Value->Shared->Prop)
 (hend:∀(D C:Addr) (H':Hp) (s':Shared) (mC:Str->Option Value) (f:Flow),Inv X pins σ H' s'->lL X pins H' C->s'.heap.Ns C mC->Q (.ref D) H'->compPost (model X.prog X.w) X.A X.xe use Qp (.ref D) C (.ok f) s') :
 wpAny (model X.prog X.w) X.A (comprehension (.ListComp elt [⟨tg,iter,ifs,0⟩] scope pos) scope X.env (firstIterPos [⟨tg,iter,ifs,0⟩] pos) (newList []) false (firstIter [⟨tg,iter,ifs,0⟩] X.env) use) Qp X.xe s:=zc (gd:=fun X=>X.calm=true) (fun _ _ _ _ _=>hc) S hks (xS hi) hg ht he hs I h use Qp hend
theorem bN(hc:X.calm=true)(S:CompScope X scope cl x fr)
 (hks:ks.map (fun k=>X.N[k]?)=fr.map some) (hi:PI X tg iter wi) (hg:∀C s₂ H₂ ex pn,PG (cY X (xs++fr) scope cl C s₂ H₂ ex pn) tg g)
 (ht:∀C s₂ H₂ ex pn,PTs (cY X (xs++fr) scope cl C s₂ H₂ ex pn) ifs tt) (he:∀C s₂ H₂ ex pn,PE (cY X (xs++fr) scope cl C s₂ H₂ ex pn) elt te)
 (hs:∀x,ZB iter X.env x=pure x:=by intro _;rfl):PE X (.ListComp elt [⟨tg,iter,ifs,0⟩] scope pos) (cQ wi xs.length g ks tt te):=by
 intro pins s σ H Q I h;rw[eval_ListComp];refine z8 hc S hks hi hg ht he hs I h none _ fun D C H' s' mC f J fp hn q=>⟨mC,hn,fun h' sb=>?_⟩;obtain⟨f0,f1,f2,f3,f4,f5⟩:=fp;exact⟨.ref D,H',J.turned (t':=s'.toks) (fun b o hb e=>(sb.2 b hb).trans e) f0 f1 f3 f4 f5,rfl,q⟩
theorem AX(hN:X.N.Nodup)(hi0:X.N[i0]? = some x0)(hx0:Loc X.env.scope x0)(hc:X.calm=true)(S:l_ X scope cl cl2 fnc fr)
 (hks:ks.map (fun k=>X.N[k]?)=fr.map some) (hi:PI X tg iter wi) (hg:∀C s₂ H₂ ex pn,PG (cT X (xs++fr) scope (cl2 C) fnc C s₂ H₂ ex pn) tg g)
 (ht:∀C s₂ H₂ ex pn,PTs (cT X (xs++fr) scope (cl2 C) fnc C s₂ H₂ ex pn) ifs tt) (he:∀C s₂ H₂ ex pn,PE (cT X (xs++fr) scope (cl2 C) fnc C s₂ H₂ ex pn) elt te)
 (hs:∀x,ZB iter X.env x=pure x:=by intro _;rfl)
 (hsw:swapsWith (.ListComp elt [⟨tg,iter,ifs,0⟩] scope pos) (some (.Name x0 px0)) pos0.line X.env=pure true:=by rfl) (hf:X.fn x0=true\/X.env.scope.names.lookup x0=some .local:=by first|exact .inl rfl|exact .inr rfl|assumption) :
 PS X (.Assign [.Name x0 px0] (.ListComp elt [⟨tg,iter,ifs,0⟩] scope pos) pos0) (vS (cQ wi xs.length g ks tt te) (fG i0)):=by
 intro pins s σ H D I h;rw[exec_Assign_Name_used _ _ _ _ hsw];refine zj (wpAny_standAt (zj (zj ?_)));refine rn (gd:=fun X=>X.calm=true) (fun _ _ _ _ _=>hc) S hks (xS hi) hg ht he hs I h (some (assign (.Name x0 px0) X.env)) _ fun D' C H' s' mC f J fp hn q=>?_;obtain⟨f0,f1,f2,f3,f4,f5⟩:=fp;refine wpAny_assign_Name (q_ J hN hi0 hx0 (v:=.ref D') rfl (fun s7 I7 hq_=>?_) hf);obtain⟨a,sb,ha⟩:=hq_;have hCa:C≠a:=by
  rcases ha with e|e
  ·rw[e];exact f1
  ·exact fun z=>f4 _ _ e z.symm
 refine⟨mC,hn.sameBut sb hCa,fun h' sb2=>?_⟩;have J2:=I7.turned (t':=s7.toks) (fun b o hb e=>(sb2.2 b hb).trans e) f0 f1 f3 f4 f5;exact zA (zA ⟨_,H',J2,q⟩)
theorem fY(hN:X.N.Nodup)(hi0:X.N[i0]? = some x0)(hx0:Loc X.env.scope x0)(hc:X.calm=true)(S:CompScope X scope cl x fr)
 (hks:ks.map (fun k=>X.N[k]?)=fr.map some) (hi:PI X tg iter wi) (hg:∀C s₂ H₂ ex pn,PG (cY X (xs++fr) scope cl C s₂ H₂ ex pn) tg g)
 (ht:∀C s₂ H₂ ex pn,PTs (cY X (xs++fr) scope cl C s₂ H₂ ex pn) ifs tt) (he:∀C s₂ H₂ ex pn,PE (cY X (xs++fr) scope cl C s₂ H₂ ex pn) elt te)
 (hs:∀x,ZB iter X.env x=pure x:=by intro _;rfl)
 (hsw:swapsWith (.ListComp elt [⟨tg,iter,ifs,0⟩] scope pos) (some (.Name x0 px0)) pos0.line X.env=pure true:=by rfl) (hf:X.fn x0=true\/X.env.scope.names.lookup x0=some .local:=by first|exact .inl rfl|exact .inr rfl|assumption) :
 PS X (.Assign [.Name x0 px0] (.ListComp elt [⟨tg,iter,ifs,0⟩] scope pos) pos0) (vS (cQ wi xs.length g ks tt te) (fG i0)):=AX (cl2:=fun _=>cl) (fnc:=fun _=>false) hN hi0 hx0 hc S.cs hks hi hg ht he hs hsw hf
end L2
namespace L2
open PySem PySem.Spec PyProof.Rows Builtin Builtin.Str
section
variable{prog:Program}{w:World}{A:Around}{E:Value->Shared->Prop}{s:Shared}{t:Addr}
theorem z_(hh:A.handled=none)(ht:s.heap.IsList t (intItems xs))
 (h:∀h' tk t',(∀b o,s.heap.get? b=some o->h'.get? b=some o)->Q (.int (preSum (numAt xs) xs.size) t') { s with heap:=h',toks:=tk }) :
 wpAny (model prog w) A (call (.builtin "sum") [.ref t]) Q E s:=by
 obtain⟨o,ho,hc,n,hd⟩:=id ht;have hne:t≠s.heap.objs.size:=uj (xb ho);have hsz:(intItems xs).size=xs.size:=by simp[intItems]
 have W:=(Walks.list (prog:=prog) (w:=w) (A:=A.in1) hh s.heap.objs.size t hne (intItems xs)).toS;rw[hsz]at W;refine call_sum_walkAnyS (YY ht ?_);refine⟨s.heap.objs.size,_,_,_,_,_,_,numAt xs,rfl,W,⟨⟨_,Heap.get?_push_size _ rfl,rfl,rfl⟩,ht.at fun o e=>Heap.get?_push_of_some _ e⟩,fun b hb=>?_,fun i v hP=>intItems_at hP,fun s' t' hm=>?_⟩
 ·rcases zZ.mp hb with rfl|hb
  ·exact xb (Heap.get?_push_size _ rfl)
  ·obtain rfl:=zq.mp hb
   exact xb (Heap.get?_push_of_some _ ho)
 ·obtain⟨h',g',d',tk',os'⟩:=s'
  have e1:g'=s.gens:=hm.gens;have e2:d'=s.drawn:=hm.drawn;have e3:os'=s.os:=hm.os;subst e1 e2 e3;exact h h' tk' t' fun b o e=>hm.heap b o (fun hb=>absurd (xb e) ((zq.mp hb) ▸ ZQ _)) (Heap.get?_push_of_some _ e)
end
section
variable{X:Cx}{e a b c:Expr}{pos:Pos}
def IN(K:W.Frag):List V->Hp->VK->Prop
 | [.ref p],H,Q=>∃ns:List Int,(SqL K H p (ns.map V.int)\/SqT K H p (ns.map V.int))/\Q (.int ns.sum) H
 |_,_,_=>False
theorem yc(K:W.Frag)(hc:X.calm=true)(hK:X.K=K:=by rfl):CallR X (.builtin "sum") (IN K):=by
 subst hK;intro pins s σ H xs us Q I r h;rcases xs with _|⟨e_1,r_1⟩
 ·exact(id h:False).elim
 cases e_1 with
 |ref p=>
  cases r_1 with
  |nil=>
   obtain⟨ns,hq,q⟩:=h;rcases hq with hq|hq
   ·obtain⟨u,rfl,rx⟩:=dO r
    cases (show u=yW p from rx);obtain⟨its,r',pl,hz⟩:=I.list hq;have hi:=oS r';obtain⟨ys,hy⟩:=hi.allInts.items;have hn:numsOf its.toArray.toList=ns:=by rw[show its.toArray.toList=its from rfl,hi.numsOf]
    have pl':=pl.isList;rw[hy]at pl' hn;rw[nums_intItems]at hn;refine z_ (I.ok.hd hc) pl' fun h' tk t' hk=>?_;rw[preSum_eq,Zd (by simp),hn];exact⟨.int ns.sum,H,I.kept hk,⟨_,rfl⟩,q⟩
   ·exact sW hc pins s σ H _ us Q I r ⟨p,ns,rfl,hq,q⟩
  |cons=>exact(id h:False).elim
 |_=>exact(id h:False).elim
def FO(K:W.Frag)(neg:Bool):R2
 |x,.ref p,H,Q=>∃xs,(SqL K H p xs\/SqT K H p xs)/\eE x=true/\xs.all eE=true/\Q (.bl (neg ^^ inV x xs)) H
 |_,_,_,_=>False
theorem xl(K:W.Frag)(hK:X.K=K:=by rfl):OpR X (rW .In) (FO K false):=by
 subst hK;refine yZ.imp fun x y H Q h=>?_;cases y with
 |ref v_1=>
  obtain⟨xs,h1,h2,h3,q⟩:=h;exact⟨_,xs,rfl,h1,h2,h3,by simpa using q⟩
 |_=>exact(id h:False).elim
theorem rA(K:W.Frag)(hK:X.K=K:=by rfl):OpR X (rW .NotIn) (FO K true):=by
 subst hK;refine t8.imp fun x y H Q h=>?_;cases y with
 |ref v_1=>
  obtain⟨xs,h1,h2,h3,q⟩:=h;exact⟨_,xs,rfl,h1,h2,h3,by simpa using q⟩
 |_=>exact(id h:False).elim
def Fe:R2
 | .str x,.int n,H,Q=>((cs x).length<=1000/\0<=n/\n<=100)/\Q (T ((t7 n.toNat (cs x)).flatten)) H
 |_,_,_,_=>False
theorem EC:OpR X (binaryOp .Mult) Fe:=by
 intro pins s σ H x y v u Q I rx ry h;cases x with
 |str x=>
  cases y with
  |int n=>
   obtain⟨⟨h1,h2,h3⟩,q⟩:=h;obtain⟨t,rfl⟩:=rx;obtain⟨t',rfl⟩:=ry;have hl:x.length<=1000:=by simpa [cs,ZN] using h1
   refine PySem.SB.mul ⟨?_,fun hn _=>?_,fun hn _=>?_⟩ fun t2 k=>⟨.str (Txt.mul x n),H,I.tok _,⟨_,rfl⟩,by rw[F_];exact q⟩
   ·rw[decide_eq_false (by lia),decide_eq_false (by lia)];rfl
   ·have h5:(1000:Int)<=(2 ^ 63-1) / n:=by
     rw[Int.le_ediv_iff_mul_le (by lia)];lia
    lia
   ·have h4:x.length*n.toNat<=1000*100:=Nat.mul_le_mul hl (show n.toNat<=100 by lia)
    unfold tooLong;exact decide_eq_false (by rw[um];lia)
  |_=>exact(id h:False).elim
 |_=>exact(id h:False).elim
section
variable{T name id:String}{r:V->List V->Hp->VK->Prop}{o:Expr}{to:TE}{apos cpos:Pos}
end
end
end L2
namespace L2
theorem bX{l:List PySem.Str}(h:l.Nodup):l.Nodup:=h
def sp5(f:V->V->V->V->V->Hp->VK->XK->Prop):Sp:=fun vs H Q E=>match vs with
 | [x,y,z,u,v]=>f x y z u v H Q E
 |_=>False
theorem sp5.inv{f}(h:sp5 f vs H Q E):∃x y z u v,vs=[x,y,z,u,v]/\f x y z u v H Q E:=by
 rcases vs with _|⟨x,_|⟨y,_|⟨z,_|⟨u,_|⟨v,_|⟨w,r⟩⟩⟩⟩⟩⟩
 rotate_left 5
 ·exact⟨_,_,_,_,_,rfl,h⟩
 all_goals exact(id h:False).elim
theorem sp5.len{f}(h:sp5 f vs H Q E):vs.length=5:=by obtain⟨_,_,_,_,_,rfl,_⟩:=sp5.inv h;rfl
theorem iP{n:PySem.Str}{v:V}{l:List (PySem.Str × V)}:wO n ((n,v)::l)=some v:=by simp[wO]
theorem aU{n m:PySem.Str}{v:V}{l:List (PySem.Str × V)}(h:(n==m)=false):wO n ((m,v)::l)=wO n l:=by simp[wO,h]
end L2
namespace L2
open PySem PySem.Spec PyProof.Rows
structure RoomC(k:Nat)(A:Around):Prop where
 dp:A.depth+3*k+5<recursionLimit
 un:A.units+16*k+200<cLine
theorem RoomC.deeper(r:RoomC (k+1) A)(env:Env):RoomC k (A.deeper env):=
 ⟨by have:=r.dp;show A.depth+1+3*k+5<_;lia,by have:=r.un;show A.units+3+16*k+200<_;lia⟩
theorem Room.toC(r:Room k A)(h:j<=k):RoomC j (A.mark v):=⟨by have:=r.dp;show A.depth+3*j+5<_;lia,by have:=r.un;show A.units+16*j+200<_;lia⟩
structure uM(P:Program)(w:World)(K:W.Frag)(mg:Str->Option Value)(base:Heap)(CX:CXT)(k:Nat)(f:Addr)(fd:FuncData)(ps:List Str)(sp:Sp):Prop where
 len:∀vs H Q E,sp vs H Q E->vs.length=ps.length
 run:∀(A:Around) (outer:List Env) (s:Shared) (H:Hp) (args:Args) (us:List Value) (vs:List V) (Q:VK) (E:XK),RoomC k A->Env0 P w K mg base A outer s H->BindsTo s fd args (ps.zip us)->Vals vs us->sp vs H Q E ->
  codeAny (model P w) A (.call (.ref f) args) (CR CX outer P w H s Q E) s
abbrev v_(CX:CXT)(P:Program)(w:World)(K:W.Frag)(mg:Str->Option Value)(base:Heap)(N:List Str)(qual:Str)(scope:Scope)(f:Addr)(cd:Value)(A:Around)(outer:List Env)(s:Shared)(H:Hp)(E:XK):Cx:=
 { bV CX P w K mg base N qual scope f cd A outer s H E with calm:=false }
theorem FS{CX:CXT}{P:Program}{w:World}{K:W.Frag}{mg:Str->Option Value}{base:Heap}{k:Nat}{f:Addr}{name qual:Str}{params:Arguments}{body:List Stmt}{scope:Scope}{dV kV doc pm cdv ct oc:Value}{an od:Option Addr}
 {osl:Array (Option Value)} {N ps:List Str} {sp:Sp} (lk:K.lookup f=some ⟨oc,od,.func (ZE name qual params body scope dV kV doc pm an cdv ct),osl⟩) (hcd:YQ K cdv qual=true) (S:bp N ps scope)
 (len:∀vs H Q E,sp vs H Q E->vs.length=ps.length)
 (hbody:∀(A:Around) (outer:List Env) (s:Shared) (H:Hp) (vs:List V) (Q:VK) (E:XK),RoomC k (A.deeper (envOfC qual scope s.heap.objs.size f cdv))->sp vs H Q E ->
  ∃t,PSs (v_ CX P w K mg base N qual scope f cdv A outer s H E) body t/\t { nx:=fun _ H'=>Q .non H',rt:=Q } (cS N vs) H) :
 uM P w K mg base CX (k+1) f (ZE name qual params body scope dV kV doc pm an cdv ct) ps sp:=by
 refine⟨len,fun A outer s H args us vs Q E hr e0 hb r hsp=>?_⟩;have hl:=len _ _ _ _ hsp;have KX:K.In s.heap:=e0.mod.kin.keeps fun b o e=>(e0.bs b o e).1;have lim:s.heap.NoLimit:=e0.mod.nolimit.keeps fun b o e=>(e0.bs b o e).1;have hkind:∀y∈ps.zip us,scope.names.lookup y.1=some .local\/(scope.names.lookup y.1=some .cell/\((cellsFrom (s.heap.objs.size+1) scope.names []).lookup y.1).isSome=true):=fun⟨n,v⟩ hy=>by
  rcases S.par n (List.of_mem_zip hy).1 with q|q
  ·exact .inl q
  ·exact .inr ⟨q,PySem.W.cellsFrom_some _ _ _ (.inl q)⟩
 refine codeAny_call_function (by have:=hr.dp;lia) (KX _ _ lk) rfl S.co S.gen rfl (PySem.W.codeRec_of KX hcd) (hb _ _ _ _ ?_);refine wpAny_newFunctionEnv_cells S.kind hkind fun env he s1 x=>?_;subst he;refine⟨lim.keeps x.toInCall.keep,codeAny_func ?_⟩;obtain⟨t,ht,hq⟩:=hbody A outer s H vs Q E (hr.deeper _) hsp;have e1:Env0 P w K mg base { A with handled:=none } outer s H:=⟨e0.frames,e0.mod,e0.bs,e0.bsz,e0.funs,e0.frf,e0.hok,e0.bare⟩;have I0:Inv (bV CX P w K mg base N qual scope f cdv { A with handled:=none } outer s H E) [] (cS N vs) H s1:=rE S rfl e1 hl r x;have I:Inv (v_ CX P w K mg base N qual scope f cdv A outer s H E) [] (cS N vs) H s1:=
  ⟨I0.ok.re (A.deeper (envOfC qual scope s.heap.objs.size f cdv)) rfl false (fun z=>nomatch z) _ _,I0.os,I0.bare,I0.base,I0.loc,I0.cell,I0.free,I0.freeC,I0.pin,I0.hok,I0.len⟩
 refine Zv (ht [] s1 (cS N vs) H _ I hq) (fun fl s' hs=>?_) fun e s' hs=>hs;have fin:∀ {σ':St} {H':Hp} {v:V} {u:Value},Inv (v_ CX P w K mg base N qual scope f cdv A outer s H E) [] σ' H' s'->RelV v u->Q v H'->CE outer P w H s Q u s':=
  fun {σ' H' v u} J rv q=>⟨v,H',J.os,J.bare,J.base,J.hok,rv,q⟩
 cases fl with
 |ret u=>
  obtain⟨v,σ',H',J,rv,q⟩:=hs;exact fin J rv q
 |next=>
  obtain⟨σ',H',J,q⟩:=hs;exact fin (v:=V.non) (u:=ZO) J rfl q
 |brk=>
  obtain⟨_,_,_,q⟩:=hs;exact Zf q
 |cont=>
  obtain⟨_,_,_,q⟩:=hs;exact Zf q
theorem Fun.okC{P:Program}{w:World}{K:W.Frag}{mg:Str->Option Value}{base:Heap}{x qual:Str}{st:Stmt}{f:Addr}{fd:FuncData}{N ps:List Str}{k:Nat}{sp:Sp}(F:Fun K x qual st f fd)(S:bp N ps (au st))(len:∀vs H Q E,sp vs H Q E->vs.length=ps.length)
 (hbody:∀(cdv:Value) (A:Around) (outer:List Env) (s:Shared) (H:Hp) (vs:List V) (Q:VK) (E:XK),RoomC k (A.deeper (envOfC qual (au st) s.heap.objs.size f cdv))->sp vs H Q E ->
  ∃t,PSs (v_ (XE P w) P w K mg base N qual (au st) f cdv A outer s H E) (aZ st) t/\t { nx:=fun _ H'=>Q .non H',rt:=Q } (cS N vs) H):uM P w K mg base (XE P w) (k+1) f fd ps sp:=by
 obtain⟨oc,od,kV,doc,pm,an,cdv,ct,osl,rfl,lk,hcd⟩:=F.ex;exact FS lk hcd S len fun A outer s H vs Q E hr hsp=>hbody cdv A outer s H vs Q E hr hsp
section
variable{X:Cx}{CX:CXT}{k:Nat}{f:Addr}{fd:FuncData}{ps:List Str}{sp:Sp}{dvs:List V}{ds:List Value}{E:XKs}{x:Str}{p pos:Pos}{e:Expr}{es:List Expr}{t:TA}
theorem CJ(F:uM X.prog X.w X.K X.mg X.base CX k f fd ps sp)(hr:RoomC k X.A)(hg:Gl X x)(hm:X.mg x=some (.ref f))(hk:ZP X.K (.ref f)=true)(hb:Binds X.K fd ps ds)(hd:Vals dvs ds)(hx:bS CX X E)
 (ha:PA X (e::es) t) (hdb:(x==("__debug__":Str))=false:=by decide) (he:starEach (e::es) X.env=(false,eval e X.env)::starEach es X.env:=by rfl) (hpl:(backTo pos (starEach es X.env)).any (·.1)=false:=by rfl) :
 PE X (.Call (.Name x p) (e::es) [] pos) (lY sp dvs E t):=by
 intro pins s σ H Q I h;refine Yw (gu I hg hm ?_ hdb);refine YA (h₀:=X.base) I.ok.mod.kin hk (thn (ha pos pins s σ H _ I h) fun us s1 ⟨vs,H1,I1,r,h⟩=>⟨I1.kIn,?_⟩) he hpl;have r2:Vals (vs++dvs) (us++ds):=r.append hd;have hl:(us++ds).length=ps.length:=by rw[<- r2.length];exact F.len _ _ _ _ h
 refine wpAny_call (YJ (F.run X.A X.stack s1 H1 ⟨us,[]⟩ (us++ds) (vs++dvs) Q (E σ) hr I1.env0 (hb s1 us I1.kIn hl) r2 h) fun r s' hq=>?_);cases r with
 |error e=>exact hx pins σ H1 s1 e s' I1 hq
 |ok fl=>
  cases fl with
  |ret u=>exact I1.after hq
  |next=>exact Zf hq
  |brk=>exact Zf hq
  |cont=>exact Zf hq
end
section
variable{X:Cx}{tg:Expr}
end
end L2
namespace L2
theorem ex1(hl:us.length=1):∃a0,us=[a0]:=by
 cases us with
 |nil=>cases hl
 |cons a r=>exact⟨a,by rw[List.eq_nil_of_length_eq_zero (Nat.succ.inj hl)]⟩
theorem ex2(hl:us.length=2):∃a0 a1,us=[a0,a1]:=by
 cases us with
 |nil=>cases hl
 |cons a r=>
  obtain⟨a1,e⟩:=ex1 (Nat.succ.inj hl);exact⟨a,a1,by rw[e]⟩
theorem ex3(hl:us.length=3):∃a0 a1 a2,us=[a0,a1,a2]:=by
 cases us with
 |nil=>cases hl
 |cons a r=>
  obtain⟨a1,a2,e⟩:=ex2 (Nat.succ.inj hl);exact⟨a,a1,a2,by rw[e]⟩
theorem ex4(hl:us.length=4):∃a0 a1 a2 a3,us=[a0,a1,a2,a3]:=by
 cases us with
 |nil=>cases hl
 |cons a r=>
  obtain⟨a1,a2,a3,e⟩:=ex3 (Nat.succ.inj hl);exact⟨a,a1,a2,a3,by rw[e]⟩
theorem ex5(hl:us.length=5):∃a0 a1 a2 a3 a4,us=[a0,a1,a2,a3,a4]:=by
 cases us with
 |nil=>cases hl
 |cons a r=>
  obtain⟨a1,a2,a3,a4,e⟩:=ex4 (Nat.succ.inj hl);exact⟨a,a1,a2,a3,a4,by rw[e]⟩
theorem ex6(hl:us.length=6):∃a0 a1 a2 a3 a4 a5,us=[a0,a1,a2,a3,a4,a5]:=by
 cases us with
 |nil=>cases hl
 |cons a r=>
  obtain⟨a1,a2,a3,a4,a5,e⟩:=ex5 (Nat.succ.inj hl);exact⟨a,a1,a2,a3,a4,a5,by rw[e]⟩
end L2
namespace L2
open Lean Meta Simp
def GM:List Name:=[`L2.uC,`L2.tC,`L2.tOp,`L2.tUn,`L2.gEqN,`L2.oR,`L2.wo,`L2.Jv,`L2.fOr,`L2.Jd,`L2.BL,`L2.fPickT,`L2.EI,`L2.EH,`L2.HL,`L2.tRetN,`L2.yt,`L2.Fk,`L2.vS,`L2.fG,`L2.tIf,`L2.Iz,`L2.tOr,`L2.Id,`L2.cc,`L2.h8,`L2.tCB,`L2.lY,`L2.IF,`L2.Hu,`L2.Jl,`L2.Fb,`L2.tIsB,`L2.Fc,`L2.yA,`L2.tSl,`L2.cs,`L2.FI,`L2.CMul,`L2.GP,`L2.xg,`L2.Jy,`L2.gcE,`L2.IX,`L2.tGc,`L2.tBM,`L2.Fh,`L2.fJoinRev,`L2.CDivB,`L2.xP,`L2.FC,`L2.ET,`L2.Im,`L2.gSub,`L2.rSetL,`L2.Fl,`L2.Ff,`L2.mq,`L2.pF,`L2.BD,`L2.C6,`L2.E6,`L2.tBM0,`L2.rClear]
def Ge:List Name:=[`L2.qN,`L2.gI,`L2.gIC,`L2.Jj,`L2.gLe,`L2.gLt,`L2.eqS,`L2.kB,`L2.JL,`L2.HG,`L2.Jx,`L2.FH,`L2.BU,`L2.gInt,`L2.gIx,`L2.sp0,`L2.sp1,`L2.sp2,`L2.sp3,`L2.sp4,`L2.asI,`L2.asT,`L2.asB,`L2.asR,`L2.tyV,`L2.gSt,`L2.gEn,`L2.gZf,`L2.gStr,`L2.yC,`L2.gIn,`L2.gSl,`L2.JH,`L2.gMulS,`L2.FR,`L2.F5,`L2.gRepT,`L2.gIsiT,`L2.xY,`L2.CT,`L2.Ic,`L2.ID,`L2.FV,`L2.BH,`L2.uZ,`L2.IN,`L2.Fe]
def rdI:=z9 @L2.Ei (z9 @L2.JT (z9 @L2.V.bl.injEq (z9 @L2.V.str.injEq (z9 @L2.zT (z9 @L2.II (z9 @L2.Gq (z9 @L2.Gj (z9 @L2.Fs (z9 @L2.Gg (z9 @L2.n8 (z9 @L2.vx (z9 @L2.xA (z9 @L2.wx (z9 @L2.uH (z9 @L2.tK (z9 @L2.vZ (z9 @L2.EJ (z9 @L2.mM (z9 @L2.su (z9 @L2.vc (z9 @L2.uq (z9 @L2.rT (z9 @L2.qB (z9 @L2.r8 (z9 @L2.Gy (z9 @L2.oh (z9 @L2.uh (z9 @L2.xy (z9 @L2.xC (z9 @L2.vT (z9 @L2.tw (z9 @L2.uK (z9 @L2.DG (z9 @L2.mh (z9 @L2.tO (z9 @L2.uw (z9 @L2.uo (z9 @L2.sx (z9 @L2.qA (z9 @L2.tm (z9 @L2.CW (z9 @L2.j9 (z9 @L2.qI (z9 @L2.sj (z9 @L2.rZ (z9 @L2.qw (z9 @L2.oN (z9 @L2.qr (z9 @L2.DU (z9 @L2.mE (z9 @L2.sN (z9 @L2.uO (z9 @L2.vF (z9 @L2.s_ (z9 @L2.qK (z9 @L2.sf (z9 @L2.Je (z9 @L2.GL (z9 @L2.Go (z9 @L2.HB (z9 @L2.C7 (z9 @L2.GG (z9 @L2.DR (z9 @L2.Da (z9 @L2.DL (z9 @L2.C_ (z9 @L2.FY (z9 @L2.El (z9 @L2.Di (z9 @L2.EK (z9 @true_and (z9 @and_true (z9 @and_self (z9 @true_or (z9 @or_true (z9 @decide_eq_true_eq (z9 @Bool.true_eq_false (z9 @Bool.false_xor (z9 @Bool.true_xor (z9 @Bool.not_true (z9 @Bool.not_false (z9 @Zq (z9 @Bool.not_eq_true' (z9 @decide_eq_false_iff_not @Classical.not_not))))))))))))))))))))))))))))))))))))))))))))))))))))))))))))))))))))))))))))))))))))
end L2
namespace L2
namespace Srt
open PySem PyProof.Rows
def kv(κ:Keyed->Int)(xs:Array Keyed)(i:Nat):Int:=(xs[i]?.map κ).getD 0
def Up(κ:Keyed->Int)(xs:Array Keyed)(k:Nat):Prop:=∀i j,i<=j->j<k->kv κ xs i<=kv κ xs j
def Dn(κ:Keyed->Int)(xs:Array Keyed)(k:Nat):Prop:=∀i j,i<=j->j<k->kv κ xs j<=kv κ xs i
structure SB(kd:SortKind)(z:Array Keyed)(t:SortSt):Prop where
 pm:(arrOf t).Perm z
 kn:kindOf t=kd
 fl:failedOf t=none
 pn:pendingOf t = #[]
theorem SB.sz(b:SB kd z t):(arrOf t).size=z.size:=b.pm.size_eq
theorem SB.put(b:SB kd z t)(p:xs.Perm (arrOf t)):SB kd z (setArr t xs):=
 ⟨p.trans b.pm,b.kn,b.fl,b.pn⟩
theorem qW(h:i<xs.size):kv κ xs i=κ xs[i]:=by
 unfold kv;rw[Array.getElem?_eq_getElem h];rfl
theorem yg(h:xs[i]? = ys[j]?):kv κ xs i=kv κ ys j:=by unfold kv;rw[h]
theorem Bi(hs:u<xs.size)(hd:d<=u)(k:Nat) :
 kv κ (bubble xs u d) k=if k=u-d then kv κ xs u else if u-d<k/\k<=u then kv κ xs (k-1) else kv κ xs k:=by
 have e:=getElem?_bubble hs d hd k;by_cases h1:k=u-d
 ·rw[if_pos h1]at e |-
  exact yg e
 ·rw[if_neg h1]at e |-
  by_cases h2:u-d<k/\k<=u
  ·rw[if_pos h2]at e |-
   exact yg e
  ·rw[if_neg h2]at e |-
   exact yg e
theorem CK(hj:n<=xs.size)(hk:k<n) :
 kv κ (mirror xs 0 n ((n-0) / 2)) k=kv κ xs (n-1-k):=by
 have e:=getElem?_mirror_all (i:=0) hj k;rw[if_pos ⟨wQ _,hk⟩,Nat.zero_add]at e;exact yg e
section
variable{prog:Program}{w:World}{A:Around}{E:Value->Shared->Prop}{s:Shared}{z:Array Keyed}{κ:Keyed->Int}{kd:SortKind}{t:SortSt}
def Lts(prog:Program)(w:World)(A:Around)(s:Shared)(kd:SortKind)(κ:Keyed->Int)(z:Array Keyed):Prop:=
 ∀(E:Value->Shared->Prop) (p q:Keyed) (Q:Bool->Shared->Prop),p∈z.toList->q∈z.toList->Q (decide (κ p<κ q)) s->wpAny (model prog w) A (keyLt' kd p.1 q.1) Q E s
theorem SB.mem(b:SB kd z t)(h:i<(arrOf t).size):(arrOf t)[i]∈z.toList:=
 (Yu.mp b.pm).mem_iff.mp (by simp)
theorem vm(L:Lts prog w A s kd κ z)(b:SB kd z t)(hi:i<z.size)(hj:j<z.size)
 (h:Q (some (decide (kv κ (arrOf t) i<kv κ (arrOf t) j))) t):wpS (model prog w) A E s (ltAt' i j) Q t:=by
 have i':i<(arrOf t).size:=b.sz ▸ hi;have j':j<(arrOf t).size:=b.sz ▸ hj;rw[qW i',qW j']at h;rw[ltAt'_eq];refine wpS_bind (wpS_get ?_);show wpS (model prog w) A E s (elem' (arrOf t) i >>= fun p=>elem' (arrOf t) j >>= fun q=>lt' p q) Q t;rw[elem'_eq,elem'_eq,Array.getElem?_eq_getElem i',Array.getElem?_eq_getElem j'];refine wpS_bind (wpS_pure (wpS_bind (wpS_pure ?_)));rw[lt'_eq];refine wpS_bind (wpS_get ?_);rw[b.kn];exact wpS_bind (wpS_lift (wpAny_attempt (L _ _ _ _ (b.mem i') (b.mem j') ⟨rfl,wpS_pure h⟩)))
def pp(κ:Keyed->Int)(z:Array Keyed):Prop:=(z.toList.map κ).Nodup
theorem apart(b:SB kd z t)(D:pp κ z)(hj:j<z.size)(h:i<j):kv κ (arrOf t) i≠kv κ (arrOf t) j:=by
 have j':j<(arrOf t).size:=b.sz ▸ hj;have i':i<(arrOf t).size:=Nat.lt_trans h j';have d:((arrOf t).toList.map κ).Nodup:=((Yu.mp b.pm).map κ).nodup_iff.mpr D;rw[qW i',qW j'];intro e;have:=Zg.mp d i j (by simpa using i') (by simpa using j') h;simp at this;exact this e
theorem Dh(u:Up κ xs n)(h:n=0\/kv κ xs (n-1)<=kv κ xs n):Up κ xs (n+1):=by
 intro i j a c;by_cases e:j<n
 ·exact u i j a e
 ·have:j=n:=by lia
  subst this;by_cases e2:i=j
  ·subst e2;exact Yd _
  ·exact Int.le_trans (u i (j-1) (by lia) (by lia)) (h.resolve_left (by lia))
theorem xM(u:Dn κ xs n)(h:n=0\/kv κ xs n<=kv κ xs (n-1)):Dn κ xs (n+1):=by
 intro i j a c;by_cases e:j<n
 ·exact u i j a e
 ·have:j=n:=by lia
  subst this;by_cases e2:i=j
  ·subst e2;exact Yd _
  ·exact Int.le_trans (h.resolve_left (by lia)) (u i (j-1) (by lia) (by lia))
theorem asc(L:Lts prog w A s kd κ z)(hr:r<=z.size)(ha:1<=a)(har:a<=r)(b:SB kd z t)(u:Up κ (arrOf t) a)
 (h:∀n,a<=n->n<=r->Up κ (arrOf t) n->(n=r\/kv κ (arrOf t) n<kv κ (arrOf t) (n-1))->Q (none,n) t):wpS (model prog w) A E s (ascLoop a r) Q t:=by
 unfold ascLoop;refine wpS_forRange (fun x c t'=>t'=t/\c=(none,x)/\Up κ (arrOf t) x) ?_ ?_ ⟨rfl,rfl,u⟩
 ·rintro x c t' x1 x2 ⟨rfl,rfl,u'⟩
  refine wpS_bind (vm L b (by lia) (by lia) ?_);by_cases l:kv κ (arrOf t') x<kv κ (arrOf t') (x-1)
  ·simp only[decide_eq_true l,if_true]
   exact wpS_pure (h x x1 (by lia) u' (.inr l))
  ·simp only[decide_eq_false l,Zq,if_false]
   exact wpS_pure ⟨rfl,rfl,Dh u' (.inr (by lia))⟩
 ·rintro c t' ⟨rfl,rfl,u'⟩
  rw[Nat.max_eq_right har]at u' |-
  exact h r har (zL _) u' (.inl rfl)
theorem t3(L:Lts prog w A s kd κ z)(hr:r<=z.size)(h1:1<=n)(hn:n<=r)(b:SB kd z t)(u:Dn κ (arrOf t) n)
 (h:∀m t',SB kd z t'->1<=m->m<=r->Up κ (arrOf t') m->Q (some m) t'):wpS (model prog w) A E s (tail3 n r) Q t:=by
 unfold tail3;refine wpS_bind (wpS_reverse ?_);have b':=b.put (mirror_perm (arrOf t) 0 n ((n-0) / 2));refine wpS_bind (asc L hr h1 hn b' ?_ fun m m1 m2 u' _=>wpS_pure (h m _ b' (by lia) m2 u'));intro i j a c;have g:n<=(arrOf t).size:=by rw[b.sz];lia
 show kv κ (mirror (arrOf t) 0 n ((n-0) / 2)) i<=kv κ (mirror (arrOf t) 0 n ((n-0) / 2)) j;rw[CK g (by lia),CK g c];exact u _ _ (by lia) (by lia)
theorem Ka(L:Lts prog w A s kd κ z)(D:pp κ z)(hr:r<=z.size)(h1:1<=n)(hn:n<=r)(b:SB kd z t)(u:Dn κ (arrOf t) n)
 (h:∀m,n<=m->m<=r->Dn κ (arrOf t) m->Q (none,m,0) t):wpS (model prog w) A E s (descLoop n r) Q t:=by
 unfold descLoop;refine wpS_forRange (fun x c t'=>t'=t/\c=(none,x,0)/\Dn κ (arrOf t) x) ?_ ?_ ⟨rfl,rfl,u⟩
 ·rintro x c t' x1 x2 ⟨rfl,rfl,u'⟩
  dsimp only;refine wpS_bind (vm L b (by lia) (by lia) ?_);by_cases l:kv κ (arrOf t') x<kv κ (arrOf t') (x-1)
  ·simp only[decide_eq_true l,if_true]
   rw[if_neg (ZQ 0)];exact wpS_pure ⟨rfl,rfl,xM u' (.inr (Int.le_of_lt l))⟩
  ·simp only[decide_eq_false l,Zq,if_false]
   refine wpS_bind (vm L b (by lia) (by lia) ?_);have d:=apart b D (i:=x-1) (j:=x) (by lia) (by lia);simp only[decide_eq_true (show kv κ (arrOf t') (x-1)<kv κ (arrOf t') x by lia),if_true];exact wpS_pure (h x x1 (by lia) u')
 ·rintro c t' ⟨rfl,rfl,u'⟩
  rw[Nat.max_eq_right hn]at u' |-
  exact h r hn (zL _) u'
theorem count(L:Lts prog w A s kd κ z)(D:pp κ z)(hr:r<=z.size)(h1:1<=r)(b:SB kd z t)
 (h:∀m t',SB kd z t'->1<=m->m<=r->Up κ (arrOf t') m->Q (some m) t'):wpS (model prog w) A E s (countRun' 0 r) Q t:=by
 rw[countRun0_eq];refine wpS_bind (asc L hr (zL 1) h1 b (fun i j a c=>by have:i=j:=(by lia);subst this;exact Yd _) fun n n1 n2 u o=>?_);dsimp only;by_cases e:n=r
 ·rw[if_pos (by simpa using e)]
  exact wpS_pure (h n t b n1 n2 u)
 rw[if_neg (by simpa using e)];by_cases g:n > 1
 ·rw[if_pos g]
  refine wpS_bind (vm L b (by lia) (by lia) ?_);have d:=apart b D (i:=0) (j:=n-1) (by lia) (by lia);have l:=u 0 (n-1) (by lia) (by lia);simp only[decide_eq_true (show kv κ (arrOf t) 0<kv κ (arrOf t) (n-1) by lia),if_true];exact wpS_pure (h n t b n1 n2 u)
 ·rw[if_neg g]
  have:n=1:=by lia
  subst this;unfold descPart;refine wpS_bind (wpS_lift (wpAny_rule ⟨rfl,?_⟩));refine wpS_bind (Ka L D hr (by lia) (by lia) b ?_ fun m m1 m2 u'=>?_)
  ·refine xM (fun i j a c=>by have:i=j:=(by lia);subst this;exact Yd _) (.inr ?_)
   have:=o.resolve_left e;lia
  ·dsimp only
   rw[if_neg (ZQ 0)];exact t3 L hr (by lia) m2 b u' h
theorem J4{l r:Nat}(g:¬ l ≥ r):l<=(l+r) / 2/\(l+r) / 2<r:=⟨by lia,by lia⟩
theorem GF(L:Lts prog w A s kd κ z)(hn:n<=z.size)(hk:k₀<=n)(h0:1<=k₀)(b:SB kd z t)(u:Up κ (arrOf t) k₀)
 (h:∀t',SB kd z t'->Up κ (arrOf t') n->Q true t'):wpS (model prog w) A E s (binarySort' 0 n k₀) Q t:=by
 rw[binarySort'_eq];simp only[Nat.zero_add];rw[Nat.max_eq_left h0];refine wpS_bind (wpS_mono (wpS_forRange (fun k c t'=>c=(none,())/\SB kd z t'/\Up κ (arrOf t') k) (Q:=fun c t'=>c=(none,())/\SB kd z t'/\Up κ (arrOf t') n) ?_ ?_ ⟨rfl,b,u⟩) ?_)
 ·rintro k c t' k1 k2 ⟨rfl,b',u'⟩
  refine wpS_bind (wpS_mono (wpS_forRange (fun x c t2=>t2=t'/\∃l r,c=(none,l,r)/\l<=r/\r<=k/\r-l<=k-x /\
   (∀i,i<l->kv κ (arrOf t') i<=kv κ (arrOf t') k)/\∀i,r<=i->i<k->kv κ (arrOf t') k<=kv κ (arrOf t') i)
   (Q:=fun c t2=>t2=t'/\∃l r,c=(none,l,r)/\l<=k/\(∀i,i<l->kv κ (arrOf t') i<=kv κ (arrOf t') k)/\∀i,l<=i->i<k->kv κ (arrOf t') k<=kv κ (arrOf t') i) ?_ ?_
    ⟨rfl,0,k,rfl,wQ _,zL _,zL _,fun i q=>absurd q (Nat.not_lt_zero _),fun i q q'=>absurd q' (Nat.not_lt.mpr q)⟩) ?_)
  ·rintro x c t2 _ x2 ⟨rfl,l,r,rfl,lr,rk,m,lo,hi⟩
   dsimp only;by_cases g:l ≥ r
   ·rw[if_pos g]
    have:l=r:=by lia
    subst this;exact wpS_pure ⟨rfl,l,l,rfl,rk,lo,hi⟩
   rw[if_neg g];obtain⟨a1,a2⟩:=J4 g;generalize (l+r) / 2=d at a1 a2;have a3:=vD a2 rk;refine wpS_bind (vm L b' (by lia) (by lia) ?_);by_cases q:kv κ (arrOf t2) k<kv κ (arrOf t2) d
   ·simp only[decide_eq_true q,if_true]
    exact wpS_pure ⟨rfl,l,d,rfl,a1,ZD a3,by lia,lo,fun i a c=>Int.le_trans (Int.le_of_lt q) (u' _ _ a c)⟩
   ·simp only[decide_eq_false q,Zq,if_false]
    exact wpS_pure ⟨rfl,d+1,r,rfl,a2,rk,by lia,fun i a=>Int.le_trans (u' i d (Nat.le_of_lt_succ a) a3) (Int.not_lt.mp q),hi⟩
  ·rintro c t2 ⟨rfl,l,r,rfl,lr,rk,m,lo,hi⟩
   have:l=r:=by lia
   subst this;exact⟨rfl,l,l,rfl,rk,lo,hi⟩
  ·rintro c t2 ⟨rfl,l,r,rfl,lk,lo,hi⟩
   show wpS (model prog w) A E s (moveDown' k l >>= fun _=>pure (ForInStep.yield (none,()))) _ t2;rw[moveDown'_eq];refine wpS_bind (wpS_modify (wpS_pure ⟨rfl,b'.put (bubble_perm _ _ _),?_⟩));have g:k<(arrOf t2).size:=by rw[b'.sz];lia
   intro i j a c;show kv κ (bubble (arrOf t2) k (k-l)) i<=kv κ (bubble (arrOf t2) k (k-l)) j;rw[Bi g (by lia),Bi g (by lia),Nat.sub_sub_self lk];by_cases e1:i=l
   ·rw[if_pos e1]
    by_cases e2:j=l
    ·rw[if_pos e2];exact Yd _
    ·rw[if_neg e2,if_pos (by lia)];exact hi _ (by lia) (by lia)
   ·rw[if_neg e1]
    by_cases e3:l<i/\i<=k
    ·rw[if_pos e3,if_neg (by lia),if_pos (by lia)];exact u' _ _ (by lia) (by lia)
    ·rw[if_neg e3]
     by_cases e2:j=l
     ·rw[if_pos e2];exact lo _ (by lia)
     ·rw[if_neg e2]
      by_cases e4:l<j/\j<=k
      ·rw[if_pos e4];exact u' _ _ (by lia) (by lia)
      ·rw[if_neg e4];exact u' _ _ a (by lia)
 ·rintro c t' ⟨e,b',u'⟩
  rw[Nat.max_eq_right hk]at u';exact⟨e,b',u'⟩
 ·rintro c t' ⟨rfl,b',u'⟩
  exact wpS_pure (h t' b' u')
theorem JR(L:Lts prog w A s kd κ z)(D:pp κ z)(b:SB kd z t)(h2:2<=z.size)(h64:z.size<64)
 (h:∀t',(arrOf t').Perm z->failedOf t'=none->Up κ (arrOf t') z.size->Q () t'):wpS (model prog w) A E s sortRuns' Q t:=by
 rw[sortRuns'_eq];refine wpS_bind (wpS_get ?_);dsimp only;have mr:minRun' z.size z.size 0=z.size:=by
  obtain⟨f,e⟩:∃f,z.size=f+1:=⟨z.size-1,by lia⟩;rw[e,minRun'_succ,if_pos (by lia),Nat.add_zero]
 simp only[b.sz,mr];refine wpS_bind (wpS_mono (wpS_forRange
  (fun x c t'=>(x=0/\c=(none,0)/\SB kd z t')\/(1<=x/\c=(none,z.size)/\(arrOf t').Perm z/\failedOf t'=none/\pendingOf t' = #[(0,z.size,0)]/\Up κ (arrOf t') z.size))
  (Q:=fun c t'=>c=(none,z.size)/\(arrOf t').Perm z/\failedOf t'=none/\pendingOf t' = #[(0,z.size,0)]/\Up κ (arrOf t') z.size) ?_ ?_ (.inl ⟨rfl,rfl,b⟩)) ?_)
 ·rintro x c t' _ x2 (⟨rfl,rfl,b'⟩|⟨x1,rfl,d⟩)
  ·dsimp only
   rw[if_neg (by lia)];simp only[Nat.sub_zero,Nat.min_self,Nat.zero_add];refine wpS_bind (count L D (zL _) (by lia) b' fun m t2 b2 m1 m2 u2=>?_);dsimp only;by_cases g:m<z.size
   ·rw[if_pos g]
    refine wpS_bind (wpS_lift (wpAny_rule ⟨rfl,?_⟩));refine wpS_bind (GF L (zL _) m2 m1 b2 u2 fun t3 b3 u3=>?_);simp only[Bool.not_true,Zq,if_false];refine wpS_bind (wpS_get ?_);rw[show(pendingOf t3).back? = none by rw[b3.pn];rfl];exact wpS_bind (wpS_modify (wpS_pure (.inr ⟨by lia,rfl,b3.pm,b3.fl,by show(pendingOf t3).push _=_;rw[b3.pn];rfl,u3⟩)))
   ·rw[if_neg g]
    have:m=z.size:=by lia
    subst this;refine wpS_bind (wpS_get ?_);rw[show(pendingOf t2).back? = none by rw[b2.pn];rfl];exact wpS_bind (wpS_modify (wpS_pure (.inr ⟨by lia,rfl,b2.pm,b2.fl,by show(pendingOf t2).push _=_;rw[b2.pn];rfl,u2⟩)))
  ·dsimp only
   rw[if_pos (zL _)];exact wpS_pure ⟨rfl,d⟩
 ·rintro c t' (⟨x,_,_⟩|⟨_,e,d⟩)
  ·lia
  ·exact⟨e,d⟩
 ·rintro c t' ⟨rfl,p1,p2,p3,p4⟩
  dsimp only;refine wpS_bind (wpS_mono (wpS_forRange (fun _ c t2=>t2=t'/\c=(none,())) (Q:=fun c t2=>t2=t'/\c=(none,())) ?_ (fun _ _ q=>q) ⟨rfl,rfl⟩) ?_)
  ·rintro x c t2 _ _ ⟨rfl,rfl⟩
   refine wpS_bind (wpS_get ?_);rw[if_pos (by rw[p3];exact zL 1)];exact wpS_pure ⟨rfl,rfl⟩
  ·rintro c t2 ⟨rfl,rfl⟩
   exact wpS_pure (h _ p1 p2 p4)
end
section
variable{prog:Program}{w:World}{A:Around}{E:Value->Shared->Prop}{s:Shared}
structure Cmp(prog:Program)(w:World)(A:Around)(h:Heap)(os:OsState)(kd:SortKind)(κ:Value->Int)(vs:List Value):Prop where
 kind:∀(E:Value->Shared->Prop) (s:Shared) (Q:SortKind->Shared->Prop),s.heap=h->Q kd s->wpAny (model prog w) A (keyKind' vs.toArray) Q E s
 lt:∀(E:Value->Shared->Prop) (s:Shared) (p q:Value) (Q:Bool->Shared->Prop),s.heap=h->p∈vs->q∈vs->Q (decide (κ p<κ q)) s->wpAny (model prog w) A (keyLt' kd p q) Q E s
theorem pairs_mem{vs:List Value}(h:p∈(vs.toArray.zip vs.toArray).toList):p.1∈vs/\p.2=p.1:=by
 rw[Array.toList_zip]at h;simp at h;rw[List.zip_eq_zipWith,List.zipWith_self]at h;obtain⟨a,ha,e⟩:=yS.mp h;subst e;exact⟨ha,rfl⟩
theorem pairs_fst(vs:List Value):(vs.toArray.zip vs.toArray).toList.map (·.1)=vs:=by
 rw[Array.toList_zip];exact List.map_fst_zip (zL _)
theorem sort_by{vs:List Value}(ho:s.heap.get? a=some (seqObj "list" vs.toArray n))(h64:vs.length<64)(hd:(vs.map κ).Nodup)
 (hC:2<=vs.length->Cmp prog w A (((s.heap.update a (YT fun _=>#[])).push (seqObj "tuple" vs.toArray 0)).push (seqObj "list" #[] 0)) s.os kd κ vs)
 (h:∀out:List Value,out.Perm vs->out.Pairwise (fun x y=>κ x<κ y)->P (.done (.ret .none)) { s with heap:=sortedHeap s.heap a vs out.toArray }) :
 wpAny (model prog w) A (Builtin.«list.sort» ⟨[.ref a],[]⟩) P E s:=by
 rw[list_sort_plain];have la:a<s.heap.objs.size:=xb ho;refine zj (listItems_at ho rfl (zj (listUpdate_at ho rfl ?_ (hsz:=by rw[zH,um];lia))));obtain⟨e1,ho1⟩:∃e,(s.heap.update a (YT fun _=>#[])).get? a=some (seqObj "list" #[] e):=⟨_,get?_update_seq ho fun _=>#[]⟩;refine zj (seqEpoch_at ho1 rfl (zj (wpAny_newTuple (zj (wpAny_newList (YH ?_))) (by show vs.length<=_;rw[um];lia))));have ho3:(((s.heap.update a (YT fun _=>#[])).push (seqObj "tuple" vs.toArray 0)).push (seqObj "list" #[] 0)).get? a=some (seqObj "list" #[] e1):=
  Heap.get?_push_of_some _ (Heap.get?_push_of_some _ ho1)
 show wpAny (model prog w) A _ P E { s with heap:=((s.heap.update a (YT fun _=>#[])).push (seqObj "tuple" vs.toArray 0)).push (seqObj "list" #[] 0) };dsimp only;have fin:∀t:SortSt,(arrOf t).Perm (vs.toArray.zip vs.toArray)->failedOf t=none->Up (fun p=>κ p.1) (arrOf t) (vs.toArray.zip vs.toArray).size ->
  (((arrOf t).map (·.2)).toList.Perm vs/\((arrOf t).map (·.2)).toList.Pairwise fun x y=>κ x<κ y):=fun t pm _ u=>by
  have pl:=Yu.mp pm;have e2:((arrOf t).map (·.2)).toList=(arrOf t).toList.map (·.1):=by
   rw[Array.toList_map];exact nE fun p hp=>(pairs_mem (pl.mem_iff.mp hp)).2
  have p1:((arrOf t).map (·.2)).toList.Perm vs:=by
   rw[e2];have:=pl.map (·.1)
   rwa [pairs_fst]at this
  refine⟨p1,?_⟩;have nd:(((arrOf t).map (·.2)).toList.map κ).Nodup:=(p1.map κ).nodup_iff.mpr hd;rw[e2]at nd |-
  have sz:(arrOf t).size=(vs.toArray.zip vs.toArray).size:=pm.size_eq;refine Zg.mpr fun i j hi hj hij=>?_;have hi':i<(arrOf t).size:=by simpa using hi
  have hj':j<(arrOf t).size:=by simpa using hj
  have l:=u i j (ZD hij) (by lia);rw[qW hi',qW hj']at l;have d:=Zg.mp nd i j (by simpa using hi) (by simpa using hj) hij;simp at d l |-
  lia
 by_cases c2:vs.toArray.size<2
 ·rw[if_pos c2,if_pos c2]
  refine zj (zA ?_);rw[StateT.run_pure];refine zj (zA ?_);dsimp only;refine zj (seqEpoch_at ho3 rfl ?_);obtain⟨f1,f2⟩:=fin (SortSt.mk' general' (vs.toArray.zip vs.toArray) #[] 7 none) (Array.Perm.refl _) rfl fun i j hij hj=>by
   have:i=j:=by simp at hj c2;lia
   subst this;exact Yd _
  have sz2:((vs.toArray.zip vs.toArray).map (·.2)).size<=sizeLine+1:=by simp;rw[um];lia
  refine zj (listUpdate_at ho3 rfl ?_ (hsz:=by rw[um];decide) (hsz2:=sz2));simp only[bne_self_eq_false,Zq,if_false];exact zA (h _ f1 f2)
 ·rw[if_neg c2,if_neg c2]
  have C:=hC (by simp at c2;lia);refine zj (C.kind _ _ _ rfl ?_);have zs:(vs.toArray.zip vs.toArray).size=vs.length:=by simp
  have L:Lts prog w A { s with heap:=((s.heap.update a (YT fun _=>#[])).push (seqObj "tuple" vs.toArray 0)).push (seqObj "list" #[] 0) } kd (fun p=>κ p.1) (vs.toArray.zip vs.toArray):=
   fun E p q Q hp hq k=>C.lt _ _ _ _ _ rfl (pairs_mem hp).1 (pairs_mem hq).1 k
  have D:pp (fun p=>κ p.1) (vs.toArray.zip vs.toArray):=by
   unfold pp;rw[show(vs.toArray.zip vs.toArray).toList.map (fun p=>κ p.1)=((vs.toArray.zip vs.toArray).toList.map (·.1)).map κ by rw[tf];rfl,pairs_fst];exact hd
  refine zj (Zv (JR (z:=vs.toArray.zip vs.toArray) (t:=SortSt.mk' kd (vs.toArray.zip vs.toArray) #[] 7 none) (Q:=fun _ t'=>(arrOf t').Perm (vs.toArray.zip vs.toArray)/\failedOf t'=none/\Up (fun p=>κ p.1) (arrOf t') (vs.toArray.zip vs.toArray).size)
   L D ⟨Array.Perm.refl _,rfl,rfl,rfl⟩ (by rw[zs];simp at c2;lia) (by lia) fun t' a1 a2 a3=>⟨a1,a2,a3⟩) ?_ fun _ _ e=>e)
  rintro⟨⟨⟩,t'⟩ s' ⟨rfl,a1,a2,a3⟩;dsimp only;refine zj (seqEpoch_at ho3 rfl ?_);obtain⟨f1,f2⟩:=fin t' a1 a2 a3;have sz2:((arrOf t').map (·.2)).size<=sizeLine+1:=by
   have:=f1.length_eq;rw[ZS]at this;rw[this,um];lia
  refine zj (listUpdate_at ho3 rfl ?_ (hsz:=by rw[um];decide) (hsz2:=sz2));rw[a2];simp only[bne_self_eq_false,Zq,if_false];exact zA (h _ f1 f2)
end
end Srt
namespace Srt
open PySem PyProof.Rows
def Two(h:Heap)(p:Addr)(x y:Int):Prop:=∃(o:Obj) (t u:Tok) (n:Nat),h.get? p=some o/\o.cls = .type "tuple" /\ o.data = .seq #[.int x t,.int y u] n
section
variable{prog:Program}{w:World}{A:Around}{E:Value->Shared->Prop}{s:Shared}
end
end Srt
namespace Srt
open PySem PyProof.Rows
section
variable{prog:Program}{w:World}{A:Around}{E:Value->Shared->Prop}{R:Result->Shared->Prop}{s:Shared}{I S ax:Addr}{items:Array Value}{h₀:Heap}{κ:Value->Int}
def Prs(h:Heap)(κ:Value->Int)(lo:Int)(v:Value):Prop:=∃p x y,v = .ref p/\Two h p x y/\κ v=x*64+y/\lo<=y/\y<lo+64
end
end Srt
end L2
namespace L2
open PySem PyProof.Rows
section
variable{X:Cx}{pins:List (Addr × Obj)}{σ:St}{H:Hp}{s:Shared}
def jc:Value->List Nat
 | .str x _=>x.cps.toList
 |_=>[]
def IsS(v:Value):Prop:=∃x t,v = .str x t
abbrev InO(ls:List (List Nat)):Prop:=ls.Pairwise fun a b=>¬ b<a
theorem pI:∀ {vs:List Value},(∀v∈vs,IsS v)->Vals ((vs.map jc).map T) vs
 | [],_=>.nil
 |v::vs,h=>by
  obtain⟨x,t,rfl⟩:=h v (ZF ..);exact .cons ⟨t,rfl⟩ (pI fun u m=>h u (vf _ m))
theorem pE:∀ {ls:List (List Nat)} {vs:List Value},Vals (ls.map T) vs->(∀v∈vs,IsS v)/\vs.map jc=ls
 | [],_,.nil=>⟨(fun _ m=>nomatch m),rfl⟩
 |l::ls,_,.cons e t=>by
  obtain⟨k,rfl⟩:=e;obtain⟨a,b⟩:=pE t;refine⟨fun v m=>?_,by rw[xa,b];rfl⟩;rcases zZ.mp m with rfl|m
  ·exact⟨_,_,rfl⟩
  ·exact a v m
theorem pX:∀ {vs:List Value},(∀v∈vs,IsS v)->∃ss,StrsAre vs ss
 | [],_=>⟨[],.nil⟩
 |v::vs,h=>by
  obtain⟨x,t,rfl⟩:=h v (ZF ..);obtain⟨ss,r⟩:=pX fun u m=>h u (vf _ m);exact⟨x::ss,.cons x t r⟩
theorem yy(hv:∀v∈vs,IsS v)(hp:xs.Perm (pairsOf vs))(hs:SortedToK strKind xs (pairsOf vs).size) :
 (xs.map (·.2)).toList.Perm vs/\InO ((xs.map (·.2)).toList.map jc):=by
 have pl:xs.toList.Perm (vs.toArray.zip vs.toArray).toList:=Yu.mp hp;have e2:(xs.map (·.2)).toList=xs.toList.map (·.1):=by
  rw[Array.toList_map];exact nE fun p m=>(Srt.pairs_mem (pl.mem_iff.mp m)).2
 have p1:(xs.map (·.2)).toList.Perm vs:=by
  rw[e2];have:=pl.map (·.1)
  rwa [Srt.pairs_fst]at this
 refine⟨p1,?_⟩;rw[e2,tf];have sz:xs.size=(pairsOf vs).size:=hp.size_eq;refine Zg.mpr fun i j hi hj hij=>?_;have hi':i<xs.size:=by simpa using hi
 have hj':j<xs.size:=by simpa using hj
 have l:=hs i j (ZD hij) (by lia);have kk:∀k (h:k<xs.size),KK strKind xs k=jc xs[k].1:=fun k h=>by
  have m:xs[k]∈xs.toList:=by simp
  obtain⟨x,t,e⟩:=hv _ (Srt.pairs_mem (pl.mem_iff.mp m)).1;unfold KK;rw[Array.getElem?_eq_getElem h];show(strKind.keyOf xs[k].1).getD strKind.dflt=_;rw[e];rfl
 rw[kk i hi',kk j hj']at l;have l':decide (jc xs[j].1<jc xs[i].1)=false:=l;simp only[List.getElem_map,Array.getElem_toList,Function.comp_apply];exact of_decide_eq_false l'
def Cw(K:W.Frag):List V->Hp->VK->Prop
 | [.ref p],H,Q=>∃ls:List (List Nat),SqL K H p (ls.map T)/\ls.length<64/\∀out:List (List Nat),out.Perm ls->InO out->∀l,H l=none->Q (.ref l) (upd H l (.lst (out.map T)))
 |_,_,_=>False
theorem HN(K:W.Frag)(hK:X.K=K:=by rfl):CallR X (.builtin "sorted") (Cw K):=by
 subst hK;intro pins s σ H xs us Q I r h;rcases xs with _|⟨e_1,r_1⟩
 ·exact(id h:False).elim
 cases e_1 with
 |ref p=>
  cases r_1 with
  |nil=>
   obtain⟨ls,hq,h64,q⟩:=h;obtain⟨u,rfl,rx⟩:=dO r;cases (show u=yW p from rx);obtain⟨its,r',pl,hz⟩:=I.list hq;obtain⟨hv,em⟩:=pE r';obtain⟨ss,hS⟩:=pX hv;have len:its.length<64:=by have:=r'.length;rw[zg]at this;lia
   refine sortedK strKind_oneLt pl.isList hS.keysOf (fun v₁ v₂ rest e=>keyKind_strs (by rw[<- e];exact hS)) len fun st' hp hs=>?_;obtain⟨p1,o1⟩:=yy hv hp hs;generalize hout:(arrOf st').map (·.2)=out at p1 o1;obtain⟨c,ea⟩:=sortedAll_at s.heap its out;have kp:∀b o,s.heap.get? b=some o->(sortedAll s.heap its out).get? b=some o:=fun _ _ e=>sortedAll_old e;have hv2:∀v∈out.toList,IsS v:=fun v m=>hv v (p1.mem_iff.mp m);have pm:(out.toList.map jc).Perm ls:=by have:=p1.map jc;rwa [em]at this
   refine⟨.ref (s.heap.objs.size+1),_,I.laid (t':=s.toks) (a:=s.heap.objs.size+1) kp (YS _) (show ObjOk X.prog X.w _ (sortedAll s.heap its out) _ (.lst ((out.toList.map jc).map T)) from⟨?_,out.toList,c,pI hv2,by rw[Array.toArray_toList];exact ea⟩),rfl,q _ pm o1 _ (I.hok.fresh (YS _))⟩;rw[zg,pm.length_eq,um];lia
  |cons=>exact(id h:False).elim
 |_=>exact(id h:False).elim
def CC:List V->Hp->VK->Prop
 | [.ref d],H,Q=>∃kvs:List (Key × V),H d=some (.dK kvs)/\∀l,H l=none->Q (.ref l) (upd H l (.lst (kvs.map fun e=>kV e.1)))
 |_,_,_=>False
theorem mw:∀ {vs:List (Key × Value)} {us:List Value},us.length=vs.length->(∀(j:Nat) (v:Value),us[j]? = some v->∃k x,vs[j]? = some (k,x)/\(bK P w).is k v=true)->Vals (vs.map fun e=>kV e.1) us
 | [],[],_,_=>.nil
 |e::vs,u::us,hl,h=>by
  obtain⟨k,x,e1,r⟩:=h 0 u rfl;simp at e1;subst e1;refine .cons ?_ (mw (by simpa using hl) fun j v q=>by simpa using h (j+1) v (by simpa using q));cases k with
  |inl i=>obtain⟨t,z⟩:=Value.isInt_shape r;exact⟨t,z⟩
  |inr x=>obtain⟨t,z⟩:=Value.isStrOf_shape r;exact⟨t,z⟩
 | [],_::_,hl,_=>by simp at hl
 |_::_,[],hl,_=>by simp at hl
theorem CL(hc:X.calm=true):CallR X (.type "list") CC:=by
 intro pins s σ H xs us Q I r h;rcases xs with _|⟨e_1,r_1⟩
 ·exact(id h:False).elim
 cases e_1 with
 |ref d=>
  cases r_1 with
  |nil=>
   obtain⟨kvs,hd,q⟩:=h;obtain⟨u,rfl,rx⟩:=dO r;cases (show u=yW d from rx);obtain⟨z,lo,vs,kv,D⟩:=yw I.hok hd;obtain⟨ep,hat⟩:=D.dictAt;have len:vs.length=kvs.length:=(KV.length kv).symm;refine PySem.W.kdl_call (PySem.W.kdl_dict (knd:=bK X.prog X.w) (kvs:=vs) (ep:=ep) lo) (I.ok.hd hc) hat (by lia) fun h' tk acc c kp ea it=>?_;have ek:kvs.map (fun e=>kV e.1)=vs.map fun e=>kV e.1:=by
    have:=congrArg (List.map kV) (KV.keys kv)
    simpa [tf,Function.comp_def] using this
   refine⟨.ref s.heap.objs.size,_,I.laid (t':=tk) kp (zL _) (show ObjOk X.prog X.w _ h' _ (.lst (kvs.map fun e=>kV e.1)) from⟨by rw[zg];exact z,acc.toList,c,?_,by rw[Array.toArray_toList];exact ea⟩),rfl,q _ (I.hok.fresh (zL _))⟩;rw[ek];exact mw (P:=X.prog) (w:=X.w) (by rw[ZS];exact it.1) fun j v e=>it.2 j v (by rw[<- Array.getElem?_toList];exact e)
  |cons=>exact(id h:False).elim
 |_=>exact(id h:False).elim
def Be:List V->Hp->VK->Prop
 | [.ref d],H,Q=>∃(kvs:List (Key × V)) (ls:List (List Nat)),H d=some (.dK kvs)/\kvs.map (fun e=>kV e.1)=ls.map T/\ls.length<64/\∀out:List (List Nat),out.Perm ls->InO out->∀l,H l=none->Q (.ref l) (upd H l (.lst (out.map T)))
 |_,_,_=>False
theorem Cz(hc:X.calm=true):CallR X (.builtin "sorted") Be:=by
 intro pins s σ H xs us Q I r h;rcases xs with _|⟨e_1,r_1⟩
 ·exact(id h:False).elim
 cases e_1 with
 |ref d=>
  cases r_1 with
  |nil=>
   obtain⟨kvs,ls,hd,hks,h64,q⟩:=h;obtain⟨u,rfl,rx⟩:=dO r;cases (show u=yW d from rx);obtain⟨z,lo,vs,kv,D⟩:=yw I.hok hd;obtain⟨ep,hat⟩:=D.dictAt;have len:vs.length=kvs.length:=(KV.length kv).symm;have ek:kvs.map (fun e=>kV e.1)=vs.map fun e=>kV e.1:=by
    have:=congrArg (List.map kV) (KV.keys kv)
    simpa [tf,Function.comp_def] using this
   refine Calls.call_function_entry kind_sorted plain_sorted entry_sorted (args_sorted1 _) ?_;unfold Builtin.«sorted»;refine zj (m:=checkCount "sorted" 1 1 _) (zA ?_);refine zj (PySem.W.kdu_collect (PySem.W.kdl_dict (knd:=bK X.prog X.w) (kvs:=vs) (ep:=ep) lo) (I.ok.hd hc) hat (by lia) fun h' tk acc kp it=>?_);have rv:Vals (ls.map T) acc.toList:=by
    rw[<- hks,ek];exact mw (P:=X.prog) (w:=X.w) (by rw[ZS];exact it.1) fun j v e=>it.2 j v (by rw[<- Array.getElem?_toList];exact e)
   obtain⟨hv,em⟩:=pE rv;obtain⟨ss,hS⟩:=pX hv;have len2:acc.toList.length<64:=by have:=rv.length;rw[zg]at this;lia
   refine zj (wpAny_newList ?_);have hoL:(h'.push (seqObj "list" acc.toList.toArray 0)).get? h'.objs.size=some (seqObj "list" acc.toList.toArray 0):=Heap.get?_push_size _ rfl;refine zj (YH (Yz slot_list_sort ⟨_,hoL,rfl⟩ entry_list_sort (list_sort_treeK strKind_oneLt hoL hS.keysOf (fun v₁ v₂ rest e=>keyKind_strs (by rw[<- e];exact hS)) len2 fun st' hp hs=>⟨_,rfl,?_⟩) (args_list_sort _)));refine zA ⟨_,rfl,?_⟩;obtain⟨p1,o1⟩:=yy hv hp hs;generalize hout:(arrOf st').map (·.2)=out at p1 o1;obtain⟨c,ea⟩:=sortedHeap_at (out:=out) hoL;have I1:Inv X pins σ H { s with heap:=h',toks:=tk }:=I.kept kp;have kp2:∀b o,h'.get? b=some o->(sortedHeap (h'.push (seqObj "list" acc.toList.toArray 0)) h'.objs.size acc.toList out).get? b=some o:=fun b o e=>by
    have l1:=xb e;rw[sortedHeap_old (uj l1) (by rw[size_push'];exact Nat.lt_succ_of_lt l1),Heap.get?_push_ne _ _ _ (uj l1)];exact e
   have hv2:∀v∈out.toList,IsS v:=fun v m=>hv v (p1.mem_iff.mp m);have pm:(out.toList.map jc).Perm ls:=by have:=p1.map jc;rwa [em]at this
   refine⟨.ref h'.objs.size,_,I1.laid (t':=tk) (a:=h'.objs.size) kp2 (zL _) (show ObjOk X.prog X.w _ _ _ (.lst ((out.toList.map jc).map T)) from⟨?_,out.toList,c,pI hv2,by rw[Array.toArray_toList];exact ea⟩),rfl,q _ pm o1 _ (I1.hok.fresh (zL _))⟩;rw[zg,pm.length_eq,um];lia
  |cons=>exact(id h:False).elim
 |_=>exact(id h:False).elim
def IV(K:W.Frag):List V->Hp->VK->Prop
 | [.ref p],H,Q=>∃bs:List Bool,SqL K H p (bs.map V.bl)/\Q (.bl (bs.any id)) H
 |_,_,_=>False
theorem yM(K:W.Frag)(hc:X.calm=true)(hK:X.K=K:=by rfl):CallR X (.builtin "any") (IV K):=by
 subst hK;intro pins s σ H xs us Q I r h;rcases xs with _|⟨e_1,r_1⟩
 ·exact(id h:False).elim
 cases e_1 with
 |ref p=>
  cases r_1 with
  |nil=>
   obtain⟨bs,hq,q⟩:=h;obtain⟨u,rfl,rx⟩:=dO r;cases (show u=yW p from rx);obtain⟨its,rv,pl,hz⟩:=I.list hq;have hne:p≠s.heap.objs.size:=uj (by obtain⟨_,e,_⟩:=pl.isList;exact xb e);have hb:LSm.BoolsAre its bs:=o0 rv;refine call_any_walk (YY pl.isList ?_);refine⟨s.heap.objs.size,[s.heap.objs.size,p],[s.heap.objs.size],its.toArray.size,_,_,fun i=>(bs[i]?).getD false,rfl,Walks.list (A:=X.A.in1) (I.ok.hd hc) _ p hne its.toArray,
    ⟨⟨_,Heap.get?_push_size _ rfl,rfl,rfl⟩,pl.isList.push _⟩,fun i v s' Q' E' hP hQ=>?_,fun h' tk hk=>?_⟩
   ·obtain⟨b,e,rfl⟩:=hb.get i v (by simpa using hP)
    simp only[e,Option.getD_some]at hQ;exact Zr hQ
   ·have e:((Zb its.toArray.size).any fun i=>(bs[i]?).getD false)=bs.any id:=by
     rw[zH,hb.length];exact LSm.range_any bs
    rw[e];exact⟨.bl (bs.any id),H,I.kept (LSm.kept_iter hk),rfl,q⟩
  |cons=>exact(id h:False).elim
 |_=>exact(id h:False).elim
end
section
variable{X:Cx}{tg:Expr}
end
open Lean Meta Simp
def Dc:List Name:=GM++[`L2.Iy,`L2.xU,`L2.Cs,`L2.tTryN]
def Dk:List Name:=Ge++[`L2.Cw,`L2.Be,`L2.CC,`L2.IV,`L2.FO,`L2.IR]
end L2
namespace L2
open PySem PyProof.Rows
section
variable{X:Cx}{pins:List (Addr × Obj)}{σ:St}{H:Hp}{s:Shared}
end
namespace Srt
def Kd(h:Heap)(p:Addr)(x y z:Int):Prop:=∃(o:Obj) (t u r:Tok) (n:Nat),h.get? p=some o/\o.cls = .type "tuple" /\ o.data = .seq #[.int x t,.int y u,.int z r] n
section
variable{prog:Program}{w:World}{A:Around}{E:Value->Shared->Prop}{s:Shared}
end
end Srt
section
variable{X:Cx}{pins:List (Addr × Obj)}{σ:St}{H:Hp}{s:Shared}
end
end L2
namespace L2
namespace Rv
open PySem PyProof.Rows
section
variable{prog:Program}{w:World}{A:Around}{E:Value->Shared->Prop}{s:Shared}
end
end Rv
open PySem PyProof.Rows
section
variable{X:Cx}{pins:List (Addr × Obj)}{σ:St}{H:Hp}{s:Shared}
end
def FE(J:It)(g:TG)(tb:TS)(D:eA)(σ:St)(H:Hp):Prop:=∃W:Nat->Nat->St->Hp->Prop,(∃m,W 0 m σ H)/\∀i m σ H,W i m σ H ->
 (J.stop i H/\D.nx σ H)\/(J.go i H/\∃N:St->Hp->Prop,(∀σ' H',N σ' H'->∃m',m'<m/\W (i+1) m' σ' H')/\∀x H',J.yld i H x H'->g x σ H' fun σ2 H2=>tb { D with nx:=N,ct:=N,bk:=D.nx } σ2 H2)
theorem mZ{J:It}{H1:Hp}{D:Addr}{Q:VK}{σr:St}{tt:TT}{te:TE}(h:∃W:Nat->Nat->List V->Hp->Prop,(∃m,W 0 m [] (upd H1 D (.lst []))) /\
 ∀i m ys H2,W i m ys H2->H2 D=some (.lst ys)/\((J.stop i H2/\Q (.ref D) H2)\/(J.go i H2/\∀x H3,J.yld i H2 x H3 ->
  tt (some x::σr) H3 fun b H4=>if b=true then te (some x::σr) H4 fun y H5=>H5 D=some (.lst ys)/\ys.length<sizeLine/\∃m',m'<m/\W (i+1) m' (ys++[y]) (upd H5 D (.lst (ys++[y])))
   else ∃m',m'<m/\W (i+1) m' ys H4))) :
 ∃W:Nat->Nat->List V->Hp->Prop,(∃m,W 0 m [] (upd H1 D (.lst []))) /\
  ∀i m ys H2,W i m ys H2->H2 D=some (.lst ys)/\((J.stop i H2/\Q (.ref D) H2)\/(J.go i H2/\∀x H3,J.yld i H2 x H3->∀zs:St,zs.length=1 ->
   fG 0 x (zs++σr) H3 fun σ4 H4=>(∃zs4:St,zs4.length=1/\σ4=zs4++σr) /\
    tt σ4 H4 fun b H5=>if b=true then te σ4 H5 fun y H6=>H6 D=some (.lst ys)/\ys.length<sizeLine/\∃m',m'<m/\W (i+1) m' (ys++[y]) (upd H6 D (.lst (ys++[y])))
     else ∃m',m'<m/\W (i+1) m' ys H5)):=by
 obtain⟨W,h0,h⟩:=h;refine⟨W,h0,fun i m ys H2 w=>?_⟩;obtain⟨h1,h2⟩:=h i m ys H2 w;refine⟨h1,h2.imp id fun⟨g1,g2⟩=>⟨g1,fun x H3 y zs hz=>?_⟩⟩;obtain⟨z,rfl⟩:=ex1 hz;exact⟨⟨[some x],rfl,rfl⟩,g2 x H3 y⟩
theorem cmS{ks:List Nat}(C:Hp->Prop)(hC:∀D ys,H D=none->C (upd H D (.lst ys)))(l:List Nat)(p:Nat->Bool)(f:Nat->V)(hl:∀R:VK,R (T l) H->tl σ H R)(ha:∀c∈l,c<128)(hz:l.length<=sizeLine)
 (hp:∀c∈l,∀H (R:Bool->Hp->Prop),C H->R (p c) H->tt (some (T [c])::ks.map fun k=>(σ[k]?).join) H R) (hf:∀c∈l,p c=true->∀H (R:VK),C H->R (f c) H->te (some (T [c])::ks.map fun k=>(σ[k]?).join) H R)
 (q:∀D,H D=none->Q (.ref D) (upd H D (.lst ((l.filter p).map f)))):cQ (IH tl) 1 (fG 0) ks tt te σ H Q:=by
 refine hl _ ⟨by simpa [cs] using ha,fun D hD=>?_⟩;have P:∀x∈l.map fun c=>T [c],∃c∈l,x=T [c]:=fun x hx=>by
  obtain⟨c,hc,rfl⟩:=yS.mp hx;exact⟨c,hc,rfl⟩
 let hd:V->Nat:=fun v=>match v with | .str y=>(cs y).headD 0|_=>0
 have hhd:∀c,hd (T [c])=c:=fun c=>rfl;refine mZ (qX (Ai l) C (fun v=>p (hd v)) (fun v=>f (hd v)) (by simpa using hz) (fun x hx H R c r=>?_) (fun x hx hb H R c r=>?_) D hD (fun ys=>hC D ys hD) ?_)
 ·obtain⟨y,hy,rfl⟩:=P x hx
  exact hp y hy H R c r
 ·obtain⟨y,hy,rfl⟩:=P x hx
  exact hf y hy hb H R c r
 ·have e:((l.map fun c=>T [c]).filter fun v=>p (hd v)).map (fun v=>f (hd v))=(l.filter p).map f:=by
   rw[List.filter_map,tf]
   rfl
  rw[e];exact q D hD
theorem cmL{K:W.Frag}{tl:TE}{ks:List Nat}{σ:St}{H H1:Hp}{Q:VK}{tt:TT}{te:TE}(a:Addr)(vs:List V)(C:Hp->Prop)(hC:∀D ys,H1 D=none->C (upd H1 D (.lst ys)))(hT:∀H,C H->SqL K H a vs)(p:V->Bool)(f:V->V)
 (hl:∀R:VK,R (.ref a) H1->tl σ H R) (h1:SqL K H1 a vs) (hz:vs.length<=sizeLine)
 (hp:∀x∈vs,∀H (R:Bool->Hp->Prop),C H->R (p x) H->tt (some x::ks.map fun k=>(σ[k]?).join) H R) (hf:∀x∈vs,p x=true->∀H (R:VK),C H->R (f x) H->te (some x::ks.map fun k=>(σ[k]?).join) H R)
 (q:∀D,H1 D=none->Q (.ref D) (upd H1 D (.lst ((vs.filter p).map f)))):cQ (oP K tl) 1 (fG 0) ks tt te σ H Q:=
 hl _ ⟨a,rfl,⟨vs,h1⟩,fun D hD=>mZ (wf C (Bt hT) p f hz hp hf D hD (fun ys=>hC D ys hD) (q D hD))⟩
theorem JY{ks:List Nat}(C:Hp->Prop)(hC:∀D ys,H D=none->C (upd H D (.lst ys)))(lo hi:Int)(n:Nat)(hn:(hi-lo).toNat=n)(p:V->Bool)(f:V->V)(hl:∀R:List V->Hp->Prop,R [.int lo,.int hi] H->ta σ H R)(hb:-(2 ^ 62)<=lo/\lo<2 ^ 62 /\ -(2 ^ 62)<=hi/\hi<2 ^ 62)(hz:n<=sizeLine)
 (hp:∀k:Nat,k<n->∀H (R:Bool->Hp->Prop),C H->R (p (.int (lo+k))) H->tt (some (.int (lo+k))::ks.map fun k=>(σ[k]?).join) H R) (hf:∀k:Nat,k<n->p (.int (lo+k))=true->∀H (R:VK),C H->R (f (.int (lo+k))) H->te (some (.int (lo+k))::ks.map fun k=>(σ[k]?).join) H R)
 (q:∀D,H D=none->Q (.ref D) (upd H D (.lst ((((Zb n).map fun k:Nat=>V.int (lo+k)).filter p).map f)))):cQ (E4 ta) 1 (fG 0) ks tt te σ H Q:=by
 refine hl _ ⟨lo,hi,rfl,hb,?_⟩;rw[hn];intro D hD;have P:∀x∈(Zb n).map fun k:Nat=>V.int (lo+k),∃k:Nat,k<n/\x = .int (lo+k):=fun x hx=>by
  obtain⟨c,hc,rfl⟩:=yS.mp hx;exact⟨c,by simpa using hc,rfl⟩
 refine mZ (qX (zW lo n) C p f (by simpa using hz) (fun x hx H R c' r=>?_) (fun x hx hb H R c' r=>?_) D hD (fun ys=>hC D ys hD) (q D hD))
 ·obtain⟨c,hc,rfl⟩:=P x hx
  exact hp c hc H R c' r
 ·obtain⟨c,hc,rfl⟩:=P x hx
  exact hf c hc hb H R c' r
inductive A2 {α β:Type} (R:α->β->Prop):List α->List β->Prop
 |nil:A2 R [] []
 |cons {a:α} {b:β} {as:List α} {bs:List β}:R a b->A2 R as bs->A2 R (a::as) (b::bs)
namespace A2
variable{α β:Type}{R S:α->β->Prop}
theorem len(h:A2 R as bs):as.length=bs.length:=by
 induction h with
 |nil=>rfl
 |cons _ _ ih=>simp[ih]
theorem imp(h:A2 R as bs)(f:∀a b,a∈as->b∈bs->R a b->S a b):A2 S as bs:=by
 induction h with
 |nil=>exact .nil
 |cons r _ ih=>exact .cons (f _ _ (.head _) (.head _) r) (ih fun a b ha hb=>f a b (.tail _ ha) (.tail _ hb))
theorem at_(h:A2 R as bs):∀ {i:Nat} {a:α},as[i]? = some a->∃b,bs[i]? = some b/\R a b:=by
 induction h with
 |nil=>intro i a e;simp at e
 |cons r _ ih=>
  intro i a e;cases i with
  |zero=>cases e;exact⟨_,rfl,r⟩
  |succ i=>exact ih (i:=i) (by simpa using e)
theorem app{as:List α}{bs:List β}(h:A2 R as bs){cs:List α}{ds:List β}(g:A2 R cs ds):A2 R (as++cs) (bs++ds):=by
 induction h with
 |nil=>exact g
 |cons r _ ih=>exact .cons r ih
theorem snoc(h:A2 R as bs)(r:R a b):A2 R (as++[a]) (bs++[b]):=h.app (.cons r .nil)
end A2
def sp6(f:V->V->V->V->V->V->Hp->VK->XK->Prop):Sp:=fun vs H Q E=>match vs with
 | [x,y,z,u,v,a]=>f x y z u v a H Q E
 |_=>False
theorem sp6.inv{f}(h:sp6 f vs H Q E):∃x y z u v a,vs=[x,y,z,u,v,a]/\f x y z u v a H Q E:=by
 rcases vs with _|⟨x,_|⟨y,_|⟨z,_|⟨u,_|⟨v,_|⟨a,_|⟨w,r⟩⟩⟩⟩⟩⟩⟩
 rotate_left 6
 ·exact⟨_,_,_,_,_,_,rfl,h⟩
 all_goals exact(id h:False).elim
theorem sp6.len{f}(h:sp6 f vs H Q E):vs.length=6:=by obtain⟨_,_,_,_,_,_,rfl,_⟩:=sp6.inv h;rfl
def sp7(f:V->V->V->V->V->V->V->Hp->VK->XK->Prop):Sp:=fun vs H Q E=>match vs with
 | [x,y,z,u,v,a,b]=>f x y z u v a b H Q E
 |_=>False
open Lean Meta Simp
def Dr:List Name:=Dc++[`L2.cS,`Option.join]
def DM:List Name:=Dk++[`L2.gCnt,`L2.gSortT,`L2.sp5,`L2.sp6,`L2.sp7]
def Hq:Name->Bool
 | .str _ s=>s.startsWith "sp_"
 |_=>false
end L2
namespace L2
open PySem PyProof.Rows Builtin Builtin.Str
section
variable{X:Cx}
end
end L2
namespace L2
open PySem PyProof.Rows
section
variable{prog:Program}{w:World}{A:Around}{E:Value->Shared->Prop}{s:Shared}{it d:Addr}{i ep:Nat}{od:Obj}{es:Array Y4}
theorem xT(lo:(d==ZT)=false)(ho:s.heap.get? d=some od)(ex:od.ExactDict)(hd:od.data = .dict es ep)
 (q:Q (.ref s.heap.objs.size) { s with heap:=s.heap.push { cls:=.type "dict_keyiterator",data:=.fields #[.ref d,.int 0 0,.int es.size 0,.int ep 0] } }):wpAny (model prog w) A (pyIter (.ref d)) Q E s:=by
 have ty:s.TypeIs (.ref d) "dict":=⟨od,ho,ex.1⟩;refine wpAny_pyIter_slot ty F.slot_dict_iter (Yz F.slot_dict_iter ty F.entry_dict_iter ?_ (F.args_dict_iter_1 _));unfold Builtin.«dict.__iter__» Builtin.Dict.dictSlotNone;refine zj (zj (wpAny_notOrdered_dict ty ?_));show wpAny _ _ (pure (yW d)) _ _ s;refine zA ?_;show wpAny _ _ (Builtin.Dict.showsAll d >>= _) _ _ s;unfold Builtin.Dict.showsAll;rw[if_neg (by rw[lo];exact xE)];refine zj (zA (zj (wpAny_dictEntries ho hd (zj (wpAny_dictEpoch ho hd ?_)))));refine zj (ZM (zA ⟨_,rfl,"dict_keyiterator",_,⟨_,Heap.get?_push_size _ rfl,rfl⟩,Z5.lookup,by simpa [rawInt] using q⟩))
theorem xK(hi:s.heap.IsKeyIter it d i es.size ep)(hod:s.heap.get? d=some od)(hdd:od.data = .dict es ep)(hx:es[i]? = some e)
 (q:∀h',h'.IsKeyIter it d (i+1) es.size ep->Heap.SameBut it s.heap h'->Q (some e.key) { s with heap:=h' }):wpAny (model prog w) A (pyNext (.ref it)) Q E s:=by
 obtain⟨o,ho,hc,hd⟩:=id hi;have ty:=hi.typeIs;unfold pyNext;refine zj (wpAny_attempt (wpAny_callSpecial?_slot (name:=zf "__next__") ty Z5 (Yz Z5 ty F.entry_dict_keyiterator_next ?_ (F.args_dict_keyiterator_next_1 _))));refine zj (zA (zj (zj ?_)))
 first|refine zj (ZC ty (zA (zj (wpAny_fieldsOf ho hd ?_))))|refine zj (Ym ty (zA (zj (wpAny_fieldsOf ho hd ?_))))
 simp only[show Builtin.Dict_items.ownsTuple "dict_keyiterator" = false by decide,Zq,if_false];show wpAny _ _ (if (yW d==ZO)=true then _ else _) _ _ s;rw[if_neg (show ¬ ((yW d==ZO)=true) from xE)];refine zj (zA (zj (wpAny_dictEntries hod hdd ?_)));rw[if_neg (by simp)];refine zj (zA (zj (wpAny_dictEpoch hod hdd ?_)));rw[if_neg (by simp)];refine zA ?_;have lt:i<es.size:=(Array.getElem?_eq_some_iff.mp hx).1;have ee:es[i]=e:=(Array.getElem?_eq_some_iff.mp hx).2;simp only[show ¬ ((i:Int)<0) from by lia,if_false,Int.toNat_natCast,Array.getElem?_eq_getElem lt];refine zj ?_
 first|refine zj (ZC ty (zA (zj (wpAny_isOneOf_keyiter ty ?_))))|refine zj (Ym ty (zA (zj (wpAny_isOneOf_keyiter ty ?_))))
 show wpAny _ _ (setField (.ref it) 1 (rawInt ((i:Int)+1)) >>= _) _ _ s;refine zj (wpAny_setField ho hd (by simp) ?_);have hi':(s.heap.update it (Obj.mapFields (·.setIfInBounds 1 (rawInt ((i:Int)+1))))).IsKeyIter it d (i+1) es.size ep:=⟨_,Heap.get?_update_self _ ho (Obj.isFreed_of_fields (Obj.data_mapFields hd _)),(Obj.cls_mapFields ..).trans hc,by rw[Obj.data_mapFields hd];simp[rawInt]⟩;refine zj (YH (zj (wpAny_isOneOf_keyiter (s:={ s with heap:=s.heap.update it (Obj.mapFields (·.setIfInBounds 1 (rawInt ((i:Int)+1)))) }) hi'.typeIs ?_)));show wpAny _ _ (pure es[i].key) _ _ _;rw[ee];exact zA (zA ⟨_,rfl,zA (q _ hi' (Heap.SameBut.update ..))⟩)
theorem AV(hh:A.handled=none)(hi:s.heap.IsKeyIter it d i es.size ep)(hod:s.heap.get? d=some od)(hdd:od.data = .dict es ep)(hx:es.size<=i)
 (q:∀h',Heap.ExtBut it s.heap h'->Q none { s with heap:=h' }):wpAny (model prog w) A (pyNext (.ref it)) Q E s:=by
 obtain⟨o,ho,hc,hd⟩:=id hi;have ty:=hi.typeIs;unfold pyNext;refine zj (wpAny_attempt (wpAny_callSpecial?_slot (name:=zf "__next__") ty Z5 (Yz Z5 ty F.entry_dict_keyiterator_next ?_ (F.args_dict_keyiterator_next_1 _))));refine zj (zA (zj (zj ?_)))
 first|refine zj (ZC ty (zA (zj (wpAny_fieldsOf ho hd ?_))))|refine zj (Ym ty (zA (zj (wpAny_fieldsOf ho hd ?_))))
 simp only[show Builtin.Dict_items.ownsTuple "dict_keyiterator" = false by decide,Zq,if_false];show wpAny _ _ (if (yW d==ZO)=true then _ else _) _ _ s;rw[if_neg (show ¬ ((yW d==ZO)=true) from xE)];refine zj (zA (zj (wpAny_dictEntries hod hdd ?_)));rw[if_neg (by simp)];refine zj (zA (zj (wpAny_dictEpoch hod hdd ?_)));rw[if_neg (by simp)];refine zA ?_;simp only[show ¬ ((i:Int)<0) from by lia,if_false,Int.toNat_natCast,Array.getElem?_eq_none hx];refine zj ?_
 first|refine zj (ZC ty (zA ?_))|refine zj (Ym ty (zA ?_))
 show wpAny _ _ (setField (.ref it) 0 .none >>= _) _ _ s;refine zj (wpAny_setField ho hd (by simp) ?_);show wpAny _ _ (newExc (.type "StopIteration") [] >>= _) _ _ _;refine zj ?_;simp only[newExc,newTuple];refine zj (ZM ?_ (by size_fits));refine zj (m:=firstArgMember _ _) (wpAny_of_eq (a:=ZO) (by first|rfl|(simp only[firstArgMember];rfl)) (ZM ?_ (by size_fits)));simp only[raiseNew];refine zj (wpAny_handled ?_);rw[show A.in1.handled=none from hh];refine zj (zA (wpAny_throw ?_));refine zj (wpAny_isInstance (T:="StopIteration") (b:=true) ⟨_,Heap.get?_push_size _ rfl,rfl⟩ isSubtype_stop (zA (q _ (((Heap.SameBut.update ..).extBut.push _).push _))))
theorem BY(hh:A.handled=none)(I d:Addr)(ne:d≠I)(od:Obj)(es:Array Y4)(ep:Nat)(hdd:od.data = .dict es ep) :
 Walks prog w A I [I,d] [I] es.size (fun i v=>∃e,es[i]? = some e/\v=e.key) (fun i h=>h.IsKeyIter I d i es.size ep/\h.get? d=some od) where
 sub:=fun b hb=>by rw[zq.mp hb];exact .head _
 frame:=fun _ _ _ st hk=>⟨st.1.at fun o e=>hk I (.head _) o e,hk d (.tail _ (.head _)) _ st.2⟩
 item:=fun i s Q E hi st q=>by
  have hx:es[i]? = some es[i]:=by simp[hi]
  exact xK st.1 st.2 hdd hx fun h' a b=>q _ h' s.toks ⟨_,hx,rfl⟩ ⟨a,(b.2 d ne).trans st.2⟩ fun c o hc z=>(b.2 c fun y=>hc (by rw[y];exact .head _)).trans z
 done:=fun s Q E st q=>AV hh st.1 st.2 hdd (zL _) fun h' b=>q h' s.toks fun c o hc z=>b c o (fun y=>hc (by rw[y];exact .head _)) z
 self:=fun _ _ _ _ st q=>wpAny_pyIter_keyiter st.1 q
theorem Gx(lo:(d==ZT)=false)(ex:od.ExactDict)(hd:od.data = .dict es ep):PySem.W.KdlSrc prog w "dict" d d es.size (fun i v=>∃e,es[i]? = some e/\v=e.key) (fun h=>h.get? d=some od) where
 type:=fun _ h=>⟨od,h,ex.1⟩
 there:=fun _ h=>⟨xb h,xb h⟩
 keep:=fun _ _ h k=>k d (.inl rfl) _ h
 notList:=by decide
 notTuple:=by decide
 hint:=fun _ _ _ _ h q=>PySem.W.kdl_hint_dict ⟨od,h,ex.1⟩ q
 iter:=fun _ _ hh h=>⟨_,_,(fun _ _ q=>xT lo h ex hd q),BY hh _ d (uj (xb h)) od es ep hd,⟨⟨_,Heap.get?_push_size _ rfl,rfl,rfl⟩,Heap.get?_push_of_some _ h⟩⟩
end
theorem Cy{α:Type}{p q:α->Bool}(h:∀e,p e=true->q e=true):∀ {l:List α} {u:α},u∈l->q u=true->p u=false->l.countP p<l.countP q
 |x::r,u,m,hq,hp=>by
  rw[List.countP_cons,List.countP_cons];have le:r.countP p<=r.countP q:=List.countP_mono_left fun e _=>h e;rcases zZ.mp m with rfl|m
  ·rw[if_pos hq,if_neg (by rw[hp];decide)];lia
  ·have:=Cy h m hq hp
   by_cases c:p x=true
   ·rw[if_pos c,if_pos (h x c)];lia
   ·rw[if_neg c];split <;> lia
abbrev Pt:=List Nat × List Nat
def ltP(a b:Pt):Prop:=a.1<b.1\/(a.1=b.1/\a.2<b.2)
instance (a b:Pt):Decidable (ltP a b):=by unfold ltP;infer_instance
theorem w8(a:Pt):¬ ltP a a:=fun h=>h.elim (List.lt_irrefl _) fun h=>List.lt_irrefl _ h.2
theorem AB(h:ltP a b)(g:ltP b c):ltP a c:=by
 unfold ltP at *;rcases h with h|⟨h1,h2⟩
 ·rcases g with g|⟨g1,g2⟩
  ·exact .inl (List.lt_trans h g)
  ·exact .inl (g1 ▸ h)
 ·rcases g with g|⟨g1,g2⟩
  ·exact .inl (h1 ▸ g)
  ·exact .inr ⟨h1.trans g1,List.lt_trans h2 g2⟩
theorem yx(a b:List Nat):a<b\/a=b\/b<a:=by
 by_cases h:a<b
 ·exact .inl h
 ·by_cases g:b<a
  ·exact .inr (.inr g)
  ·exact .inr (.inl (List.le_antisymm (List.not_lt.mp g) (List.not_lt.mp h)))
theorem xJ(a b:Pt):ltP a b\/a=b\/ltP b a:=by
 obtain⟨a1,a2⟩:=a;obtain⟨b1,b2⟩:=b;rcases yx a1 b1 with h|rfl|h
 ·exact .inl (.inl h)
 ·rcases yx a2 b2 with h|rfl|h
  ·exact .inl (.inr ⟨rfl,h⟩)
  ·exact .inr (.inl rfl)
  ·exact .inr (.inr (.inr ⟨rfl,h⟩))
 ·exact .inr (.inr (.inl h))
def rnk(l:List Pt)(u:Pt):Nat:=l.countP fun e=>decide (ltP e u)
theorem BF{l:List Pt}{u v:Pt}(mu:u∈l)(h:ltP u v):rnk l u<rnk l v:=
 Cy (fun e he=>decide_eq_true (AB (of_decide_eq_true he) h)) mu (decide_eq_true h) (decide_eq_false (w8 u))
theorem ox(mu:u∈l)(mv:v∈l):ltP u v↔(rnk l u:Int)<rnk l v:=by
 refine⟨fun h=>by have:=BF mu h;lia,fun h=>?_⟩;rcases xJ u v with g|rfl|g
 ·exact g
 ·exact absurd h (Int.lt_irrefl _)
 ·have:=BF mv g;lia
abbrev jq(l:List Pt):Prop:=l.Pairwise ltP
theorem ri:∀ {a b:List Pt},a.Perm b->jq a->jq b->a=b
 | [],_,p,_,_=>p.nil_eq
 |x::r,b,p,ha,hb=>by
  cases b with
  |nil=>exact absurd p.length_eq (by simp)
  |cons y t=>
   have e:x=y:=by
    rcases zZ.mp (p.mem_iff.mp (.head _)) with h|h
    ·exact h
    ·rcases zZ.mp (p.mem_iff.mpr (.head _)) with h'|h'
     ·exact h'.symm
     ·exact absurd (AB ((Y1.mp ha).1 y h') ((Y1.mp hb).1 x h)) (w8 x)
   subst e;rw[ri (List.Perm.cons_inv p) (Y1.mp ha).2 (Y1.mp hb).2]
namespace Srt
def TwoS(h:Heap)(p:Addr)(e:Pt):Prop:=∃(o:Obj) (t u:Tok) (n:Nat),h.get? p=some o/\o.cls = .type "tuple" /\ o.data = .seq #[.str ⟨⟨e.1⟩⟩ t,.str ⟨⟨e.2⟩⟩ u] n
section
variable{prog:Program}{w:World}{A:Around}{E:Value->Shared->Prop}{s:Shared}
theorem vJ:∀(vs:List Value),(∀v∈vs,∃p e,v = .ref p/\TwoS s.heap p e)->∀ {Q:List (Option Value)->Shared->Prop},(∀fs ns,StrsAre fs ns->fs.length=vs.length->Q (fs.map some) s) ->
 wpAny (model prog w) A (vs.mapM firstOfTuple') Q E s
 | [],_,Q,h=>by rw[List.mapM_nil];exact zA (h [] [] .nil rfl)
 |v::vs,hv,Q,h=>by
  obtain⟨p,e,rfl,o,t,u,n,ho,hc,hd⟩:=hv v (ZF ..);rw[List.mapM_cons];refine zj ?_;show wpAny _ _ (typeOf (.ref p) >>= _) _ _ s;refine zj (wpAny_typeOf (⟨o,ho,hc⟩:s.TypeIs (.ref p) "tuple") ?_);rw[if_neg (by decide)];refine zj (listItems_at ho hd (zA ?_));show wpAny _ _ (vs.mapM firstOfTuple' >>= fun bs=>pure (some (YM ⟨⟨e.1⟩⟩ t)::bs)) Q E s;exact zj (vJ vs (fun v hv'=>hv v (vf _ hv')) fun fs ns hI hl=>zA (h (.str ⟨⟨e.1⟩⟩ t::fs) (⟨⟨e.1⟩⟩::ns) (.cons _ t hI) (by simp[hl])))
theorem Hg{vs:List Value}(hv:∀v∈vs,∃p e,v = .ref p/\TwoS s.heap p e)(h2:2<=vs.length)(h:Q (tuples' true) s):wpAny (model prog w) A (keyKind' vs.toArray) Q E s:=by
 rw[keyKind'_eq,List.mapM_toArray,map_eq_pure_bind];refine zj (zj (vJ vs hv fun fs ns hI hl=>zA ?_));rw[if_pos (by simp)];refine zj (wpAny_rule ?_);have e:(fs.map some).toArray.filterMap id=fs.toArray:=by simp
 rw[e,oneTypeOnly'_eq,List.mapM_toArray,mapM_typeOf_strs hI];simp only[map_pure,pure_bind];have all:((fs.map fun _=>YU "str").toArray.all fun x=>x==YU "str")=true:=by
  simp only[List.all_toArray,List.all_map,Zk];exact fun _ _=>rfl
 have at0:(fs.map fun _=>YU "str").toArray[0]? = some (YU "str"):=by
  have:0<fs.length:=by lia
  simp[this]
 rw[at0];simp only[all,if_true,pure_bind];exact zA h
theorem CZ(h:x≠y):decide ((⟨⟨x⟩⟩:Str)=⟨⟨y⟩⟩)=false:=decide_eq_false fun z=>h (by injection z with z;injection z)
theorem JQ(hp:TwoS s.heap p a)(hq:TwoS s.heap q b)(h:Q (decide (ltP a b)) s) :
 wpAny (model prog w) A (keyLt' (tuples' true) (.ref p) (.ref q)) Q E s:=by
 obtain⟨x,y⟩:=a;obtain⟨x',y'⟩:=b;obtain⟨o,t,u,n,ho,hc,hd⟩:=hp;obtain⟨o',t',u',n',ho',hc',hd'⟩:=hq;show wpAny _ _ (Builtin.List.listItems (.ref p) >>= fun xs=>Builtin.List.listItems (.ref q) >>= fun ys=>_) _ _ s;refine zj (listItems_at ho hd (zj (listItems_at ho' hd' ?_)));show wpAny _ _ (forIn [((YM ⟨⟨x⟩⟩ t,YM ⟨⟨x'⟩⟩ t'),0),((YM ⟨⟨y⟩⟩ u,YM ⟨⟨y'⟩⟩ u'),1)] (none,()) _ >>= _) _ _ s;rw[List.forIn_cons];refine zj (zj (zj (wpAny_eqBool_str ?_)));by_cases e:x=x'
 ·subst e
  simp only[decide_true,Bool.not_true,Zq,if_false];refine zA ?_;simp only[List.forIn_cons];refine zj (zj (wpAny_eqBool_str ?_));by_cases e2:y=y'
  ·subst e2
   simp only[decide_true,Bool.not_true,Zq,if_false];refine zA ?_;simp only[List.forIn_nil];refine zA (zA ?_);rw[decide_eq_false (w8 _)]at h;exact h
  ·simp only[CZ e2,Bool.not_false,if_true]
   refine zj ?_;show wpAny _ _ (oneLt' false (.str ⟨⟨y⟩⟩ u) (.str ⟨⟨y'⟩⟩ u')) _ _ s;rw[oneLt'_eq];simp only[Zq,if_false];refine zj (PySem.P.lt_str (Zr (zA (zA (zA ?_)))));rw[show decide (ltP (x,y) (x,y'))=decide (y<y') from decide_eq_decide.mpr ⟨fun z=>z.elim (fun z=>absurd z (List.lt_irrefl _)) (·.2),fun z=>.inr ⟨rfl,z⟩⟩]at h;exact h
 ·simp only[CZ e,Bool.not_false,if_true]
  refine zj ?_;show wpAny _ _ (oneLt' true (.str ⟨⟨x⟩⟩ t) (.str ⟨⟨x'⟩⟩ t')) _ _ s;refine oneLt_str (zA (zA (zA ?_)));rw[show decide (ltP (x,y) (x',y'))=decide (x<x') from decide_eq_decide.mpr ⟨fun z=>z.elim id fun z=>absurd z.1 e,.inl⟩]at h;exact h
theorem cmp_S{h:Heap}{os:OsState}{vs:List Value}{κ:Value->Int}{f:Value->Pt}(h2:2<=vs.length)(hv:∀v∈vs,∃p,v = .ref p/\TwoS h p (f v))(hk:∀u∈vs,∀v∈vs,(ltP (f u) (f v)↔κ u<κ v)):Cmp prog w A h os (tuples' true) κ vs where
 kind E s Q e q:=by
  subst e;exact Hg (fun v m=>let ⟨p,a,b⟩:=hv v m;⟨p,_,a,b⟩) h2 q
 lt E s u v Q e mu mv q:=by
  subst e;obtain⟨p,rfl,b⟩:=hv u mu;obtain⟨p',rfl,b'⟩:=hv v mv;refine JQ b b' ?_
  rwa [decide_eq_decide.mpr (hk _ mu _ mv)]
end
end Srt
section
variable{X:Cx}{pins:List (Addr × Obj)}{σ:St}{H:Hp}{s:Shared}
abbrev tP(e:Pt):List V:=[T e.1,T e.2]
abbrev kP(e:Pt):List Key:=[.inr ⟨⟨e.1⟩⟩,.inr ⟨⟨e.2⟩⟩]
theorem Js(e:Pt):(kP e).map kV=tP e:=rfl
theorem tR(h:kP a=kP b):a=b:=by
 obtain⟨a1,a2⟩:=a;obtain⟨b1,b2⟩:=b;simp only[kP,List.cons.injEq,and_true]at h;obtain⟨h1,h2⟩:=h;injection h1 with h1;injection h1 with h1;injection h1 with h1
 injection h2 with h2;injection h2 with h2;injection h2 with h2
 rw[h1,h2]
theorem Gw(h:tP a=tP b):a=b:=tR (yD (by rw[Js,Js,h]))
abbrev KAt(H:Hp)(a:Addr)(e:Pt):Prop:=H a=some (.tup (tP e))
theorem HX(r:KT H kvs xs):∀ {ks:List Pt},kvs.map (·.1)=ks.map kP ->
 ∃ps:List (Addr × Pt),ps.map (·.2)=ks/\xs.map (fun x=>yW x.2.1)=ps.map (fun e=>yW e.1)/\(xs.map (·.1)=ks.map kP)/\∀e∈ps,KAt H e.1 e.2:=by
 induction r with
 |nil=>
  intro ks h;cases ks with
  |nil=>exact⟨[],rfl,rfl,rfl,fun _ m=>nomatch m⟩
  |cons=>simp at h
 | @cons p q ps qs h t ih=>
  intro ks e;cases ks with
  |nil=>simp at e
  |cons k ks=>
   rw[xa,xa]at e;injection e with e1 e2
   obtain⟨l,a1,a2,a3,a4⟩:=ih e2;obtain⟨h1,h2,_⟩:=h;rw[e1]at h1 h2;refine⟨(q.2.1,k)::l,by rw[xa,a1],by rw[xa,xa,a2],by rw[xa,xa,a3,h1],fun z m=>?_⟩;rcases zZ.mp m with rfl|m
   ·exact h2
   ·exact a4 z m
def fOf(ps:List (Addr × Pt)):Value->Pt
 | .ref a=>((ps.find? fun e=>e.1==a).map (·.2)).getD ([],[])
 |_=>([],[])
theorem Ak(hp:∀e∈ps,KAt H e.1 e.2)(m:e∈ps):fOf ps (.ref e.1)=e.2:=by
 show((ps.find? fun z=>z.1==e.1).map (·.2)).getD ([],[])=e.2;cases f:ps.find? fun z=>z.1==e.1 with
 |none=>exact absurd (List.find?_eq_none.mp f e m) (by simp)
 |some z=>
  have e1:z.1=e.1:=by simpa using List.find?_some f
  have t1:=hp z (List.mem_of_find?_eq_some f);have t2:=hp e m;rw[e1]at t1;have t3:=t1.symm.trans t2;injection t3 with t3;injection t3 with t3
  exact Gw t3
theorem ES(hp:∀e∈ps,KAt H e.1 e.2):∀ {out:List Value},(∀v∈out,v∈ps.map fun e=>yW e.1)->∃as:List Addr,Vals (as.map V.ref) out/\A2 (KAt H) as (out.map (fOf ps))
 | [],_=>⟨[],.nil,.nil⟩
 |v::out,h=>by
  obtain⟨as,a1,a2⟩:=ES hp fun u m=>h u (vf _ m);obtain⟨e,m,rfl⟩:=yS.mp (h v (ZF ..));refine⟨e.1::as,.cons rfl a1,?_⟩;rw[xa,Ak hp m];exact .cons (hp e m) a2
theorem Inv.twoS(I:Inv X pins σ H s)(h:KAt H p e):Srt.TwoS s.heap p e:=by
 obtain⟨_,its,r0,o,ho,hc,n,hd⟩:=(show ObjOk X.prog X.w H s.heap p (.tup (tP e)) from I.hok p _ h);have r:Vals [T e.1,T e.2] its:=r0;clear r0;cases r with
 |cons r1 r=>
  cases r with
  |cons r2 r=>
   cases r;obtain⟨t,rfl⟩:=r1;obtain⟨u,rfl⟩:=r2;exact⟨o,t,u,n,ho,hc,hd⟩
theorem Srt.TwoS.keep(x:Srt.TwoS h p e)(k:∀b o,h.get? b=some o->h'.get? b=some o):Srt.TwoS h' p e:=by
 obtain⟨o,t,u,n,ho,r⟩:=x;exact⟨o,t,u,n,k _ _ ho,r⟩
def yG:List V->Hp->VK->Prop
 | [.ref d],H,Q=>∃(kvs:List (List Key × V)) (ks:List Pt),H d=some (.dT kvs)/\kvs.map (·.1)=ks.map kP/\ks.length<64 /\
  ∀(out:List Pt) (as:List Addr),out.Perm ks->jq out->A2 (KAt H) as out->∀l,H l=none->Q (.ref l) (upd H l (.lst (as.map V.ref)))
 |_,_,_=>False
theorem ro(hc:X.calm=true):CallR X (.builtin "sorted") yG:=by
 intro pins s σ H xs us Q I r h;rcases xs with _|⟨e_1,r_1⟩
 ·exact(id h:False).elim
 cases e_1 with
 |ref d=>
  cases r_1 with
  |nil=>
   obtain⟨kvs,ks,hd,hks,h64,q⟩:=h;obtain⟨u,rfl,rx⟩:=dO r;cases (show u=yW d from rx);obtain⟨z,lo,xs,rel,o,es,ep,ho,ex,hdat,he,_,hn⟩:=E0 I.hok hd;obtain⟨ps,p1,p2,p3,p4⟩:=HX rel hks;have ndk:ks.Nodup:=by
    rw[p3]at hn;exact(Z0.mp hn).imp fun h e=>h (by rw[e])
   have len:es.size=ks.length:=by
    rw[<- ZS,he,zg,<- zg (f:=fun x=>yW x.2.1),p2,zg,<- zg (f:=(·.2)),p1]
   refine Calls.call_function_entry kind_sorted plain_sorted entry_sorted (args_sorted1 _) ?_;unfold Builtin.«sorted»;refine zj (m:=checkCount "sorted" 1 1 _) (zA ?_);refine zj (PySem.W.kdu_collect (Gx lo ex hdat) (I.ok.hd hc) ho (by rw[len,um];lia) fun h' tk acc kp it=>?_);have ea:acc.toList=ps.map fun e=>yW e.1:=by
    rw[<- p2];have ek:xs.map (fun x=>yW x.2.1)=es.toList.map (·.key):=by rw[he,tf];rfl
    rw[ek];refine List.ext_getElem? fun j=>?_;rw[List.getElem?_map,Array.getElem?_toList,Array.getElem?_toList];cases ej:acc[j]? with
    |none=>
     have:acc.size<=j:=Array.getElem?_eq_none_iff.mp ej;rw[it.1]at this;rw[Array.getElem?_eq_none this];rfl
    |some v=>
     obtain⟨e,g1,g2⟩:=it.2 j v ej;rw[g1,g2];rfl
   have inv:∀e∈ps,fOf ps (.ref e.1)=e.2:=fun e m=>Ak p4 m;have em:(ps.map fun e=>yW e.1).map (fOf ps)=ks:=by
    rw[tf,<- p1];exact nE fun e m=>inv e m
   have mk:∀v∈ps.map (fun e=>yW e.1),fOf ps v∈ks:=fun v m=>by rw[<- em];exact wR m
   have nd:((ps.map fun e=>yW e.1).map fun v=>(rnk ks (fOf ps v):Int)).Nodup:=by
    rw[show(ps.map fun e=>yW e.1).map (fun v=>(rnk ks (fOf ps v):Int))=((ps.map fun e=>yW e.1).map (fOf ps)).map (fun e=>(rnk ks e:Int)) by simp only[tf];rfl,em];refine Z0.mpr (List.Pairwise.imp_of_mem (fun {a b} ma mb ne e=>?_) ndk);rcases xJ a b with g|g|g
    ·have:=(ox ma mb).mp g;lia
    ·exact ne g
    ·have:=(ox mb ma).mp g;lia
   have lv:(ps.map fun e=>yW e.1).length<64:=by rw[zg,<- zg (f:=(·.2)),p1];exact h64
   rw[ea];refine zj (wpAny_newList ?_ (by rw[um];lia));have hoL:(h'.push (seqObj "list" (ps.map fun e=>yW e.1).toArray 0)).get? h'.objs.size=some (seqObj "list" (ps.map fun e=>yW e.1).toArray 0):=Heap.get?_push_size _ rfl;have kL:∀b ob,s.heap.get? b=some ob->(((h'.push (seqObj "list" (ps.map fun e=>yW e.1).toArray 0)).update h'.objs.size (YT fun _=>#[])).push (seqObj "tuple" (ps.map fun e=>yW e.1).toArray 0) |>.push (seqObj "list" #[] 0)).get? b=some ob:=fun b ob e=>by
    have l1:=xb (kp _ _ e);refine Heap.get?_push_of_some _ (Heap.get?_push_of_some _ ?_);rw[Heap.get?_update_ne _ _ _ _ (uj l1)];exact Heap.get?_push_of_some _ (kp _ _ e)
   refine zj (YH (Yz slot_list_sort ⟨_,hoL,rfl⟩ entry_list_sort (Srt.sort_by (kd:=tuples' true) (κ:=fun v=>(rnk ks (fOf ps v):Int)) hoL lv nd (fun h2=>Srt.cmp_S (f:=fOf ps) h2 (fun v m=>?_) fun u mu v mv=>ox (mk u mu) (mk v mv)) fun out pm sr=>⟨_,rfl,?_⟩) (args_list_sort _)))
   ·obtain⟨e,me,rfl⟩:=yS.mp m
    refine⟨e.1,rfl,?_⟩;rw[inv e me];exact(I.twoS (p4 e me)).keep kL
   ·refine zA ⟨_,rfl,?_⟩
    obtain⟨c,el⟩:=sortedHeap_at (out:=out.toArray) hoL;have I1:Inv X pins σ H { s with heap:=h',toks:=tk }:=I.kept kp;have kp2:∀b o,h'.get? b=some o->(sortedHeap (h'.push (seqObj "list" (ps.map fun e=>yW e.1).toArray 0)) h'.objs.size (ps.map fun e=>yW e.1) out.toArray).get? b=some o:=fun b o e=>by
     have l1:=xb e;rw[sortedHeap_old (uj l1) (by rw[size_push'];exact Nat.lt_succ_of_lt l1),Heap.get?_push_ne _ _ _ (uj l1)];exact e
    obtain⟨as,a1,a2⟩:=ES p4 (out:=out) fun v m=>pm.mem_iff.mp m;have po:(out.map (fOf ps)).Perm ks:=by have:=pm.map (fOf ps);rwa [em]at this
    have so:jq (out.map (fOf ps)):=Z0.mpr (List.Pairwise.imp_of_mem (fun {a b} ma mb l=>(ox (mk a (pm.mem_iff.mp ma)) (mk b (pm.mem_iff.mp mb))).mpr l) sr);refine⟨.ref h'.objs.size,_,I1.laid (t':=tk) (a:=h'.objs.size) kp2 (zL _) (show ObjOk X.prog X.w _ _ _ (.lst (as.map V.ref)) from⟨?_,out,c,a1,el⟩),rfl,q _ as po so a2 _ (I1.hok.fresh (zL _))⟩;have:=a1.length;have:=pm.length_eq;rw[um];lia
  |cons=>exact(id h:False).elim
 |_=>exact(id h:False).elim
def EU:V->List V->Hp->VK->Prop:=fun x vs H Q=>∃l b xs zs,x = .ref l/\vs=[.ref b]/\H l=some (.lst xs)/\H b=some (.tup zs)/\xs.length+zs.length<=sizeLine/\Q .non (upd H l (.lst (xs++zs)))
theorem Dy:MtM X "list.extend" EU:=by
 intro pins s σ H x vs v us Q I rx rv h;obtain⟨l,b,xs,zs,rfl,rfl,hH,hB,hz,q⟩:=h;cases rx;obtain⟨u,rfl,ru⟩:=rv.one;cases ru;obtain⟨z,its,n,r,hl,e⟩:=I.lstM hH;obtain⟨z2,its2,r2,⟨ob,eb,cb,n2,db⟩⟩:=(show ObjOk X.prog X.w H s.heap b (.tup zs) from I.hok b _ hB);have hl2:=r2.length;have fin:Inv X pins σ (upd H l (.lst (xs++zs))) { s with heap:=s.heap.update l (YT (· ++ its2.toArray)) }:=I.lset (its':=its++its2) hH e (by simp) (r.append r2) (by rw[zi];lia);refine Yz F.slot_list_extend ⟨_,e,rfl⟩ F.entry_list_extend ?_ (F.args_list_extend_2 _ _);show wpAny _ _ (Builtin.List.listExtendWith (.ref l) (.ref b) .none) _ _ s;unfold Builtin.List.listExtendWith;refine zj (wpAny_typeOf ⟨ob,eb,cb⟩ ?_);rw[if_pos (by rw[show(YU "tuple" == YU "tuple")=true by decide,Bool.or_true])];refine zj (listItems_at eb db (zj (listItems_at e rfl ?_)));have hsz:its.toArray.size+its2.toArray.size<=sizeLine:=by rw[zH,zH];lia
 rw[if_neg (by rw[pK hsz,Bool.and_false];exact xE)];refine zj (listUpdate_at e rfl ?_ (hsz:=by rw[zH];lia) (hsz2:=by rw[Array.size_append];lia));exact zA ⟨_,rfl,.non,_,fin,rfl,q⟩
end
def CEl(J:It)(n:Nat)(g:TG)(ks:List Nat)(tt:TT)(te:TE)(σ:St)(H1:Hp)(Q:VK):Prop:=∀D,H1 D=none->∃W:Nat->Nat->List V->Hp->Prop,(∃m,W 0 m [] (upd H1 D (.lst []))) /\
 ∀i m ys H2,W i m ys H2->H2 D=some (.lst ys)/\((J.stop i H2/\Q (.ref D) H2)\/(J.go i H2/\∀x H3,J.yld i H2 x H3->∀zs:St,zs.length=n ->
  g x (zs++ks.map fun k=>(σ[k]?).join) H3 fun σ4 H4=>(∃zs4:St,zs4.length=n/\σ4=zs4++ks.map fun k=>(σ[k]?).join) /\
   tt σ4 H4 fun b H5=>if b=true then te σ4 H5 fun y H6=>H6 D=some (.lst ys)/\ys.length<sizeLine/\∃m',m'<m/\W (i+1) m' (ys++[y]) (upd H6 D (.lst (ys++[y])))
    else ∃m',m'<m/\W (i+1) m' ys H5))
theorem gU{K:W.Frag}{tl:TE}{n:Nat}{g:TG}{ks:List Nat}{tt:TT}{te:TE}{σ:St}{H:Hp}{Q:VK}(h:tl σ H fun x H1=>∃a,x = .ref a/\(∃xs,SqL K H1 a xs)/\CEl (Itl K a) n g ks tt te σ H1 Q):cQ (oP K tl) n g ks tt te σ H Q:=h
theorem ye{K:W.Frag}{n:Nat}{g:TG}{ks:List Nat}{tt:TT}{te:TE}{σ:St}{H1:Hp}{Q:VK}(a:Addr)(xs:List V)(P:Addr->Nat->List V->Hp->Prop)(hz:xs.length<sizeLine)
 (h0:∀D,H1 D=none->P D 0 [] (upd H1 D (.lst []))) (hD:∀D i ys H',P D i ys H'->H' D=some (.lst ys)/\SqL K H' a xs/\ys.length<=i)
 (hs:∀D i y ys H' (zs:St) (N1:VK) (N0:Hp->Prop),xs[i]? = some y->P D i ys H'->zs.length=n->(∀v H6,H6 D=some (.lst ys)->P D (i+1) (ys++[v]) (upd H6 D (.lst (ys++[v])))->N1 v H6)->(∀H6,P D (i+1) ys H6->N0 H6) ->
  g y (zs++ks.map fun k=>(σ[k]?).join) H' fun σ4 H4=>(∃zs4:St,zs4.length=n/\σ4=zs4++ks.map fun k=>(σ[k]?).join)/\tt σ4 H4 fun b H5=>if b=true then te σ4 H5 N1 else N0 H5)
 (hd:∀D ys H',P D xs.length ys H'->Q (.ref D) H'):CEl (Itl K a) n g ks tt te σ H1 Q:=by
 intro D hDn;refine⟨fun i m ys H'=>m=xs.length-i/\i<=xs.length/\P D i ys H',⟨_,rfl,wQ _,h0 D hDn⟩,?_⟩;rintro i m ys H' ⟨rfl,hi,p⟩;obtain⟨d1,d2,d3⟩:=hD D i ys H' p;refine⟨d1,?_⟩;rcases Nat.lt_or_ge i xs.length with lt|ge
 ·refine .inr ⟨⟨xs,xs[i],d2,by simp[lt]⟩,?_⟩
  rintro x H3 ⟨rfl,hx⟩ zs hzs;exact hs D i x ys _ zs _ _ (hx xs d2) p hzs (fun v H6 h6 p6=>⟨h6,by lia,_,by lia,rfl,lt,p6⟩) fun H6 p6=>⟨_,by lia,rfl,lt,p6⟩
 ·obtain rfl:i=xs.length:=Nat.le_antisymm hi ge
  exact .inl ⟨⟨xs,d2,zL _⟩,hd D ys H' p⟩
section
variable{X:Cx}{pos:Pos}
end
open Lean Meta Simp
def Em:List Name:=Dr++[`L2.Bw,`L2.EU,`L2.tPar3]
def DK:List Name:=DM++[`L2.yG,`L2.gRp]
def DI(e:Lean.Expr):MetaM (Option Lean.Expr):=do
 let .const n us:=e.getAppFn|return none
 let fr:=Hq n || Em.contains n
 unless fr || DK.contains n do return none
 let some (.defnInfo d):=(<- getEnv).find? n|return none
 let v:=d.value.instantiateLevelParams d.levelParams us
 if e.getAppNumArgs<v.getNumHeadLambdas then return none
 let b:=v.beta e.getAppArgs
 if fr then return some b
 match <- reduceMatcher? b with
 | .reduced r=>return some r
 | .notMatcher=>return some b
 |_=>return none
dsimproc_decl mV (_):=fun e=>do
 match <- DI e with
 |some r=>return .visit r
 |none=>return .continue
end L2
namespace K19
open PySem L2
structure Row where
 pa:List Nat
 cu:List Nat
 am:Int
structure Bk where
 k:Int
 d:Int
 rs:List Row
def sg(a s:Int)(k:Nat):Nat:=97+((a+s*k) % 26).toNat
def wd(a s:Int)(n:Nat):List Nat:=(Zb n).map fun k=>sg a s k
def wI(d:List (Pt × Int))(k:Pt)(v:Int):List (Pt × Int):=if (d.any fun e=>decide (e.1=k))=true then d.map (fun e=>if e.1=k then (e.1,v) else e) else d++[(k,v)]
def qi(d:List (Pt × Int))(k:Pt):Option Int:=(d.find? fun e=>decide (e.1=k)).map (·.2)
def jk(e:Pt × Int):List Key × V:=(kP e.1,.int e.2)
theorem EN(e:Pt × Int)(k:Pt):decide ((jk e).1=kP k)=decide (e.1=k):=decide_eq_decide.mpr ⟨fun h=>tR h,fun h=>by show kP e.1=kP k;rw[h]⟩
theorem uX(d:List (Pt × Int))(k:Pt)(v:Int):dB (d.map jk) (kP k) (.int v)=(wI d k v).map jk:=by
 unfold dB wI;have e1:((d.map jk).any fun kv=>decide (kv.1=kP k))=d.any fun e=>decide (e.1=k):=by
  rw[List.any_map];exact congrArg (d.any ·) (funext fun e=>EN e k)
 rw[e1];split
 ·rw[tf,tf]
  apply nE;intro e _;show(if (jk e).1=kP k then ((jk e).1,V.int v) else jk e)=jk (if e.1=k then (e.1,v) else e);by_cases h:e.1=k
  ·rw[if_pos h,if_pos (by show kP e.1=kP k;rw[h])];rfl
  ·rw[if_neg h];exact if_neg fun z=>h (tR z)
 ·rw[vX];rfl
theorem iN(k:Pt):∀d:List (Pt × Int),dN (d.map jk) (kP k)=(qi d k).map V.int
 | []=>rfl
 |e::r=>by
  have ih:=iN k r;by_cases h:e.1=k
  ·rw[xa,d9 (by show kP e.1=kP k;rw[h])]
   simp[qi,h,jk]
  ·rw[xa,de (fun z=>h (tR z)),ih]
   simp[qi,h]
def stp(d:List (Pt × Int))(r:Row):List (Pt × Int):=wI d (r.pa,r.cu) ((qi d (r.pa,r.cu)).getD 0+r.am)
def dk(rs:List Row):List (Pt × Int):=rs.foldl stp []
theorem oE(rs:List Row)(r:Row):dk (rs++[r])=stp (dk rs) r:=by unfold dk;rw[List.foldl_append];rfl
theorem zM(d:List (Pt × Int))(k:Pt)(v:Int):(wI d k v).map (·.1)=if k∈d.map (·.1) then d.map (·.1) else d.map (·.1)++[k]:=by
 unfold wI;have e:((d.any fun e=>decide (e.1=k))=true)↔k∈d.map (·.1):=by
  rw[List.any_eq_true];constructor
  ·rintro⟨x,hx,h⟩;exact yS.mpr ⟨x,hx,of_decide_eq_true h⟩
  ·intro h
   obtain⟨x,hx,h⟩:=yS.mp h;exact⟨x,hx,decide_eq_true h⟩
 by_cases h:k∈d.map (·.1)
 ·rw[if_pos (e.mpr h),if_pos h,tf]
  apply nE;intro x _;show(if x.1=k then (x.1,v) else x).1=x.1;split <;> rfl
 ·rw[if_neg fun z=>h (e.mp z),if_neg h,vX];rfl
theorem Eu:(dk (rs++[r])).map (·.1)=if (r.pa,r.cu)∈(dk rs).map (·.1) then (dk rs).map (·.1) else (dk rs).map (·.1)++[(r.pa,r.cu)]:=by
 rw[oE];exact zM _ _ _
theorem Cg{α:Type}{P:List α->Prop}(h0:P [])(h1:∀l x,P l->P (l++[x]))(l:List α):P l:=by
 have:∀r:List α,P r.reverse:=by
  intro r
  induction r with
  |nil=>exact h0
  |cons x r ih=>rw[List.reverse_cons];exact h1 _ _ ih
 have h:=this l.reverse
 rwa [List.reverse_reverse]at h
theorem iB(rs:List Row):((dk rs).map (·.1)).Nodup/\(∀e∈(dk rs).map (·.1),∃r∈rs,e=(r.pa,r.cu))/\(dk rs).length<=rs.length:=by
 induction rs using Cg with
 |h0=>exact⟨.nil,(fun _ m=>nomatch m),zL _⟩
 |h1 l x ih=>
  obtain⟨i1,i2,i3⟩:=ih;rw[<- zg (f:=(·.1)) (as:=dk (l++[x])),Eu];rw[<- zg (f:=(·.1))]at i3;by_cases h:(x.pa,x.cu)∈(dk l).map (·.1)
  ·rw[if_pos h]
   refine⟨i1,fun e m=>?_,by rw[zi];lia⟩;obtain⟨r,hr,g⟩:=i2 e m;exact⟨r,wW _ hr,g⟩
  ·rw[if_neg h]
   refine⟨List.nodup_append.mpr ⟨i1,ZW.mpr ⟨zY,List.nodup_nil⟩,fun a ha b hb=>by rw[zq.mp hb];rintro rfl;exact h ha⟩,fun e m=>?_,by rw[zi,zi,Zw,Zw];lia⟩;rcases z7.mp m with m|m
   ·obtain⟨r,hr,g⟩:=i2 e m
    exact⟨r,wW _ hr,g⟩
   ·exact⟨x,by simp,zq.mp m⟩
theorem qV{α:Type}[DecidableEq α]:∀ {l m:List α},l.Nodup->(∀x∈l,x∈m)->l.length<=m.length
 | [],m,_,_=>wQ _
 |x::r,m,h,s=>by
  obtain⟨h1,h2⟩:=ZW.mp h;have hx:=s x (.head _);have:=qV (l:=r) (m:=m.erase x) h2 fun y hy=>(List.mem_erase_of_ne (by rintro rfl;exact h1 hy)).mpr (s y (.tail _ hy));rw[List.length_erase_of_mem hx]at this;have:0<m.length:=List.length_pos_of_mem hx;rw[vN];lia
theorem vP(cu:List (List Nat)):∀ps:List (List Nat),(ps.flatMap fun p=>cu.map fun c=>(p,c)).length=ps.length*cu.length
 | []=>by simp
 |p::r=>by rw[Yr,zi,zg,vP cu r,vN,Nat.succ_mul,Nat.add_comm]
theorem Cc{ps cu:List (List Nat)}(h:∀r∈rs,r.pa∈ps/\r.cu∈cu):(dk rs).length<=ps.length*cu.length:=by
 obtain⟨h1,h2,_⟩:=iB rs;rw[<- vP,<- zg (f:=(·.1))];refine qV h1 fun e m=>?_;obtain⟨r,hr,rfl⟩:=h2 e m;exact List.mem_flatMap.mpr ⟨r.pa,(h r hr).1,yS.mpr ⟨r.cu,(h r hr).2,rfl⟩⟩
theorem A6(h:k∈d.map (·.1)):∃n,qi d k=some n:=by
 obtain⟨e,he,rfl⟩:=yS.mp h;unfold qi;cases f:d.find? fun x=>decide (x.1=e.1) with
 |none=>exact absurd (List.find?_eq_none.mp f e he) (by simp)
 |some z=>exact⟨z.2,rfl⟩
def val(rs:List Row)(k:Pt):Int:=(qi (dk rs) k).getD 0
def res(rs:List Row)(out:List Pt):List Row:=(out.filter fun k=>decide (val rs k≠0)).map fun k=>⟨k.1,k.2,val rs k⟩
theorem i7(rs:List Row)(out:List Pt):(res rs out).length<=out.length:=by unfold res;rw[zg];exact Zp _ _
theorem xn(h:k∈(dk rs).map (·.1)):qi (dk rs) k=some (val rs k):=by
 obtain⟨n,e⟩:=A6 h;unfold val;rw[e];rfl
theorem uL(rs:List Row)(out:List Pt)(k:Pt):res rs (out++[k])=res rs out++if val rs k≠0 then [⟨k.1,k.2,val rs k⟩] else []:=by
 unfold res;rw[Ze,vX]
 congr 1
 by_cases h:val rs k≠0
 ·rw[if_pos h];simp[h]
 ·rw[if_neg h];simp at h;simp[h]
def rsd(t:Int)(bs:List Bk):List Row:=bs.flatMap fun b=>if b.d<=t then b.rs else []
theorem BR(t:Int)(bs:List Bk)(b:Bk):rsd t (bs++[b])=rsd t bs++if b.d<=t then b.rs else []:=by
 unfold rsd;rw[List.flatMap_append];simp
theorem oM(t:Int):∀bs:List Bk,(bs.filter fun b=>decide (b.d<=t)).flatMap (·.rs)=rsd t bs
 | []=>rfl
 |b::r=>by
  have ih:=oM t r;unfold rsd at ih |-
  rw[Yr];by_cases h:b.d<=t
  ·rw[if_pos h,Zi (by simpa using h),Yr,ih]
  ·rw[if_neg h,Zc (by simpa using h),ih];rfl
theorem Et(h:r∈rsd t bs):∃b∈bs,r∈b.rs:=by
 obtain⟨b,hb,hr⟩:=List.mem_flatMap.mp h;refine⟨b,hb,?_⟩;split at hr
 ·exact hr
 ·exact nomatch hr
end K19
namespace K3
def S(a:Int):Int:=
 if a<=0 then 0 else if a=1 then 31 else if a=2 then 59 else if a=3 then 90 else if a=4 then 120
 else if a=5 then 151 else if a=6 then 181 else if a=7 then 212 else if a=8 then 243 else if a=9 then 273
 else if a=10 then 304 else 334
def LD(y:Int):Int:=(y+3) / 4-(y+99) / 100+(y+399) / 400
def FD(m:Int):Int:=365*(m / 12)+(if m % 12 > 1 then LD (m / 12+1) else LD (m / 12))+S (m % 12)
def LG(y m:Int):Int:=
 if m=2 then (if (y % 4=0/\y % 100≠0)\/y % 400=0 then 29 else 28)
 else if m=4\/m=6\/m=9\/m=11 then 30 else 31
theorem xO(h:m=12*y+a)(h0:0<=a)(h1:a<12) :
 FD m=365*y+(if a > 1 then LD (y+1) else LD y)+S a:=by
 have e1:m / 12=y:=by lia
 have e2:m % 12=a:=by lia
 unfold FD;rw[e1,e2]
theorem q4(y:Int):(y+4) / 4=(y+3) / 4+if y % 4=0 then 1 else 0:=by split <;> lia
theorem JZ(y:Int):(y+100) / 100=(y+99) / 100+if y % 100=0 then 1 else 0:=by split <;> lia
theorem JC(y:Int):(y+400) / 400=(y+399) / 400+if y % 400=0 then 1 else 0:=by split <;> lia
theorem xF(y:Int):LD (y+1)=LD y+(if (y % 4=0/\y % 100≠0)\/y % 400=0 then 1 else 0):=by
 unfold LD;rw[Int.add_assoc,Int.add_assoc,Int.add_assoc];show(y+4) / 4-(y+100) / 100+(y+400) / 400=_;rw[q4,JZ,JC];generalize (y+3) / 4=A;generalize (y+99) / 100=B;generalize (y+399) / 400=C;by_cases a:y % 400=0
 ·have b:y % 100=0:=by lia
  have c:y % 4=0:=by clear b;lia
  rw[if_pos a,if_pos b,if_pos c,if_pos (.inr a)];clear a b c;lia
 ·by_cases b:y % 100=0
  ·have c:y % 4=0:=by clear a;lia
   rw[if_neg a,if_pos b,if_pos c,if_neg (fun z=>z.elim (fun w=>w.2 b) a)];clear a b c;lia
  ·by_cases c:y % 4=0
   ·rw[if_neg a,if_neg b,if_pos c,if_pos (.inl ⟨c,b⟩)]
    clear a b c;lia
   ·rw[if_neg a,if_neg b,if_neg c,if_neg (fun z=>z.elim (fun w=>c w.1) a)]
    clear a b c;lia
theorem Ha:∀a:Nat,a<11->a≠1->S (a+1)=S a+LG 1 (1+a):=by decide
theorem AW(y z m:Int)(h:m≠2):LG y m=LG z m:=by unfold LG;rw[if_neg h,if_neg h]
theorem B9(y:Int):LG (2000+y) 2=28+(LD (y+1)-LD y):=by
 have h:(((2000+y) % 4=0/\(2000+y) % 100≠0)\/(2000+y) % 400=0)↔((y % 4=0/\y % 100≠0)\/y % 400=0):=by
  have e (k:Int) (d:2000=k*(2000 / k)):(2000+y) % k=y % k:=by rw[Int.add_comm,d,Int.add_mul_emod_self_left]
  rw[e 4 rfl,e 100 rfl,e 400 rfl]
 rw[xF,LG,if_pos rfl];by_cases c:(y % 4=0/\y % 100≠0)\/y % 400=0
 ·rw[if_pos c,if_pos (h.mpr c)];lia
 ·rw[if_neg c,if_neg (fun q=>c (h.mp q))];lia
theorem xV(m:Int):FD (m+1)=FD m+LG (2000+m / 12) (1+m % 12):=by
 have b0:0<=m % 12:=ZJ _ (by decide);have b1:m % 12<12:=ZY _ (by decide);have e:m=12*(m / 12)+m % 12:=(Int.mul_ediv_add_emod m 12).symm;have a1:=xO e b0 b1;generalize m / 12=y at *;generalize m % 12=z at *;obtain⟨a,rfl⟩:=Zh b0;by_cases c:a=11
 ·subst c
  rw[a1,xO (m:=m+1) (y:=y+1) (a:=0) (by lia) (by decide) (by decide)];show _+LD (y+1)+0=_+LD (y+1)+334+31;lia
 ·have a2:=xO (m:=m+1) (y:=y) (a:=a+1) (by lia) (by lia) (by lia)
  by_cases c1:a=1
  ·subst c1
   rw[a1,a2];show _+LD (y+1)+59=_+LD y+31+LG (2000+y) 2;rw[B9];lia
  ·have s:=Ha a (by lia) c1
   rw[a1,a2,AW _ 1 _ (by lia),s];by_cases c2:a=0
   ·subst c2;exact(Int.add_assoc _ _ _).symm
   ·rw[if_pos (by lia),if_pos (by lia)];lia
theorem IO(y m:Int):28<=LG y m/\LG y m<=31:=by
 unfold LG;repeat' split
 all_goals lia
theorem Jh(m:Int):FD m+28<=FD (m+1)/\FD (m+1)<=FD m+31:=by
 have h:=xV m;have g:=IO (2000+m / 12) (1+m % 12);lia
theorem uE(m:Int)(k:Nat):FD m+28*k<=FD (m+k):=by
 induction k with
 |zero=>simp
 |succ k ih=>
  have h:=Jh (m+k);have e:m+((k+1:Nat):Int)=m+k+1:=by lia
  rw[e];lia
theorem iY(h:m<=n):FD m+28*(n-m)<=FD n:=by
 have g:=uE m (n-m).toNat;have e:m+((n-m).toNat:Int)=n:=by lia
 rw[e]at g;lia
theorem F4:FD 0=0:=by decide
theorem AO:FD 4800=146097:=by decide
open Classical in
noncomputable def MO(d:Int):Int:=if h:∃m,FD m<=d/\d<FD (m+1) then Classical.choose h else 0
theorem Jb(h1:FD m<=d)(h2:d<FD (m+1)):m=MO d:=by
 have h:∃m,FD m<=d/\d<FD (m+1):=⟨m,h1,h2⟩;have g:=Classical.choose_spec h;unfold MO;rw[dif_pos h];generalize Classical.choose h=n at g;obtain⟨g1,g2⟩:=g;by_cases c:m+1<=n
 ·have:=iY c;lia
 ·by_cases c2:n+1<=m
  ·have:=iY c2;lia
  ·lia
theorem BZ(h1:FD m<=d)(h2:d<FD (m+1)):MO d=m:=(Jb h1 h2).symm
theorem Jz(h0:0<=m):0<=FD m:=by
 have:=iY h0;rw[F4]at this;lia
theorem E8(h0:0<=d)(h1:d<=146096):0<=MO d/\MO d<=4799/\FD (MO d)<=d/\d<FD (MO d+1):=by
 have ex:∀(n:Nat),FD n<=d\/∃k:Nat,k<n/\FD k<=d/\d<FD (k+1):=by
  intro n
  induction n with
  |zero=>left;show FD 0<=d;rw[F4];exact h0
  |succ n ih=>
   rcases ih with h|⟨k,hk,h⟩
   ·by_cases c:FD ((n:Int)+1)<=d
    ·left;exact c
    ·right;exact⟨n,by lia,h,by lia⟩
   ·right;exact⟨k,by lia,h⟩
 rcases ex 4800 with h|⟨k,hk,h2,h3⟩
 ·have e:FD ((4800:Nat):Int)=146097:=AO
  rw[e]at h;lia
 ·have e:=BZ h2 h3
  rw[e];exact⟨by lia,by lia,h2,h3⟩
def R10:List Int:=[31,30,31,30,31,31,30,31,30,31]
theorem DO:∀a:Nat,a<10->(R10.take a).sum+59=S ((a:Int)+2):=by decide
theorem He:∀a:Nat,a<10->R10.getD a 0=LG 1 (1+((a:Int)+2)):=by decide
theorem HJ(m:Int):365*(m / 12)+LD (m / 12)+((31::(28+(LD (m / 12+1)-LD (m / 12)))::R10).take (m % 12).toNat).sum=FD m:=by
 have b0:0<=m % 12:=ZJ _ (by decide);have b1:m % 12<12:=ZY _ (by decide);have a1:=xO (Int.mul_ediv_add_emod m 12).symm b0 b1;generalize m / 12=y at *;generalize m % 12=z at *;obtain⟨a,rfl⟩:=Zh b0;rw[a1]
 match a,b1 with
 |0,_=>rfl
 |1,_=>rfl
 |a+2,b1=>
  have s:=DO a (by lia);rw[if_pos (by lia)];show _+_+(31+(_+(R10.take a).sum))=_+S ((a:Int)+2);rw[<- s];lia
theorem JM(m:Int):(31::(28+(LD (m / 12+1)-LD (m / 12)))::R10).getD (m % 12).toNat 0=LG (2000+m / 12) (1+m % 12):=by
 have b0:0<=m % 12:=ZJ _ (by decide);have b1:m % 12<12:=ZY _ (by decide);generalize m / 12=y at *;generalize m % 12=z at *;obtain⟨a,rfl⟩:=Zh b0
 match a,b1 with
 |0,_=>rfl
 |1,_=>exact(B9 y).symm
 |a+2,b1=>
  rw[AW _ 1 _ (by lia)];exact He a (by lia)
end K3
namespace K22
open PySem L2 K19
theorem pQ:∀ {bs:List Bk},(∀b∈bs,b.rs.length<=N)->(rsd t bs).length<=N*bs.length
 | [],_=>zL _
 |b::r,h=>by
  have ih:=pQ (t:=t) (bs:=r) fun x m=>h x (.tail _ m);have hb:=h b (.head _);unfold rsd at ih |-
  rw[Yr,zi,vN,Nat.mul_add,Nat.mul_one];split
  ·lia
  ·rw[Z2];lia
def sm(rs:List Row)(k:Pt):Int:=match rs with
 | []=>0
 |r::q=>(if (r.pa,r.cu)=k then r.am else 0)+sm q k
theorem oj(h:r∈res rs out):(r.pa,r.cu)∈out/\r.am=val rs (r.pa,r.cu)/\r.am≠0:=by
 unfold res at h;obtain⟨k,mk,rfl⟩:=yS.mp h;obtain⟨m1,m2⟩:=ZV.mp mk;exact⟨m1,rfl,of_decide_eq_true m2⟩
def trn(rs:List Row):List Row:=rs.map fun r=>⟨r.pa,r.cu,-r.am⟩
def mvd(p:List Nat)(rs:List Row):List Row:=rs.map fun r=>⟨p,r.cu,r.am⟩
theorem Ft:∀r∈mvd p rs,r.pa=p:=fun r m=>by
 obtain⟨x,_,rfl⟩:=yS.mp m;rfl
def gh(g:List Nat->Bool)(rs:List Row)(out:List Pt):List Row:=(res rs out).filter fun r=>g r.pa
def due(g:List Nat->Bool)(p:List Nat)(rs:List Row)(out out2:List Pt):List Row:=trn (gh g rs out)++res (mvd p (gh g rs out)) out2
def jb(e:Pt × Int):Key × V:=(.inr ⟨⟨e.1.2⟩⟩,.int e.2)
theorem JX(c:List Nat)(v:Int)(h:∀e∈d,e.1.1=p):dB (d.map jb) (.inr ⟨⟨c⟩⟩) (.int v)=(wI d (p,c) v).map jb:=by
 have ke:∀e∈d,((jb e).1 = .inr ⟨⟨c⟩⟩↔e.1=(p,c)):=fun e m=>by
  constructor
  ·intro z
   have z2:e.1.2=c:=by injection z with z;injection z with z;injection z
   exact Prod.ext (h e m) z2
  ·intro z;unfold jb;rw[z]
 unfold dB wI;have e1:((d.map jb).any fun kv=>decide (kv.1 = .inr ⟨⟨c⟩⟩))=d.any fun e=>decide (e.1=(p,c)):=by
  rw[List.any_map,Z4,List.any_eq_true,List.any_eq_true];constructor
  ·rintro⟨x,mx,hx⟩;exact⟨x,mx,decide_eq_true ((ke x mx).mp (of_decide_eq_true hx))⟩
  ·rintro⟨x,mx,hx⟩;exact⟨x,mx,decide_eq_true ((ke x mx).mpr (of_decide_eq_true hx))⟩
 rw[e1];split
 ·rw[tf,tf]
  refine nE fun e m=>?_;show(if (jb e).1 = .inr ⟨⟨c⟩⟩ then ((jb e).1,V.int v) else jb e)=jb (if e.1=(p,c) then (e.1,v) else e);by_cases z:e.1=(p,c)
  ·rw[if_pos z,if_pos ((ke e m).mpr z)];rfl
  ·rw[if_neg z,if_neg fun q=>z ((ke e m).mp q)]
 ·rw[vX];rfl
theorem Fz(c:List Nat):∀ {d:List (Pt × Int)},(∀e∈d,e.1.1=p)->dN (d.map jb) (.inr ⟨⟨c⟩⟩)=(qi d (p,c)).map V.int
 | [],_=>rfl
 |e::r,h=>by
  have ih:=Fz c fun x m=>h x (.tail _ m);have he:=h e (.head _);by_cases z:e.1=(p,c)
  ·rw[xa,d9 (by unfold jb;rw[z])]
   simp[qi,z,jb]
  ·have nz:¬ (jb e).1 = .inr ⟨⟨c⟩⟩:=fun q=>z (by
    have z2:e.1.2=c:=by injection q with q;injection q with q;injection q
    exact Prod.ext he z2)
   rw[xa,de nz,ih];simp[qi,z]
theorem kh:∀e∈dk (mvd p rs),e.1.1=p:=fun e m=>by
 obtain⟨r,mr,h⟩:=(iB (mvd p rs)).2.1 e.1 (yS.mpr ⟨e,m,rfl⟩);rw[h];exact Ft r mr
theorem D8(po:cz.Perm ((dk (mvd p rs)).map fun e=>e.1.2))(oo:InO cz):(cz.map fun c=>(p,c)).Perm ((dk (mvd p rs)).map (·.1))/\jq (cz.map fun c=>(p,c)):=by
 have e:(dk (mvd p rs)).map (·.1)=((dk (mvd p rs)).map fun e=>e.1.2).map fun c=>(p,c):=by
  rw[tf];exact nE fun e m=>Prod.ext (kh e m) rfl
 refine⟨by rw[e];exact po.map _,?_⟩;have nd:cz.Nodup:=by
  have:=(iB (mvd p rs)).1;rw[e]at this;have:=(List.Perm.map (fun c=>(p,c)) po).nodup_iff.mpr this;exact(Z0.mp this).imp fun h z=>h (by rw[z])
 refine Z0.mpr ((List.Pairwise.and oo nd).imp fun {a b} h=>.inr ⟨rfl,?_⟩);by_cases l:a<b
 ·exact l
 ·exact absurd (List.le_antisymm (List.not_lt.mp h.1) (List.not_lt.mp l)) h.2
theorem ceA{K:W.Frag}{β γ:Type}{n:Nat}{g:TG}{ks:List Nat}{tt:TT}{te:TE}{σ:St}{H:Hp}{Q:VK}{S:Hp->V->γ->Prop}(hS:∀(G G':Hp) (v:V) (c:γ),(∀t l,G t=some (.tup l)->G' t=some (.tup l))->S G v c->S G' v c)
 (a:Addr) (vs:List V) (R:List β) (Rel:V->β->Prop) (p:β->Bool) (f:β->γ) (ha:H a=some (.lst vs)) (hN:NoT H) (hR:A2 Rel vs R) (hz:vs.length<sizeLine)
 (hs:∀v b,b∈R->Rel v b->∀G (zs:St) (N1:VK) (N0:Hp->Prop),Same H G->NoT G->zs.length=n->(p b=true->∀u G',Same G G'->NoT G'->S G' u (f b)->N1 u G')->(p b=false->∀G',Same G G'->NoT G'->N0 G') ->
  g v (zs++ks.map fun k=>(σ[k]?).join) G fun σ4 H4=>(∃zs4:St,zs4.length=n/\σ4=zs4++ks.map fun k=>(σ[k]?).join)/\tt σ4 H4 fun b H5=>if b=true then te σ4 H5 N1 else N0 H5)
 (q:∀D ws G,H D=none->Same H G->NoT G->G D=some (.lst ws)->A2 (S G) ws ((R.filter p).map f)->Q (.ref D) G):CEl (Itl K a) n g ks tt te σ H Q:=by
 refine ye a vs (fun D i ys G=>H D=none/\Same H G/\NoT G/\G D=some (.lst ys)/\ys.length<=i/\A2 (S G) ys (((R.take i).filter p).map f)) hz ?_ ?_ ?_ ?_
 ·exact fun D hD=>⟨hD,ah _ hD,aq hN rfl,ad,zL _,.nil⟩
 ·rintro D i ys G ⟨hD,sm,_,gd,ly,_⟩
  exact⟨gd,SqL.of (sm _ _ ha),ly⟩
 ·rintro D i y ys G zs N1 N0 hy ⟨hD,sm,nG,gd,ly,A⟩ hzs n1 n0
  obtain⟨b,hb,rb⟩:=hR.at_ hy;have mb:=ww hb;have et:R.take (i+1)=R.take i++[b]:=by rw[Yx,hb];rfl
  rw[et,Ze,vX]at n1 n0;refine hs y b mb rb G zs N1 N0 sm nG hzs (fun pb u G' s' nG' hu=>?_) fun pb G' s' nG'=>n0 G' ⟨hD,sm.trans s',nG',s' _ _ gd,Nat.le_succ_of_le ly,?_⟩
  ·have gd':=s' _ _ gd
   have kt:∀t l,G' t=some (.tup l)->upd G' D (.lst (ys++[u])) t=some (.tup l):=fun t l e=>by
    rw[ag fun z=>by rw[z,gd']at e;cases e];exact e
   refine n1 _ _ gd' ⟨hD,fun c o e=>?_,aq nG' rfl,ad,by rw[zi];exact Yy ly,?_⟩
   ·rw[ag (az e hD)];exact s' _ _ (sm _ _ e)
   ·rw[Zi pb,Z3]
    exact(A.imp fun _ _ _ _ h=>hS _ _ _ _ kt (hS _ _ _ _ (fun t l e=>s' _ _ e) h)).snoc (hS _ _ _ _ kt hu)
  ·rw[Zc (by rw[pb];decide),Z3,Z6,Zs]
   exact A.imp fun _ _ _ _ h=>hS _ _ _ _ (fun t l e=>s' _ _ e) h
 ·rintro D ys G ⟨hD,sm,nG,gd,_,A⟩
  rw[hR.len,Zo]at A;exact q D ys G hD sm nG gd A
end K22
namespace L2
open PySem PyProof.Rows
theorem ug(h:H a=some o):upd H a o=H:=by
 funext b;by_cases e:b=a
 ·subst e;rw[ad,h]
 ·rw[ag e]
def isD:HO->Bool
 | .dK _=>true
 | .dT _=>true
 |_=>false
def fM:HO->Nat
 | .dK kvs=>kvs.length
 | .dT kvs=>kvs.length
 |_=>0
def rF(H:Hp)(u:HO)(i:Nat)(x v:V):Prop:=match u with
 | .dK kvs=>∃k,kvs[i]? = some (k,v)/\x=kV k
 | .dT kvs=>∃k q,kvs[i]? = some (k,v)/\x = .ref q/\H q=some (.tup (k.map kV))
 |_=>False
theorem D_(h:(bK P w).is k u=true):RelV (kV k) u:=by
 cases k with
 |inl i=>obtain⟨t,z⟩:=Value.isInt_shape h;exact⟨t,z⟩
 |inr x=>obtain⟨t,z⟩:=Value.isStrOf_shape h;exact⟨t,z⟩
theorem Fg{α β:Type}{R:α->β->Prop}{xs:List α}{ys:List β}(h:Paired R xs ys):∀ {i:Nat} {y:β},ys[i]? = some y->∃x,xs[i]? = some x/\R x y:=by
 induction h with
 |nil=>intro i y e;simp at e
 |cons r _ ih=>
  intro i y e;cases i with
  |zero=>cases e;exact⟨_,rfl,r⟩
  |succ i=>exact ih (i:=i) (by simpa using e)
section
variable{X:Cx}{pins:List (Addr × Obj)}{σ:St}{H:Hp}{s:Shared}{a:Addr}
theorem yQ(I:Inv X pins σ H s){u:HO}(hu:isD u=true)(x:ObjOk X.prog X.w H s.heap a u):∃(o:Obj) (es:Array Y4) (ep:Nat),s.heap.get? a=some o/\o.ExactDict/\o.data = .dict es ep/\(a==ZT)=false/\es.size=fM u /\
 ∀i e,es[i]? = some e->∃x v,rF H u i x v/\RelV x e.key/\RelV v e.val:=by
 cases u with
 |dK kvs=>
  obtain⟨z,lo,vs,rel,o,es,ep,ho,ex,hd,hk,hp,hn⟩:=x;have hl:es.size=vs.length:=by rw[<- hp.length];simp
  refine⟨o,es,ep,ho,ex,hd,lo,by rw[hl];exact rel.length.symm,fun i e he=>?_⟩;have hi:i<vs.length:=by rw[<- hl];exact(Array.getElem?_eq_some_iff.mp he).1
  obtain⟨p1,p2⟩:=hp.get? (e:=e) (k:=vs[i].1) (v:=vs[i].2) (by rw[Array.getElem?_toList];exact he) (by simp[hi]);obtain⟨⟨k,v⟩,hx,e1,e2⟩:=Fg rel (y:=vs[i]) (List.getElem?_eq_getElem hi);have e1':k=vs[i].1:=e1;refine⟨kV k,v,⟨k,hx,rfl⟩,by rw[e1'];exact D_ p1,by rw[p2];exact e2⟩
 |dT kvs=>
  obtain⟨z,lo,xs,rel,o,es,ep,ho,ex,hd,he,hn⟩:=x;have hl:es.size=xs.length:=size_of_entries he;refine⟨o,es,ep,ho,ex,hd,lo,by rw[hl];exact(Paired.length rel).symm,fun i e h=>?_⟩;rw[entry_at he i]at h;obtain⟨q,hq,rfl⟩:=Zt.mp h;obtain⟨⟨k,v⟩,hx,e1,e2,e3⟩:=Fg rel hq;exact⟨.ref q.2.1,v,⟨k,q.2.1,hx,rfl,e2⟩,rfl,e3⟩
 |_=>cases hu
theorem Inv.freeze(I:Inv X pins σ H s)(hu:isD u=true)(e:Rd H a u):∃(o:Obj) (es:Array Y4) (ep:Nat),s.heap.get? a=some o/\o.ExactDict/\o.data = .dict es ep/\(a==ZT)=false/\es.size=fM u/\(H a=some u\/H a=some (.frz o u))/\Inv X pins σ (upd H a (.frz o u)) s:=by
 have x:=A7 I.hok e;obtain⟨o,es,ep,ho,ex,hd,lo,hz,_⟩:=yQ I hu x;rcases e with e|⟨o',e⟩
 ·refine⟨o,es,ep,ho,ex,hd,lo,hz,.inl e,?_⟩
  have no:∀b w,H b=some w->isD w=false->b≠a:=fun b w q n z=>by rw[z,e]at q;cases q;rw[hu]at n;cases n
  exact I.write (x:=a) (e:=a) (t':=s.toks) (h':=s.heap) (by rw[e];cases u <;> first|exact ZH|cases hu) (.inl rfl) (fun _ _ _ q=>q) ⟨o,ho⟩ ⟨ho,x.stay (fun _ _ _ q=>q) (fun c z=>by rw[ag (no c _ z rfl)];exact z) fun c xs z=>by rw[ag (no c _ z rfl)];exact z⟩
 ·have h1:=(show ObjOk X.prog X.w H s.heap a (.frz o' u) from I.hok a _ e).1
  rw[ho]at h1;cases h1;refine⟨o,es,ep,ho,ex,hd,lo,hz,.inr e,?_⟩;rw[ug e];exact I
theorem Inv.thaw(I:Inv X pins σ H s)(e:H a=some (.frz o u))(nf:∀o' u',X.H₀ a≠some (.frz o' u')):Inv X pins σ (upd H a u) s:=by
 have na:∀b,H b=none->b≠a:=fun b n z=>by rw[z,e]at n;cases n
 have no:∀b w,H b=some w->(∀o x,w ≠ .frz o x)->b≠a:=fun b w q n z=>by rw[z,e]at q;cases q;exact n _ _ rfl
 have own:∀ {d:Addr} c,H c=some (.own d)->upd H a u c=some (.own d):=fun c z=>by rw[ag (no c _ z (by intro _ _ y;cases y))];exact z
 have tup:∀c xs,H c=some (.tup xs)->upd H a u c=some (.tup xs):=fun c xs z=>by rw[ag (no c _ z (by intro _ _ y;cases y))];exact z
 refine⟨I.ok,I.os,I.bare,⟨I.base.keep,I.base.slot,fun b ob q n hx=>?_,I.base.there,fun b xs q=>tup b xs (I.base.tups b xs q),fun b ob x q=>?_,fun b ps q=>?_⟩,I.loc,I.cell,?_,fun x c ec=>?_,fun p hp=>?_,fun b ob q=>?_,I.len⟩
 ·have h:=I.base.free b ob q n hx
  rw[ag (na b h)];exact h
 ·have h:=I.base.frzs b ob x q
  by_cases eb:b=a
  ·subst eb;exact absurd q (nf _ _)
  ·rw[ag eb];exact h
 ·obtain⟨m,h⟩:=I.base.tbls b ps q
  exact⟨m,by rw[ag (no b _ h (by intro _ _ z;cases z))];exact h⟩
 ·rw[ag (na _ I.free)];exact I.free
 ·have h:=I.freeC x c ec
  rw[ag (na _ h)];exact h
 ·obtain⟨p1,p2,p3⟩:=I.pin p hp
  exact⟨p1,by rw[ag (na _ p2)];exact p2,p3⟩
 ·by_cases eb:b=a
  ·subst eb
   rw[ad]at q;cases q;exact(show ObjOk X.prog X.w H s.heap b (.frz o u) from I.hok _ _ e).2.stay (fun _ _ _ z=>z) own tup
  ·rw[ag eb]at q
   exact(I.hok b ob q).stay (fun _ _ _ z=>z) own tup
def Th(H H1:Hp)(P:Hp->Prop):Prop:=∃a o u,H1 a=some (.frz o u)/\((H a=some u/\isD u=true/\P (upd H1 a u))\/(H a=some (.frz o u)/\P H1))
theorem Inv.th(I:Inv X pins σ H s)(I1:Inv X pins σ1 H1 s1)(h:Th H H1 P):∃H2,Inv X pins σ1 H2 s1/\P H2:=by
 obtain⟨a,o,u,e1,⟨e2,hu,q⟩|⟨e2,q⟩⟩:=h
 ·exact⟨_,I1.thaw e1 (fun o' u' z=>by rw[I.base.frzs _ _ _ z]at e2;cases e2;cases hu),q⟩
 ·exact⟨_,I1,q⟩
def uN(te:TE):TE:=fun σ H Q=>te σ H fun v H1=>Th H H1 (Q v)
theorem Dv(he:PE X e te):PE X e (uN te):=by
 intro pins s σ H Q I h;refine thn (he pins s σ H _ I h) fun u s1 hq_=>?_;obtain⟨v,H1,I1,r,q⟩:=hq_;obtain⟨H2,I2,q2⟩:=I.th I1 q;exact⟨v,H2,I2,r,q2⟩
def BP(ts:TS):TS:=fun D σ H=>ts { nx:=fun σ' H1=>Th H H1 (D.nx σ'),rt:=fun v H1=>Th H H1 (D.rt v),bk:=fun σ' H1=>Th H H1 (D.bk σ'),ct:=fun σ' H1=>Th H H1 (D.ct σ') } σ H
theorem kl{st:Stmt}{ts:TS}(h:PS X st ts):PS X st (BP ts):=by
 intro pins s σ H D I q;refine thn (h pins s σ H _ I q) fun f s1 hf=>?_;cases f with
 |next=>
  obtain⟨σ',H',I',z⟩:=hf;obtain⟨H2,I2,q2⟩:=I.th I' z;exact⟨σ',H2,I2,q2⟩
 |brk=>
  obtain⟨σ',H',I',z⟩:=hf;obtain⟨H2,I2,q2⟩:=I.th I' z;exact⟨σ',H2,I2,q2⟩
 |cont=>
  obtain⟨σ',H',I',z⟩:=hf;obtain⟨H2,I2,q2⟩:=I.th I' z;exact⟨σ',H2,I2,q2⟩
 |ret u=>
  obtain⟨v,σ',H',I',r,z⟩:=hf;obtain⟨H2,I2,q2⟩:=I.th I' z;exact⟨v,σ',H2,I2,r,q2⟩
def Itk(a:Addr)(o:Obj)(u:HO):It:=
 ⟨fun i H=>i<fM u/\H a=some (.frz o u),fun i H x H'=>H'=H/\∃v,rF H u i x v,fun i H=>fM u<=i/\H a=some (.frz o u)⟩
theorem BM(I:Inv X pins σ H s)(hu:isD u=true)(hd:o.data = .dict es ep)(e:H a=some (.frz o u)):s.heap.get? a=some o/\es.size=fM u/\∀i e,es[i]? = some e->∃x v,rF H u i x v/\RelV x e.key/\RelV v e.val:=by
 obtain⟨ho,x⟩:=(show ObjOk X.prog X.w H s.heap a (.frz o u) from I.hok a _ e);obtain⟨o',es',ep',ho',ex,hd',lo,hz,h⟩:=yQ I hu x;rw[ho]at ho';cases ho';rw[hd]at hd';injection hd' with h2 h3
 subst h2;exact⟨ho,hz,h⟩
theorem ze{P:Program}{w:World}{K:W.Frag}{tg:Expr}(a it:Addr)(o:Obj)(es:Array Y4)(ep:Nat)(u:HO)(hu:isD u=true)(hd:o.data = .dict es ep):zo P w K tg (Itk a o u) [it] it (fun i h=>h.IsKeyIter it a i es.size ep) where
 mem:=by simp
 obj:=fun i h st b hb=>by
  have e:b=it:=by simpa using hb
  subst e;obtain⟨o,e,c,d⟩:=st;exact⟨o,e,fun v z=>by rw[d]at z;cases z⟩
 keep:=fun i h h' st k=>st.at fun o e=>k it (by simp) o e
 item:=by
  intro X hP hw hK hc i pins s σ H E I hf st hg;subst hP hw hK;obtain⟨hi,hq⟩:=hg;obtain⟨ho,hz,hen⟩:=BM I hu hd hq;obtain⟨f0,f1,f2,f3,f4,f5⟩:=hf it (by simp);have hx:es[i]? = some es[i]:=by simp[show i<es.size by lia]
  obtain⟨x,v,en,rx,rv⟩:=hen i _ hx;refine xK st ho hd hx fun h' st' sb=>?_;have I1:Inv X pins σ H { s with heap:=h' }:=I.turned (t':=s.toks) (fun b o hb e=>(sb.2 b hb).trans e) f0 f1 f3 f4 f5;obtain⟨oi,e,c,d⟩:=id st';exact⟨_,rfl,pT (s:={ s with heap:=h' }) e c d (by decide) ⟨x,H,I1,rx,⟨rfl,v,en⟩,st',fun b hb=>(hf b hb).1⟩⟩
 done:=by
  intro X hP hw hK hc i pins s σ H E I hf st hg;subst hP hw hK;obtain⟨hi,hq⟩:=hg;obtain⟨ho,hz,hen⟩:=BM I hu hd hq;obtain⟨f0,f1,f2,f3,f4,f5⟩:=hf it (by simp);exact AV (I.ok.hd hc) st ho hd (by lia) fun h' eb=>⟨rfl,I.turned (t':=s.toks) (fun b o hb e=>eb b o hb e) f0 f1 f3 f4 f5⟩
 self:=fun _ _ _ _ _ st h=>wpAny_pyIter_keyiter st h
def pO(td:TE):TI:=fun σ H R=>td σ H fun x H1=>∃b u,x = .ref b/\isD u=true/\Rd H1 b u/\∀o,(H1 b=some u\/H1 b=some (.frz o u))->R (Itk b o u) (upd H1 b (.frz o u))
theorem iW{tg l:Expr}{td:TE}(hl:PE X l td):PI X tg l (pO td):=by
 intro pins s σ H R I h;refine thn (hl pins s σ H _ I h) fun v s1 hq_=>?_;obtain⟨x,H1,I1,rx,b,u,ex,hu,hr,q⟩:=hq_;subst ex;cases (show v=yW b from rx);obtain⟨o,es,ep,ho,ex,hd,lo,hz,hor,I2⟩:=I1.freeze hu hr;refine xT lo ho ex hd ?_;refine⟨s1.heap.objs.size,[s1.heap.objs.size],_,Itk b o u,_,rfl,I2.kept (t':=s1.toks) (fun c ob e=>Heap.get?_push_of_some _ e),ze b _ o es ep u hu hd,⟨_,Heap.get?_push_size _ rfl,rfl,rfl⟩,fun c hc=>?_,q o hor⟩;rw[zq.mp hc];exact I2.fpOk (zL _) (I2.hok.fresh (zL _))
end
theorem I_(h:td σ H fun x H1=>∃b u,x = .ref b/\isD u=true/\Rd H1 b u/\∀o,(H1 b=some u\/H1 b=some (.frz o u))->CEl (Itk b o u) n g ks tt te σ (upd H1 b (.frz o u)) fun v H2=>Th H H2 (Q v)):uN (cQ (pO td) n g ks tt te) σ H Q:=h
theorem Ju(b:Addr)(o:Obj)(u:HO)(P:Addr->Nat->List V->Hp->Prop)(hz:fM u<sizeLine)
 (h0:∀D,H1 D=none->P D 0 [] (upd H1 D (.lst []))) (hD:∀D i ys H',P D i ys H'->H' D=some (.lst ys)/\H' b=some (.frz o u)/\ys.length<=i)
 (hs:∀D i y v ys H' (zs:St) (N1:VK) (N0:Hp->Prop),i<fM u->rF H' u i y v->P D i ys H'->zs.length=n->(∀v H6,H6 D=some (.lst ys)->P D (i+1) (ys++[v]) (upd H6 D (.lst (ys++[v])))->N1 v H6)->(∀H6,P D (i+1) ys H6->N0 H6) ->
  g y (zs++ks.map fun k=>(σ[k]?).join) H' fun σ4 H4=>(∃zs4:St,zs4.length=n/\σ4=zs4++ks.map fun k=>(σ[k]?).join)/\tt σ4 H4 fun b H5=>if b=true then te σ4 H5 N1 else N0 H5)
 (hd:∀D ys H',P D (fM u) ys H'->Q (.ref D) H'):CEl (Itk b o u) n g ks tt te σ H1 Q:=by
 intro D hDn;refine⟨fun i m ys H'=>m=fM u-i/\i<=fM u/\P D i ys H',⟨_,rfl,wQ _,h0 D hDn⟩,?_⟩;rintro i m ys H' ⟨rfl,hi,p⟩;obtain⟨d1,d2,d3⟩:=hD D i ys H' p;refine⟨d1,?_⟩;rcases Nat.lt_or_ge i (fM u) with lt|ge
 ·refine .inr ⟨⟨lt,d2⟩,?_⟩
  rintro x H3 ⟨rfl,v,hx⟩ zs hzs;exact hs D i x v ys _ zs _ _ lt hx p hzs (fun v H6 h6 p6=>⟨h6,by lia,_,by lia,rfl,lt,p6⟩) fun H6 p6=>⟨_,by lia,rfl,lt,p6⟩
 ·obtain rfl:i=fM u:=Nat.le_antisymm hi ge
  exact .inl ⟨⟨zL _,d2⟩,hd D ys H' p⟩
theorem cmK(b:Addr)(kvs:List (Key × V))(p:V->Bool)(f:V->V)(hl:∀R:VK,R (.ref b) H->td σ H R)(hr:Rd H b (.dK kvs))(hz:kvs.length<sizeLine)
 (hp:∀x∈kvs.map (fun e=>kV e.1),∀D ys o (R:Bool->Hp->Prop),H D=none->D≠b->R (p x) (upd (upd H b (.frz o (.dK kvs))) D (.lst ys))->tt (some x::ks.map fun k=>(σ[k]?).join) (upd (upd H b (.frz o (.dK kvs))) D (.lst ys)) R)
 (hf:∀x∈kvs.map (fun e=>kV e.1),p x=true->∀D ys o (R:VK),H D=none->D≠b->R (f x) (upd (upd H b (.frz o (.dK kvs))) D (.lst ys))->te (some x::ks.map fun k=>(σ[k]?).join) (upd (upd H b (.frz o (.dK kvs))) D (.lst ys)) R)
 (q:∀D,H D=none->Q (.ref D) (upd H D (.lst (((kvs.map fun e=>kV e.1).filter p).map f)))):uN (cQ (pO td) 1 (fG 0) ks tt te) σ H Q:=by
 have hb:∃u,H b=some u:=by rcases hr with e|⟨o,e⟩ <;> exact⟨_,e⟩
 obtain⟨u,hb⟩:=hb;refine I_ (hl _ ⟨b,.dK kvs,rfl,rfl,hr,fun o hor=>Ju b o (.dK kvs) (fun D i ys G=>G=upd (upd H b (.frz o (.dK kvs))) D (.lst ys)/\H D=none/\ys=(((kvs.map fun e=>kV e.1).take i).filter p).map f) hz (fun D hD=>⟨rfl,?_,by simp⟩) ?_ ?_ ?_⟩)
 ·have nb:D≠b:=fun z=>by rw[z,ad]at hD;cases hD
  rwa [ag nb]at hD
 ·rintro D i ys G ⟨rfl,hD,rfl⟩
  have nb:b≠D:=az hb hD;refine⟨ad,(ag nb).trans ad,?_⟩;rw[zg];exact wn (Zp _ _) (by rw[uV];lia)
 ·rintro D i y vv ys G zs N1 N0 hi ⟨kk,hk,rfl⟩ ⟨rfl,hD,rfl⟩ hzs n1 n0
  have hy:(kvs.map fun e=>kV e.1)[i]? = some (kV kk):=by rw[List.getElem?_map,hk];rfl
  generalize kV kk=y at hy;obtain⟨z,rfl⟩:=ex1 hzs;have nb:D≠b:=Ne.symm (az hb hD);have my:=ww hy;have et:(kvs.map fun e=>kV e.1).take (i+1)=(kvs.map fun e=>kV e.1).take i++[y]:=by rw[Yx,hy];rfl
  rw[et,Ze]at n1 n0;refine⟨⟨[some y],rfl,rfl⟩,hp y my D _ o _ hD nb ?_⟩;cases py:p y with
  |true=>
   rw[if_pos rfl];refine hf y my py D _ o _ hD nb (n1 _ _ ad ⟨oB,hD,?_⟩);rw[Zi py,vX];rfl
  |false=>
   rw[if_neg (by decide)];refine n0 _ ⟨rfl,hD,?_⟩;rw[Zc (by rw[py];decide),Z3,Zs]
 ·rintro D ys G ⟨rfl,hD,rfl⟩
  rw[show fM (.dK kvs)=kvs.length from rfl,Zd (by rw[zg];exact zL _)];have nb:b≠D:=az hb hD;have q1:=q D hD;refine⟨b,o,.dK kvs,(ag nb).trans ad,?_⟩;have e1:∀w z,upd (upd (upd H b w) D z) b u=upd H D z:=fun w z=>by
   funext c;by_cases h1:c=b
   ·subst h1;rw[ad,ag nb,hb]
   ·rw[ag h1]
    by_cases h2:c=D
    ·subst h2;rw[ad,ad]
    ·rw[ag h2,ag h1,ag h2]
  rcases hor with e|e
  ·refine .inl ⟨e,rfl,?_⟩
   rw[hb]at e;cases e;rw[e1];exact q1
  ·refine .inr ⟨e,?_⟩
   rw[ug e];exact q1
section
variable{X:Cx}{pos:Pos}
def Bd(K:W.Frag)(n:Nat)(t:TGs):TG:=fun v σ H Q=>∃a xs,v = .ref a/\SqL K H a xs/\xs.length=n/\t xs σ H Q
theorem yz(K:W.Frag)(hc:X.calm=true)(h:PGs X es t)(hK:X.K=K:=by rfl)
 (hn:(Yn es X.env).length=n:=by rfl) (hst:(Yn es X.env).findIdx? (·.1)=none:=by rfl):PG X (.Tuple es k pos) (Bd K n t):=by
 subst hK;intro pins s σ H v u Q I r hw;obtain⟨a,xs,e1,hq,hl,hw⟩:=hw;subst e1;cases r;obtain⟨its,rv,pl,hz⟩:=I.list hq;have hl2:=rv.length;rw[PyProof.Rows.assign_Tuple];refine zj (wpAny_standAt ?_);have hs:(Yn es X.env).length=its.toArray.size:=by rw[hn,zH];lia
 unfold unpack;rw[hs,hst];refine zj (YH (PySem.W.kun_itemsOf (I.ok.hd hc) pl.isList fun h' hx=>?_));exact h pins _ σ H xs _ Q (I.kept (t':=s.toks) fun b o e=>hx b o (uj (xb e)) e) (by simpa using rv) hw
end
section
variable{X:Cx}
end
end L2
namespace L2
open PySem
theorem CD(h:td σ H fun x H1=>∃b u,x = .ref b/\isD u=true/\Rd H1 b u/\∀o,(H1 b=some u\/H1 b=some (.frz o u))->FE (Itk b o u) g tb { nx:=fun σ' H2=>Th H H2 (D.nx σ'),rt:=fun v H2=>Th H H2 (D.rt v),bk:=fun σ' H2=>Th H H2 (D.bk σ'),ct:=fun σ' H2=>Th H H2 (D.ct σ') } σ (upd H1 b (.frz o u))):BP (sO (pO td) g tb) D σ H:=h
theorem AT(Pv:Nat->St->Hp->Prop)(h0:Pv 0 σ H)(hl:∀i σ H,Pv i σ H->H b=some (.frz o u))
 (hs:∀i x v σ H,i<fM u->rF H u i x v->Pv i σ H->g x σ H fun σ2 H2=>tb { D with nx:=Pv (i+1),ct:=Pv (i+1),bk:=D.nx } σ2 H2) (hd:∀σ H,Pv (fM u) σ H->D.nx σ H):FE (Itk b o u) g tb D σ H:=by
 refine⟨fun i m σ H=>m=fM u-i/\i<=fM u/\Pv i σ H,⟨_,rfl,wQ _,h0⟩,?_⟩;rintro i m σ H ⟨rfl,hi,p⟩;have q:=hl i σ H p;rcases Nat.lt_or_ge i (fM u) with lt|ge
 ·refine .inr ⟨⟨lt,q⟩,Pv (i+1),fun σ' H' p'=>⟨_,by lia,rfl,lt,p'⟩,?_⟩
  rintro y H' ⟨rfl,v,en⟩;exact hs i y v σ _ lt en p
 ·obtain rfl:i=fM u:=Nat.le_antisymm hi ge
  exact .inl ⟨⟨zL _,q⟩,hd σ H p⟩
end L2
namespace L2
open PySem PySem.Spec PyProof.Rows
section
variable{prog:Program}{w:World}{A:Around}{E:Value->Shared->Prop}{s:Shared}
end
section
variable{X:Cx}{tg:Expr}
end
section
variable{X:Cx}{CX:CXT}{k:Nat}{f e:Addr}{fd:FuncData}{ps:List Str}{sp:Sp}{dvs:List V}{ds:List Value}{E:XKs}{x:Str}{p pos:Pos}{e1:Expr}{es:List Expr}{t:TA}
end
abbrev Jk:List Value:=[.type "ValueError",.type "Exception",.type "BaseException",.type "object"]
def GK:List Value->Bool
 | .ref _::r=>GK r
 |l=>l==Jk
section
variable{prog:Program}{w:World}{A:Around}{E:Value->Shared->Prop}{s:Shared}{K:W.Frag}{x C:Addr}{name:Str}{v:Value}
open Builtin Builtin.ObjectAttr
end
section
variable{K:W.Frag}{h:Heap}{C f:Addr}
end
section
variable{prog:Program}{w:World}{A:Around}{E:Value->Shared->Prop}{h:Heap}{g:Array GenState}{d:Drawn}{t:Nat}{os:OsState}
variable{nm q:Str}{C N:Addr}{bs bm bmB:List Value}{hdct:Bool}{sn:List Str}{sub:List Value}{ab:Bool}{col:Option Bool}{dd:Option Addr}{k0 k1 k2 k3 k5:Option Value}{B newId initId:String}
def Ke(h:Heap)(C:Addr)(rest:List Value):Heap:=(h.push { cls:=.type "tuple",data:=.seq rest.toArray }).push { cls:=.ref C,data:=.fields #[.ref h.objs.size,.none,.none,.none,.bool false,.none] }
end
section
variable{P:Program}{w:World}{K:W.Frag}{mg:Str->Option Value}{base:Heap}{N:List Str}{qual:Str}{scope:Scope}{f:Addr}{cd:Value}{A:Around}{outer:List Env}{s₀:Shared}{H₀:Hp}{E:XK}
abbrev Io(a0:Value):Array Value:=#[a0,.none,.none,.none,.bool false,.none]
end
def ExN(C e:Addr):HO:=.ext fun h=>∃a0,h.get? e=some ⟨.ref C,none,.fields (Io a0),#[]⟩
def ExD(C e:Addr):HO:=.ext fun h=>∃od a0,h.get? e=some ⟨.ref C,od,.fields (Io a0),#[]⟩
section
variable{X:Cx}{e o value:Expr}{f:Str}{ta tv:TE}{pos pos':Pos}
def Bo(C:Addr):V->Hp->(Hp->Prop)->Prop
 | .ref p,H,Q=>H p=some (ExN C p)/\Q (upd H p (ExD C p))
 |_,_,_=>False
def ER(C:Addr)(ta tv:TE):TS:=fun D σ H=>tv σ H fun _ H1=>ta σ H1 fun x H2=>Bo C x H2 fun H3=>D.nx σ H3
end
section
variable{X:Cx}{CX:CXT}{k:Nat}{f C:Addr}{fd:FuncData}{ps:List Str}{sp:Sp}{dvs:List V}{ds:List Value}{E:XKs}{x:Str}{np cpos pos:Pos}{e:Expr}{es:List Expr}{t:TA}
def yR(C:Addr)(sp:Sp)(dvs:List V)(E:XKs)(t:TA):TS:=fun _ σ H=>t σ H fun vs H1=>vs.length<=sizeLine/\NoT H1/\∀p,H1 p=none->sp (.ref p::(vs++dvs)) (upd H1 p (ExN C p)) (fun v H2=>v = .non/\H2 p=some (ExD C p)/\Same H1 H2/\E σ (.ref C) none H1) (E σ)
end
def Tp(H:Hp)(xs:List V)(Q:VK):Prop:=∀p H',H' p=some (.tup xs)->Same H H'->(NoT H->NoT H')->Q (.ref p) H'
def EZ:R2
 | .ref x,.ref y,H,Q=>∃xs ys,H x=some (.tup xs)/\H y=some (.tup ys)/\xs.length+ys.length<=sizeLine/\Tp H (xs++ys) Q
 |_,_,_,_=>False
def Jt:V->Option Int->Option Int->Hp->VK->Prop
 | .ref x,lo,hi,H,Q=>∃xs,H x=some (.tup xs)/\Tp H (jS xs lo hi) Q
 |_,_,_,_,_=>False
section
variable{prog:Program}{w:World}{A:Around}{E:Value->Shared->Prop}{s:Shared}
end
section
variable{X:Cx}
end
end L2
namespace L2
open PySem PyProof.Rows
section
variable{prog:Program}{w:World}{A:Around}{E:Value->Shared->Prop}{s:Shared}{it d:Addr}{i ep:Nat}{od:Obj}{es:Array Y4}
end
section
variable{X:Cx}{pins:List (Addr × Obj)}{σ:St}{H:Hp}{s:Shared}
end
section
variable{prog:Program}{w:World}{A:Around}{E:Value->Shared->Prop}{s:Shared}{d:Addr}
end
section
variable{X:Cx}{o e f:Expr}{apos cpos:Pos}{td ty tx:TE}
end
namespace Srt
section
variable{prog:Program}{w:World}{A:Around}{E:Value->Shared->Prop}{s:Shared}
end
end Srt
section
variable{X:Cx}{pins:List (Addr × Obj)}{σ:St}{H:Hp}{s:Shared}
end
section
variable{X:Cx}
end
section
variable{prog:Program}{w:World}{A:Around}{E:Value->Shared->Prop}{s:Shared}
end
section
variable{X:Cx}
end
open Lean Meta Simp
end L2
namespace L2
section
variable{κ:Type}[DecidableEq κ]
end
structure Qr where
 d:Int
 a:List Nat
 p:Int
 b:List Nat
 q:Int
abbrev Wt:=Int × Int
def hit(r:Qr)(x y:List Nat):Option Wt:=if r.a=x/\r.b=y then some (r.p,r.q) else if r.a=y/\r.b=x then some (r.q,r.p) else none
def JV(r:Qr)(x y:List Nat)(D:Int)(o:Option Wt):Option Wt:=if r.d=D then (hit r x y).or o else o
def val(R:List Qr)(x y:List Nat)(D:Int):Option Wt:=R.foldl (fun o r=>JV r x y D o) none
def pp(R:List Qr):Prop:=∀r∈R,r.a≠r.b
theorem Bj(h:uN (cQ (pO td) n g ks tt te) σ H fun v H1=>D.nx (σ.set i (some v)) H1):BP (vS (cQ (pO td) n g ks tt te) (fG i)) D σ H:=h
end L2
namespace L2
open PySem PyProof.Rows
section
variable{X:Cx}{e c:Expr}{te:TE}{ts:TO}{pos p2:Pos}
end
section
variable{X:Cx}
end
open Lean Meta Simp
end L2
namespace L2
section
variable{N:Type}{A:N->N->Prop}{g:N}
def Wk(A:N->N->Prop)(g:N):Nat->N->Prop
 |0,x=>x=g
 |k+1,x=>∃y,Wk A g k y/\A y x
def Far(A:N->N->Prop)(g:N)(k:Nat)(x:N):Prop:=Wk A g k x/\∀j,j<k -> ¬ Wk A g j x
end
section
variable{A:List Nat->List Nat->Prop}{g:List Nat}
def Nx(A:List Nat->List Nat->Prop)(g x y:List Nat):Prop:=∃k,Far A g (k+1) x/\Far A g k y/\A x y/\∀z,Far A g k z->A x z -> ¬ z<y
def Chn(A:List Nat->List Nat->Prop)(g:List Nat):List (List Nat)->Prop
 | []=>False
 | [x]=>x=g
 |x::y::r=>Nx A g x y/\Chn A g (y::r)
end
section
variable{N:Type}{A:N->N->Prop}{g:N}
def Up(A:N->N->Prop)(g:N)(k:Nat)(F:List N)(x:N)(n:Nat):Prop:=(n<=k/\Far A g n x)\/(n=k+1/\x∈F)
end
def pr(r:Qr)(x y:List Nat):Prop:=(r.a=x/\r.b=y)\/(r.a=y/\r.b=x)
def Lk(R:List Qr)(d:Int)(x y:List Nat):Prop:=∃r∈R,r.d<=d/\pr r x y
def Cov(R:List Qr)(C:List (List Nat)):Prop:=∀r∈R,r.a∈C/\r.b∈C
structure SD(m:List (Key × V))(P:List Nat->Nat->Prop):Prop where
 nd:(m.map (·.1)).Nodup
 to:∀k v,(k,v)∈m->∃(x:List Nat) (n:Nat),k = .inr ⟨⟨x⟩⟩/\v = .int n/\P x n
 fr:∀x (n:Nat),P x n->((.inr ⟨⟨x⟩⟩:Key),V.int n)∈m
def Rows(R:List Qr)(C:List (List Nat)):Prop:=∀r∈R,(0<=r.d/\r.d<=146096)/\r.a∈C/\r.b∈C/\r.a≠r.b/\(1<=r.p/\r.p<=1000000000)/\1<=r.q/\r.q<=1000000000
end L2
namespace L2
open PySem PyProof.Rows
section
variable{P:Program}{w:World}{A:Around}{E:Value->Shared->Prop}{s:Shared}
abbrev skd(P:Program)(w:World):=PySem.strKind P w
def Kc(P:Program)(w:World)(h:Heap)(a:Addr)(ls:List (List Nat))(ld:Bool):Prop:=∃o es ep t,h.get? a=some o/\o.ExactSet/\o.data = .set es ep t/\ElemsOf (skd P w) es.toList/\es.size<scanBound/\t.fits es.size=true/\t.led=ld/\(0<es.size->t.plain=false)/\(es.toList.map fun e=>jc e.2).Nodup/\∀l,l∈es.toList.map (fun e=>jc e.2)↔l∈ls
end
section
variable{P:Program}{w:World}{A:Around}{E:Value->Shared->Prop}{s:Shared}{a I:Addr}{o:Obj}{es:Array (Int × Value)}{ep i n:Nat}{t:SetTable}
end
section
variable{P:Program}{w:World}{A:Around}{E:Value->Shared->Prop}{s:Shared}{a:Addr}{ls:List (List Nat)}
def Kg(ls:List (List Nat))(vs:List Value):Prop:=(∀v∈vs,IsS v)/\(vs.map jc).Nodup/\(∀l,l∈vs.map jc↔l∈ls)/\vs.length<scanBound
end
end L2
namespace L2
open PySem PySem.Spec PyProof.Rows
section
variable{X:Cx}{x y:Str}{p p2 pos pos2:Pos}{e:Expr}{te:TE}{pins:List (Addr × Obj)}{σ:St}{H:Hp}{s:Shared}
end
end L2
namespace L2
open PySem PyProof.Rows
section
variable{X:Cx}
end
end L2
namespace L2
open PySem
def kI:Key->Int
 | .inl i=>i
 | .inr _=>0
def vI:V->Int
 | .int i=>i
 |_=>0
def sE(P:Int->Bool):List (Key × V)->Int
 | []=>0
 |e::m=>(if P (kI e.1)=true then vI e.2 else 0)+sE P m
def gM(m:List (Key × V))(d:Int):Int:=match dN m (.inl d) with
 |some v=>vI v
 |none=>0
def JG(m:List (Key × V)):Prop:=∀k v,(k,v)∈m->∃D a,k = .inl D/\v = .int a
abbrev PR:=Int × List Nat × List Nat × Int
def sR(x y:List Nat)(P:Int->Bool):List PR->Int
 | []=>0
 |z::R=>(if z.2.1=x/\z.2.2.1=y/\P z.1=true then z.2.2.2 else 0)+sR x y P R
structure MM(m:List (Key × V))(x y:List Nat)(R:List PR):Prop where
 nd:(m.map (·.1)).Nodup
 it:JG m
 sm:∀P,sE P m=sR x y P R
section
variable{X:Cx}
end
theorem HK{K:W.Frag}{n:Nat}{g:TG}{ks:List Nat}{tt:TT}{te:TE}{σ:St}{H1:Hp}{Q:VK}(a:Addr)(xs:List V)(P:Addr->Nat->List V->Hp->Prop)(hz:xs.length<sizeLine)
 (h0:∀D,H1 D=none->P D 0 [] (upd H1 D (.lst []))) (hD:∀D i ys H',P D i ys H'->H' D=some (.lst ys)/\SqT K H' a xs/\ys.length<=i)
 (hs:∀D i y ys H' (zs:St) (N1:VK) (N0:Hp->Prop),xs[i]? = some y->P D i ys H'->zs.length=n->(∀v H6,H6 D=some (.lst ys)->P D (i+1) (ys++[v]) (upd H6 D (.lst (ys++[v])))->N1 v H6)->(∀H6,P D (i+1) ys H6->N0 H6) ->
  g y (zs++ks.map fun k=>(σ[k]?).join) H' fun σ4 H4=>(∃zs4:St,zs4.length=n/\σ4=zs4++ks.map fun k=>(σ[k]?).join)/\tt σ4 H4 fun b H5=>if b=true then te σ4 H5 N1 else N0 H5)
 (hd:∀D ys H',P D xs.length ys H'->Q (.ref D) H'):CEl (Itt K a) n g ks tt te σ H1 Q:=by
 intro D hDn;refine⟨fun i m ys H'=>m=xs.length-i/\i<=xs.length/\P D i ys H',⟨_,rfl,wQ _,h0 D hDn⟩,?_⟩;rintro i m ys H' ⟨rfl,hi,p⟩;obtain⟨d1,d2,d3⟩:=hD D i ys H' p;refine⟨d1,?_⟩;rcases Nat.lt_or_ge i xs.length with lt|ge
 ·refine .inr ⟨⟨xs,xs[i],d2,by simp[lt]⟩,?_⟩
  rintro x H3 ⟨rfl,hx⟩ zs hzs;exact hs D i x ys _ zs _ _ (hx xs d2) p hzs (fun v H6 h6 p6=>⟨h6,by lia,_,by lia,rfl,lt,p6⟩) fun H6 p6=>⟨_,by lia,rfl,lt,p6⟩
 ·obtain rfl:i=xs.length:=Nat.le_antisymm hi ge
  exact .inl ⟨⟨xs,d2,zL _⟩,hd D ys H' p⟩
def Kh{β:Type}(mk:β->List V)(H:Hp)(v:V)(b:β):Prop:=∃t,v = .ref t/\H t=some (.tup (mk b))
end L2
namespace K22
open PySem L2 K19
theorem Bp(h:tl σ H fun x H1=>∃a,x = .ref a/\(∃xs,SqT K H1 a xs)/\CEl (Itt K a) n g ks tt te σ H1 Q):cQ (zD K tl) n g ks tt te σ H Q:=h
theorem C8{K:W.Frag}{β γ:Type}{n:Nat}{g:TG}{ks:List Nat}{tt:TT}{te:TE}{σ:St}{H:Hp}{Q:VK}{S:Hp->V->γ->Prop}(hS:∀(G G':Hp) (v:V) (c:γ),(∀t l,G t=some (.tup l)->G' t=some (.tup l))->S G v c->S G' v c)
 (a:Addr) (vs:List V) (R:List β) (Rel:V->β->Prop) (p:β->Bool) (f:β->γ) (ha:H a=some (.tup vs)) (hN:NoT H) (hR:A2 Rel vs R) (hz:vs.length<sizeLine)
 (hs:∀v b,b∈R->Rel v b->∀G (zs:St) (N1:VK) (N0:Hp->Prop),Same H G->NoT G->zs.length=n->(p b=true->∀u G',Same G G'->NoT G'->S G' u (f b)->N1 u G')->(p b=false->∀G',Same G G'->NoT G'->N0 G') ->
  g v (zs++ks.map fun k=>(σ[k]?).join) G fun σ4 H4=>(∃zs4:St,zs4.length=n/\σ4=zs4++ks.map fun k=>(σ[k]?).join)/\tt σ4 H4 fun b H5=>if b=true then te σ4 H5 N1 else N0 H5)
 (q:∀D ws G,H D=none->Same H G->NoT G->G D=some (.lst ws)->A2 (S G) ws ((R.filter p).map f)->Q (.ref D) G):CEl (Itt K a) n g ks tt te σ H Q:=by
 refine HK a vs (fun D i ys G=>H D=none/\Same H G/\NoT G/\G D=some (.lst ys)/\ys.length<=i/\A2 (S G) ys (((R.take i).filter p).map f)) hz ?_ ?_ ?_ ?_
 ·exact fun D hD=>⟨hD,ah _ hD,aq hN rfl,ad,zL _,.nil⟩
 ·rintro D i ys G ⟨hD,sm,_,gd,ly,_⟩
  exact⟨gd,SqT.of (sm _ _ ha),ly⟩
 ·rintro D i y ys G zs N1 N0 hy ⟨hD,sm,nG,gd,ly,A⟩ hzs n1 n0
  obtain⟨b,hb,rb⟩:=hR.at_ hy;have mb:=ww hb;have et:R.take (i+1)=R.take i++[b]:=by rw[Yx,hb];rfl
  rw[et,Ze,vX]at n1 n0;refine hs y b mb rb G zs N1 N0 sm nG hzs (fun pb u G' s' nG' hu=>?_) fun pb G' s' nG'=>n0 G' ⟨hD,sm.trans s',nG',s' _ _ gd,Nat.le_succ_of_le ly,?_⟩
  ·have gd':=s' _ _ gd
   have kt:∀t l,G' t=some (.tup l)->upd G' D (.lst (ys++[u])) t=some (.tup l):=fun t l e=>by
    rw[ag fun z=>by rw[z,gd']at e;cases e];exact e
   refine n1 _ _ gd' ⟨hD,fun c o e=>?_,aq nG' rfl,ad,by rw[zi];exact Yy ly,?_⟩
   ·rw[ag (az e hD)];exact s' _ _ (sm _ _ e)
   ·rw[Zi pb,Z3]
    exact(A.imp fun _ _ _ _ h=>hS _ _ _ _ kt (hS _ _ _ _ (fun t l e=>s' _ _ e) h)).snoc (hS _ _ _ _ kt hu)
  ·rw[Zc (by rw[pb];decide),Z3,Z6,Zs]
   exact A.imp fun _ _ _ _ h=>hS _ _ _ _ (fun t l e=>s' _ _ e) h
 ·rintro D ys G ⟨hD,sm,nG,gd,_,A⟩
  rw[hR.len,Zo]at A;exact q D ys G hD sm nG gd A
end K22
namespace L2
open PySem PySem.Spec PyProof.Rows
section
variable{X:Cx}{tg l:Expr}{tl:TE}
def IP(K:W.Frag)(tl:TE):TI:=fun σ H R=>tl σ H fun x H1=>∃a,x = .ref a/\((∃xs,SqL K H1 a xs)/\R (Itl K a) H1\/(∃xs,SqT K H1 a xs)/\R (Itt K a) H1)
theorem Dz(K:W.Frag)(hl:PE X l tl)(h:X.K=K:=by rfl):PI X tg l (IP K tl):=by
 subst h;intro pins s σ H R I h;have hb:∀ {s1:Shared} {H1:Hp},Inv X pins σ H1 s1->∀b∈[s1.heap.objs.size],lL X pins H1 b:=fun {s1 H1} I1 b hb=>by
  rw[zq.mp hb];exact I1.fpOk (zL _) (I1.hok.fresh (zL _))
 refine thn (hl pins s σ H _ I h) fun v s1 ⟨x,H1,I1,r1,a,e,q⟩=>?_;subst e;cases r1;rcases q with ⟨⟨xs,hq⟩,q⟩|⟨⟨xs,hq⟩,q⟩
 ·obtain⟨its,rv,p,hz⟩:=I1.list hq
  exact YY p.isList ⟨s1.heap.objs.size,[s1.heap.objs.size],_,_,H1,rfl,I1.kept (t':=s1.toks) fun b o e=>Heap.get?_push_of_some _ e,rR a _,⟨_,Heap.get?_push_size _ rfl,rfl,rfl⟩,hb I1,q⟩
 ·obtain⟨its,rv,p,hz⟩:=I1.tuple hq
  exact wpAny_pyIter_tuple (show s1.heap.IsTuple a its.toArray from p) ⟨s1.heap.objs.size,[s1.heap.objs.size],_,_,H1,rfl,I1.kept (t':=s1.toks) fun b o e=>Heap.get?_push_of_some _ e,oY a _,⟨_,Heap.get?_push_size _ rfl,rfl,rfl⟩,hb I1,q⟩
end
def JW(t1 t2:TE):TE:=fun σ H Q=>t1 σ H Q\/t2 σ H Q
theorem Hh{X:Cx}{e:Expr}{t1 t2:TE}(h1:PE X e t1)(h2:PE X e t2):PE X e (JW t1 t2):=fun pins s σ H Q I h=>h.elim (h1 pins s σ H Q I) (h2 pins s σ H Q I)
theorem IU{K:W.Frag}{n:Nat}{g:TG}{ks:List Nat}{tt:TT}{te tl:TE}{σ:St}{H:Hp}{Q:VK}(h:tl σ H fun x H1=>∃a,x = .ref a/\((∃xs,SqL K H1 a xs)/\CEl (Itl K a) n g ks tt te σ H1 Q\/(∃xs,SqT K H1 a xs)/\CEl (Itt K a) n g ks tt te σ H1 Q)):cQ (IP K tl) n g ks tt te σ H Q:=h
end L2
namespace L2
open PySem PyProof.Rows
def J8(k:Int)(n:Nat):List Nat:=sliceRange (ZK none none (some k) n).1 (ZK none none (some k) n).2.1 (ZK none none (some k) n).2.2
def stp{α:Type}(k:Int)(xs:List α):List α:=(J8 k xs.length).filterMap fun i=>xs[i]?
section
variable{X:Cx}{e c:Expr}{te:TE}{ts:TO}{pos p2:Pos}
def tSt(K:W.Frag)(te:TE)(ts:TO):TE:=fun σ H Q=>te σ H fun x H1=>ts σ H1 fun o H2=>∃k,o=some k/\(k=1\/k = -1)/\∃a xs,x = .ref a/\SqL K H2 a xs/\∀p,H2 p=none->Q (.ref p) (upd H2 p (.lst (stp k xs)))
end
end L2
namespace L2
open PySem PySem.Spec PyProof.Rows
section
variable{X:Cx}
end
end L2
namespace L2
open PySem PyProof.Rows
def DfN(K:W.Frag)(mg:Str->Option Value)(x:Str)(st:Stmt):Prop:=∃f fd,mg x=some (.ref f)/\Fun K x x st f fd
def DfM(K:W.Frag)(C:Addr)(m q:Str)(st:Stmt):Prop:=∃f fd,Aa K C m f/\Fun K m q st f fd
def Fo(P:Program)(w:World)(K:W.Frag)(mg:Str->Option Value)(base:Heap)(x:Str)(k:Nat)(sp:Sp):Prop:=
 ∃f fd ps,mg x=some (.ref f)/\ZP K (.ref f)=true/\Binds K fd ps []/\h_ P w K mg base (XE P w) k f fd ps sp
def Mo(P:Program)(w:World)(K:W.Frag)(mg:Str->Option Value)(base:Heap)(C:Addr)(m:Str)(k:Nat)(sp:Sp):Prop:=
 ∃f fd ps,Aa K C m f/\Binds K fd ps []/\h_ P w K mg base (XE P w) k f fd ps sp
def MkC(K:W.Frag)(C:Addr):Prop:=PySem.W.makesIn K C=true/\ZP K (.ref C)=true
section
variable{P:Program}{w:World}{K:W.Frag}{mg:Str->Option Value}{base:Heap}{x m qual:Str}{st:Stmt}{C:Addr}{N:List Str}{n k:Nat}{sp:Sp}
def eS(x qual:Str)(st:Stmt)(ps:List Str):Prop:=∀(kV doc pm:Value) (an:Option Addr) (cdv ct:Value) (us:List Value),us.length=ps.length->bindArgs (ZE x qual (gv st) (aZ st) (au st) .none kV doc pm an cdv ct) ⟨us,[]⟩=pure (ps.zip us)
def EQ(P:Program)(w:World)(K:W.Frag)(mg:Str->Option Value)(base:Heap)(N:List Str)(qual:Str)(st:Stmt)(k:Nat)(sp:Sp):Prop:=
 ∀(f:Addr) (cdv:Value) (A:Around) (outer:List Env) (s:Shared) (H:Hp) (vs:List V) (Q:VK) (E:XK),N.Nodup->(A.deeper (envOfC qual (au st) s.heap.objs.size f cdv)).units+100<cLine->Room k (A.deeper (envOfC qual (au st) s.heap.objs.size f cdv))->sp vs H Q E ->
  NoT H/\∃t,PSs (bV (XE P w) P w K mg base N qual (au st) f cdv A outer s H (gcE H E)) (aZ st) t/\t { nx:=fun _ H'=>∃G,Gc H G H'/\Q .non G,rt:=fun v H'=>∃G,Gc H G H'/\Q v G } (cS N vs) H
def Fm(P:Program)(w:World)(K:W.Frag)(mg:Str->Option Value)(base:Heap)(N:List Str)(qual:Str)(st:Stmt)(k:Nat)(sp:Sp):Prop:=
 ∀(f:Addr) (cdv:Value) (A:Around) (outer:List Env) (s:Shared) (H:Hp) (vs:List V) (Q:VK) (E:XK),N.Nodup->(A.deeper (envOfC qual (au st) s.heap.objs.size f cdv)).units+100<cLine->Room k (A.deeper (envOfC qual (au st) s.heap.objs.size f cdv))->sp vs H Q E ->
  ∃t,PSs (bV (XE P w) P w K mg base N qual (au st) f cdv A outer s H E) (aZ st) t/\t { nx:=fun _ H'=>Q .non H',rt:=Q } (cS N vs) H
theorem DfN.okG(F:DfN K mg x st)(N:List Str)(n:Nat)(S:bp N (N.take n) (au st))(b:eS x x st (N.take n))(len:∀vs H Q E,sp vs H Q E->vs.length=(N.take n).length)
 (h:EQ P w K mg base N x st k sp):Fo P w K mg base x (k+1) sp:=by
 obtain⟨f,fd,m,F⟩:=F;exact⟨f,fd,_,m,F.kp,F.binds b,F.okG S len fun cdv A outer s H vs Q E hr hs=>h f cdv A outer s H vs Q E S.nd (c8 hr) hr hs⟩
theorem DfN.okX(F:DfN K mg x st)(N:List Str)(n:Nat)(S:bp N (N.take n) (au st))(b:eS x x st (N.take n))(len:∀vs H Q E,sp vs H Q E->vs.length=(N.take n).length)
 (h:Fm P w K mg base N x st k sp):Fo P w K mg base x (k+1) sp:=by
 obtain⟨f,fd,m,F⟩:=F;exact⟨f,fd,_,m,F.kp,F.binds b,F.okX S len fun cdv A outer s H vs Q E hr hs=>h f cdv A outer s H vs Q E S.nd (c8 hr) hr hs⟩
theorem DfM.okG(F:DfM K C m qual st)(N:List Str)(n:Nat)(S:bp N (N.take n) (au st))(b:eS m qual st (N.take n))(len:∀vs H Q E,sp vs H Q E->vs.length=(N.take n).length)
 (h:EQ P w K mg base N qual st k sp):Mo P w K mg base C m (k+1) sp:=by
 obtain⟨f,fd,m,F⟩:=F;exact⟨f,fd,_,m,F.binds b,F.okG S len fun cdv A outer s H vs Q E hr hs=>h f cdv A outer s H vs Q E S.nd (c8 hr) hr hs⟩
theorem DfM.okX(F:DfM K C m qual st)(N:List Str)(n:Nat)(S:bp N (N.take n) (au st))(b:eS m qual st (N.take n))(len:∀vs H Q E,sp vs H Q E->vs.length=(N.take n).length)
 (h:Fm P w K mg base N qual st k sp):Mo P w K mg base C m (k+1) sp:=by
 obtain⟨f,fd,m,F⟩:=F;exact⟨f,fd,_,m,F.binds b,F.okX S len fun cdv A outer s H vs Q E hr hs=>h f cdv A outer s H vs Q E S.nd (c8 hr) hr hs⟩
end
section
variable{X:Cx}{k:Nat}{C:Addr}{sp:Sp}{E:XKs}{x m:Str}{p pos apos:Pos}{e o:Expr}{es:List Expr}{ta:TE}{t:TA}
theorem Jf(F:Fo X.prog X.w X.K X.mg X.base x k sp)(hr:Room k X.A)(hg:Gl X x)(hx:bS (XE X.prog X.w) X E)
 (ha:PA X (e::es) t) (hdb:(x==("__debug__":Str))=false:=by decide) (he:starEach (e::es) X.env=(false,eval e X.env)::starEach es X.env:=by rfl) (hpl:(backTo pos (starEach es X.env)).any (·.1)=false:=by rfl) :
 PE X (.Call (.Name x p) (e::es) [] pos) (lY sp [] E t):=by
 obtain⟨f,fd,ps,m,kp,b,F⟩:=F;exact AQ F hr hg m kp b .nil hx ha hdb he hpl
theorem b7{pl:Sem Bool}(he:PE X o ta)(c:Cls X.K C)(F:Mo X.prog X.w X.K X.mg X.base C m k sp)(hr:Room k X.A)(hx:bS (XE X.prog X.w) X E)(ha:PA X (e::es) t)
 (hst:starEach (e::es) X.env=(false,eval e X.env)::starEach es X.env:=by rfl) (hpl:(backTo pos (starEach es X.env)).any (·.1)=false:=by rfl)
 (ht:eval (.Call (.Attribute o m apos) (e::es) [] pos) X.env=(do
  let ov <- eval o X.env
  standAt apos.atName
  let (f,first) <- holding [ov] (getMethod ov m pl)
  callWith pos f first (backTo pos (starEach (e::es) X.env)) (backToKw pos (Ye [] X.env))):=by rfl) :
 PE X (.Call (.Attribute o m apos) (e::es) [] pos) (mq C m sp [] E ta t):=by
 obtain⟨f,fd,ps,mm,b,F⟩:=F;exact Bv he c mm F hr b .nil hx ha hst hpl ht
theorem gA{pl:Sem Bool}(he:PE X o ta)(c:Cls X.K C)(F:Mo X.prog X.w X.K X.mg X.base C m k sp)(hr:Room k X.A)(hx:bS (XE X.prog X.w) X E)
 (ht:eval (.Call (.Attribute o m apos) [] [] pos) X.env=(do
  let ov <- eval o X.env
  standAt apos.atName
  let (f,first) <- holding [ov] (getMethod ov m pl)
  callWith pos f first (backTo pos (starEach [] X.env)) (backToKw pos (Ye [] X.env))):=by rfl) :
 PE X (.Call (.Attribute o m apos) [] [] pos) (mq C m sp [] E ta h8):=by
 obtain⟨f,fd,ps,mm,b,F⟩:=F;exact zn he c mm F hr b .nil hx ht
theorem Fi(M:MkC X.K C)(F:Mo X.prog X.w X.K X.mg X.base C "__init__" k sp)(hr:Room (k+1) X.A)(hg:Gl X x)(hm:X.mg x=some (.ref C))(hx:bS (XE X.prog X.w) X E)
 (ha:PA X (e::es) t) (hdb:(x==("__debug__":Str))=false:=by decide) (he:starEach (e::es) X.env=(false,eval e X.env)::starEach es X.env:=by rfl) (hpl:(backTo pos (starEach es X.env)).any (·.1)=false:=by rfl) :
 PE X (.Call (.Name x p) (e::es) [] pos) (pF C sp [] E t):=by
 obtain⟨f,fd,ps,mm,b,F⟩:=F;exact CO ⟨M.1,mm.at_,mm.fn,M.2⟩ F hr hg hm b .nil hx ha hdb he hpl
theorem tH(M:MkC X.K C)(F:Mo X.prog X.w X.K X.mg X.base C "__init__" k sp)(hr:Room (k+1) X.A)(hg:Gl X x)(hm:X.mg x=some (.ref C))(hx:bS (XE X.prog X.w) X E)
 (hdb:(x==("__debug__":Str))=false:=by decide):PE X (.Call (.Name x p) [] [] pos) (pF C sp [] E h8):=by
 obtain⟨f,fd,ps,mm,b,F⟩:=F;exact zy ⟨M.1,mm.at_,mm.fn,M.2⟩ F hr hg hm b .nil hx hdb
end
section
variable{X:Cx}{k j i:Nat}{C:Addr}{sp:Sp}{E:XKs}{x m:Str}{p pos pos' apos:Pos}{e o a b:Expr}{es:List Expr}{ta tb te:TE}{t:TA}
theorem aH(F:Fo X.prog X.w X.K X.mg X.base x k sp)(hr:Room j X.A)(hx:bS (XE X.prog X.w) X E)(ha:PA X (e::es) t)(hk:k<=j:=by decide)(hg:Gl X x:=by rfl)(hdb:(x==("__debug__":Str))=false:=by decide)(he:starEach (e::es) X.env=(false,eval e X.env)::starEach es X.env:=by rfl)(hpl:(backTo pos (starEach es X.env)).any (·.1)=false:=by rfl):PE X (.Call (.Name x p) (e::es) [] pos) (lY sp [] E t):=Jf F (hr.mono hk) hg hx ha hdb he hpl
theorem aO(i:Nat){e:Expr}(hN:X.N.Nodup)(he:PE X e te)(hi:X.N[i]? = some x:=by rfl)(hx:Loc X.env.scope x:=by first|exact Or.inl rfl|exact Or.inr rfl)(hs:swapsWith e (some (.Name x pos')) pos.line X.env=pure false:=by rfl)(hf:X.fn x=true\/X.env.scope.names.lookup x=some .local:=by first|exact .inl rfl|exact .inr rfl|assumption):PS X (.Assign [.Name x pos'] e pos) (vS te (fG i)):=Hx hN hi hx he hs hf
theorem aB(K:W.Frag)(ha:PE X a ta)(hb:PE X b tb)(hs:tE b:=by exact fun _ _=>rfl)(hK:X.K=K:=by rfl):PE X (.Subscript a b pos) (tOp (gIx K) ta tb):=HV (D5 K hK) ha hb hs
theorem aN{op:CmpOp}{r:R2}(ho:OpR X (rW op) r)(ha:PE X a ta)(hb:PE X b tb)(hm:Z7 op b=false:=by exact bY _):PT X (.Compare a [op] [b] pos) (oR (tOp r ta tb)):=jP ho ha hb hm
theorem fa1{e0:Expr}{t0:TE}(h0:PE X e0 t0)(n0:bW e0=true:=by rfl):PA X [e0] (cc t0 h8):=FA.pa (bc h0 ce n0)
theorem fa2{e0 e1:Expr}{t0 t1:TE}(h0:PE X e0 t0)(h1:PE X e1 t1)(n0:bW e0=true:=by rfl)(n1:bW e1=true:=by rfl):PA X [e0,e1] (cc t0 (cc t1 h8)):=FA.pa (bc h0 (bc h1 ce n1) n0)
theorem fa3{e0 e1 e2:Expr}{t0 t1 t2:TE}(h0:PE X e0 t0)(h1:PE X e1 t1)(h2:PE X e2 t2)(n0:bW e0=true:=by rfl)(n1:bW e1=true:=by rfl)(n2:bW e2=true:=by rfl):PA X [e0,e1,e2] (cc t0 (cc t1 (cc t2 h8))):=FA.pa (bc h0 (bc h1 (bc h2 ce n2) n1) n0)
theorem fa4{e0 e1 e2 e3:Expr}{t0 t1 t2 t3:TE}(h0:PE X e0 t0)(h1:PE X e1 t1)(h2:PE X e2 t2)(h3:PE X e3 t3)(n0:bW e0=true:=by rfl)(n1:bW e1=true:=by rfl)(n2:bW e2=true:=by rfl)(n3:bW e3=true:=by rfl):PA X [e0,e1,e2,e3] (cc t0 (cc t1 (cc t2 (cc t3 h8)))):=FA.pa (bc h0 (bc h1 (bc h2 (bc h3 ce n3) n2) n1) n0)
theorem fa5{e0 e1 e2 e3 e4:Expr}{t0 t1 t2 t3 t4:TE}(h0:PE X e0 t0)(h1:PE X e1 t1)(h2:PE X e2 t2)(h3:PE X e3 t3)(h4:PE X e4 t4)(n0:bW e0=true:=by rfl)(n1:bW e1=true:=by rfl)(n2:bW e2=true:=by rfl)(n3:bW e3=true:=by rfl)(n4:bW e4=true:=by rfl):PA X [e0,e1,e2,e3,e4] (cc t0 (cc t1 (cc t2 (cc t3 (cc t4 h8))))):=FA.pa (bc h0 (bc h1 (bc h2 (bc h3 (bc h4 ce n4) n3) n2) n1) n0)
theorem fa6{e0 e1 e2 e3 e4 e5:Expr}{t0 t1 t2 t3 t4 t5:TE}(h0:PE X e0 t0)(h1:PE X e1 t1)(h2:PE X e2 t2)(h3:PE X e3 t3)(h4:PE X e4 t4)(h5:PE X e5 t5)(n0:bW e0=true:=by rfl)(n1:bW e1=true:=by rfl)(n2:bW e2=true:=by rfl)(n3:bW e3=true:=by rfl)(n4:bW e4=true:=by rfl)(n5:bW e5=true:=by rfl):PA X [e0,e1,e2,e3,e4,e5] (cc t0 (cc t1 (cc t2 (cc t3 (cc t4 (cc t5 h8)))))):=FA.pa (bc h0 (bc h1 (bc h2 (bc h3 (bc h4 (bc h5 ce n5) n4) n3) n2) n1) n0)
theorem cC{E:XKs}{msg:Str}{j1}{p1 np cpos:Pos}(O:PySem.W.excIn X.K C Jk "ValueError.__new__" = true)(hm:X.mg x=some (.ref C))(hx:wz X E)(hc:X.calm=true:=by rfl)(hg:Gl X x:=by rfl)(hdb:(x==("__debug__":Str))=false:=by decide):PS X (.Raise (some (.Call (.Name x np) [.Constant (.str msg) j1 p1] [] cpos)) none pos) (xg C E (cc (tC (.str msg)) h8)):=Bu O PySem.F.excBase_ValueError hc hg hm hx (fa1 AS) hdb
end
def BdG(P:Program)(w:World)(K:W.Frag)(mg:Str->Option Value)(base:Heap)(N:List Str)(qual:Str)(st:Stmt)(k:Nat)(vs:List V)(r:Hp->VK->XK->Prop):Prop:=∀(fA:Addr) (cdv:Value) (A:Around) (outer:List Env) (s:Shared) (H:Hp) (Q:VK) (E:XK),N.Nodup->(A.deeper (envOfC qual (au st) s.heap.objs.size fA cdv)).units+100<cLine->Room k (A.deeper (envOfC qual (au st) s.heap.objs.size fA cdv))->r H Q E->NoT H/\∃t,PSs (bV (XE P w) P w K mg base N qual (au st) fA cdv A outer s H (gcE H E)) (aZ st) t/\t { nx:=fun _ H'=>∃G,Gc H G H'/\Q .non G,rt:=fun v H'=>∃G,Gc H G H'/\Q v G } (cS N vs) H
def BdX(P:Program)(w:World)(K:W.Frag)(mg:Str->Option Value)(base:Heap)(N:List Str)(qual:Str)(st:Stmt)(k:Nat)(vs:List V)(r:Hp->VK->XK->Prop):Prop:=∀(fA:Addr) (cdv:Value) (A:Around) (outer:List Env) (s:Shared) (H:Hp) (Q:VK) (E:XK),N.Nodup->(A.deeper (envOfC qual (au st) s.heap.objs.size fA cdv)).units+100<cLine->Room k (A.deeper (envOfC qual (au st) s.heap.objs.size fA cdv))->r H Q E->∃t,PSs (bV (XE P w) P w K mg base N qual (au st) fA cdv A outer s H E) (aZ st) t/\t { nx:=fun _ H'=>Q .non H',rt:=Q } (cS N vs) H
section
variable{P:Program}{w:World}{K:W.Frag}{mg:Str->Option Value}{base:Heap}{x m qual:Str}{st:Stmt}{C:Addr}{k:Nat}
theorem DfN.g1{f:V->Hp->VK->XK->Prop}(F:DfN K mg x st)(N:List Str)(h:∀x0,BdG P w K mg base N x st k [x0] (f x0))(S:bp N (N.take 1) (au st):=by exact⟨rfl,rfl,rfl,by decide +kernel,rfl,by decide +kernel,by decide +kernel⟩)(b:eS x x st (N.take 1):=by intro _ _ _ _ _ _ us hl;obtain⟨_,e⟩:=ex1 hl;subst e;rfl)(l:(N.take 1).length=1:=by rfl):Fo P w K mg base x (k+1) (sp1 f):=
 F.okG N 1 S b (fun vs H Q E h=>(sp1.len h).trans l.symm) fun fA cdv A outer s H vs Q E ND HU hr hs=>by obtain⟨x0,rfl,hs⟩:=sp1.inv hs;exact h x0 fA cdv A outer s H Q E ND HU hr hs
theorem DfN.x1{f:V->Hp->VK->XK->Prop}(F:DfN K mg x st)(N:List Str)(h:∀x0,BdX P w K mg base N x st k [x0] (f x0))(S:bp N (N.take 1) (au st):=by exact⟨rfl,rfl,rfl,by decide +kernel,rfl,by decide +kernel,by decide +kernel⟩)(b:eS x x st (N.take 1):=by intro _ _ _ _ _ _ us hl;obtain⟨_,e⟩:=ex1 hl;subst e;rfl)(l:(N.take 1).length=1:=by rfl):Fo P w K mg base x (k+1) (sp1 f):=
 F.okX N 1 S b (fun vs H Q E h=>(sp1.len h).trans l.symm) fun fA cdv A outer s H vs Q E ND HU hr hs=>by obtain⟨x0,rfl,hs⟩:=sp1.inv hs;exact h x0 fA cdv A outer s H Q E ND HU hr hs
theorem DfM.g1{f:V->Hp->VK->XK->Prop}(F:DfM K C m qual st)(N:List Str)(h:∀x0,BdG P w K mg base N qual st k [x0] (f x0))(S:bp N (N.take 1) (au st):=by exact⟨rfl,rfl,rfl,by decide +kernel,rfl,by decide +kernel,by decide +kernel⟩)(b:eS m qual st (N.take 1):=by intro _ _ _ _ _ _ us hl;obtain⟨_,e⟩:=ex1 hl;subst e;rfl)(l:(N.take 1).length=1:=by rfl):Mo P w K mg base C m (k+1) (sp1 f):=
 F.okG N 1 S b (fun vs H Q E h=>(sp1.len h).trans l.symm) fun fA cdv A outer s H vs Q E ND HU hr hs=>by obtain⟨x0,rfl,hs⟩:=sp1.inv hs;exact h x0 fA cdv A outer s H Q E ND HU hr hs
theorem DfM.x1{f:V->Hp->VK->XK->Prop}(F:DfM K C m qual st)(N:List Str)(h:∀x0,BdX P w K mg base N qual st k [x0] (f x0))(S:bp N (N.take 1) (au st):=by exact⟨rfl,rfl,rfl,by decide +kernel,rfl,by decide +kernel,by decide +kernel⟩)(b:eS m qual st (N.take 1):=by intro _ _ _ _ _ _ us hl;obtain⟨_,e⟩:=ex1 hl;subst e;rfl)(l:(N.take 1).length=1:=by rfl):Mo P w K mg base C m (k+1) (sp1 f):=
 F.okX N 1 S b (fun vs H Q E h=>(sp1.len h).trans l.symm) fun fA cdv A outer s H vs Q E ND HU hr hs=>by obtain⟨x0,rfl,hs⟩:=sp1.inv hs;exact h x0 fA cdv A outer s H Q E ND HU hr hs
theorem DfN.g2{f:V->V->Hp->VK->XK->Prop}(F:DfN K mg x st)(N:List Str)(h:∀x0 x1,BdG P w K mg base N x st k [x0,x1] (f x0 x1))(S:bp N (N.take 2) (au st):=by exact⟨rfl,rfl,rfl,by decide +kernel,rfl,by decide +kernel,by decide +kernel⟩)(b:eS x x st (N.take 2):=by intro _ _ _ _ _ _ us hl;obtain⟨_,_,e⟩:=ex2 hl;subst e;rfl)(l:(N.take 2).length=2:=by rfl):Fo P w K mg base x (k+1) (sp2 f):=
 F.okG N 2 S b (fun vs H Q E h=>(sp2.len h).trans l.symm) fun fA cdv A outer s H vs Q E ND HU hr hs=>by obtain⟨x0,x1,rfl,hs⟩:=sp2.inv hs;exact h x0 x1 fA cdv A outer s H Q E ND HU hr hs
theorem DfN.x2{f:V->V->Hp->VK->XK->Prop}(F:DfN K mg x st)(N:List Str)(h:∀x0 x1,BdX P w K mg base N x st k [x0,x1] (f x0 x1))(S:bp N (N.take 2) (au st):=by exact⟨rfl,rfl,rfl,by decide +kernel,rfl,by decide +kernel,by decide +kernel⟩)(b:eS x x st (N.take 2):=by intro _ _ _ _ _ _ us hl;obtain⟨_,_,e⟩:=ex2 hl;subst e;rfl)(l:(N.take 2).length=2:=by rfl):Fo P w K mg base x (k+1) (sp2 f):=
 F.okX N 2 S b (fun vs H Q E h=>(sp2.len h).trans l.symm) fun fA cdv A outer s H vs Q E ND HU hr hs=>by obtain⟨x0,x1,rfl,hs⟩:=sp2.inv hs;exact h x0 x1 fA cdv A outer s H Q E ND HU hr hs
theorem DfM.g2{f:V->V->Hp->VK->XK->Prop}(F:DfM K C m qual st)(N:List Str)(h:∀x0 x1,BdG P w K mg base N qual st k [x0,x1] (f x0 x1))(S:bp N (N.take 2) (au st):=by exact⟨rfl,rfl,rfl,by decide +kernel,rfl,by decide +kernel,by decide +kernel⟩)(b:eS m qual st (N.take 2):=by intro _ _ _ _ _ _ us hl;obtain⟨_,_,e⟩:=ex2 hl;subst e;rfl)(l:(N.take 2).length=2:=by rfl):Mo P w K mg base C m (k+1) (sp2 f):=
 F.okG N 2 S b (fun vs H Q E h=>(sp2.len h).trans l.symm) fun fA cdv A outer s H vs Q E ND HU hr hs=>by obtain⟨x0,x1,rfl,hs⟩:=sp2.inv hs;exact h x0 x1 fA cdv A outer s H Q E ND HU hr hs
theorem DfM.x2{f:V->V->Hp->VK->XK->Prop}(F:DfM K C m qual st)(N:List Str)(h:∀x0 x1,BdX P w K mg base N qual st k [x0,x1] (f x0 x1))(S:bp N (N.take 2) (au st):=by exact⟨rfl,rfl,rfl,by decide +kernel,rfl,by decide +kernel,by decide +kernel⟩)(b:eS m qual st (N.take 2):=by intro _ _ _ _ _ _ us hl;obtain⟨_,_,e⟩:=ex2 hl;subst e;rfl)(l:(N.take 2).length=2:=by rfl):Mo P w K mg base C m (k+1) (sp2 f):=
 F.okX N 2 S b (fun vs H Q E h=>(sp2.len h).trans l.symm) fun fA cdv A outer s H vs Q E ND HU hr hs=>by obtain⟨x0,x1,rfl,hs⟩:=sp2.inv hs;exact h x0 x1 fA cdv A outer s H Q E ND HU hr hs
theorem DfN.g3{f:V->V->V->Hp->VK->XK->Prop}(F:DfN K mg x st)(N:List Str)(h:∀x0 x1 x2,BdG P w K mg base N x st k [x0,x1,x2] (f x0 x1 x2))(S:bp N (N.take 3) (au st):=by exact⟨rfl,rfl,rfl,by decide +kernel,rfl,by decide +kernel,by decide +kernel⟩)(b:eS x x st (N.take 3):=by intro _ _ _ _ _ _ us hl;obtain⟨_,_,_,e⟩:=ex3 hl;subst e;rfl)(l:(N.take 3).length=3:=by rfl):Fo P w K mg base x (k+1) (sp3 f):=
 F.okG N 3 S b (fun vs H Q E h=>(sp3.len h).trans l.symm) fun fA cdv A outer s H vs Q E ND HU hr hs=>by obtain⟨x0,x1,x2,rfl,hs⟩:=sp3.inv hs;exact h x0 x1 x2 fA cdv A outer s H Q E ND HU hr hs
theorem DfN.x3{f:V->V->V->Hp->VK->XK->Prop}(F:DfN K mg x st)(N:List Str)(h:∀x0 x1 x2,BdX P w K mg base N x st k [x0,x1,x2] (f x0 x1 x2))(S:bp N (N.take 3) (au st):=by exact⟨rfl,rfl,rfl,by decide +kernel,rfl,by decide +kernel,by decide +kernel⟩)(b:eS x x st (N.take 3):=by intro _ _ _ _ _ _ us hl;obtain⟨_,_,_,e⟩:=ex3 hl;subst e;rfl)(l:(N.take 3).length=3:=by rfl):Fo P w K mg base x (k+1) (sp3 f):=
 F.okX N 3 S b (fun vs H Q E h=>(sp3.len h).trans l.symm) fun fA cdv A outer s H vs Q E ND HU hr hs=>by obtain⟨x0,x1,x2,rfl,hs⟩:=sp3.inv hs;exact h x0 x1 x2 fA cdv A outer s H Q E ND HU hr hs
theorem DfM.g3{f:V->V->V->Hp->VK->XK->Prop}(F:DfM K C m qual st)(N:List Str)(h:∀x0 x1 x2,BdG P w K mg base N qual st k [x0,x1,x2] (f x0 x1 x2))(S:bp N (N.take 3) (au st):=by exact⟨rfl,rfl,rfl,by decide +kernel,rfl,by decide +kernel,by decide +kernel⟩)(b:eS m qual st (N.take 3):=by intro _ _ _ _ _ _ us hl;obtain⟨_,_,_,e⟩:=ex3 hl;subst e;rfl)(l:(N.take 3).length=3:=by rfl):Mo P w K mg base C m (k+1) (sp3 f):=
 F.okG N 3 S b (fun vs H Q E h=>(sp3.len h).trans l.symm) fun fA cdv A outer s H vs Q E ND HU hr hs=>by obtain⟨x0,x1,x2,rfl,hs⟩:=sp3.inv hs;exact h x0 x1 x2 fA cdv A outer s H Q E ND HU hr hs
theorem DfM.x3{f:V->V->V->Hp->VK->XK->Prop}(F:DfM K C m qual st)(N:List Str)(h:∀x0 x1 x2,BdX P w K mg base N qual st k [x0,x1,x2] (f x0 x1 x2))(S:bp N (N.take 3) (au st):=by exact⟨rfl,rfl,rfl,by decide +kernel,rfl,by decide +kernel,by decide +kernel⟩)(b:eS m qual st (N.take 3):=by intro _ _ _ _ _ _ us hl;obtain⟨_,_,_,e⟩:=ex3 hl;subst e;rfl)(l:(N.take 3).length=3:=by rfl):Mo P w K mg base C m (k+1) (sp3 f):=
 F.okX N 3 S b (fun vs H Q E h=>(sp3.len h).trans l.symm) fun fA cdv A outer s H vs Q E ND HU hr hs=>by obtain⟨x0,x1,x2,rfl,hs⟩:=sp3.inv hs;exact h x0 x1 x2 fA cdv A outer s H Q E ND HU hr hs
theorem DfN.x4{f:V->V->V->V->Hp->VK->XK->Prop}(F:DfN K mg x st)(N:List Str)(h:∀x0 x1 x2 x3,BdX P w K mg base N x st k [x0,x1,x2,x3] (f x0 x1 x2 x3))(S:bp N (N.take 4) (au st):=by exact⟨rfl,rfl,rfl,by decide +kernel,rfl,by decide +kernel,by decide +kernel⟩)(b:eS x x st (N.take 4):=by intro _ _ _ _ _ _ us hl;obtain⟨_,_,_,_,e⟩:=ex4 hl;subst e;rfl)(l:(N.take 4).length=4:=by rfl):Fo P w K mg base x (k+1) (sp4 f):=
 F.okX N 4 S b (fun vs H Q E h=>(sp4.len h).trans l.symm) fun fA cdv A outer s H vs Q E ND HU hr hs=>by obtain⟨x0,x1,x2,x3,rfl,hs⟩:=sp4.inv hs;exact h x0 x1 x2 x3 fA cdv A outer s H Q E ND HU hr hs
theorem DfM.x4{f:V->V->V->V->Hp->VK->XK->Prop}(F:DfM K C m qual st)(N:List Str)(h:∀x0 x1 x2 x3,BdX P w K mg base N qual st k [x0,x1,x2,x3] (f x0 x1 x2 x3))(S:bp N (N.take 4) (au st):=by exact⟨rfl,rfl,rfl,by decide +kernel,rfl,by decide +kernel,by decide +kernel⟩)(b:eS m qual st (N.take 4):=by intro _ _ _ _ _ _ us hl;obtain⟨_,_,_,_,e⟩:=ex4 hl;subst e;rfl)(l:(N.take 4).length=4:=by rfl):Mo P w K mg base C m (k+1) (sp4 f):=
 F.okX N 4 S b (fun vs H Q E h=>(sp4.len h).trans l.symm) fun fA cdv A outer s H vs Q E ND HU hr hs=>by obtain⟨x0,x1,x2,x3,rfl,hs⟩:=sp4.inv hs;exact h x0 x1 x2 x3 fA cdv A outer s H Q E ND HU hr hs
theorem DfN.x5{f:V->V->V->V->V->Hp->VK->XK->Prop}(F:DfN K mg x st)(N:List Str)(h:∀x0 x1 x2 x3 x4,BdX P w K mg base N x st k [x0,x1,x2,x3,x4] (f x0 x1 x2 x3 x4))(S:bp N (N.take 5) (au st):=by exact⟨rfl,rfl,rfl,by decide +kernel,rfl,by decide +kernel,by decide +kernel⟩)(b:eS x x st (N.take 5):=by intro _ _ _ _ _ _ us hl;obtain⟨_,_,_,_,_,e⟩:=ex5 hl;subst e;rfl)(l:(N.take 5).length=5:=by rfl):Fo P w K mg base x (k+1) (sp5 f):=
 F.okX N 5 S b (fun vs H Q E h=>(sp5.len h).trans l.symm) fun fA cdv A outer s H vs Q E ND HU hr hs=>by obtain⟨x0,x1,x2,x3,x4,rfl,hs⟩:=sp5.inv hs;exact h x0 x1 x2 x3 x4 fA cdv A outer s H Q E ND HU hr hs
theorem DfM.x5{f:V->V->V->V->V->Hp->VK->XK->Prop}(F:DfM K C m qual st)(N:List Str)(h:∀x0 x1 x2 x3 x4,BdX P w K mg base N qual st k [x0,x1,x2,x3,x4] (f x0 x1 x2 x3 x4))(S:bp N (N.take 5) (au st):=by exact⟨rfl,rfl,rfl,by decide +kernel,rfl,by decide +kernel,by decide +kernel⟩)(b:eS m qual st (N.take 5):=by intro _ _ _ _ _ _ us hl;obtain⟨_,_,_,_,_,e⟩:=ex5 hl;subst e;rfl)(l:(N.take 5).length=5:=by rfl):Mo P w K mg base C m (k+1) (sp5 f):=
 F.okX N 5 S b (fun vs H Q E h=>(sp5.len h).trans l.symm) fun fA cdv A outer s H vs Q E ND HU hr hs=>by obtain⟨x0,x1,x2,x3,x4,rfl,hs⟩:=sp5.inv hs;exact h x0 x1 x2 x3 x4 fA cdv A outer s H Q E ND HU hr hs
theorem DfN.x6{f:V->V->V->V->V->V->Hp->VK->XK->Prop}(F:DfN K mg x st)(N:List Str)(h:∀x0 x1 x2 x3 x4 x5,BdX P w K mg base N x st k [x0,x1,x2,x3,x4,x5] (f x0 x1 x2 x3 x4 x5))(S:bp N (N.take 6) (au st):=by exact⟨rfl,rfl,rfl,by decide +kernel,rfl,by decide +kernel,by decide +kernel⟩)(b:eS x x st (N.take 6):=by intro _ _ _ _ _ _ us hl;obtain⟨_,_,_,_,_,_,e⟩:=ex6 hl;subst e;rfl)(l:(N.take 6).length=6:=by rfl):Fo P w K mg base x (k+1) (sp6 f):=
 F.okX N 6 S b (fun vs H Q E h=>(sp6.len h).trans l.symm) fun fA cdv A outer s H vs Q E ND HU hr hs=>by obtain⟨x0,x1,x2,x3,x4,x5,rfl,hs⟩:=sp6.inv hs;exact h x0 x1 x2 x3 x4 x5 fA cdv A outer s H Q E ND HU hr hs
end
def FoC(P:Program)(w:World)(K:W.Frag)(mg:Str->Option Value)(base:Heap)(x:Str)(k:Nat)(sp:Sp):Prop:=
 ∃f fd ps,mg x=some (.ref f)/\ZP K (.ref f)=true/\Binds K fd ps []/\uM P w K mg base (XE P w) k f fd ps sp
section
variable{P:Program}{w:World}{K:W.Frag}{mg:Str->Option Value}{base:Heap}{x:Str}{st:Stmt}{k:Nat}
def BdC(P:Program)(w:World)(K:W.Frag)(mg:Str->Option Value)(base:Heap)(N:List Str)(qual:Str)(st:Stmt)(k:Nat)(vs:List V)(r:Hp->VK->XK->Prop):Prop:=∀(fA:Addr) (cdv:Value) (A:Around) (outer:List Env) (s:Shared) (H:Hp) (Q:VK) (E:XK),N.Nodup->(A.deeper (envOfC qual (au st) s.heap.objs.size fA cdv)).units+100<cLine->RoomC k (A.deeper (envOfC qual (au st) s.heap.objs.size fA cdv))->r H Q E->∃t,PSs (v_ (XE P w) P w K mg base N qual (au st) fA cdv A outer s H E) (aZ st) t/\t { nx:=fun _ H'=>Q .non H',rt:=Q } (cS N vs) H
theorem DfN.c1{f:V->Hp->VK->XK->Prop}(F:DfN K mg x st)(N:List Str)(h:∀x0,BdC P w K mg base N x st k [x0] (f x0))(S:bp N (N.take 1) (au st):=by exact⟨rfl,rfl,rfl,by decide +kernel,rfl,by decide +kernel,by decide +kernel⟩)(b:eS x x st (N.take 1):=by intro _ _ _ _ _ _ us hl;obtain⟨_,e⟩:=ex1 hl;subst e;rfl)(l:(N.take 1).length=1:=by rfl):FoC P w K mg base x (k+1) (sp1 f):=by
 obtain⟨fA,fd,m,F⟩:=F;exact⟨fA,fd,_,m,F.kp,F.binds b,F.okC S (fun vs H Q E h=>(sp1.len h).trans l.symm) fun cdv A outer s H vs Q E hr hs=>by obtain⟨x0,rfl,hs⟩:=sp1.inv hs;exact h x0 fA cdv A outer s H Q E S.nd (by have:=hr.un;lia) hr hs⟩
end
section
variable{X:Cx}{k:Nat}{sp:Sp}{E:XKs}{x:Str}{p pos:Pos}{e:Expr}{es:List Expr}{t:TA}
theorem Fa(F:FoC X.prog X.w X.K X.mg X.base x k sp)(hr:RoomC k X.A)(hx:bS (XE X.prog X.w) X E)(ha:PA X (e::es) t)(hg:Gl X x:=by rfl)(hdb:(x==("__debug__":Str))=false:=by decide)(he:starEach (e::es) X.env=(false,eval e X.env)::starEach es X.env:=by rfl)(hpl:(backTo pos (starEach es X.env)).any (·.1)=false:=by rfl) :
 PE X (.Call (.Name x p) (e::es) [] pos) (lY sp [] E t):=by
 obtain⟨f,fd,ps,m,kp,b,F⟩:=F;exact CJ F hr hg m kp b .nil hx ha hdb he hpl
end
def MoC(P:Program)(w:World)(K:W.Frag)(mg:Str->Option Value)(base:Heap)(C:Addr)(m:Str)(k:Nat)(sp:Sp):Prop:=
 ∃f fd ps,Aa K C m f/\Binds K fd ps []/\uM P w K mg base (XE P w) k f fd ps sp
section
variable{P:Program}{w:World}{K:W.Frag}{mg:Str->Option Value}{base:Heap}{m qual:Str}{st:Stmt}{C:Addr}{k:Nat}
theorem DfM.c1{f:V->Hp->VK->XK->Prop}(F:DfM K C m qual st)(N:List Str)(h:∀x0,BdC P w K mg base N qual st k [x0] (f x0))(S:bp N (N.take 1) (au st):=by exact⟨rfl,rfl,rfl,by decide +kernel,rfl,by decide +kernel,by decide +kernel⟩)(b:eS m qual st (N.take 1):=by intro _ _ _ _ _ _ us hl;obtain⟨_,e⟩:=ex1 hl;subst e;rfl)(l:(N.take 1).length=1:=by rfl):MoC P w K mg base C m (k+1) (sp1 f):=by
 obtain⟨fA,fd,m,F⟩:=F;exact⟨fA,fd,_,m,F.binds b,F.okC S (fun vs H Q E h=>(sp1.len h).trans l.symm) fun cdv A outer s H vs Q E hr hs=>by obtain⟨x0,rfl,hs⟩:=sp1.inv hs;exact h x0 fA cdv A outer s H Q E S.nd (by have:=hr.un;lia) hr hs⟩
end
section
variable{X:Cx}{k:Nat}{C:Addr}{sp:Sp}{E:XKs}{m:Str}{pos apos:Pos}{o:Expr}{ta:TE}
theorem FK{pl:Sem Bool}(he:PE X o ta)(c:Cls X.K C)(F:MoC X.prog X.w X.K X.mg X.base C m k sp)(hr:RoomC k X.A)(hx:bS (XE X.prog X.w) X E)
 (ht:eval (.Call (.Attribute o m apos) [] [] pos) X.env=(do
  let ov <- eval o X.env
  standAt apos.atName
  let (f,first) <- holding [ov] (getMethod ov m pl)
  callWith pos f first (backTo pos (starEach [] X.env)) (backToKw pos (Ye [] X.env))):=by rfl) :
 PE X (.Call (.Attribute o m apos) [] [] pos) (mq C m sp [] E ta h8):=by
 obtain⟨f,fd,ps,hm,hb,F⟩:=F;intro pins s σ H Q I h;refine PySem.W.methodCall_KW (pl:=pl) (thn (he pins s σ H _ I h) fun u s1 ⟨xo,H1,I1,rx,q⟩=>?_) ht;dsimp only at q;unfold uZ at q;split at q
 ·rename_i a
  obtain⟨dx,fs,ea,l,q⟩:=q;obtain rfl:u=yW a:=rx;refine jH I1 ea c hm l ?_;refine PySem.W.callWith_K0 (first:=[.ref a]) I1.kIn hm.kp ?_;have r2:Vals [V.ref a] [yW a]:=.cons rfl .nil;have hl:([yW a]:List Value).length=ps.length:=by rw[<- r2.length];exact F.len _ _ _ _ q
  refine wpAny_call (YJ (F.run X.A X.stack s1 _ ⟨[.ref a],[]⟩ [.ref a] [.ref a] Q (E σ) hr I1.env0 (hb s1 [.ref a] I1.kIn hl) r2 q) fun r s' hq=>?_);cases r with
  |error e=>exact hx pins σ _ s1 e s' I1 hq
  |ok fl=>
   cases fl with
   |ret u=>exact I1.after hq
   |next=>exact Zf hq
   |brk=>exact Zf hq
   |cont=>exact Zf hq
 ·exact q.elim
end
end L2
namespace K23
open PySem L2
abbrev nC:List Str:=["_law_script","_law_accounts_here","_law_currencies_here","_law_held","_law_k","_law_day_here","_law_mine","_law_shown","_law_way"]
abbrev cH:List Str:=["_law_script","_law_names_here","_law_currencies_here","_law_cell","_law_kinds","_law_tops","_law_accounts_here","_law_k","_law_some","_law_more","_law_upper","_law_until","_law_currency"]
abbrev cB:List Str:=["_law_held","_law_accounts_here","_law_mine","_law_cell","_law_more","_law_month_here","_law_path_here","_law_own","_law_fresh","_law_one","_law_goal"]
structure Adr where
 eZ:Addr
 b_:Addr
 ra:Addr
 rq:Addr
 vK:Addr
 a8:Addr
 aP:Addr
 rD:Addr
 bn:Addr
 aS:Addr
 xL:Addr
 a9:Addr
 oI:Addr
 dM:Addr
 fE:Addr
 ul:Addr
 vL:Addr
 bj:Addr
 cM:Addr
 aM:Addr
 aR:Addr
 a_:Addr
 aQ:Addr
 dC:Addr
 j_:Addr
abbrev zzK(K:W.Frag)(a b:Addr)(c:Bool):Prop:=sV K (.ref a) (.ref b)=some c
abbrev zzX(K:W.Frag)(a:Addr):Prop:=PySem.W.excIn K a [.type "ValueError",.type "Exception",.type "BaseException",.type "object"] "ValueError.__new__" = true
structure Txt(K:W.Frag)(mg:Str->Option Value)(a:Adr):Prop where
 wP:DfN K mg "is_whole" (top 20)
 wG:DfN K mg "is_among" (top 21)
 vQ:DfN K mg "signs_lie" (top 22)
 zP:DfN K mg "is_name" (top 23)
 zw:DfN K mg "is_note" (top 24)
 qy:DfN K mg "is_currency" (top 26)
 AN:DfN K mg "turned" (top 28)
 y2:DfN K mg "sums_of" (top 29)
 CU:DfN K mg "is_day" (top 32)
 wt:DfN K mg "is_month" (top 33)
 vd:DfN K mg "leap_days" (top 34)
 uG:DfN K mg "first_day" (top 35)
 xD:DfN K mg "last_day" (top 36)
 wD:DfN K mg "month_of" (top 37)
 uF:DfN K mg "are_names" (top 39)
 Ab:DfN K mg "is_path" (top 40)
 wu:DfN K mg "names_of" (top 41)
 En:DfN K mg "above" (top 42)
 zv:DfN K mg "rows_of" (top 44)
 mi:DfN K mg "bookings_up_to" (top 45)
 wS:DfN K mg "balances" (top 46)
 Gu:DfN K mg "seal" (top 48)
 r6:DfN K mg "carry_rows" (top 51)
 qv:DfN K mg "need_keeper" (top 52)
 j0:DfN K mg "need_currencies" (top 53)
 Ep:DfN K mg "carry" (top 54)
 EM:DfN K mg "close" (top 55)
 iA:DfN K mg "need_note_and_gate" (top 61)
 FJ:DfN K mg "undo" (top 62)
 qg:DfN K mg "_law_cell_at" (top 67)
 tD:DfN K mg "_law_whole" (top 68)
 sD:DfN K mg "_law_names" (top 69)
 lh:DfN K mg "_law_currencies" (top 70)
 tT:DfN K mg "_law_start" (top 71)
 oH:DfN K mg "_law_lengths" (top 72)
 lA:DfN K mg "_law_month_ends" (top 73)
 tV:DfN K mg "_law_month" (top 74)
 uT:DfN K mg "_law_base" (top 75)
 xm:DfN K mg "_law_day" (top 76)
 nX:DfN K mg "_law_accounts" bq
 sy:DfN K mg "_law_chart" (top 78)
 pi:DfN K mg "_law_is_open" (top 79)
 px:DfN K mg "_law_rows_by" (top 80)
 og:DfN K mg "_law_balances" (top 81)
 tG:DfN K mg "_law_carry" (top 82)
 wU:DfN K mg "_law_due" (top 83)
 vy:DfN K mg "_law_word" (top 84)
 qL:DfN K mg "_law_closed" (top 85)
 vO:DfN K mg "_law_path" (top 86)
 sw:DfN K mg "_law_close" (top 87)
 vE:DfN K mg "_law_step" bC
 js:DfN K mg "_law_carry_undone" (top 89)
 Jo:∃fd,Fun K "law" "law" c_ a.eZ fd
 mO:DfM K a.cM "__init__" "Seals.__init__" (bv (top 49) 0)
 v9:DfM K a.cM "put" "Seals.put" (bv (top 49) 1)
 qF:DfM K a.cM "every" "Seals.every" (bv (top 49) 2)
 jL:DfM K a.aM "__init__" "Account.__init__" (bv (top 58) 0)
 jl:DfM K a.aM "stands_on" "Account.stands_on" (bv (top 58) 1)
 gE:DfM K a.aM "stands_later" "Account.stands_later" (bv (top 58) 2)
 lZ:DfM K a.aR "__init__" "Chart.__init__" (bv (top 59) 0)
 nZ:DfM K a.aR "add_top" "Chart.add_top" (bv (top 59) 1)
 uy:DfM K a.aR "add" "Chart.add" fw
 sY:DfM K a.aR "shut" "Chart.shut" (bv (top 59) 3)
 vn:DfM K a.aR "has" "Chart.has" (bv (top 59) 4)
 nU:DfM K a.aR "account" "Chart.account" (bv (top 59) 5)
 nW:DfM K a.aR "kind_of" "Chart.kind_of" (bv (top 59) 6)
 jm:DfM K a.aR "currency_of" "Chart.currency_of" (bv (top 59) 7)
 nS:DfM K a.aR "is_open" "Chart.is_open" (bv (top 59) 9)
 Ae:DfM K a.aR "beneath" "Chart.beneath" (bv (top 59) 10)
 nV:DfM K a.a_ "__init__" "Gate.__init__" (bv (top 64) 0)
 qG:DfM K a.a_ "closed" "Gate.closed" (bv (top 64) 1)
 vj:DfM K a.a_ "lets" "Gate.lets" (bv (top 64) 2)
 mS:DfM K a.a_ "need_next" "Gate.need_next" (bv (top 64) 3)
 vB:DfM K a.a_ "shut" "Gate.shut" (bv (top 64) 4)
 jY:DfM K a.aQ "__init__" "Journal.__init__" (bv (top 65) 0)
 qD:DfM K a.aQ "put" "Journal.put" (bv (top 65) 1)
 C1:DfM K a.aQ "many" "Journal.many" (bv (top 65) 2)
 lU:DfM K a.aQ "booking" "Journal.booking" (bv (top 65) 3)
 g_:DfM K a.aQ "every" "Journal.every" (bv (top 65) 4)
 jd:DfM K a.aQ "undone_by" "Journal.undone_by" (bv (top 65) 5)
 k7:mg "HouseError" = some (.ref a.b_)
 Ac:mg "BadName" = some (.ref a.ra)
 z6:mg "BadNote" = some (.ref a.rq)
 qd:mg "BadDay" = some (.ref a.vK)
 jG:mg "BadMonth" = some (.ref a.a8)
 fN:mg "BadCurrency" = some (.ref a.aP)
 mU:mg "BadPath" = some (.ref a.rD)
 mW:mg "BadKind" = some (.ref a.bn)
 nj:mg "NoAccount" = some (.ref a.aS)
 yE:mg "Twice" = some (.ref a.xL)
 fS:mg "NotOpen" = some (.ref a.a9)
 xt:mg "HasBelow" = some (.ref a.oI)
 B8:mg "BadRow" = some (.ref a.dM)
 vt:mg "NoBooking" = some (.ref a.fE)
 Cb:mg "Undone" = some (.ref a.ul)
 AD:mg "Closed" = some (.ref a.vL)
 rm:mg "NotNext" = some (.ref a.bj)
 Du:mg "Seals" = some (.ref a.cM)
 rG:mg "Account" = some (.ref a.aM)
 ED:mg "Chart" = some (.ref a.aR)
 GV:mg "Gate" = some (.ref a.a_)
 zl:mg "Journal" = some (.ref a.aQ)
 e_:Cls K a.cM
 dA:NoAttr K a.cM "told_seals"
 Bb:MkC K a.cM
 bg:Cls K a.aM
 eY:NoAttr K a.aM "kind"
 fg:NoAttr K a.aM "currency"
 eB:NoAttr K a.aM "first"
 b8:NoAttr K a.aM "until"
 d_:NoAttr K a.aM "below"
 qk:MkC K a.aM
 bw:Cls K a.aR
 bT:NoAttr K a.aR "by_path"
 By:MkC K a.aR
 cV:Cls K a.a_
 bI:NoAttr K a.a_ "last_closed"
 DN:MkC K a.a_
 a7:Cls K a.aQ
 bJ:NoAttr K a.aQ "bookings"
 dv:NoAttr K a.aQ "undoings"
 wT:MkC K a.aQ
 jx:zzX K a.aP
 qP:cL K a.aP
 da:ZZ K (.ref a.aP) (.ref a.b_)=some true
 fm:zzK K a.aP a.aP true
 hU:zzK K a.aP a.bn false
 gH:zzK K a.aP a.a8 false
 ir:zzK K a.aP a.dM false
 gm:zzK K a.aP a.aS false
 h9:zzK K a.aP a.bj false
 hZ:zzK K a.aP a.a9 false
 fQ:sV K (.ref a.aP) (.type "ValueError")=some true
 pW:zzX K a.vK
 rM:zzX K a.bn
 zb:cL K a.bn
 iS:ZZ K (.ref a.bn) (.ref a.b_)=some true
 ib:zzK K a.bn a.aP false
 lR:zzK K a.bn a.bn true
 jT:zzK K a.bn a.a8 false
 mY:zzK K a.bn a.dM false
 jj:zzK K a.bn a.aS false
 lF:zzK K a.bn a.bj false
 j7:zzK K a.bn a.a9 false
 iQ:sV K (.ref a.bn) (.type "ValueError")=some true
 pB:zzX K a.a8
 wC:cL K a.a8
 hV:ZZ K (.ref a.a8) (.ref a.b_)=some true
 gs:zzK K a.a8 a.aP false
 jZ:zzK K a.a8 a.bn false
 jt:zzK K a.a8 a.a8 true
 j8:zzK K a.a8 a.dM false
 ii:zzK K a.a8 a.aS false
 jJ:zzK K a.a8 a.bj false
 jD:zzK K a.a8 a.a9 false
 ig:sV K (.ref a.a8) (.type "ValueError")=some true
 zp:zzX K a.ra
 yX:zzX K a.rq
 mL:zzX K a.rD
 Cu:zzX K a.vL
 wj:zzX K a.oI
 uD:zzX K a.aS
 vY:cL K a.aS
 gC:ZZ K (.ref a.aS) (.ref a.b_)=some true
 gk:zzK K a.aS a.aP false
 jf:zzK K a.aS a.bn false
 ip:zzK K a.aS a.a8 false
 jV:zzK K a.aS a.dM false
 ia:zzK K a.aS a.aS true
 je:zzK K a.aS a.bj false
 jg:zzK K a.aS a.a9 false
 gp:sV K (.ref a.aS) (.type "ValueError")=some true
 uA:zzX K a.fE
 zS:zzX K a.bj
 zR:cL K a.bj
 iO:ZZ K (.ref a.bj) (.ref a.b_)=some true
 hX:zzK K a.bj a.aP false
 j5:zzK K a.bj a.bn false
 jU:zzK K a.bj a.a8 false
 mB:zzK K a.bj a.dM false
 jr:zzK K a.bj a.aS false
 lJ:zzK K a.bj a.bj true
 kr:zzK K a.bj a.a9 false
 iF:sV K (.ref a.bj) (.type "ValueError")=some true
 i_:zzX K a.a9
 zF:cL K a.a9
 d7:ZZ K (.ref a.a9) (.ref a.b_)=some true
 hJ:zzK K a.a9 a.aP false
 lq:zzK K a.a9 a.bn false
 jX:zzK K a.a9 a.a8 false
 mR:zzK K a.a9 a.dM false
 jn:zzK K a.a9 a.aS false
 kA:zzK K a.a9 a.bj false
 ku:zzK K a.a9 a.a9 true
 iy:sV K (.ref a.a9) (.type "ValueError")=some true
 yi:zzX K a.xL
 BC:zzX K a.ul
 y9:mg "LENGTHS" = some (.ref a.dC)
 dC:∃(o:Obj) (its:Array Value) (n:Nat),K.lookup a.dC=some o/\o.cls = .type "tuple" /\ o.data = .seq its n/\its.size<=sizeLine/\Vals (([31,28,31,30,31,30,31,31,30,31,30,31]:List Int).map V.int) its.toList
 Ea:mg "KINDS" = some (.ref a.j_)
 j_:∃(o:Obj) (its:Array Value) (n:Nat),K.lookup a.j_=some o/\o.cls = .type "tuple" /\ o.data = .seq its n/\its.size<=sizeLine/\Vals (([[104,97,118,101],[111,119,101],[111,119,110],[103,97,105,110],[99,111,115,116]]:List (List Nat)).map T) its.toList
 tQ:mg "ValueError" = none
 Ax:mg "all" = none
 EX:mg "any" = none
 Az:mg "bool" = none
 gY:mg "int" = none
 aY:mg "isinstance" = none
 cZ:mg "len" = none
 mH:mg "list" = none
 v0:mg "max" = none
 HR:mg "min" = none
 gG:mg "range" = none
 pD:mg "sorted" = none
 rS:mg "str" = none
 EV:mg "sum" = none
 gt:mg "tuple" = none
theorem qz:Zu "ValueError" = some (.type "ValueError"):=by decide +kernel
theorem wK:Zu "all" = some (.builtin "all"):=by decide +kernel
theorem A3:Zu "any" = some (.builtin "any"):=by decide +kernel
theorem yB:Zu "bool" = some (.type "bool"):=by decide +kernel
theorem eg:Zu "int" = some (.type "int"):=by decide +kernel
theorem aV:Zu "isinstance" = some (.builtin "isinstance"):=by decide +kernel
theorem ci:Zu "len" = some (.builtin "len"):=by decide +kernel
theorem i5:Zu "list" = some (.type "list"):=by decide +kernel
theorem qj:Zu "max" = some (.builtin "max"):=by decide +kernel
theorem Gp:Zu "min" = some (.builtin "min"):=by decide +kernel
theorem mQ:Zu "sorted" = some (.builtin "sorted"):=by decide +kernel
theorem mK:Zu "str" = some (.type "str"):=by decide +kernel
theorem AL:Zu "sum" = some (.builtin "sum"):=by decide +kernel
theorem fe:Zu "tuple" = some (.type "tuple"):=by decide +kernel
theorem gn:bp ["_law_script","_law_names_here","_law_currencies_here","_law_cell","_law_kinds","_law_tops","_law_accounts_here","_law_k","_law_some","_law_more","_law_upper","_law_until","_law_currency"] ["_law_script"] (au bq):=⟨rfl,rfl,rfl,by decide +kernel,rfl,by decide +kernel,by decide +kernel⟩
theorem qm:bp ["_law_script","_law_accounts_here","_law_currencies_here","_law_held","_law_k","_law_day_here","_law_mine","_law_shown","_law_way"] ["_law_script"] (au c_):=⟨rfl,rfl,rfl,by decide +kernel,rfl,by decide +kernel,by decide +kernel⟩
seal L2.PE L2.PT L2.PW L2.PA L2.PS L2.PSs L2.PI L2.PG L2.PGs L2.PO
open PySem L2 K19 K22
local macro_rules | `(tactic| walk_at "cq") => `(tactic| exact ⟨rfl, by decide +kernel, rfl, by decide +kernel, rfl, bG rfl, rfl, aI rfl, aI (k := fun y => wO y _) rfl, bH rfl⟩)
local macro_rules | `(tactic| walk_at "sc") => `(tactic| exact ⟨rfl, rfl, rfl, by decide +kernel, rfl, by decide +kernel, by decide +kernel⟩)
local macro_rules | `(tactic| walk_at "b") => `(tactic| first | (intro _ _ _ _ _ _ us hl; obtain ⟨_, e⟩ := ex1 hl; subst e; rfl) | (intro _ _ _ _ _ _ us hl; obtain ⟨_, _, e⟩ := ex2 hl; subst e; rfl) | (intro _ _ _ _ _ _ us hl; obtain ⟨_, _, _, e⟩ := ex3 hl; subst e; rfl) | (intro _ _ _ _ _ _ us hl; obtain ⟨_, _, _, _, e⟩ := ex4 hl; subst e; rfl) | (intro _ _ _ _ _ _ us hl; obtain ⟨_, _, _, _, _, e⟩ := ex5 hl; subst e; rfl) | (intro _ _ _ _ _ _ us hl; obtain ⟨_, _, _, _, _, _, e⟩ := ex6 hl; subst e; rfl))
local macro_rules | `(tactic| walk_at "rd") => `(tactic| try simp only [↓mV, rdI, V.int.injEq, V.ref.injEq, xN, BN, yF, xI, CV, CB, Cv, A0, Bl, L2.cS, xa, Z6, ZG, YD, Zs, vN, Z2, t7, List.getElem?_cons_zero, List.getElem?_cons_succ, List.set_cons_zero, List.set_cons_succ, Nat.reduceSub, Nat.reduceAdd, Int.reduceLT, Int.reduceLE, Int.reducePow, Int.reduceNeg, Nat.reducePow, List.cons.injEq, exists_eq_left', exists_eq_left, eq_self, if_false, if_true, ↓reduceIte, ite_not, forall_const, Option.bind_some, id_eq, Bd, yR, ER, Bo, EZ, Jt, tSt])
local macro_rules | `(tactic| walk_at "om") => `(tactic| first | exact wn (by decide) (by assumption : 1000 <= sizeLine) | omega)
section
variable{pS:Addr}{ns:List Int}{P:Program}{w:World}{K:W.Frag}{mg:Str->Option Value}{base:Heap}{a:Adr}
theorem szl:1000<=sizeLine:=by rw[um];decide
theorem Ji:1000<sizeLine:=by rw[um];decide
theorem itp{c:Prop}[Decidable c]{t e:Prop}(h:c)(x:t):ite c t e:=by rw[if_pos h];exact x
theorem itn{c:Prop}[Decidable c]{t e:Prop}(h:¬ c)(x:e):ite c t e:=by rw[if_neg h];exact x
def sp_nE:Sp:=sp1 fun x H Q _=>NoT H/\asK H x fun _=>Q (.bl (isI x)) H
theorem vR(T:Txt K mg a):Fo P w K mg base "is_whole" 1 sp_nE:=by
 refine T.wP.g1 ["thing"] fun x0 fA cdv A outer s H Q E ND HU hr h=>?_;obtain⟨hN,h1⟩:=h;obtain⟨t,ht,hb,k⟩:=asK.inv h1;refine⟨hN,_,(af (aC (cj (aD (bU K) rfl T.aY aV (fa2 (fv 0) (df (v:=.ty "int") rfl T.gY eg rfl))) (cF (C0 (aD (bU K) rfl T.aY aV (fa2 (fv 0) (df (v:=.ty "bool") rfl T.Az yB rfl)))))))),?_⟩;walk_at "rd";simp only[ht];rw[<- uU ht]at k;rcases hb with rfl|rfl|rfl|rfl|rfl|rfl|rfl
 all_goals first
  |exact F7 k
  |exact HC k
def amg(x:V)(lo hi:Int):Bool:=match x with
 | .int i=>decide (lo<=i)&&decide (i<=hi)
 |_=>false
theorem Dw{x:V}{lo hi:Int}(h:isI x=false):amg x lo hi=false:=by
 unfold amg;split
 ·cases h
 ·rfl
def sp_vf:Sp:=sp3 fun x y z H Q _=>NoT H/\asI y fun lo=>asI z fun hi=>asK H x fun _=>Q (.bl (amg x lo hi)) H
theorem iM(T:Txt K mg a):Fo P w K mg base "is_among" 2 sp_vf:=by
 refine T.wG.g3 ["thing","least","most"] fun x0 x1 x2 fA cdv A outer s H Q E ND HU hr h=>?_;obtain⟨hN,h1⟩:=h;obtain⟨lo,rfl,h2⟩:=asI.inv h1;obtain⟨hi,rfl,h3⟩:=asI.inv h2;obtain⟨t,ht,hb,k⟩:=asK.inv h3;refine⟨hN,_,(af (aC (cj (aH (vR T) hr aA (fa1 (fv 0))) (cF (kg d4 d4 (fv 1) (fv 0) (fv 2)))))),?_⟩;walk_at "rd";refine⟨hN,asK.of ht ?_⟩;cases e:isI x0 with
 |false=>
  rw[Dw e]at k;exact HC k
 |true=>
  cases x0 with
  |int i=>
   refine F7 ?_;walk_at "rd";split
   ·rename_i h1
    have e:amg (.int i) lo hi=decide (i<=hi):=by simp[amg,h1]
    rw[e]at k;exact k
   ·rename_i h1
    have e:amg (.int i) lo hi=false:=by simp[amg,h1]
    rw[e]at k;exact k
  |_=>cases e
def sp_zf:Sp:=sp1 fun x H Q _=>NoT H/\asK H x fun _=>Q (.bl (amg x 0 146096)) H
theorem lW(T:Txt K mg a):Fo P w K mg base "is_day" 3 sp_zf:=by
 refine T.CU.g1 ["thing"] fun x0 fA cdv A outer s H Q E ND HU hr h=>?_;obtain⟨hN,h1⟩:=h;refine⟨hN,_,(af (aC (aH (iM T) hr aA (fa3 (fv 0) aa aa)))),?_⟩;walk_at "rd";exact⟨hN,h1⟩
theorem Gm(a b:Nat):leN [a] [b]=decide (a<=b):=by
 unfold leN;have h:([b]<[a])↔b<a:=by
  rw[List.cons_lt_cons_iff];simp
 rw[decide_eq_decide.mpr h];by_cases h2:b<a
 ·rw[decide_eq_true h2,decide_eq_false (by walk_at "om")];rfl
 ·rw[decide_eq_false h2,decide_eq_true (by walk_at "om")];rfl
local macro_rules | `(tactic| walk_at "rd") => `(tactic| try simp only [↓mV, rdI, V.int.injEq, V.ref.injEq, xN, BN, yF, xI, CV, CB, Cv, A0, Bl, L2.cS, xa, Z6, ZG, YD, Zs, vN, Z2, t7, List.getElem?_cons_zero, List.getElem?_cons_succ, List.set_cons_zero, List.set_cons_succ, Nat.reduceSub, Nat.reduceAdd, Int.reduceLT, Int.reduceLE, Int.reducePow, Int.reduceNeg, Nat.reducePow, List.cons.injEq, exists_eq_left', exists_eq_left, eq_self, if_false, if_true, ↓reduceIte, ite_not, forall_const, Option.bind_some, id_eq, Bd, yR, ER, Bo, EZ, Jt, tSt, Gm])
def ok(l:List Nat):Prop:=(∀c∈l,c<128)/\l.length<=1000
theorem om{l:List Nat}(h:ok l):l.length<=sizeLine:=wn h.2 (by rw[um];decide)
def lie(l:List Nat)(a b:Nat):Bool:=l.all fun c=>decide (a<=c)&&decide (c<=b)
def sp_tf:Sp:=sp3 fun x y z H Q _=>NoT H/\asT x fun l=>asT y fun lo=>asT z fun hi=>ok l/\∃a b,lo=[a]/\hi=[b]/\Q (.bl (lie l a b)) H
theorem gL(T:Txt K mg a):Fo P w K mg base "signs_lie" 1 sp_tf:=by
 refine T.vQ.g3 ["text","least","most"] fun x0 x1 x2 fA cdv A outer s H Q E ND HU hr h=>?_;obtain⟨hN,h1⟩:=h;obtain⟨l,rfl,h2⟩:=asT.inv h1;obtain⟨lo,rfl,h3⟩:=asT.inv h2;obtain⟨hi,rfl,hl,a,b,rfl,rfl,k⟩:=asT.inv h3;refine⟨hN,_,(af (aC (aD (tX K rfl) rfl T.Ax wK (fa1 (bN rfl (cl:=_) (x:="sign") (xs:=["sign"]) (fr:=["least","most"]) (ks:=[1,2]) (by walk_at "cq") rfl (At (fv 0)) (fun _ _ _ _ _=>(aK (i:=0) (bX (l:=["sign","least","most"]) (by decide)) rfl (Or.inl rfl))) (fun _ _ _ _ _=>dH) (fun _ _ _ _ _=>(kg d4 d4 (fv 1) (fv 0) (fv 2)))))))),?_⟩;walk_at "rd";refine cmS (fun _=>True) (fun _ _ _=>trivial) l (fun _=>true) (fun c=>.bl (decide (a<=c)&&decide (c<=b))) (fun R r=>r) hl.1 (om hl) (fun c _ H R _ r=>r) (fun c _ _ H R _ r=>?_) (fun D hD=>?_)
 ·walk_at "rd"
  by_cases h1:a<=c
  ·simp only[h1,decide_true,Z9]at r |-
   exact r
  ·simp only[h1,decide_false,YO]at r |-
   exact r
 ·refine⟨l.map fun c=>decide (a<=c)&&decide (c<=b),SqL.of (by rw[ad,Zm.mpr (by simp),tf];rfl),H,Gc.none (ah _ hD),?_⟩
  have e:(l.map fun c=>decide (a<=c)&&decide (c<=b)).all id=lie l a b:=by
   rw[List.all_map];rfl
  rw[e];exact k
def cur(l:List Nat):Bool:=decide (l.length=3)&&lie l 65 90
def sp_z9:Sp:=sp1 fun x H Q _=>NoT H/\asT x fun l=>cur l=true/\Q (.bl true) H
theorem Dg{l:List Nat}(h:cur l=true):l.length=3/\lie l 65 90=true:=by
 unfold cur at h
 simpa using h
theorem Ho{l:List Nat}{a b:Nat}(h:lie l a b=true)(hb:b<128)(hl:l.length<=1000):ok l:=by
 unfold lie at h;rw[Zk]at h;exact⟨fun c hc=>by have:=h c hc;simp at this;lia,hl⟩
theorem pq(T:Txt K mg a):Fo P w K mg base "is_currency" 2 sp_z9:=by
 refine T.qy.g1 ["thing"] fun x0 fA cdv A outer s H Q E ND HU hr h=>?_;obtain⟨hN,h1⟩:=h;obtain⟨l,rfl,hc,k⟩:=asT.inv h1;obtain⟨h3,hl⟩:=Dg hc;have ol:=Ho hl (by decide) (by lia);refine⟨hN,_,(af (aC (cj (aD (bU K) rfl T.aY aV (fa2 (fv 0) (df (v:=.ty "str") rfl T.rS mK rfl))) (cj (bP (bF K HU) (aD (bQ K) rfl T.cZ ci (fa1 (fv 0))) aa (bY _)) (cF (aH (gL T) hr aA (fa3 (fv 0) (ak [65]) (ak [90])))))))),?_⟩;walk_at "rd";refine⟨om ol,itp (by lia) ⟨hN,ol,65,90,rfl,rfl,?_⟩⟩;rw[hl];exact k
def nm(l:List Nat):Bool:=decide (1<=l.length)&&decide (l.length<=12)&&lie l 97 122
def sp_xb:Sp:=sp1 fun x H Q _=>NoT H/\asT x fun l=>ok l/\Q (.bl (nm l)) H
theorem pw(T:Txt K mg a):Fo P w K mg base "is_name" 2 sp_xb:=by
 refine T.zP.g1 ["thing"] fun x0 fA cdv A outer s H Q E ND HU hr h=>?_;obtain⟨hN,h1⟩:=h;obtain⟨l,rfl,hl,k⟩:=asT.inv h1;refine⟨hN,_,(af (aC (cj (aD (bU K) rfl T.aY aV (fa2 (fv 0) (df (v:=.ty "str") rfl T.rS mK rfl))) (cj (kg d4 d4 aa (aD (bQ K) rfl T.cZ ci (fa1 (fv 0))) aa) (cF (aH (gL T) hr aA (fa3 (fv 0) (ak [97]) (ak [122])))))))),?_⟩;walk_at "rd";refine⟨om hl,?_⟩;unfold nm at k;split
 ·rename_i h1
  rw[decide_eq_true (by lia:1<=l.length)]at k;split
  ·rename_i h2
   rw[decide_eq_true (by lia:l.length<=12)]at k;exact⟨hN,hl,97,122,rfl,rfl,k⟩
  ·rename_i h2
   rw[decide_eq_false (by lia:¬ l.length<=12)]at k;exact k
 ·rename_i h1
  rw[decide_eq_false (by lia:¬ 1<=l.length)]at k;exact k
def sp_t7(K:W.Frag):Sp:=sp1 fun x H Q _=>asR x fun p=>NoT H/\∃ls:List (List Nat),SqL K H p (ls.map L2.T)/\ls.length<=300/\(∀l∈ls,ok l)/\Q (.bl (decide (1<=ls.length)&&decide (ls.length<=6)&&ls.all nm)) H
theorem tW(T:Txt K mg a):Fo P w K mg base "are_names" 3 (sp_t7 K):=by
 refine T.uF.g1 ["names"] fun x0 fA cdv A outer s H Q E ND HU hr h=>?_;obtain⟨p,rfl,hN,ls,hS,hl,hx,k⟩:=asR.inv h;refine⟨hN,_,(af (aC (cj (kg d4 d4 aa (aD (bQ K) rfl T.cZ ci (fa1 (fv 0))) aa) (cF (aD (tX K rfl) rfl T.Ax wK (fa1 (bN rfl (cl:=_) (x:="name") (xs:=["name"]) (fr:=[]) (ks:=[]) (by walk_at "cq") rfl (bM K (fv 0)) (fun _ _ _ _ _=>(aK (i:=0) (bX (l:=["name"]) (by decide)) rfl (Or.inl rfl))) (fun _ _ _ _ _=>dH) (fun _ _ _ _ _=>(aH (pw T) hr kF (fa1 (fv 0))))))))))),?_⟩;walk_at "rd";refine⟨_,.inl hS,?_⟩;have sz:=szl;rw[zg];split
 ·rename_i h1
  rw[decide_eq_true (by lia:1<=ls.length)]at k;split
  ·rename_i h2
   rw[decide_eq_true (by lia:ls.length<=6)]at k;refine cmL p (ls.map L2.T) (fun H'=>NoT H'/\SqL K H' p (ls.map L2.T)) (fun D ys hD=>⟨aq hN rfl,hS.same (ah _ hD)⟩) (fun H' c=>c.2) (fun _=>true) (fun x=>match x with | .str y=>.bl (nm y.cps.toList)|_=>.non) (fun R r=>r) hS (by rw[zg];lia) (fun x _ H' R _ r=>r) (fun x hx' _ H' R c r=>?_) (fun D hD=>?_)
   ·obtain⟨l,ml,rfl⟩:=yS.mp hx'
    walk_at "rd";exact⟨c.1,hx l ml,r⟩
   ·refine⟨ls.map nm,SqL.of (by rw[ad,Zm.mpr (by simp),tf,tf];rfl),H,Gc.none (ah _ hD),?_⟩
    rw[List.all_map];exact k
  ·rename_i h2
   rw[decide_eq_false (by lia:¬ ls.length<=6)]at k;exact k
 ·rename_i h1
  rw[decide_eq_false (by lia:¬ 1<=ls.length)]at k;exact k
def kx(l:List Nat):Bool:=decide (1<=(spN 58 l).length)&&decide ((spN 58 l).length<=6)&&(spN 58 l).all nm
def sp_wn:Sp:=sp1 fun x H Q _=>NoT H/\asT x fun l=>((∀c∈l,c<128)/\l.length<=199)/\Q (.bl (kx l)) H
theorem p_(T:Txt K mg a):Fo P w K mg base "is_path" 4 sp_wn:=by
 refine T.Ab.g1 ["thing"] fun x0 fA cdv A outer s H Q E ND HU hr h=>?_;obtain⟨hN,h1⟩:=h;obtain⟨l,rfl,hl,k⟩:=asT.inv h1;refine⟨hN,_,(af (aC (cj (aD (bU K) rfl T.aY aV (fa2 (fv 0) (df (v:=.ty "str") rfl T.rS mK rfl))) (cF (aH (tW T) hr aA (fa1 (cK K ZU PySem.F.slot_str_split PySem.F.type_str_split oJ (fv 0) (fa1 (ak [58]))))))))),?_⟩;walk_at "rd";have sz:=szl;have sl:=oA 58 l;refine⟨by walk_at "om",fun p hp=>⟨aq hN rfl,_,SqL.of ad,by lia,fun q hq=>?_,H,Gc.none (ah _ hp),k⟩⟩;obtain⟨m1,m2⟩:=lV 58 l q hq;exact⟨fun c hc=>hl.1 c (m2 c hc),by lia⟩
def tx(ls:List (List Nat)):HO:=.lst (ls.map L2.T)
def sp_vD:Sp:=sp1 fun x H Q _=>NoT H/\asT x fun l=>((∀c∈l,c<128)/\l.length<=199)/\kx l=true/\∀p,H p=none->Q (.ref p) (upd H p (tx (spN 58 l)))
theorem vG(T:Txt K mg a):Fo P w K mg base "names_of" 5 sp_vD:=by
 refine T.wu.g1 ["path"] fun x0 fA cdv A outer s H Q E ND HU hr h=>?_;obtain⟨hN,h1⟩:=h;obtain⟨l,rfl,hl,e,k⟩:=asT.inv h1;refine⟨hN,_,(ae (a6 (bR (bL (aH (p_ T) hr aA (fa1 (fv 0))))) (af (cC T.mL T.mU bA)) aJ)
  (af (aC (cK K ZU PySem.F.slot_str_split PySem.F.type_str_split oJ (fv 0) (fa1 (ak [58])))))),?_⟩
 walk_at "rd";have sz:=szl;refine⟨hN,hl,itn (by rw[e];decide) ⟨by walk_at "om",fun p hp=>⟨_,Gc.one (ah _ hp) hp ad rfl,k p hp⟩⟩⟩
theorem jE{l:List Nat}(h:nm l=true):1<=l.length/\l.length<=12/\∀c∈l,97<=c/\c<=122:=by
 unfold nm lie at h;simp only[Zj,decide_eq_true_eq,Zk]at h;exact⟨h.1.1,h.1.2,fun c hc=>h.2 c hc⟩
theorem E5(xs:List V){i:Int}(h:0<=i):jS xs none (some i)=xs.take i.toNat:=by
 unfold jS;have e:i=((i.toNat:Nat):Int):=by walk_at "om"
 rw[e,HT.sIx_none,HT.sIx_nat,List.drop_zero,Nat.sub_zero];by_cases hl:i.toNat<=xs.length
 ·rw[Nat.min_eq_left hl];rfl
 ·rw[Nat.min_eq_right (by walk_at "om"),Zd (by walk_at "om"),Zd (by simp;lia)]
theorem ym(n:Nat):∀(ls:List (List Nat)),(∀l∈ls,l.length<=n)->(ls.map Y5).sum<=n*ls.length
 | [],_=>by simp
 |l::r,h=>by
  have:=ym n r fun x hx=>h x (vf _ hx);have h1:=h l (by simp);simp only[xa,List.sum_cons,vN,Nat.mul_add,Nat.mul_one];lia
theorem Am{ls:List (List Nat)}(h:∀l∈ls,l.length<=1000)(hl:ls.length<=1000):Ed [58] ls:=by
 have:=ym 1000 ls h;have h2:1000*ls.length<=1000*1000:=Nat.mul_le_mul_left _ hl;unfold Ed;simp only[vN,Z2];lia
def abN(l:List Nat):List (List Nat):=(Zb ((spN 58 l).length-1)).map fun k=>cx [58] ((spN 58 l).take (k+1))
def sp_BA:Sp:=sp1 fun x H Q _=>NoT H/\asT x fun l=>((∀c∈l,c<128)/\l.length<=199)/\∀p,H p=none->Q (.ref p) (upd H p (tx (abN l)))
theorem Aq(T:Txt K mg a):Fo P w K mg base "above" 1 sp_BA:=by
 refine T.En.g1 ["path","names"] fun x0 fA cdv A outer s H Q E ND HU hr h=>?_;obtain⟨hN,h1⟩:=h;obtain⟨l,rfl,hl,k⟩:=asT.inv h1;refine⟨hN,_,(ae (aO 1 ND (cK K ZU PySem.F.slot_str_split PySem.F.type_str_split oJ (fv 0) (fa1 (ak [58]))))
  (af (aC (bN rfl (cl:=_) (x:="many") (xs:=["many"]) (fr:=["names"]) (ks:=[1]) (by walk_at "cq") rfl (zk rfl T.gG (fa2 aa (aD (bQ K) rfl T.cZ ci (fa1 (fv 1))))) (fun _ _ _ _ _=>(aK (i:=0) (bX (l:=["many","names"]) (by decide)) rfl (Or.inl rfl))) (fun _ _ _ _ _=>dH) (fun _ _ _ _ _=>(E_ (cK K ZU PySem.F.slot_str_join PySem.F.type_str_join (v8 K) (ak [58]) (fa1 (dZ (pR K) (fv 1) gr (eK (fv 0))))))))))),?_⟩
 walk_at "rd";have sz:=szl;have sl:=oA 58 l;refine⟨by walk_at "om",fun p hp=>?_⟩;have sm:=ah (HO.lst (List.map L2.T (spN 58 l))) hp;have nb:((spN 58 l).length:Int)<2 ^ 62:=by
  have:(400:Int)<2 ^ 62:=by decide
  lia
 refine JY (fun H'=>NoT H'/\SqL K H' p (List.map L2.T (spN 58 l))) (fun D ys hD=>⟨aq (aq hN rfl) rfl,SqL.same (ah _ hD) (SqL.of ad)⟩) 1 (spN 58 l).length ((spN 58 l).length-1) (by walk_at "om") (fun _=>true)
  (fun v=>match v with | .int i=>L2.T (cx [58] ((spN 58 l).take i.toNat))|_=>.non) (fun R r=>?_) ⟨by decide,by decide,by walk_at "om",nb⟩ (by walk_at "om") (fun x _ H' R _ r=>r) (fun j hj _ H' R c r=>?_) (fun D hD=>?_)
 ·walk_at "rd"
  exact⟨_,.inl (SqL.of ad),by rw[zg];exact r⟩
 ·walk_at "rd"
  refine⟨c.1,p,_,rfl,c.2,fun q hq=>⟨(spN 58 l).take (1+(j:Int)).toNat,SqL.of (by rw[ad,E5 _ (by walk_at "om"),List.map_take]),Am (fun x hx=>?_) (by rw[uV];lia),H',Gc.none (ah _ hq),r⟩⟩;have:=(lV 58 l x (Yo hx)).1;lia
 ·refine⟨_,Gc.one (sm.trans (ah _ hD)) (sm.free hD) ad rfl,?_⟩
  have e:(List.map (fun v=>match v with|V.int i=>L2.T (cx [58] (List.take i.toNat (spN 58 l)))|_=>V.non) (List.filter (fun _=>true) (List.map (fun k:Nat=>V.int (1+(k:Int))) (Zb ((spN 58 l).length-1)))))=(abN l).map L2.T:=by
   rw[Zm.mpr (by simp),tf];unfold abN;rw[tf];apply nE;intro k _;show L2.T (cx [58] (List.take (1+(k:Int)).toNat (spN 58 l)))=L2.T (cx [58] (List.take (k+1) (spN 58 l)));rw[show(1+(k:Int)).toNat=k+1 by walk_at "om"]
  rw[e];exact k D (sm.free hD)
def sp_um:Sp:=sp1 fun x H Q _=>NoT H/\asK H x fun _=>Q (.bl (amg x 0 4799)) H
theorem nJ(T:Txt K mg a):Fo P w K mg base "is_month" 3 sp_um:=by
 refine T.wt.g1 ["thing"] fun x0 fA cdv A outer s H Q E ND HU hr h=>?_;obtain⟨hN,h1⟩:=h;refine⟨hN,_,(af (aC (aH (iM T) hr aA (fa3 (fv 0) aa aa)))),?_⟩;walk_at "rd";exact⟨hN,h1⟩
def nt2(l:List Nat):Prop:=l=[]
def sp_wO:Sp:=sp1 fun x H Q _=>NoT H/\asT x fun l=>nt2 l/\Q (.bl true) H
theorem G8{l:List Nat}(h:nt2 l):ok l/\l.length<=4/\uI l [32]=false/\l.getLast? ≠ some 32/\lie l 32 126=true:=by
 subst h;exact⟨by unfold ok;decide,by decide,by decide,by decide,by decide⟩
theorem wm(T:Txt K mg a):Fo P w K mg base "is_note" 2 sp_wO:=by
 refine T.zw.g1 ["thing"] fun x0 fA cdv A outer s H Q E ND HU hr h=>?_;obtain⟨hN,h1⟩:=h;obtain⟨l,rfl,h2,k⟩:=asT.inv h1;obtain⟨ol,l4,hp,hg,hl⟩:=G8 h2;refine⟨hN,_,(ae (a6 (L2.PW.pt (kj (bR (bL (aD (bU K) rfl T.aY aV (fa2 (fv 0) (df (v:=.ty "str") rfl T.rS mK rfl))))) (gB (aN kq (aD (bQ K) rfl T.cZ ci (fa1 (fv 0))) aa)))) (af (aC g8)) aJ)
  (ae (a6 (L2.PW.pt (kj (bL (cK K ZU PySem.F.slot_str_startswith PySem.F.type_str_startswith pM (fv 0) (fa1 (ak [32])))) (gB (bL (cK K ZU PySem.F.slot_str_endswith PySem.F.type_str_endswith uv (fv 0) (fa1 (ak [32]))))))) (af (aC g8)) aJ)
  (af (aC (aH (gL T) hr aA (fa3 (fv 0) (ak [32]) (ak [126]))))))),?_⟩
 walk_at "rd";rw[<- hl]at k;refine⟨om ol,itn (by lia) (itn (by rw[hp];decide) (itn (fun z=>hg (of_decide_eq_true z)) ⟨hN,ol,32,126,rfl,rfl,k⟩))⟩
end
section
variable{pS:Addr}{ns:List Int}{P:Program}{w:World}{K:W.Frag}{mg:Str->Option Value}{base:Heap}{a:Adr}
open K3
def sp_rW:Sp:=sp1 fun x H Q _=>asI x fun y=>NoT H/\Q (.int (LD y)) H
theorem lM(T:Txt K mg a):Fo P w K mg base "leap_days" 1 sp_rW:=by
 refine T.vd.g1 ["years"] fun x0 fA cdv A outer s H Q E ND HU hr h=>?_;obtain⟨y,rfl,hN,k⟩:=asI.inv h;refine⟨hN,_,(af (aC (aj aE (aj cJ (aj aX (aj aE (fv 0) aa) aa) (aj aX (aj aE (fv 0) aa) aa)) (aj aX (aj aE (fv 0) aa) aa)))),?_⟩;walk_at "rd";exact k
theorem C4(xs:List V){i:Int}(h:0<=i):jS xs none (some i)=xs.take i.toNat:=by
 unfold jS;have e:i=((i.toNat:Nat):Int):=by lia
 rw[e,HT.sIx_none,HT.sIx_nat,List.drop_zero,Nat.sub_zero];by_cases hl:i.toNat<=xs.length
 ·rw[Nat.min_eq_left hl];rfl
 ·rw[Nat.min_eq_right (by lia),Zd (by lia),Zd (by simp;lia)]
def LEN:List Int:=[31,28,31,30,31,30,31,31,30,31,30,31]
theorem B4{i:Int}(h0:0<=i)(h1:i<12):(LEN.take i.toNat).sum=S i:=by
 have hc:i=0\/i=1\/i=2\/i=3\/i=4\/i=5\/i=6\/i=7\/i=8\/i=9\/i=10\/i=11:=by lia
 rcases hc with h|h|h|h|h|h|h|h|h|h|h|h <;> subst h <;> decide
theorem Ik(T:Txt K mg a)(H:Hp):SqT K H a.dC (LEN.map V.int):=.inr T.dC
def sp_sV:Sp:=sp1 fun x H Q _=>asI x fun m=>NoT H/\Q (.int (FD m)) H
theorem k_(T:Txt K mg a):Fo P w K mg base "first_day" 2 sp_sV:=by
 refine T.uG.g1 ["month","years","ahead","leaps"] fun x0 fA cdv A outer s H Q E ND HU hr h=>?_;obtain⟨m,rfl,hN,k⟩:=asI.inv h;refine⟨hN,_,(ae (aO 1 ND (aj aX (fv 0) aa))
  (ae (aO 2 ND (aj aW (fv 0) aa))
  (ae (aO 3 ND (Bq (aN kq (fv 2) aa) (aH (lM T) hr aA (fa1 (aj aE (fv 1) aa))) (aH (lM T) hr aA (fa1 (fv 1)))))
  (af (aC (aj aE (aj aE (aj cW aa (fv 1)) (fv 3)) (aD (yc K rfl) rfl T.EV AL (fa1 (dZ (Ec K) (eI (v:=.ref a.dC) rfl T.y9 rfl) gr (eK (fv 2))))))))))),?_⟩
 walk_at "rd";have b0:0<=m % 12:=ZJ _ (by decide);have b1:m % 12<12:=ZY _ (by decide);have nw:¬ (HT.sIx (LEN.map V.int).length 0 none=0/\HT.sIx (LEN.map V.int).length (LEN.map V.int).length (some (m % 12))=(LEN.map V.int).length):=fun⟨_,z⟩=>by
  have e:m % 12=(((m % 12).toNat:Nat):Int):=by lia
  rw[e,HT.sIx_nat]at z;have l:(LEN.map V.int).length=12:=rfl;rw[l]at z;lia
 have fin:∀(p:Addr),(upd H p (.tup (jS (LEN.map V.int) none (some (m % 12))))) p=some (.tup ((LEN.take (m % 12).toNat).map V.int)):=fun p=>by
  rw[ad,C4 _ b0,List.map_take]
 split
 ·rename_i h1
  refine⟨hN,a.dC,_,rfl,Ik T _,nw,fun p hp=>⟨LEN.take (m % 12).toNat,.inr (SqT.of (fin p)),H,Gc.none (ah _ hp),?_⟩⟩;have e:365*(m / 12)+LD (m / 12+1)+(LEN.take (m % 12).toNat).sum=FD m:=by
   rw[B4 b0 b1];unfold FD;rw[if_pos h1]
  rw[e];exact k
 ·rename_i h1
  refine⟨hN,a.dC,_,rfl,Ik T _,nw,fun p hp=>⟨LEN.take (m % 12).toNat,.inr (SqT.of (fin p)),H,Gc.none (ah _ hp),?_⟩⟩;have e:365*(m / 12)+LD (m / 12)+(LEN.take (m % 12).toNat).sum=FD m:=by
   rw[B4 b0 b1];unfold FD;rw[if_neg h1]
  rw[e];exact k
def sp_uj:Sp:=sp1 fun x H Q _=>asI x fun m=>NoT H/\Q (.int (FD (m+1)-1)) H
theorem fI(T:Txt K mg a):Fo P w K mg base "last_day" 3 sp_uj:=by
 refine T.xD.g1 ["month"] fun x0 fA cdv A outer s H Q E ND HU hr h=>?_;obtain⟨m,rfl,hN,k⟩:=asI.inv h;refine⟨hN,_,(af (aC (aj cJ (aH (k_ T) hr aA (fa1 (aj aE (fv 0) aa))) aa))),?_⟩;walk_at "rd";exact⟨hN,k⟩
def sp_uV:Sp:=sp1 fun x H Q _=>asI x fun d=>NoT H/\(0<=d/\d<=146096)/\Q (.int (MO d)) H
theorem wc(T:Txt K mg a):Fo P w K mg base "month_of" 4 sp_uV:=by
 refine T.wD.g1 ["day","month"] fun x0 fA cdv A outer s H Q E ND HU hr h=>?_;obtain⟨d,rfl,hN,⟨d0,d1⟩,k⟩:=asI.inv h;refine⟨hN,_,(ae (aO 1 ND (aj aX (aj cW (fv 0) aa) aa))
  (ae (iR (by passes_own) (aN kq (aH (k_ T) hr aA (fa1 (fv 1))) (fv 0)) (af (aO 1 ND (aj cJ (fv 1) aa))))
  (ae (iR (by passes_own) (aN rj (aH (fI T) hr aA (fa1 (fv 1))) (fv 0)) (af (aO 1 ND (aj aE (fv 1) aa))))
  (af (aC (fv 1)))))),?_⟩
 walk_at "rd";refine⟨fun n σ H1=>∃m,σ=[some (.int d),some (.int m)]/\H=H1/\0<=m/\m<=4799/\n=m.toNat,⟨_,_,rfl,rfl,by lia,by lia,rfl⟩,?_⟩;rintro n σ H1 ⟨m,rfl,rfl,m0,m1,rfl⟩;walk_at "rd";refine⟨hN,?_⟩;split
 ·rename_i h2
  have hm:1<=m:=by
   by_cases z:m=0
   ·rw[z,F4]at h2;lia
   ·lia
  refine⟨_,fun σ' H' z=>z,(m-1).toNat,by lia,m-1,rfl,rfl,by lia,by lia,rfl⟩
 ·rename_i h2
  refine⟨fun n σ H1=>∃m,σ=[some (.int d),some (.int m)]/\H=H1/\0<=m/\m<=4799/\FD m<=d/\n=(4800-m).toNat,⟨_,_,rfl,rfl,m0,m1,by lia,rfl⟩,?_⟩;rintro n σ H1 ⟨m',rfl,rfl,m0',m1',h3,rfl⟩;walk_at "rd";refine⟨hN,?_⟩;split
  ·rename_i h4
   have hm:m'+1<=4799:=by
    by_cases z:m'=4799
    ·rw[z]at h4
     have e:(4799:Int)+1=4800:=by decide
     rw[e,AO]at h4;lia
    ·lia
   exact⟨_,fun σ' H' z=>z,(4800-(m'+1)).toNat,by lia,m'+1,rfl,rfl,by lia,hm,by lia,rfl⟩
  ·rename_i h4
   rw[BZ h3 (by lia)]at k;exact k
end
section
variable{pS:Addr}{ns:List Int}{P:Program}{w:World}{K:W.Frag}{mg:Str->Option Value}{base:Heap}{a:Adr}
def Keep(S:List Addr)(H H':Hp):Prop:=∀c z,H c=some z->c∉S->H' c=some z
theorem Keep.refl{S:List Addr}{H:Hp}:Keep S H H:=fun _ _ e _=>e
theorem Keep.trans{S:List Addr}{H H1 H2:Hp}(x:Keep S H H1)(y:Keep S H1 H2):Keep S H H2:=fun c z e n=>y c z (x c z e n) n
theorem Keep.mono{S S':List Addr}{H H':Hp}(x:Keep S H H')(h:∀c,c∈S->c∈S'):Keep S' H H':=fun c z e n=>x c z e fun m=>n (h c m)
theorem Keep.new{S:List Addr}{H H1:Hp}{p:Addr}{o:HO}(x:Keep S H H1)(h:H1 p=none):Keep S H (upd H1 p o):=fun c z e n=>by
 rw[ag (az (x c z e n) h)];exact x c z e n
theorem Keep.put{S:List Addr}{H H1:Hp}{p:Addr}{o:HO}(x:Keep S H H1)(h:p∈S):Keep S H (upd H1 p o):=fun c z e n=>by
 rw[ag (by rintro rfl;exact n h)];exact x c z e n
theorem Keep.same{S:List Addr}{H H':Hp}(x:Same H H'):Keep S H H':=fun c z e _=>x c z e
theorem Keep.free{S:List Addr}{H H':Hp}{p:Addr}(x:Keep S H H')(h:H' p=none)(n:p∉S):H p=none:=by
 cases e:H p with
 |none=>rfl
 |some z=>rw[x p z e n]at h;cases h
theorem bD{H:Hp}{p q:Addr}{x y:HO}(h:H p=some x)(g:H q=some y)(n:x≠y:=by intro z;cases z):p≠q:=by
 rintro rfl;rw[h]at g;cases g;exact n rfl
def cl:Option Int->V
 |none=>.non
 |some m=>.int m
structure Acc where
 pa:List Nat
 ob:Addr
 bl:Addr
 ki:V
 cu:V
 fi:Int
 un:Option Int
 be:List (List Nat)
def fP(k c f u b:V):List (Str × V):=[("kind",k),("currency",c),("first",f),("until",u),("below",b)]
theorem fk(k c f u b:V):wO (zf "kind") (fP k c f u b)=some k:=iP
theorem ff(k c f u b:V):wO (zf "first") (fP k c f u b)=some f:=by unfold fP;rw[aU (by decide +kernel),aU (by decide +kernel)];exact iP
theorem fu(k c f u b:V):wO (zf "until") (fP k c f u b)=some u:=by unfold fP;rw[aU (by decide +kernel),aU (by decide +kernel),aU (by decide +kernel)];exact iP
theorem fb(k c f u b:V):wO (zf "below") (fP k c f u b)=some b:=by unfold fP;rw[aU (by decide +kernel),aU (by decide +kernel),aU (by decide +kernel),aU (by decide +kernel)];exact iP
theorem Iv(k c f u b:V):wO (zf "stands_on") (fP k c f u b)=none:=by unfold fP;rw[aU (by decide +kernel),aU (by decide +kernel),aU (by decide +kernel),aU (by decide +kernel),aU (by decide +kernel)];rfl
theorem IS(k c f u b v:V):dw (zf "until") v (fP k c f u b)=fP k c f v b:=by
 have q1:¬ (zf "kind" = zf "until"):=by decide +kernel
 have q2:¬ (zf "currency" = zf "until"):=by decide +kernel
 have q3:¬ (zf "first" = zf "until"):=by decide +kernel
 simp[dw,fP,q1,q2,q3]
theorem Gf(k c f u b:V):dw (zf "below") b (dw (zf "until") u (dw (zf "first") f (dw (zf "currency") c (dw (zf "kind") k []))))=fP k c f u b:=by
 have q1:¬ (zf "kind" = zf "until"):=by decide +kernel
 have q2:¬ (zf "currency" = zf "until"):=by decide +kernel
 have q3:¬ (zf "first" = zf "until"):=by decide +kernel
 have q4:¬ (zf "kind" = zf "first"):=by decide +kernel
 have q5:¬ (zf "currency" = zf "first"):=by decide +kernel
 have q6:¬ (zf "kind" = zf "currency"):=by decide +kernel
 have q7:¬ (zf "kind" = zf "below"):=by decide +kernel
 have q8:¬ (zf "currency" = zf "below"):=by decide +kernel
 have q9:¬ (zf "first" = zf "below"):=by decide +kernel
 have q0:¬ (zf "until" = zf "below"):=by decide +kernel
 simp[dw,fP,q1,q2,q3,q4,q5,q6,q7,q8,q9,q0]
def sp_zg(A:Addr):Sp:=sp4 fun x k c f H Q _=>NoT H/\asR x fun p=>∃dx,H p=some (.ins A dx [])/\∀b H',H b=none->H' p=some (.ins A dx (fP k c f .non (.ref b)))->H' b=some (.lst [])->Keep [p] H H'->NoT H'->Q .non H'
theorem eG(T:Txt K mg a):Mo P w K mg base a.aM "__init__" 1 (sp_zg a.aM):=by
 refine T.jL.x4 ["self","kind","currency","first"] fun x0 x1 x2 x3 fA cdv A outer s H Q E ND HU hr h=>?_;obtain⟨hN,h1⟩:=h;obtain⟨p,rfl,dx,hp,k⟩:=asR.inv h1;refine⟨_,(ae (di K (fv 0) (fv 1))
  (ae (di K (fv 0) (fv 2))
  (ae (di K (fv 0) (fv 3))
  (ae (di K (fv 0) cG)
  (af (di K (fv 0) (bz (FA.pa ce)))))))),?_⟩
 walk_at "rd";refine⟨_,_,_,hp,T.bg,T.eY,by decide,_,_,_,ad,T.bg,T.fg,by show 1<1000;decide,_,_,_,ad,T.bg,T.eB,by show 2<1000;decide,_,_,_,ad,T.bg,T.b8,by show 3<1000;decide,wQ _,fun b hb=>?_⟩;rw[oB,oB,oB]at hb |-
 have np:p≠b:=fun q=>by rw[<- q,ad]at hb;cases hb
 have hb0:H b=none:=by rw[ag (Ne.symm np)]at hb;exact hb
 refine⟨_,_,_,(ag np).trans ad,T.bg,T.d_,by show 4<1000;decide,?_⟩;rw[Gf];refine k b _ hb0 ad ?_ ?_ ?_
 ·rw[ag (Ne.symm np),ad]
 ·exact((Keep.refl.put (zq.2 rfl)).new hb).put (zq.2 rfl)
 ·exact aq (aq (aq hN rfl) rfl) rfl
def lat(u:Option Int)(d:Int):Bool:=match u with
 |none=>true
 |some t=>decide (d<t)
def opn(f:Int)(u:Option Int)(d:Int):Bool:=decide (f<=d)&&lat u d
def sp_on(A:Addr):Sp:=sp2 fun x y H Q _=>NoT H/\asR x fun p=>asI y fun d=>∃dx k c f u b,H p=some (.ins A dx (fP k c (.int f) (cl u) b))/\Q (.bl (opn f u d)) H
theorem d5(T:Txt K mg a):Mo P w K mg base a.aM "stands_on" 1 (sp_on a.aM):=by
 refine T.jl.g2 ["self","day"] fun x0 x1 fA cdv A outer s H Q E ND HU hr h=>?_;obtain⟨hN,h1⟩:=h;obtain⟨p,rfl,h2⟩:=asR.inv h1;obtain⟨d,rfl,dx,k,c,f,u,b,hp,q⟩:=asI.inv h2;refine⟨hN,_,(af (aC (cj (bP d4 (ba K (fv 0)) (fv 1) (bY _)) (cF (Bf (rV (sJ (ba K (fv 0)))) (cF (bP rj (fv 1) (ba K (fv 0)) (bY _)))))))),?_⟩;walk_at "rd";refine⟨_,_,_,_,hp,T.bg,T.eB,ff ..,?_⟩;walk_at "rd";split
 ·rename_i h1
  refine⟨_,_,_,_,hp,T.bg,T.b8,fu ..,?_⟩;have e:opn f u d=lat u d:=by unfold opn;rw[decide_eq_true h1];rfl
  rw[e]at q;cases u with
  |none=>exact q
  |some t=>
   rw[if_neg (by intro z;cases z)];exact⟨_,_,_,_,hp,T.bg,T.b8,fu ..,⟨H,Gc.refl,q⟩⟩
 ·rename_i h1
  have e:opn f u d=false:=by unfold opn;rw[decide_eq_false h1];rfl
  rw[e]at q;exact q
def sp_zd:Sp:=sp2 fun _ _ _ _ _=>False
theorem gb(T:Txt K mg a):Mo P w K mg base a.aM "stands_later" 1 sp_zd:=by
 refine T.gE.g2 ["self","day"] fun x0 x1 fA cdv A outer s H Q E ND HU hr h=>?_;exact h.elim
def kyA(c:Acc):Key × V:=(.inr ⟨⟨c.pa⟩⟩,.ref c.ob)
structure AAt(A:Addr)(H:Hp)(c:Acc):Prop where
 ob:∃dx,H c.ob=some (.ins A dx (fP c.ki c.cu (.int c.fi) (cl c.un) (.ref c.bl)))
 ls:H c.bl=some (.lst (c.be.map L2.T))
structure CAt(C A:Addr)(H:Hp)(p d:Addr)(cs:List Acc):Prop where
 ob:∃dx,H p=some (.ins C dx [("by_path",.ref d)])
 dc:H d=some (.dK (cs.map kyA))
 ac:∀c∈cs,AAt A H c
 np:(cs.map (·.pa)).Nodup
 na:(cs.map (·.ob)).Nodup
 nb:(cs.map (·.bl)).Nodup
theorem CAt.keep{C A:Addr}{S:List Addr}{H H':Hp}{p d:Addr}{cs:List Acc}(j:CAt C A H p d cs)(x:Keep S H H')(hp:p∉S)(hd:d∉S)(hc:∀c∈cs,c.ob∉S/\c.bl∉S):CAt C A H' p d cs:=
 ⟨by obtain⟨dx,e⟩:=j.ob;exact⟨dx,x _ _ e hp⟩,x _ _ j.dc hd,fun c hm=>⟨by obtain⟨dx,e⟩:=(j.ac c hm).ob;exact⟨dx,x _ _ e (hc c hm).1⟩,x _ _ (j.ac c hm).ls (hc c hm).2⟩,j.np,j.na,j.nb⟩
theorem CAt.same{C A:Addr}{H H':Hp}{p d:Addr}{cs:List Acc}(j:CAt C A H p d cs)(x:Same H H'):CAt C A H' p d cs:=
 j.keep (S:=[]) (Keep.same x) zY zY fun _ _=>⟨zY,zY⟩
def fnd(cs:List Acc)(l:List Nat):Option Acc:=cs.find? fun c=>decide (c.pa=l)
theorem iZ(l:List Nat):∀cs:List Acc,dN (cs.map kyA) (.inr ⟨⟨l⟩⟩)=(fnd cs l).map fun c=>.ref c.ob
 | []=>rfl
 |c::r=>by
  have ih:=iZ l r;by_cases h:c.pa=l
  ·rw[xa,d9 (by show Sum.inr _=Sum.inr _;rw[h])]
   simp[fnd,h,kyA]
  ·rw[xa,de (fun z=>h (by simpa [kyA] using z)),ih]
   simp[fnd,h]
theorem ow{cs:List Acc}{l:List Nat}{c:Acc}(h:fnd cs l=some c):c∈cs/\c.pa=l:=
 ⟨List.mem_of_find?_eq_some h,by simpa using List.find?_some h⟩
theorem pA{cs:List Acc}{l:List Nat}(h:fnd cs l=none):∀c∈cs,c.pa≠l:=fun c hc=>by
 simpa using List.find?_eq_none.mp h c hc
theorem i6{β:Type}{f:Acc->β}:∀ {cs:List Acc} {c c':Acc},(cs.map f).Nodup->c∈cs->c'∈cs->f c=f c'->c=c'
 | [],_,_,_,h,_,_=>nomatch h
 |x::r,c,c',hn,h,h',e=>by
  rw[xa,ZW]at hn;rcases zZ.mp h with h1|h1
  ·rcases zZ.mp h' with h2|h2
   ·rw[h1,h2]
   ·subst h1
    exact absurd (by rw[e];exact wR h2) hn.1
  ·rcases zZ.mp h' with h2|h2
   ·subst h2
    exact absurd (by rw[<- e];exact wR h1) hn.1
   ·exact i6 hn.2 h1 h2 e
theorem jF{cs:List Acc}(hn:(cs.map (·.pa)).Nodup){c:Acc}(hc:c∈cs):fnd cs c.pa=some c:=by
 cases e:fnd cs c.pa with
 |none=>exact absurd rfl (pA e c hc)
 |some c'=>
  obtain⟨h1,h2⟩:=ow e;rw[i6 hn h1 hc h2]
theorem lkp(x:V):wO (zf "by_path") [(zf "by_path",x)]=some x:=iP
def sp_zH(C A:Addr):Sp:=sp1 fun x H Q _=>NoT H/\asR x fun p=>∃dx,H p=some (.ins C dx [])/\∀d H',H d=none->CAt C A H' p d []->Keep [p] H H'->NoT H'->Q .non H'
theorem lH(T:Txt K mg a):Mo P w K mg base a.aR "__init__" 1 (sp_zH a.aR a.aM):=by
 refine T.lZ.x1 ["self"] fun x0 fA cdv A outer s H Q E ND HU hr h=>?_;obtain⟨hN,h1⟩:=h;obtain⟨p,rfl,dx,hp,k⟩:=asR.inv h1;refine⟨_,(af (di K (fv 0) ot)),?_⟩;walk_at "rd";intro d hd;have np:p≠d:=az hp hd;refine⟨_,_,_,(ag np).trans hp,T.bw,T.bT,by show 0<1000;decide,?_⟩;refine k d _ hd ⟨⟨dx,?_⟩,?_,(fun _ h=>nomatch h),.nil,.nil,.nil⟩ ?_ ?_
 ·rw[ad];simp[dw]
 ·rw[ag (Ne.symm np),ad];rfl
 ·exact(Keep.refl.new hd).put (zq.2 rfl)
 ·exact aq (aq hN rfl) rfl
def acV(cs:List Acc)(y:V):Option Acc:=match y with
 | .str s=>fnd cs s.cps.toList
 |_=>none
theorem vh(cs:List Acc)(l:List Nat):acV cs (L2.T l)=fnd cs l:=rfl
theorem tB{cs:List Acc}{y:V}(h:isS y=false):acV cs y=none:=by
 cases y with
 |str s=>cases h
 |_=>rfl
theorem vg{y:V}(h:isS y=true):∃l,y=L2.T l:=by
 cases y with
 |str s=>exact⟨s.cps.toList,rfl⟩
 |_=>cases h
def sp_FQ(C A:Addr):Sp:=sp2 fun x y H Q _=>NoT H/\asR x fun p=>∃d cs,CAt C A H p d cs/\asK H y fun _=>Q (.bl (acV cs y).isSome) H
theorem tN(T:Txt K mg a):Mo P w K mg base a.aR "has" 1 (sp_FQ a.aR a.aM):=by
 refine T.vn.g2 ["self","path"] fun x0 x1 fA cdv A outer s H Q E ND HU hr h=>?_;obtain⟨hN,h1⟩:=h;obtain⟨p,rfl,d,cs,J,h2⟩:=asR.inv h1;obtain⟨t,ht,hb,k⟩:=asK.inv h2;obtain⟨dx,hp⟩:=J.ob;refine⟨hN,_,(af (aC (cj (aD (bU K) rfl T.aY aV (fa2 (fv 1) (df (v:=.ty "str") rfl T.rS mK rfl))) (cF (rV (wH (Zz HU) (fv 1) (ba K (fv 0))) (by with_unfolding_all rfl)))))),?_⟩;walk_at "rd";simp only[ht];rw[show bZ t "str" = isS x1 by rw[<- uB ht];rcases hb with rfl|rfl|rfl|rfl|rfl|rfl|rfl <;> rfl];cases e:isS x1 with
 |false=>
  refine itn (by decide) ?_;rw[tB e]at k;exact k
 |true=>
  obtain⟨l,rfl⟩:=vg e;refine itp rfl ⟨_,_,_,_,hp,T.bw,T.bT,lkp _,d,_,rfl,DGet.k (k:=.inr ⟨⟨l⟩⟩) J.dc,?_⟩;rw[iZ,ZA];exact k
theorem HE(x:V):wO (zf "has") [(zf "by_path",x)]=none:=by rw[aU (by decide +kernel)];rfl
theorem eW(x:V):wO (zf "account") [(zf "by_path",x)]=none:=by rw[aU (by decide +kernel)];rfl
def sp_ww(C A na:Addr):Sp:=sp2 fun x y H Q E=>NoT H/\asR x fun p=>∃d cs,CAt C A H p d cs/\asK H y fun _=>match acV cs y with
 |none=>E (.ref na) none H
 |some c=>Q (.ref c.ob) H
theorem cv(T:Txt K mg a):Mo P w K mg base a.aR "account" 2 (sp_ww a.aR a.aM a.aS):=by
 refine T.nU.g2 ["self","path"] fun x0 x1 fA cdv A outer s H Q E ND HU hr h=>?_;obtain⟨hN,h1⟩:=h;obtain⟨p,rfl,d,cs,J,h2⟩:=asR.inv h1;obtain⟨t,ht,hb,k⟩:=asK.inv h2;obtain⟨dx,hp⟩:=J.ob;have sz:=szl;refine⟨hN,_,(ae (a6 (bR (bL (b7 (fv 0) T.bw (tN T) (hr.mono (by decide)) aA (fa1 (fv 1))))) (af (cC T.uD T.nj bA)) aJ)
  (af (aC (aL (Zz HU) (ba K (fv 0)) (fv 1) (fun _ _=>rfl))))),?_⟩
 walk_at "rd";refine⟨_,_,hp,HE _,hN,d,cs,J,asK.of ht ?_⟩;cases e:acV cs x1 with
 |none=>
  rw[e]at k;exact itp rfl ⟨by walk_at "om",k⟩
 |some c=>
  rw[e]at k;cases es:isS x1 with
  |false=>rw[tB es]at e;cases e
  |true=>
   obtain⟨l,rfl⟩:=vg es;have e:fnd cs l=some c:=e;have g:=DGet.k (k:=.inr ⟨⟨l⟩⟩) J.dc;rw[iZ,e]at g;exact itn (by intro z;cases z) ⟨_,_,_,_,hp,T.bw,T.bT,lkp _,d,.ref c.ob,rfl,g,k⟩
theorem fcu(k c f u b:V):wO (zf "currency") (fP k c f u b)=some c:=by unfold fP;rw[aU (by decide +kernel)];exact iP
def sp_Aw(C A:Addr):Sp:=sp2 fun x y H Q _=>NoT H/\asR x fun p=>asT y fun l=>∃d cs c,CAt C A H p d cs/\c∈cs/\c.pa=l/\Q c.cu H
theorem iq(T:Txt K mg a):Mo P w K mg base a.aR "currency_of" 3 (sp_Aw a.aR a.aM):=by
 refine T.jm.g2 ["self","path"] fun x0 x1 fA cdv A outer s H Q E ND HU hr h=>?_;obtain⟨hN,h1⟩:=h;obtain⟨p,rfl,h2⟩:=asR.inv h1;obtain⟨l,rfl,d,cs,c,J,hc,rfl,k⟩:=asT.inv h2;obtain⟨dx,hp⟩:=J.ob;refine⟨hN,_,(af (aC (ba K (b7 (fv 0) T.bw (cv T) (hr.mono (by decide)) aA (fa1 (fv 1)))))),?_⟩;walk_at "rd";obtain⟨du,ho⟩:=(J.ac c hc).ob;exact⟨_,_,hp,eW _,hN,d,cs,J,(by rw[vh,jF J.np hc];exact⟨_,_,_,_,ho,T.bg,T.fg,fcu ..,k⟩)⟩
def sp_AK(C A na:Addr):Sp:=sp2 fun x y H Q E=>NoT H/\asR x fun p=>∃d cs,CAt C A H p d cs/\asK H y fun _=>match acV cs y with
 |none=>E (.ref na) none H
 |some c=>Q c.ki H
theorem fW(T:Txt K mg a):Mo P w K mg base a.aR "kind_of" 3 (sp_AK a.aR a.aM a.aS):=by
 refine T.nW.g2 ["self","path"] fun x0 x1 fA cdv A outer s H Q E ND HU hr h=>?_;obtain⟨hN,h1⟩:=h;obtain⟨p,rfl,d,cs,J,h2⟩:=asR.inv h1;obtain⟨t,ht,hb,k⟩:=asK.inv h2;obtain⟨dx,hp⟩:=J.ob;refine⟨hN,_,(af (aC (ba K (b7 (fv 0) T.bw (cv T) (hr.mono (by decide)) aA (fa1 (fv 1)))))),?_⟩;walk_at "rd";refine⟨_,_,hp,eW _,hN,d,cs,J,asK.of ht ?_⟩;cases e:acV cs x1 with
 |none=>rw[e]at k;exact k
 |some c=>
  rw[e]at k;have hc:c∈cs:=by
   cases x1 <;> first|exact(ow e).1|cases e
  obtain⟨du,ho⟩:=(J.ac c hc).ob;exact⟨_,_,_,_,ho,T.bg,T.eY,fk ..,k⟩
def sp_wR(C A:Addr):Sp:=sp3 fun x y z H Q _=>NoT H/\asR x fun p=>asT y fun l=>asI z fun t=>∃d cs c,CAt C A H p d cs/\c∈cs/\c.pa=l/\Q (.bl (opn c.fi c.un t)) H
theorem f8(T:Txt K mg a):Mo P w K mg base a.aR "is_open" 3 (sp_wR a.aR a.aM):=by
 refine T.nS.g3 ["self","path","day"] fun x0 x1 x2 fA cdv A outer s H Q E ND HU hr h=>?_;obtain⟨hN,h1⟩:=h;obtain⟨p,rfl,h2⟩:=asR.inv h1;obtain⟨l,rfl,h3⟩:=asT.inv h2;obtain⟨t,rfl,d,cs,c,J,hc,rfl,k⟩:=asI.inv h3;obtain⟨dx,hp⟩:=J.ob;refine⟨hN,_,(af (aC (b7 (b7 (fv 0) T.bw (cv T) (hr.mono (by decide)) aA (fa1 (fv 1))) T.bg (d5 T) (hr.mono (by decide)) aA (fa1 (fv 2))))),?_⟩;walk_at "rd";obtain⟨du,ho⟩:=(J.ac c hc).ob;exact⟨_,_,hp,eW _,hN,d,cs,J,(by rw[vh,jF J.np hc];exact⟨_,_,ho,Iv ..,hN,_,_,_,_,_,_,ho,k⟩)⟩
end
local macro_rules | `(tactic| walk_at "rq") => `(tactic| ((try dsimp only [↓mV, rdI, L2.cS, xa, Z6, ZG, YD, vN, Z2, t7, List.getElem?_cons_zero, List.getElem?_cons_succ, List.set_cons_zero, List.set_cons_succ, Option.bind_some, id_eq]); walk_at "rd"))
section
variable{pS:Addr}{ns:List Int}{P:Program}{w:World}{K:W.Frag}{mg:Str->Option Value}{base:Heap}{a:Adr}
theorem fh{β:Type}{l:List β}{x:β}(h:l.Nodup)(n:x∉l):(l++[x]).Nodup:=
 List.nodup_append.mpr ⟨h,ZW.mpr ⟨zY,List.nodup_nil⟩,fun a ha b hb=>by rw[zq.mp hb];rintro rfl;exact n ha⟩
theorem CAt.bl_d{C A:Addr}{H:Hp}{p d:Addr}{cs:List Acc}(J:CAt C A H p d cs){c:Acc}(hc:c∈cs):c.bl≠d:=bD (J.ac c hc).ls J.dc
theorem CAt.ob_d{C A:Addr}{H:Hp}{p d:Addr}{cs:List Acc}(J:CAt C A H p d cs){c:Acc}(hc:c∈cs):c.ob≠d:=by
 obtain⟨dx,e⟩:=(J.ac c hc).ob;exact bD e J.dc
theorem CAt.p_d{C A:Addr}{H:Hp}{p d:Addr}{cs:List Acc}(J:CAt C A H p d cs):p≠d:=by
 obtain⟨dx,e⟩:=J.ob;exact bD e J.dc
theorem CAt.p_bl{C A:Addr}{H:Hp}{p d:Addr}{cs:List Acc}(J:CAt C A H p d cs){c:Acc}(hc:c∈cs):p≠c.bl:=by
 obtain⟨dx,e⟩:=J.ob;exact bD e (J.ac c hc).ls
theorem CAt.ob_bl{C A:Addr}{H:Hp}{p d:Addr}{cs:List Acc}(J:CAt C A H p d cs){c c':Acc}(hc:c∈cs)(hc':c'∈cs):c.ob≠c'.bl:=by
 obtain⟨dx,e⟩:=(J.ac c hc).ob;exact bD e (J.ac c' hc').ls
theorem u8{cs:List Acc}{l:List Nat}(h:fnd cs l=none)(c:Acc)(e:c.pa=l):dB (cs.map kyA) (.inr ⟨⟨l⟩⟩) (.ref c.ob)=(cs++[c]).map kyA:=by
 rw[p8 _ (by rw[iZ,h];rfl),vX,<- e];rfl
theorem CAt.more{C A:Addr}{H H':Hp}{p d:Addr}{cs:List Acc}(J:CAt C A H p d cs)(kp:Keep [] H H'){c:Acc}(hf:fnd cs c.pa=none)(h0:H c.ob=none)(h1:H c.bl=none)(hc:AAt A H' c) :
 CAt C A (upd H' d (.dK ((cs++[c]).map kyA))) p d (cs++[c]):=by
 have J1:=J.keep kp zY zY fun _ _=>⟨zY,zY⟩;have dn:=J1.dc;obtain⟨dc,eo⟩:=hc.ob;have n1:c.ob≠d:=bD eo dn;have n2:c.bl≠d:=bD hc.ls dn;refine⟨?_,ad,fun z hz=>?_,?_,?_,?_⟩
 ·obtain⟨dx,e⟩:=J1.ob
  exact⟨dx,(ag J1.p_d).trans e⟩
 ·rcases z7.mp hz with hz|hz
  ·obtain⟨dz,e⟩:=(J1.ac z hz).ob
   exact⟨⟨dz,(ag (J1.ob_d hz)).trans e⟩,(ag (J1.bl_d hz)).trans (J1.ac z hz).ls⟩
  ·rw[zq.mp hz]
   exact⟨⟨dc,(ag n1).trans eo⟩,(ag n2).trans hc.ls⟩
 ·rw[vX]
  refine fh J.np fun h=>?_;obtain⟨z,hz,e⟩:=yS.mp h;exact pA hf z hz e
 ·rw[vX]
  refine fh J.na fun h=>?_;obtain⟨z,hz,e⟩:=yS.mp h;obtain⟨dz,eo⟩:=(J.ac z hz).ob;rw[e,h0]at eo;cases eo
 ·rw[vX]
  refine fh J.nb fun h=>?_;obtain⟨z,hz,e⟩:=yS.mp h;have eo:=(J.ac z hz).ls;rw[e,h1]at eo;cases eo
theorem eP{H H':Hp}{x dx:Addr}{o o':HO}(hx:H x=none)(hd:H dx=none)(kp:Keep [x] (upd (upd H dx o) x o') H'):Keep [] H H':=fun c z e _=>by
 have n1:c≠x:=az e hx;have n2:c≠dx:=az e hd;exact kp c z (by rw[ag n1,ag n2];exact e) (by simpa using n1)
theorem dE{H:Hp}{x dx b:Addr}{o o':HO}(h:upd (upd H dx o) x o' b=none):H b=none:=by
 have n1:b≠x:=fun z=>by rw[z,ad]at h;cases h
 rw[ag n1]at h;have n2:b≠dx:=fun z=>by rw[z,ad]at h;cases h
 rw[ag n2]at h;exact h
abbrev KDS:List (List Nat):=[[104,97,118,101],[111,119,101],[111,119,110],[103,97,105,110],[99,111,115,116]]
def sp_wW(C A:Addr):Sp:=sp3 fun x y z H Q _=>NoT H/\asR x fun p=>asT y fun l=>nm l=true/\asT z fun kd=>kd∈KDS/\∃d cs,CAt C A H p d cs/\cs.length<=100/\fnd cs l=none /\
 (∀c H',c.pa=l->c.ki=L2.T kd->c.cu = .non->c.fi=0->c.un=none->c.be=[]->H c.ob=none->H c.bl=none->CAt C A H' p d (cs++[c])->Keep [d] H H'->NoT H'->Q .non H')
theorem BJ{l:List Nat}(h:l∈KDS):inV (L2.T l) (KDS.map L2.T)=true:=by
 simp only[zZ,zY,or_false]at h;rcases h with rfl|rfl|rfl|rfl|rfl <;> decide
theorem HM{l:List Nat}(h:nm l=true):ok l:=by
 obtain⟨_,h2,h3⟩:=jE h;exact⟨fun c hc=>by have:=h3 c hc;lia,by lia⟩
theorem mJ(T:Txt K mg a):Mo P w K mg base a.aR "add_top" 4 (sp_wW a.aR a.aM):=by
 refine T.nZ.x3 ["self","name","kind"] fun x0 x1 x2 fA cdv A outer s H Q E ND HU hr h=>?_;obtain⟨hN,h1⟩:=h;obtain⟨p,rfl,h2⟩:=asR.inv h1;obtain⟨l,rfl,e,h3⟩:=asT.inv h2;obtain⟨kd,rfl,hz,d,cs,J,len,ef,k⟩:=asT.inv h3;obtain⟨dx,hp⟩:=J.ob;refine⟨_,(ae (a6 (bR (bL (aH (pw T) hr aA (fa1 (fv 1))))) (af (cC T.zp T.Ac bA)) aJ)
  (ae (a6 (jP (rA K) (fv 2) (eI (v:=.ref a.j_) rfl T.Ea rfl) (by with_unfolding_all rfl)) (af (cC T.rM T.mW bA)) aJ)
  (ae (a6 (dX (wH (Zz HU) (fv 1) (ba K (fv 0))) (by with_unfolding_all rfl)) (af (cC T.yi T.yE bA)) aJ)
  (af (dL (Zz HU) (ba K (fv 0)) (fv 1) (Fi T.qk (eG T) (hr.mono (by decide)) rfl T.rG aA (fa3 (fv 2) cG aa)) rfl))))),?_⟩
 walk_at "rq";refine⟨hN,HM e,itn (by rw[e];decide) ?_⟩;refine⟨_,.inr (.inr T.j_),rfl,by decide,?_⟩;rw[show inV (L2.T kd) _=true from BJ hz,if_neg (by decide)];refine⟨_,_,_,_,hp,T.bw,T.bT,lkp _,d,_,rfl,DGet.k (k:=.inr ⟨⟨l⟩⟩) J.dc,?_⟩;rw[iZ,ZA,ef,if_neg (by intro z;cases z)];intro x dx hx hdx ne;refine⟨aq (aq hN rfl) rfl,_,ad,fun b H' hb h1 h2 kp hN'=>?_⟩;have kp0:=eP hx hdx kp;have J1:=J.keep kp0 zY zY fun _ _=>⟨zY,zY⟩;obtain⟨dx1,hp1⟩:=J1.ob
 let c:Acc:=⟨l,x,b,L2.T kd,.non,0,none,[]⟩
 have smk:(cs.map kyA).length<sizeLine:=by rw[zg,um];lia
 refine⟨_,_,_,_,hp1,T.bw,T.bT,lkp _,d,_,rfl,DPut.k (k:=.inr ⟨⟨l⟩⟩) J1.dc smk,?_⟩;rw[u8 ef c rfl];exact k c _ rfl rfl rfl rfl rfl rfl hx (dE hb) (J.more kp0 ef hx (dE hb) ⟨⟨dx,h1⟩,h2⟩) ((kp0.mono (fun _ h=>nomatch h)).put (.head _)) (aq hN' rfl)
theorem pG(s x:List Nat):∀(r:List (List Nat)),r≠[]->cx s (r++[x])=cx s r++s++x
 | [],h=>absurd rfl h
 | [y],_=>by simp[cx]
 |y::z::r,_=>by
  have:=pG s x (z::r) (by simp);rw[ZG,ZG,cx,<- ZG,this,cx];simp
theorem fL{v n:List Nat}(hn:58∉n):spN 58 (v++58::n)=spN 58 v++[n]:=by
 have h:=oU 58 (spN 58 v++[n]) (by simp) fun p hp=>by
  rcases z7.mp hp with h|h
  ·exact iX 58 v p h
  ·rw[zq.mp h];exact hn
 rw[pG _ _ _ (jN 58 v),qc]at h;rw[<- h];simp
theorem Ew{v n:List Nat}(hn:58∉n):abN (v++58::n)=abN v++[v]:=by
 unfold abN;rw[fL hn,zi,Zw,Nat.add_sub_cancel];have hp:0<(spN 58 v).length:=List.length_pos_iff.mpr (jN 58 v);obtain⟨m,hm⟩:∃m,(spN 58 v).length=m+1:=⟨(spN 58 v).length-1,by lia⟩;rw[hm,List.range_succ,vX,Nat.add_sub_cancel]
 congr 1
 ·apply nE
  intro k hk;have:=List.mem_range.mp hk;rw[List.take_append_of_le_length (by lia)]
 ·rw[List.map_singleton,<- hm,List.take_left',qc]
  rfl
def gJ(cs:List Acc)(l:List Nat)(f:Acc->Acc):List Acc:=cs.map fun z=>if z.pa=l then f z else z
theorem dI{β:Type}{cs:List Acc}{l:List Nat}{f:Acc->Acc}(g:Acc->β)(h:∀z,g (f z)=g z):(gJ cs l f).map g=cs.map g:=by
 unfold gJ;rw[tf];apply nE;intro z _;show g (if z.pa=l then f z else z)=g z;split
 ·exact h z
 ·rfl
theorem fU{cs:List Acc}{l:List Nat}{f:Acc->Acc}{z:Acc}(h:z∈gJ cs l f):∃y∈cs,z=if y.pa=l then f y else y:=by
 obtain⟨y,hy,e⟩:=yS.mp h;exact⟨y,hy,e.symm⟩
def grw(l:List Nat)(z:Acc):Acc:={ z with be:=z.be++[l] }
def shu(t:Int)(z:Acc):Acc:={ z with un:=some t }
theorem CAt.grow{C A:Addr}{H:Hp}{p d:Addr}{cs:List Acc}(J:CAt C A H p d cs){u:Acc}(hu:u∈cs)(l:List Nat):CAt C A (upd H u.bl (.lst (u.be.map L2.T++[L2.T l]))) p d (gJ cs u.pa (grw l)):=by
 refine⟨?_,?_,fun z hz=>?_,?_,?_,?_⟩
 ·obtain⟨dx,e⟩:=J.ob
  exact⟨dx,(ag (J.p_bl hu)).trans e⟩
 ·rw[dI (f:=grw l) kyA fun _=>rfl,ag (Ne.symm (J.bl_d hu))];exact J.dc
 ·obtain⟨y,hy,e⟩:=fU hz
  obtain⟨dy,ho⟩:=(J.ac y hy).ob;by_cases h:y.pa=u.pa
  ·have:y=u:=i6 J.np hy hu h
   subst this;rw[if_pos rfl]at e;subst e;exact⟨⟨dy,(ag (J.ob_bl hy hu)).trans ho⟩,by show upd H y.bl _ y.bl=some (.lst ((y.be++[l]).map L2.T));rw[ad,vX];rfl⟩
  ·rw[if_neg h]at e
   subst e;have nb:z.bl≠u.bl:=fun q=>h (by rw[i6 J.nb hy hu q]);exact⟨⟨dy,(ag (J.ob_bl hy hu)).trans ho⟩,(ag nb).trans (J.ac z hy).ls⟩
 ·rw[dI (f:=grw l) _ fun _=>rfl];exact J.np
 ·rw[dI (f:=grw l) _ fun _=>rfl];exact J.na
 ·rw[dI (f:=grw l) _ fun _=>rfl];exact J.nb
theorem BS{cs:List Acc}{v l:List Nat}{f:Acc->Acc}(hf:∀z,(f z).pa=z.pa)(h:fnd cs l=none):fnd (gJ cs v f) l=none:=by
 refine List.find?_eq_none.mpr fun z hz=>?_;obtain⟨y,hy,e⟩:=fU hz;have:=pA h y hy;subst e;split
 ·simpa [hf] using this
 ·simpa using this
theorem JE{p q:Prop}(f:p->q)(x:p):q:=f x
theorem Gn{x:V}{l:List Nat}{f:List Nat->Prop}(h:x=L2.T l)(k:f l):asT x f:=by subst h;exact k
def sp_Hz(C A:Addr):Sp:=sp4 fun x y z t H Q _=>NoT H/\asR x fun p=>asT y fun l=>((∀c∈l,c<128)/\l.length<=199)/\(z = .non\/∃cl,z=L2.T cl/\cur cl=true)/\asI t fun day=>(0<=day/\day<=146096)/\∃v n d cs u,l=v++58::n/\58∉n/\kx l=true/\CAt C A H p d cs/\cs.length<=100/\(∀c∈cs,c.be.length<=100) /\
 fnd cs l=none/\u∈cs/\u.pa=v/\u.un=none/\u.fi<=day /\
 ∀c H',c.pa=l->c.ki=u.ki->c.cu=z->c.fi=day->c.un=none->c.be=[]->H c.ob=none->H c.bl=none->CAt C A H' p d (gJ cs v (grw l)++[c])->Keep (d::cs.map (·.bl)) H H'->NoT H'->Q .non H'
theorem k9(T:Txt K mg a):Mo P w K mg base a.aR "add" 7 (sp_Hz a.aR a.aM):=by
 refine T.uy.x4 ["self","path","currency","day","upper"] fun x0 x1 x2 x3 fA cdv A outer s H Q E ND HU hr h=>?_;obtain⟨hN,h1⟩:=h;obtain⟨p,rfl,h2⟩:=asR.inv h1;obtain⟨l,rfl,hl,hz,h3⟩:=asT.inv h2;obtain⟨day,rfl,hd,v,n,d,cs,u,el,hn,e,J,len,lb,ef,hu,pu,un,uf,k⟩:=asI.inv h3;obtain⟨dx,hp⟩:=J.ob
 skip
 have c4:∃z,PSs (bV (XE P w) P w K mg base ["self","path","currency","day","upper"] "Chart.add" (au fw) fA cdv A outer s H E) (Zn 4 (aZ fw)) z/\z { nx:=fun _ H'=>Q .non H',rt:=Q } [some (.ref p),some (L2.T l),some x2,some (.int day),none] H:=by
  refine⟨_,(ae (aO 4 ND (b7 (fv 0) T.bw (cv T) (hr.mono (by decide)) aA (fa1 (E_ (aB K (aH (Aq T) hr aA (fa1 (fv 1))) (yf tM aa))))))
   (ae (a6 (L2.PW.pt (kj (dX (dq (ba K (fv 4)))) (gB (bR (bL (b7 (fv 4) T.bg (d5 T) (hr.mono (by decide)) aA (fa1 (fv 3)))))))) (af (cC T.i_ T.fS bA)) aJ)
   (ae (bB (cK K pN Zx Zy cn (ba K (fv 4)) (fa1 (fv 1))))
   (af (dL (Zz HU) (ba K (fv 0)) (fv 1) (Fi T.qk (eG T) (hr.mono (by decide)) rfl T.rG aA (fa3 (ba K (fv 4)) (fv 2) (fv 3))) rfl))))),?_⟩
  walk_at "rq";refine⟨_,_,hp,eW _,hN,hN,hl,fun q2 hq2=>⟨_,L2.T v,.inl (SqL.of ad),?_,?_⟩⟩
  ·rw[el,Ew hn,vX];exact vH _ _
  refine⟨H,Gc.none (ah _ hq2),hN,?_⟩;walk_at "rq";refine⟨d,cs,J,?_⟩;rw[vh,show fnd cs v=some u from pu ▸ jF J.np hu];obtain⟨du,ho⟩:=(J.ac u hu).ob;refine⟨_,_,_,_,ho,T.bg,T.b8,fu ..,?_⟩;rw[un];have eo:opn u.fi u.un day=true:=by rw[un];unfold opn;rw[decide_eq_true uf];rfl
  refine itp rfl ⟨_,_,ho,Iv ..,hN,_,_,_,_,_,_,ho,?_⟩;rw[eo];have sml:(u.be.map L2.T).length<sizeLine:=by have:=lb u hu;rw[zg,um];lia
  refine itn (by decide) ⟨_,_,_,_,ho,T.bg,T.d_,fb ..,.inl ⟨rfl,_,SqL.of (J.ac u hu).ls⟩,u.bl,_,_,rfl,rfl,(J.ac u hu).ls,sml,?_⟩;have J1:=J.grow hu l;have N1:NoT (upd H u.bl (.lst (u.be.map L2.T++[L2.T l]))):=aq hN rfl;have ho1:=(ag (o:=.lst (u.be.map L2.T++[L2.T l])) (J.ob_bl hu hu)).trans ho;have K1:Keep (d::cs.map (·.bl)) H (upd H u.bl (.lst (u.be.map L2.T++[L2.T l]))):=Keep.refl.put (.tail _ (wR hu));have n58:∀q,upd H u.bl (.lst (u.be.map L2.T++[L2.T l])) q=none->H q=none:=fun q hq=>by
   by_cases hc:q=u.bl
   ·rw[hc,ad]at hq;cases hq
   ·rw[ag hc]at hq;exact hq
  generalize upd H u.bl (.lst (u.be.map L2.T++[L2.T l]))=H1 at J1 N1 ho1 K1 n58 |-
  refine⟨_,_,_,_,ho1,T.bg,T.eY,fk ..,fun x dx1 hx hdx ne=>?_⟩;refine⟨aq (aq N1 rfl) rfl,_,ad,fun b H' hb h1 h2 kp hN'=>?_⟩;have kp0:=eP hx hdx kp;have J2:=J1.keep kp0 zY zY fun _ _=>⟨zY,zY⟩;obtain⟨dx2,hp2⟩:=J2.ob
  let c:Acc:=⟨l,x,b,u.ki,x2,day,none,[]⟩
  have smk:((gJ cs u.pa (grw l)).map kyA).length<sizeLine:=by rw[dI (f:=grw l) kyA fun _=>rfl,zg,um];lia
  have ef1:fnd (gJ cs u.pa (grw l)) l=none:=BS (fun _=>rfl) ef;refine⟨_,_,_,_,hp2,T.bw,T.bT,lkp _,d,_,rfl,DPut.k (k:=.inr ⟨⟨l⟩⟩) J2.dc smk,?_⟩;rw[u8 ef1 c rfl];have J3:=J1.more kp0 (c:=c) ef1 hx (dE hb) ⟨⟨dx1,h1⟩,h2⟩;rw[pu]at J3 |-
  exact k c _ rfl rfl rfl rfl rfl rfl (n58 _ hx) (n58 _ (dE hb)) J3 ((K1.trans (kp0.mono (fun _ h=>nomatch h))).put (.head _)) (aq hN' rfl)
 obtain⟨u4,hu4,c4⟩:=c4;refine⟨_,(ae (a6 (iU (aN (bF K HU) (aD (bQ K) rfl T.cZ ci (fa1 (aH (vG T) hr aA (fa1 (fv 1))))) aa)) (af (cC T.mL T.mU bA)) aJ)
  (ae (a6 (L2.PW.pt (dJ (dX (dq (fv 2))) (cU (bR (bL (aH (pq T) hr aA (fa1 (fv 2)))))))) (af (cC T.jx T.fN bA)) aJ)
  (ae (a6 (bR (bL (aH (lW T) hr aA (fa1 (fv 3))))) (af (cC T.pW T.qd bA)) aJ)
  (ae (a6 (dX (wH (Zz HU) (fv 1) (ba K (fv 0))) (by with_unfolding_all rfl)) (af (cC T.yi T.yE bA)) aJ)
  hu4)))),?_⟩
 walk_at "rq";refine⟨hN,hN,hl,e,fun q hq=>?_⟩;refine⟨_,.inl (SqL.of ad),H,Gc.none (ah _ hq),?_⟩;rw[zg,el,fL hn,zi,if_neg (by
  have hp:0<(spN 58 v).length:=List.length_pos_iff.mpr (jN 58 v);simp only[Zw];lia)]
 rw[<- el];refine' JE (fun key=>_) _
 rotate_left 1
 ·rcases hz with hz|⟨cl',hz,hcl⟩
  ·exact itp hz key
  ·exact itn (by rw[hz];intro z;cases z) ⟨hN,Gn hz ⟨hcl,key⟩⟩
 have ed:amg (.int day) 0 146096=true:=by show(decide (0<=day)&&decide (day<=146096))=true;rw[decide_eq_true hd.1,decide_eq_true hd.2];rfl
 rw[ed];refine⟨hN,itn (by decide) ⟨_,_,_,_,hp,T.bw,T.bT,lkp _,d,_,rfl,DGet.k (k:=.inr ⟨⟨l⟩⟩) J.dc,?_⟩⟩;rw[iZ,ZA,ef,if_neg (by intro z;cases z)];exact c4
end
section
variable{P:Program}{w:World}{K:W.Frag}{mg:Str->Option Value}{base:Heap}{a:Adr}
theorem CAt.shutA{C A:Addr}{H:Hp}{p d:Addr}{cs:List Acc}(J:CAt C A H p d cs){u:Acc}(hu:u∈cs)(t:Int){dx:Addr}(ho:H u.ob=some (.ins A dx (fP u.ki u.cu (.int u.fi) (cl u.un) (.ref u.bl)))):CAt C A (upd H u.ob (.ins A dx (fP u.ki u.cu (.int u.fi) (.int t) (.ref u.bl)))) p d (gJ cs u.pa (shu t)):=by
 have pob:p≠u.ob\/p=u.ob:=(Decidable.em _).symm;refine⟨?_,?_,fun z hz=>?_,?_,?_,?_⟩
 ·obtain⟨dp,e⟩:=J.ob
  have:p≠u.ob:=bD e ho;exact⟨dp,(ag this).trans e⟩
 ·rw[dI (f:=shu t) kyA fun _=>rfl,ag (Ne.symm (J.ob_d hu))];exact J.dc
 ·obtain⟨y,hy,e⟩:=fU hz
  obtain⟨dy,hoy⟩:=(J.ac y hy).ob;by_cases h:y.pa=u.pa
  ·have:y=u:=i6 J.np hy hu h
   subst this;rw[if_pos rfl]at e;subst e;exact⟨⟨dx,ad⟩,(ag (Ne.symm (J.ob_bl hy hu))).trans (J.ac y hy).ls⟩
  ·rw[if_neg h]at e
   subst e;have nb:z.ob≠u.ob:=fun q=>h (by rw[i6 J.na hy hu q]);exact⟨⟨dy,(ag nb).trans hoy⟩,(ag (Ne.symm (J.ob_bl hu hy))).trans (J.ac z hy).ls⟩
 ·rw[dI (f:=shu t) _ fun _=>rfl];exact J.np
 ·rw[dI (f:=shu t) _ fun _=>rfl];exact J.na
 ·rw[dI (f:=shu t) _ fun _=>rfl];exact J.nb
def sp_DT(C A:Addr):Sp:=sp3 fun x y z H Q _=>NoT H/\asR x fun p=>asT y fun l=>((∀c∈l,c<128)/\l.length<=199)/\asI z fun day=>(0<=day/\day<=146096)/\∃d cs u,CAt C A H p d cs/\u∈cs/\u.pa=l/\kx l=true/\u.un=none/\u.fi<day/\u.be=[] /\
 ∀H',CAt C A H' p d (gJ cs l (shu day))->Keep (cs.map (·.ob)) H H'->NoT H'->Q .non H'
theorem qQ(T:Txt K mg a):Mo P w K mg base a.aR "shut" 6 (sp_DT a.aR a.aM):=by
 refine T.sY.x3 ["self","path","day","account"] fun x0 x1 x2 fA cdv A outer s H Q E ND HU hr h=>?_;obtain⟨hN,h1⟩:=h;obtain⟨p,rfl,h2⟩:=asR.inv h1;obtain⟨l,rfl,hl,h3⟩:=asT.inv h2;obtain⟨day,rfl,hd,d,cs,u,J,hu,pu,e,un,uf,ub,k⟩:=asI.inv h3;obtain⟨dx,hp⟩:=J.ob;refine⟨_,(ae (a6 (bR (bL (aH (p_ T) hr aA (fa1 (fv 1))))) (af (cC T.mL T.mU bA)) aJ)
  (ae (aO 3 ND (b7 (fv 0) T.bw (cv T) (hr.mono (by decide)) aA (fa1 (fv 1))))
  (ae (a6 (L2.PW.pt (kj (bR (bL (aH (lW T) hr aA (fa1 (fv 2))))) (gB (aN d4 (fv 2) (ba K (fv 3)))))) (af (cC T.pW T.qd bA)) aJ)
  (ae (a6 (dX (dq (ba K (fv 3)))) (af (cC T.i_ T.fS bA)) aJ)
  (ae (a6 (iU (bL (aD (yM K rfl) rfl T.EX A3 (fa1 (bN rfl (cl:=_) (x:="lower") (xs:=["lower"]) (fr:=["day","self"]) (ks:=[2,0]) (by walk_at "cq") rfl (bM K (ba K (fv 3))) (fun _ _ _ _ _=>(aK (i:=0) (bX (l:=["lower","day","self"]) (by decide)) rfl (Or.inl rfl))) (fun _ _ _ _ _=>dH) (fun _ _ _ _ _=>(b7 (aL (Zz HU) (ba K (fv 2)) (fv 0) (fun _ _=>rfl)) T.bg (gb T) (hr.mono (by decide)) kF (fa1 (fv 1))))))))) (af (cC T.wj T.xt bA)) aJ)
  (af (di K (fv 3) (fv 2)))))))),?_⟩
 walk_at "rd";refine⟨hN,hl,itn (by rw[e];decide) ?_⟩;refine⟨_,_,hp,eW _,hN,d,cs,J,?_⟩;rw[vh,show fnd cs l=some u from pu ▸ jF J.np hu];obtain⟨du,ho⟩:=(J.ac u hu).ob;refine⟨hN,?_⟩;have ed:amg (.int day) 0 146096=true:=by show(decide (0<=day)&&decide (day<=146096))=true;rw[decide_eq_true hd.1,decide_eq_true hd.2];rfl
 rw[ed];refine itn (by decide) ⟨_,_,_,_,ho,T.bg,T.eB,ff ..,?_⟩;walk_at "rd";refine itn (by lia) ⟨_,_,_,_,ho,T.bg,T.b8,fu ..,?_⟩;rw[un];refine itp rfl ⟨hN,?_⟩;have hb:SqL K H u.bl []:=SqL.of (by rw[(J.ac u hu).ls,ub];rfl);refine cmL u.bl [] (fun H'=>SqL K H' u.bl []) (fun D ys hD=>hb.same (ah _ hD)) (fun H' c=>c) (fun _=>true) (fun x=>x) (fun R r=>?_) hb (wQ _) (fun x hx=>nomatch hx) (fun x hx=>nomatch hx) (fun D hD=>?_)
 ·walk_at "rd"
  exact⟨_,_,_,_,ho,T.bg,T.d_,fb ..,r⟩
 ·refine⟨[],SqL.of ad,H,Gc.none (ah _ hD),itn (by decide) ⟨_,_,_,ho,T.bg,T.b8,by show 5<1000;decide,?_⟩⟩
  rw[IS];have J1:=J.shutA hu day ho;rw[pu]at J1;exact k _ J1 (Keep.refl.put (wR hu)) (aq hN rfl)
end
section
variable{P:Program}{w:World}{K:W.Frag}{mg:Str->Option Value}{base:Heap}{a:Adr}
open K3
theorem i4(i lo hi:Int):amg (.int i) lo hi=(decide (lo<=i)&&decide (i<=hi)):=rfl
def cR(C dx:Addr)(v:V):HO:=.ins C dx [("last_closed",v)]
def sp_zA(C:Addr):Sp:=sp1 fun x H Q _=>asR x fun p=>∃dx,H p=some (.ins C dx [])/\Q .non (upd H p (cR C dx .non))
theorem mD(T:Txt K mg a):Mo P w K mg base a.a_ "__init__" 1 (sp_zA a.a_):=by
 refine T.nV.x1 ["self"] fun x0 fA cdv A outer s H Q E ND HU hr h=>?_;obtain⟨p,rfl,dx,hp,k⟩:=asR.inv h;refine⟨_,(af (di K (fv 0) cG)),?_⟩;walk_at "rd";exact⟨_,_,_,hp,T.cV,T.bI,by decide,k⟩
theorem lk1(v:V):wO (zf "last_closed") [(zf "last_closed",v)]=some v:=by simp[wO]
def sp_vN(C:Addr):Sp:=sp1 fun x H Q _=>NoT H/\asR x fun p=>∃dx v,H p=some (cR C dx v)/\Q v H
theorem qa(T:Txt K mg a):Mo P w K mg base a.a_ "closed" 1 (sp_vN a.a_):=by
 refine T.qG.g1 ["self"] fun x0 fA cdv A outer s H Q E ND HU hr h=>?_;obtain⟨hN,h1⟩:=h;obtain⟨p,rfl,dx,v,hp,k⟩:=asR.inv h1;refine⟨hN,_,(af (aC (ba K (fv 0)))),?_⟩;walk_at "rd";exact⟨_,_,_,_,hp,T.cV,T.bI,lk1 v,k⟩
def sp_zZ(C:Addr):Sp:=sp2 fun x y H Q _=>NoT H/\asR x fun p=>asI y fun d=>(0<=d/\d<=146096)/\∃dx o,H p=some (cR C dx (cl o))/\Q (.bl (match o with|none=>true|some m=>decide (m<MO d))) H
theorem sS(T:Txt K mg a):Mo P w K mg base a.a_ "lets" 5 (sp_zZ a.a_):=by
 refine T.vj.g2 ["self","day"] fun x0 x1 fA cdv A outer s H Q E ND HU hr h=>?_;obtain⟨hN,h1⟩:=h;obtain⟨p,rfl,h2⟩:=asR.inv h1;obtain⟨d,rfl,hd,dx,o,hp,k⟩:=asI.inv h2;refine⟨hN,_,(af (aC (Bf (rV (sJ (ba K (fv 0)))) (cF (bP kq (aH (wc T) hr aA (fa1 (fv 1))) (ba K (fv 0)) (bY _)))))),?_⟩;walk_at "rd";refine⟨_,_,_,_,hp,T.cV,T.bI,lk1 _,?_⟩;cases o with
 |none=>exact k
 |some m=>
  rw[if_neg (by intro z;cases z)];exact⟨hN,hd,_,_,_,_,hp,T.cV,T.bI,lk1 _,H,Gc.refl,k⟩
theorem wM{x:V}{lo hi:Int}(h:amg x lo hi=true):∃m,x = .int m/\lo<=m/\m<=hi:=by
 cases x with
 |int m=>
  rw[i4,Zj]at h;exact⟨m,rfl,of_decide_eq_true h.1,of_decide_eq_true h.2⟩
 |_=>cases h
def sp_zL(a:Adr):Sp:=sp2 fun x y H Q E=>NoT H/\asR x fun p=>∃dx o,H p=some (cR a.a_ dx (cl o))/\asK H y fun _=>(amg y 0 4799=false->E (.ref a.a8) none H)/\∀m,y = .int m->0<=m->m<=4799->((o=none\/o=some (m-1))->Q .non H)/\∀z,o=some z->m≠z+1->E (.ref a.bj) none H
theorem fz(T:Txt K mg a):Mo P w K mg base a.a_ "need_next" 4 (sp_zL a):=by
 refine T.mS.g2 ["self","month"] fun x0 x1 fA cdv A outer s H Q E ND HU hr h=>?_;obtain⟨hN,h1⟩:=h;obtain⟨p,rfl,dx,o,hp,h2⟩:=asR.inv h1;obtain⟨t,ht,hb,k0,k⟩:=asK.inv h2;have sz:=szl;refine⟨hN,_,(ae (a6 (bR (bL (aH (nJ T) hr aA (fa1 (fv 1))))) (af (cC T.pB T.jG bA)) aJ)
  (af (a6 (L2.PW.pt (dJ (dX (dq (ba K (fv 0)))) (cU (aN (cE K HU) (fv 1) (aj aE (ba K (fv 0)) aa))))) (af (cC T.zS T.rm bA)) aJ))),?_⟩
 walk_at "rd";refine⟨hN,asK.of ht ?_⟩;cases e:amg x1 0 4799 with
 |false=>exact itp rfl ⟨by walk_at "om",k0 e⟩
 |true=>
  obtain⟨m,rfl,m0,m1⟩:=wM e;obtain⟨k1,k2⟩:=k m rfl m0 m1;refine itn (by decide) ⟨_,_,_,_,hp,T.cV,T.bI,lk1 _,?_⟩;cases o with
  |none=>exact k1 (.inl rfl)
  |some z=>
   refine itn (by intro z;cases z) ⟨_,_,_,_,hp,T.cV,T.bI,lk1 _,?_⟩;show qN (.int z) (.int 1) H _;walk_at "rd";by_cases hz:m=z+1
   ·exact itp hz (k1 (.inr (by rw[hz,show z+1-1=z by lia])))
   ·exact itn hz ⟨by walk_at "om",k2 z rfl hz⟩
def sp_yW(a:Adr):Sp:=sp2 fun x y H Q _=>NoT H/\asR x fun p=>asI y fun m=>∃dx o,H p=some (cR a.a_ dx (cl o))/\(0<=m/\m<=4799)/\(o=none\/o=some (m-1))/\Q .non (upd H p (cR a.a_ dx (.int m)))
theorem kW(T:Txt K mg a):Mo P w K mg base a.a_ "shut" 5 (sp_yW a):=by
 refine T.vB.x2 ["self","month"] fun x0 x1 fA cdv A outer s H Q E ND HU hr h=>?_;obtain⟨hN,h1⟩:=h;obtain⟨p,rfl,h2⟩:=asR.inv h1;obtain⟨m,rfl,dx,o,hp,hm,ho,k⟩:=asI.inv h2;refine⟨_,(ae (bB (b7 (fv 0) T.cV (fz T) (hr.mono (by decide)) aA (fa1 (fv 1))))
  (af (di K (fv 0) (fv 1)))),?_⟩
 walk_at "rd";have pf:dw (zf "last_closed") (.int m) [(zf "last_closed",cl o)]=[(zf "last_closed",.int m)]:=by simp[dw]
 refine⟨_,_,hp,aU (by decide +kernel),hN,dx,o,hp,(fun e=>?_),fun m' e _ _=>⟨fun _=>⟨_,_,_,hp,T.cV,T.bI,by show 1<1000;decide,?_⟩,fun z e1 e2=>?_⟩⟩
 ·rw[i4,decide_eq_true hm.1,decide_eq_true hm.2]at e;cases e
 rotate_left 1
 ·cases e
  rcases ho with h|h
  ·rw[h]at e1;cases e1
  ·rw[h]at e1;cases e1;exact absurd (by lia) e2
 rw[pf];exact k
def Ie(C dx b u:Addr):HO:=.ins C dx [("bookings",.ref b),("undoings",.ref u)]
theorem lkb(x y:V):wO (zf "bookings") [(zf "bookings",x),(zf "undoings",y)]=some x:=by simp[wO]
theorem lku(x y:V):wO (zf "undoings") [(zf "bookings",x),(zf "undoings",y)]=some y:=by rw[aU (by decide +kernel)];exact iP
structure JAt(C:Addr)(H:Hp)(p b u:Addr)(bs:List V)(kvs:List (Key × V)):Prop where
 ob:∃dx,H p=some (Ie C dx b u)
 ls:H b=some (.lst bs)
 dc:H u=some (.dK kvs)
theorem JAt.keep{C:Addr}{S:List Addr}{H H':Hp}{p b u:Addr}{bs:List V}{kvs:List (Key × V)}(j:JAt C H p b u bs kvs)(x:Keep S H H')(hp:p∉S)(hb:b∉S)(hu:u∉S):JAt C H' p b u bs kvs:=
 ⟨by obtain⟨dx,e⟩:=j.ob;exact⟨dx,x _ _ e hp⟩,x _ _ j.ls hb,x _ _ j.dc hu⟩
def sp_yS(C:Addr):Sp:=sp1 fun x H Q _=>NoT H/\asR x fun p=>∃dx,H p=some (.ins C dx [])/\∀b u H',H b=none->H u=none->JAt C H' p b u [] []->Keep [p] H H'->NoT H'->Q .non H'
theorem jh(T:Txt K mg a):Mo P w K mg base a.aQ "__init__" 1 (sp_yS a.aQ):=by
 refine T.jY.x1 ["self"] fun x0 fA cdv A outer s H Q E ND HU hr h=>?_;obtain⟨hN,h1⟩:=h;obtain⟨p,rfl,dx,hp,k⟩:=asR.inv h1;refine⟨_,(ae (di K (fv 0) (bz (FA.pa ce)))
  (af (di K (fv 0) ot))),?_⟩
 walk_at "rd";refine⟨wQ _,fun b hb=>?_⟩;have np:p≠b:=az hp hb;refine⟨_,_,_,(ag np).trans hp,T.a7,T.bJ,by show 0<1000;decide,fun u hu=>?_⟩;have nu:p≠u:=fun q=>by rw[<- q,ad]at hu;cases hu
 have nb:b≠u:=fun q=>by rw[<- q,ag (Ne.symm np),ad]at hu;cases hu
 refine⟨_,_,_,(ag nu).trans ad,T.a7,T.dv,by show 1<1000;decide,?_⟩;have hu0:H u=none:=by
  rw[ag (Ne.symm nu),ag (Ne.symm nb)]at hu;exact hu
 refine k b u _ hb hu0 ⟨⟨dx,?_⟩,?_,?_⟩ ?_ ?_
 ·rw[ad]
  have e:dw (zf "undoings") (V.ref u) (dw (zf "bookings") (V.ref b) [])=[(zf "bookings",.ref b),(zf "undoings",.ref u)]:=by
   have q:¬ (zf "bookings" = zf "undoings"):=by decide +kernel
   simp[dw,q]
  rw[e];rfl
 ·rw[ag (Ne.symm np),ag nb,ag (Ne.symm np),ad]
 ·rw[ag (Ne.symm nu),ad]
 ·exact(((Keep.refl.new hb).put (zq.2 rfl)).new hu).put (zq.2 rfl)
 ·exact aq (aq (aq (aq hN rfl) rfl) rfl) rfl
def sp_BB(K:W.Frag)(C:Addr):Sp:=sp5 fun x d n r o H Q _=>NoT H/\asR x fun p=>asR r fun r=>∃b u bs kvs rs,JAt C H p b u bs kvs/\bs.length<=100/\kvs.length<=100/\(SqL K H r rs\/H r=some (.tup rs))/\(o = .non\/∃i,o = .int i) /\
 ∀t q H',H t=none\/H t=some (.tup rs)->H' t=some (.tup rs)->H q=none->H' q=some (.tup [.int bs.length,d,n,.ref t,o])->JAt C H' p b u (bs++[.ref q]) (match o with | .int i=>dB kvs (.inl i) (.int bs.length)|_=>kvs)->Keep [b,u] H H'->NoT H'->Q (.int bs.length) H'
theorem eQ(T:Txt K mg a):Mo P w K mg base a.aQ "put" 1 (sp_BB K a.aQ):=by
 refine T.qD.x5 ["self","day","note","rows","undoes","number"] fun x0 x1 x2 x3 x4 fA cdv A outer s H Q E ND HU hr h=>?_;obtain⟨hN,h1⟩:=h;obtain⟨p,rfl,h2⟩:=asR.inv h1;obtain⟨r,rfl,b,u,bs,kvs,rs,J,l1,l2,hs,ho,k⟩:=asR.inv h2;obtain⟨dx,hp⟩:=J.ob;refine⟨_,(ae (aO 5 ND (aD (bQ K) rfl T.cZ ci (fa1 (ba K (fv 0)))))
  (ae (bB (cK K pN Zx Zy cn (ba K (fv 0)) (fa1 (bd (fa5 (fv 5) (fv 1) (fv 2) (bh (fR K) rfl T.gt fe (fa1 (fv 3))) (fv 4))))))
  (ae (a6 (dX (dq (fv 4))) (af (dL (Zz HU) (ba K (fv 0)) (fv 4) (fv 5) rfl)) aJ)
  (af (aC (fv 5)))))),?_⟩
 walk_at "rd";refine⟨_,_,_,_,hp,T.a7,T.bJ,lkb _ _,bs,.inl (.inl (.inl J.ls)),_,_,_,_,hp,T.a7,T.bJ,lkb _ _,.inl ⟨rfl,bs,.inl (.inl J.ls)⟩,rs,?_⟩;have five:5<=sizeLine:=by rw[um];decide
 have sml:bs.length<sizeLine:=by rw[um];lia
 have smk:kvs.length<sizeLine:=by rw[um];lia
 have nb:p≠b:=bD hp J.ls;have nu:p≠u:=bD hp J.dc;have bu:b≠u:=bD J.ls J.dc;have fin:∀t H1,H t=none\/H t=some (.tup rs)->H1 t=some (.tup rs)->Same H H1->NoT H1->∀q,H1 q=none->∃l xs y,V.ref b=V.ref l/\V.ref q=y/\upd H1 q (HO.tup [.int bs.length,x1,x2,V.ref t,x4]) l=some (HO.lst xs)/\xs.length<sizeLine /\
  if x4=V.non then Q (.int bs.length) (upd (upd H1 q (HO.tup [.int bs.length,x1,x2,V.ref t,x4])) l (HO.lst (xs++[y]))) else
   ∃C dx fs v,upd (upd H1 q (HO.tup [V.int bs.length,x1,x2,V.ref t,x4])) l (HO.lst (xs++[y])) p=some (HO.ins C dx fs)/\Cls K C/\NoAttr K C (zf "undoings")/\wO (zf "undoings") fs=some v /\
    ∃a H4,v=V.ref a/\DPut (upd (upd H1 q (HO.tup [V.int bs.length,x1,x2,V.ref t,x4])) l (HO.lst (xs++[y]))) a x4 (V.int bs.length) H4/\Q (V.int bs.length) H4:=by
  intro t H1 ht1 ht2 kp n1 q hq;have mb:b∈[b,u]:=.head _;have mu:u∈[b,u]:=.tail _ (.head _);have hp1:=kp _ _ hp;have hb1:=kp _ _ J.ls;have hu1:=kp _ _ J.dc;have qb:b≠q:=az hb1 hq;have qu:u≠q:=az hu1 hq;have qp:p≠q:=az hp1 hq;have qt:t≠q:=az ht2 hq;have tb:t≠b:=bD ht2 hb1;have tu:t≠u:=bD ht2 hu1;have q0:H q=none:=kp.free hq;generalize hz:HO.tup [V.int bs.length,x1,x2,V.ref t,x4]=z at *;have dz:gN z=true:=by rw[<- hz];rfl
  refine⟨b,bs,_,rfl,rfl,(ag qb).trans hb1,sml,?_⟩;have K2:Keep [b,u] H (upd (upd H1 q z) b (.lst (bs++[.ref q]))):=((Keep.same kp).new hq).put mb;have N2:NoT (upd (upd H1 q z) b (.lst (bs++[.ref q]))):=aq (aq n1 dz) rfl;rcases ho with rfl|⟨i,rfl⟩
  ·rw[if_pos rfl]
   refine k t q _ ht1 ?_ q0 ?_ ⟨⟨dx,?_⟩,ad,?_⟩ K2 N2
   ·rw[ag tb,ag qt];exact ht2
   ·rw[ag (Ne.symm qb),ad,hz]
   ·rw[ag nb,ag qp];exact hp1
   ·rw[ag (Ne.symm bu),ag qu];exact hu1
  ·rw[if_neg (by intro z;cases z)]
   refine⟨_,dx,[(zf "bookings",.ref b),(zf "undoings",.ref u)],_,?_,T.a7,T.dv,lku _ _,u,_,rfl,DPut.k (k:=.inl i) (kvs:=kvs) ?_ smk,?_⟩
   ·rw[ag nb,ag qp];exact hp1
   ·rw[ag (Ne.symm bu),ag qu];exact hu1
   ·refine k t q _ ht1 ?_ q0 ?_ ⟨⟨dx,?_⟩,?_,ad⟩ (K2.put mu) (aq N2 rfl)
    ·rw[ag tu,ag tb,ag qt];exact ht2
    ·rw[ag (Ne.symm qu),ag (Ne.symm qb),ad,hz]
    ·rw[ag nu,ag nb,ag qp];exact hp1
    ·rw[ag bu,ad]
 rcases hs with hs|hs
 ·refine .inl ⟨hs,fun l hl=>⟨five,fin l _ (.inl hl) ad (ah _ hl) (aq hN rfl)⟩⟩
 ·exact .inr ⟨.inl (.inl hs),five,fin r _ (.inr hs) hs (Same.refl _) hN⟩
def sp_tZ(C nb:Addr):Sp:=sp2 fun x y H Q E=>NoT H/\asR x fun p=>asI y fun i=>∃b u bs kvs,JAt C H p b u bs kvs/\0<=i/\((bs.length:Int)<=i->E (.ref nb) none H)/\∀(n:Nat) v,i=n->bs[n]? = some v->Q v H
theorem e9(T:Txt K mg a):Mo P w K mg base a.aQ "booking" 3 (sp_tZ a.aQ a.fE):=by
 refine T.lU.g2 ["self","number"] fun x0 x1 fA cdv A outer s H Q E ND HU hr h=>?_;obtain⟨hN,h1⟩:=h;obtain⟨p,rfl,h2⟩:=asR.inv h1;obtain⟨i,rfl,b,u,bs,kvs,J,i0,k0,k⟩:=asI.inv h2;obtain⟨dx,hp⟩:=J.ob;refine⟨hN,_,(ae (a6 (bR (bL (aH (iM T) hr aA (fa3 (fv 1) aa (aj cJ (aD (bQ K) rfl T.cZ ci (fa1 (ba K (fv 0)))) aa))))) (af (cC T.uA T.vt bA)) aJ)
  (af (aC (aB K (ba K (fv 0)) (fv 1))))),?_⟩
 walk_at "rd";refine⟨_,_,_,_,hp,T.a7,T.bJ,lkb _ _,bs,.inl (.inl (.inl J.ls)),?_⟩;show gI _ (.int _) (.int 1) H _;walk_at "rd";refine⟨hN,?_⟩;rw[i4,decide_eq_true i0];by_cases hi:i<=(bs.length:Int)-1
 ·obtain⟨n,rfl⟩:=Zh i0
  have hn:n<bs.length:=by lia
  rw[decide_eq_true hi];exact itn (by decide) ⟨_,_,_,_,hp,T.a7,T.bJ,lkb _ _,bs,bs[n],.inl (.inl (.inl J.ls)),av (List.getElem?_eq_getElem hn),H,Gc.refl,k n _ rfl (List.getElem?_eq_getElem hn)⟩
 ·rw[decide_eq_false hi]
  exact itp rfl ⟨by rw[um];decide,k0 (by lia)⟩
def sp_pN(C:Addr):Sp:=sp1 fun x H Q _=>NoT H/\asR x fun p=>∃b u bs kvs,JAt C H p b u bs kvs/\∀q,H q=none->Q (.ref q) (upd H q (.lst bs))
theorem cw(T:Txt K mg a):Mo P w K mg base a.aQ "every" 1 (sp_pN a.aQ):=by
 refine T.g_.g1 ["self"] fun x0 fA cdv A outer s H Q E ND HU hr h=>?_;obtain⟨hN,h1⟩:=h;obtain⟨p,rfl,b,u,bs,kvs,J,k⟩:=asR.inv h1;obtain⟨dx,hp⟩:=J.ob;refine⟨hN,_,(af (aC (bh (kX K) rfl T.mH i5 (fa1 (ba K (fv 0)))))),?_⟩;walk_at "rd";exact⟨_,_,_,_,hp,T.a7,T.bJ,lkb _ _,bs,.inl (.inl (.inl J.ls)),fun l hl=>⟨_,Gc.one (ah _ hl) hl ad rfl,k l hl⟩⟩
def sp_vX(C nb:Addr):Sp:=sp2 fun x y H Q _=>NoT H/\asR x fun p=>asI y fun i=>∃b u bs kvs,JAt C H p b u bs kvs/\∃(n:Nat) (q:Addr) (l:List V),i=n/\bs[n]? = some (.ref q)/\H q=some (.tup (.int i::l))/\Q ((dN kvs (.inl i)).getD .non) H
theorem iz(T:Txt K mg a):Mo P w K mg base a.aQ "undone_by" 4 (sp_vX a.aQ a.fE):=by
 refine T.jd.g2 ["self","number"] fun x0 x1 fA cdv A outer s H Q E ND HU hr h=>?_;obtain⟨hN,h1⟩:=h;obtain⟨p,rfl,h2⟩:=asR.inv h1;obtain⟨_,rfl,b,u,bs,kvs,J,n,q,l,rfl,h3,h4,k⟩:=asI.inv h2;obtain⟨dx,hp⟩:=J.ob;refine⟨hN,_,(af (aC (Af (Zz HU) (ba K (fv 0)) (aB K (b7 (fv 0) T.a7 (e9 T) (hr.mono (by decide)) aA (fa1 (fv 1))) aa) ⟨rfl,rfl,rfl,rfl⟩))),?_⟩;walk_at "rd";have hn:n<bs.length:=(List.getElem?_eq_some_iff.mp h3).1;refine⟨_,_,_,_,hp,T.a7,T.dv,lku _ _,u,rfl,.inl ⟨_,.inl J.dc⟩,_,_,hp,?_,hN,b,u,bs,kvs,J,by lia,fun z=>by lia,fun n' v e1 e2=>?_⟩
 ·rw[aU (by decide +kernel),aU (by decide +kernel)];rfl
 ·have:n=n':=by lia
  subst this;rw[h3]at e2;cases e2;exact⟨_,.int n,.inr (.inl (.inl h4)),av (j:=0) rfl,_,DGet.k (k:=.inl (n:Int)) J.dc,H,Gc.refl,k⟩
theorem e7{H H':Hp}{D:Addr}{o:HO}(s:Same H H')(h:H D=none):Same H (upd H' D o):=fun c z e=>by
 rw[ag (az e h)];exact s c z e
def RwAt(H:Hp)(v:V)(r:Row):Prop:=∃q,v = .ref q/\H q=some (.tup [L2.T r.pa,L2.T r.cu,.int r.am])
def BkAt(H:Hp)(v:V)(b:Bk):Prop:=∃q t vs nt un,v = .ref q/\H q=some (.tup [.int b.k,.int b.d,L2.T nt,.ref t,cl un])/\H t=some (.tup vs)/\A2 (RwAt H) vs b.rs
def LW(W:List Addr)(H:Hp):Prop:=∀s∈W,∃l,H s=some (.lst l)
theorem LW.nil{H:Hp}:LW [] H:=fun _ h=>nomatch h
theorem LW.one{H:Hp}{s:Addr}{xs:List V}(h:H s=some (.lst xs)):LW [s] H:=fun z m=>by rw[zq.mp m];exact⟨_,h⟩
theorem LW.no{W:List Addr}{H:Hp}(t:LW W H){q:Addr}{o:HO}(h:H q=some o)(n:∀l,o ≠ .lst l):q∉W:=fun m=>by
 obtain⟨l,e⟩:=t q m;rw[h]at e;cases e;exact n _ rfl
theorem LW.tup{W:List Addr}{H:Hp}(t:LW W H){q:Addr}{l:List V}(h:H q=some (.tup l)):q∉W:=t.no h (by intro _ z;cases z)
section
variable{W:List Addr}{H H':Hp}(x:Keep W H H')(t:LW W H)
include x t
theorem RwAt.keep{v:V}{r:Row}(h:RwAt H v r):RwAt H' v r:=by
 obtain⟨q,rfl,e⟩:=h;exact⟨q,rfl,x _ _ e (t.tup e)⟩
theorem dQ{vs:List V}{rs:List Row}(h:A2 (RwAt H) vs rs):A2 (RwAt H') vs rs:=h.imp fun _ _ _ _ r=>r.keep x t
theorem BkAt.keep{v:V}{b:Bk}(h:BkAt H v b):BkAt H' v b:=by
 obtain⟨q,u,vs,nt,un,rfl,e1,e2,r⟩:=h;exact⟨q,u,vs,nt,un,rfl,x _ _ e1 (t.tup e1),x _ _ e2 (t.tup e2),dQ x t r⟩
theorem wb{vs:List V}{bs:List Bk}(h:A2 (BkAt H) vs bs):A2 (BkAt H') vs bs:=h.imp fun _ _ _ _ r=>r.keep x t
end
theorem bt{H H':Hp}(s:Same H H'){vs:List V}{rs:List Row}(h:A2 (RwAt H) vs rs):A2 (RwAt H') vs rs:=dQ (W:=[]) (Keep.same s) LW.nil h
theorem kH{H H':Hp}(s:Same H H'){vs:List V}{bs:List Bk}(h:A2 (BkAt H) vs bs):A2 (BkAt H') vs bs:=wb (W:=[]) (Keep.same s) LW.nil h
theorem dD{α:Type}{l:List α}{i:Nat}{x:α}(h:l[i]? = some x):l.take (i+1)=l.take i++[x]:=by rw[Yx,h];rfl
theorem sA(o:Option Int)(j:Int):(o.map V.int).getD (.int j) = .int (o.getD j):=by cases o <;> rfl
def Hw(H:Hp)(Q:VK)(rs:List Row):Prop:=∀out r ws H',out.Perm ((dk rs).map (·.1))->jq out->H r=none->H' r=some (.lst ws)->A2 (RwAt H') ws (res rs out)->Same H H'->NoT H'->Q (.ref r) H'
def flt(H H':Hp):Hp:=fun p=>match H p with
 |some o=>some o
 |none=>match H' p with
  |some o=>if iE o=true then some o else none
  |none=>none
theorem yH{H H':Hp}{p:Addr}{o:HO}(h:H p=some o):flt H H' p=some o:=by unfold flt;rw[h]
theorem wg{H H':Hp}(s:Same H H'){p:Addr}{o:HO}(h:H' p=some o)(n:iE o=true):flt H H' p=some o:=by
 cases e:H p with
 |some z=>rw[s _ _ e]at h;cases h;exact yH e
 |none=>unfold flt;simp only[e,h,n,if_true]
theorem sX{H H':Hp}{p:Addr}{o:HO}(h:flt H H' p=some o):H p=some o\/(H' p=some o/\iE o=true):=by
 unfold flt at h;cases e:H p with
 |some z=>rw[e]at h;exact .inl h
 |none=>
  simp only[e]at h;cases e2:H' p with
  |none=>rw[e2]at h;cases h
  |some z=>
   simp only[e2]at h;split at h
   ·rename_i q;cases h;exact .inr ⟨rfl,q⟩
   ·cases h
theorem Gc.flt{H H':Hp}(s:Same H H'):Gc H (flt H H') H':=⟨fun _ _ e=>yH e,fun p o e=>(sX e).elim (s p o) (·.1),fun p o e=>(sX e).imp id (·.2)⟩
theorem yd{H H':Hp}(n:NoT H):NoT (flt H H'):=fun p o e=>by
 rcases sX e with q|⟨_,q⟩
 ·exact n p o q
 ·cases o <;> first|rfl|cases q
theorem v5{H H':Hp}(s:Same H H'){vs:List V}{rs:List Row}(h:A2 (RwAt H') vs rs):A2 (RwAt (flt H H')) vs rs:=h.imp fun _ _ _ _ ⟨q,e,r⟩=>⟨q,e,wg s r rfl⟩
theorem u_{H0 F:Hp}{D p:Addr}{ys:List V}{rs:List Row}(r:Row)(s:Same H0 F)(fD:H0 D=none)(hD:F D=some (.lst ys))(hp:F p=none)(aw:A2 (RwAt F) ys rs) :
 upd F p (.tup [L2.T r.pa,L2.T r.cu,.int r.am]) D=some (.lst ys)/\Same H0 (upd (upd F p (.tup [L2.T r.pa,L2.T r.cu,.int r.am])) D (.lst (ys++[.ref p])))/\A2 (RwAt (upd (upd F p (.tup [L2.T r.pa,L2.T r.cu,.int r.am])) D (.lst (ys++[.ref p])))) (ys++[.ref p]) (rs++[r]):=by
 have s1:=ah (HO.tup [L2.T r.pa,L2.T r.cu,.int r.am]) hp;have hD1:=s1 _ _ hD;have kp:Keep [D] (upd F p (.tup [L2.T r.pa,L2.T r.cu,.int r.am])) (upd (upd F p (.tup [L2.T r.pa,L2.T r.cu,.int r.am])) D (.lst (ys++[.ref p]))):=Keep.refl.put (.head _);exact⟨hD1,e7 (s.trans s1) fD,(dQ kp (LW.one hD1) (bt s1 aw)).snoc ⟨p,rfl,(ag (Ne.symm (az hD hp))).trans ad⟩⟩
def sp_DF:Sp:=sp1 fun x H Q _=>NoT H/\asR x fun p=>∃vs rs,H p=some (.lst vs)/\A2 (RwAt H) vs rs/\rs.length<=3000/\(dk rs).length<64/\Hw H Q rs
theorem ur(d:List (Pt × Int)):(d.map jk).map (·.1)=(d.map (·.1)).map kP:=by rw[tf,tf];rfl
theorem qe(T:Txt K mg a):Fo P w K mg base "sums_of" 1 sp_DF:=by
 refine T.y2.g1 ["rows","together","path","currency","amount"] fun x0 fA cdv A outer s H Q E ND HU hr h=>?_;obtain⟨hN,h1⟩:=h;obtain⟨p,rfl,vs,rs,hp,ha,len,l64,k⟩:=asR.inv h1;have sz:=szl;refine⟨hN,_,(ae (aO 1 ND ue)
  (ae (cX (by passes_own) rfl (bM K (fv 0)) (fJ K (n:=3) rfl (bf (aK (i:=2) ND rfl (Or.inl rfl)) (bf (aK (i:=3) ND rfl (Or.inl rfl)) (bf (aK (i:=4) ND rfl (Or.inl rfl)) dS)))) (af (dL (Zz HU) (fv 1) (bd (fa2 (fv 2) (fv 3))) (aj aE (qf (Zz HU) (fv 1) (bd (fa2 (fv 2) (fv 3))) aa ⟨rfl,rfl,rfl,rfl⟩) (fv 4)) rfl)))
  (af (aC (bN rfl (cl:=_) (x:="path") (xs:=["path","currency"]) (fr:=["together"]) (ks:=[1]) (by walk_at "cq") rfl (bM K (aD (ro rfl) rfl T.pD mQ (fa1 (fv 1)))) (fun _ _ _ _ _=>(fJ K (n:=2) rfl (bf (aK (i:=0) (bX (l:=["path","currency","together"]) (by decide)) rfl (Or.inl rfl)) (bf (aK (i:=1) (bX (l:=["path","currency","together"]) (by decide)) rfl (Or.inl rfl)) dS)))) (fun _ _ _ _ _=>(cN (aN (cE K HU) (aL (Zz HU) (fv 2) (bd (fa2 (fv 0) (fv 1))) (fun _ _=>rfl)) aa))) (fun _ _ _ _ _=>(bd (fa3 (fv 0) (fv 1) (aL (Zz HU) (fv 2) (bd (fa2 (fv 0) (fv 1))) (fun _ _=>rfl)))))))))),?_⟩
 walk_at "rq";intro d hd;refine iC ?_;walk_at "rq";refine il (SqL.of ((ah _ hd) _ _ hp)) (ij (fun i σ' H'=>Same H H'/\∃x2 x3 x4,H' d=some (.dT ((dk (rs.take i)).map jk))/\σ'=[some (.ref p),some (.ref d),x2,x3,x4]) ⟨ah _ hd,none,none,none,ad,rfl⟩ (fun i σ' H' _ h=>SqL.of (h.1 _ _ hp)) ?_ ?_)
 ·rintro i x σ' H' hx ⟨sm,x2,x3,x4,hd',rfl⟩
  obtain⟨r,hr,q,rfl,hq⟩:=ha.at_ hx;have hq':=sm _ _ hq;walk_at "rq";refine⟨_,_,rfl,SqT.of hq',rfl,_,_,rfl,_,_,rfl,_,_,rfl,rfl,?_⟩;walk_at "rq";have l1:=(iB (rs.take i)).2.2;have l2:(rs.take i).length<=3000:=by rw[uV];lia
  refine⟨.inr ⟨_,.inl hd'⟩,by walk_at "om",fun p1 hp1=>⟨_,DGet.t (k:=kP (r.pa,r.cu)) ((ah _ hp1) _ _ hd') ad,?_⟩⟩;rw[iN,sA];walk_at "rq";have s1:=ah (HO.tup [L2.T r.pa,L2.T r.cu]) hp1;refine⟨by walk_at "om",fun p2 hp2=>?_⟩;have s2:=s1.trans (ah (HO.tup [L2.T r.pa,L2.T r.cu]) hp2);refine⟨d,_,rfl,DPut.t (k:=kP (r.pa,r.cu)) (s2 _ _ hd') ad (by rw[zg,um];lia),?_⟩;rw[uX];refine⟨e7 (sm.trans s2) hd,_,_,_,?_,rfl,rfl,rfl⟩;rw[ad,dD hr,oE];rfl
 ·rintro σ' H' ⟨sm,x2,x3,x4,hd',rfl⟩
  rw[ha.len,Zo]at hd';walk_at "rq";refine gU ?_;walk_at "rq";refine⟨_,(dk rs).map (·.1),hd',ur _,by rw[zg];exact l64,fun out as po oo ao l hl=>?_⟩;have sl:=ah (HO.lst (as.map V.ref)) hl;have lo:=po.length_eq;rw[zg]at lo;have la:=ao.len;refine⟨⟨_,SqL.of ad⟩,ye l (as.map V.ref) (fun D i ys G=>Same (upd H' l (.lst (as.map V.ref))) G/\G D=some (.lst ys)/\upd H' l (.lst (as.map V.ref)) D=none/\A2 (RwAt G) ys (res rs (out.take i))) (by rw[zg,um];lia) (fun D hD=>⟨ah _ hD,ad,hD,.nil⟩) (fun D i ys G h=>⟨h.2.1,SqL.of (h.1 _ _ ad),?_⟩) ?_ ?_⟩
  ·rw[h.2.2.2.len]
   exact wn (i7 _ _) (by rw[uV];lia)
  ·rintro D i y ys G zs N1 N0 hy ⟨sG,hD,fD,aG⟩ hz n1 n0
   rw[List.getElem?_map]at hy;obtain⟨b,hb,rfl⟩:=Zt.mp hy;obtain⟨e,he,kb⟩:=ao.at_ hb;have kG:=sG _ _ (sl _ _ kb);have dG:=sG _ _ (sl _ _ hd');have ve:=xn (po.mem_iff.mp (ww he));obtain⟨z1,z2,rfl⟩:=ex2 hz;walk_at "rq";refine⟨_,_,rfl,SqT.of kG,rfl,_,_,rfl,_,_,rfl,rfl,?_⟩;walk_at "rq";have gd:∀(F:Hp) (q:Addr),KAt F q e->F d=some (.dT ((dk (rs)).map jk))->DGet F d (.ref q) (some (.int (val (rs) e))):=fun F q h1 h2=>by
    have g:=DGet.t (k:=kP e) h2 h1
    rwa [iN,ve]at g
   rw[dD he,uL]at n1 n0;refine⟨⟨[some (L2.T e.1),some (L2.T e.2)],rfl,rfl⟩,by walk_at "om",fun p1 hp1=>?_⟩;have s1:=ah (HO.tup (tP e)) hp1;refine⟨d,_,rfl,gd _ p1 ad (s1 _ _ dG),?_⟩;walk_at "rq";by_cases hv:val rs e=0
   ·rw[if_neg fun z=>z hv,Zs]at n0
    exact itp hv (n0 _ ⟨sG.trans s1,s1 _ _ hD,fD,bt s1 aG⟩)
   ·rw[if_pos hv]at n1
    refine itn hv ⟨by walk_at "om",fun p2 hp2=>?_⟩;have s2:=s1.trans (ah (HO.tup (tP e)) hp2);refine⟨d,_,rfl,gd _ p2 ad (s2 _ _ dG),by walk_at "om",fun p3 hp3=>?_⟩;obtain⟨m1,m2,m3⟩:=u_ ⟨e.1,e.2,val rs e⟩ (sG.trans s2) fD (s2 _ _ hD) hp3 (bt s2 aG);exact n1 _ _ m1 ⟨m2,ad,fD,m3⟩
  ·rintro D ys G ⟨sG,hD,fD,aG⟩
   rw[zg,la,Zo]at aG;have sg:=(sm.trans sl).trans sG;exact⟨_,Gc.flt sg,k out D ys _ po oo ((sm.trans sl).free fD) (wg sg hD rfl) (v5 sg aG) (Gc.flt sg).a (yd hN)⟩
theorem RwAt.mv(G G':Hp)(v:V)(r:Row)(k:∀t l,G t=some (.tup l)->G' t=some (.tup l))(h:RwAt G v r):RwAt G' v r:=by
 obtain⟨q,e,h⟩:=h;exact⟨q,e,k _ _ h⟩
def sp_zi:Sp:=sp1 fun x H Q _=>NoT H/\asR x fun p=>∃vs rs,(H p=some (.lst vs)\/H p=some (.tup vs))/\A2 (RwAt H) vs rs/\rs.length<=900/\∀t ws H',H t=none->H' t=some (.tup ws)->A2 (RwAt H') ws (trn rs)->Same H H'->NoT H'->Q (.ref t) H'
theorem rB(T:Txt K mg a):Fo P w K mg base "turned" 1 sp_zi:=by
 refine T.AN.x1 ["rows"] fun x0 fA cdv A outer s H Q E ND HU hr h=>?_;obtain⟨hN,h1⟩:=h;obtain⟨p,rfl,vs,rs,hp,ha,len,k⟩:=asR.inv h1;have sz:=szl;refine⟨_,(af (aC (bh (fR K) rfl T.gt fe (fa1 (bN rfl (cl:=_) (x:="path") (xs:=["path","currency","amount"]) (fr:=[]) (ks:=[]) (by walk_at "cq") rfl (Dz K (fv 0)) (fun _ _ _ _ _=>(fJ K (n:=3) rfl (bf (aK (i:=0) (bX (l:=["path","currency","amount"]) (by decide)) rfl (Or.inl rfl)) (bf (aK (i:=1) (bX (l:=["path","currency","amount"]) (by decide)) rfl (Or.inl rfl)) (bf (aK (i:=2) (bX (l:=["path","currency","amount"]) (by decide)) rfl (Or.inl rfl)) dS))))) (fun _ _ _ _ _=>dH) (fun _ _ _ _ _=>(bd (fa3 (fv 0) (fv 1) (yf tM (fv 2)))))))))),?_⟩;walk_at "rq";have lv:=ha.len;refine IU ?_;walk_at "rq";rcases hp with hp|hp
 ·refine .inl ⟨⟨vs,SqL.of hp⟩,ceA RwAt.mv p vs rs (RwAt H) (fun _=>true) (fun r=>⟨r.pa,r.cu,-r.am⟩) hp hN ha (by lia) (fun v b mb rb G zs N1 N0 sG nG hz n1 n0=>?_) fun D ws G hD sG nG gD aG=>?_⟩
  ·obtain⟨q,rfl,hq⟩:=rb
   have hq:=sG _ _ hq;obtain⟨z1,z2,z3,rfl⟩:=ex3 hz;walk_at "rq";refine⟨_,_,rfl,SqT.of hq,rfl,_,_,rfl,_,_,rfl,_,_,rfl,rfl,?_⟩;walk_at "rq";exact⟨⟨[_,_,_],rfl,rfl⟩,by walk_at "om",fun p1 hp1=>n1 rfl _ _ (ah _ hp1) (aq nG rfl) ⟨p1,rfl,ad⟩⟩
  ·walk_at "rq"
   rw[Zm.mpr (fun _ _=>rfl)]at aG;exact⟨ws,.inl ⟨SqL.of gD,fun t ht=>k t ws _ (sG.free ht) ad (bt (ah _ ht) aG) (sG.trans (ah _ ht)) (aq nG rfl)⟩⟩
 ·refine .inr ⟨⟨vs,SqT.of hp⟩,C8 RwAt.mv p vs rs (RwAt H) (fun _=>true) (fun r=>⟨r.pa,r.cu,-r.am⟩) hp hN ha (by lia) (fun v b mb rb G zs N1 N0 sG nG hz n1 n0=>?_) fun D ws G hD sG nG gD aG=>?_⟩
  ·obtain⟨q,rfl,hq⟩:=rb
   have hq:=sG _ _ hq;obtain⟨z1,z2,z3,rfl⟩:=ex3 hz;walk_at "rq";refine⟨_,_,rfl,SqT.of hq,rfl,_,_,rfl,_,_,rfl,_,_,rfl,rfl,?_⟩;walk_at "rq";exact⟨⟨[_,_,_],rfl,rfl⟩,by walk_at "om",fun p1 hp1=>n1 rfl _ _ (ah _ hp1) (aq nG rfl) ⟨p1,rfl,ad⟩⟩
  ·walk_at "rq"
   rw[Zm.mpr (fun _ _=>rfl)]at aG;exact⟨ws,.inl ⟨SqL.of gD,fun t ht=>k t ws _ (sG.free ht) ad (bt (ah _ ht) aG) (sG.trans (ah _ ht)) (aq nG rfl)⟩⟩
def lts(o:Option Int)(d:Int):Prop:=match o with|none=>True|some m=>m<MO d
def sp_AY(a:Adr):Sp:=sp3 fun x y z H Q _=>NoT H/\asR x fun p=>asI y fun d=>asT z fun l=>nt2 l/\(0<=d/\d<=146096)/\∃dx o,H p=some (cR a.a_ dx (cl o))/\lts o d/\Q .non H
theorem ic(T:Txt K mg a):Fo P w K mg base "need_note_and_gate" 6 (sp_AY a):=by
 refine T.iA.g3 ["gate","day","note"] fun x0 x1 x2 fA cdv A outer s H Q E ND HU hr h=>?_;obtain⟨hN,h1⟩:=h;obtain⟨p,rfl,h2⟩:=asR.inv h1;obtain⟨d,rfl,h3⟩:=asI.inv h2;obtain⟨l,rfl,hl,hd,dx,o,hp,lt,k⟩:=asT.inv h3;have sz:=szl;refine⟨hN,_,(ae (a6 (bR (bL (aH (wm T) hr aA (fa1 (fv 2))))) (af (cC T.yX T.z6 bA)) aJ)
  (af (a6 (bR (bL (b7 (fv 0) T.cV (sS T) (hr.mono (by decide)) aA (fa1 (fv 1))))) (af (cC T.Cu T.AD bA)) aJ))),?_⟩
 walk_at "rd";refine⟨hN,hl,_,_,hp,aU (by decide +kernel),hN,hd,dx,o,hp,?_⟩;cases o with
 |none=>exact k
 |some m=>
  have h:m<MO d:=lt;exact itn (by simp[h]) k
theorem wZ(x y:V):wO (zf "put") [(zf "bookings",x),(zf "undoings",y)]=none:=by rw[aU (by decide +kernel),aU (by decide +kernel)];rfl
def IC(a:Adr)(H H':Hp)(j b u:Addr)(bs:List V)(kvs:List (Key × V))(d nt:V)(vs:List V)(o:V):Prop:=∃q t,H q=none/\H' q=some (.tup [.int bs.length,d,nt,.ref t,o])/\H' t=some (.tup vs)/\JAt a.aQ H' j b u (bs++[.ref q]) kvs/\Keep [b,u] H H'/\NoT H'
theorem Jw(x y:V):wO (zf "booking") [(zf "bookings",x),(zf "undoings",y)]=none:=by rw[aU (by decide +kernel),aU (by decide +kernel)];rfl
theorem IW(x y:V):wO (zf "undone_by") [(zf "bookings",x),(zf "undoings",y)]=none:=by rw[aU (by decide +kernel),aU (by decide +kernel)];rfl
theorem JAt.tup{C:Addr}{H:Hp}{p b u:Addr}{bs:List V}{kvs:List (Key × V)}(J:JAt C H p b u bs kvs){t:Addr}{l:List V}(h:H t=some (.tup l)):t∉[b,u]:=fun m=>by
 rcases zZ.mp m with e|e
 ·rw[e,J.ls]at h;cases h
 ·rw[zq.mp e,J.dc]at h;cases h
def opR(cs:List Acc)(t:Int)(r:Row):Bool:=match fnd cs r.pa with
 |some c=>opn c.fi c.un t
 |none=>false
theorem Bz{ws:List V}{bs:List Bool}(h:A2 (fun v c=>v = .bl c) ws bs):ws=bs.map .bl:=by
 induction h with
 |nil=>rfl
 |cons e _ ih=>rw[e,ih];rfl
structure UD where
 d:Addr
 cs:List Acc
 dx:Addr
 o:Option Int
 b:Addr
 u:Addr
 bs:List V
 kvs:List (Key × V)
 n:Nat
 q:Addr
 d0:Int
 n0:V
 tq:Addr
 vs:List V
 rs:List Row
structure UOk(a:Adr)(H:Hp)(p g j:Addr)(i t:Int)(D:UD):Prop where
 ca:CAt a.aR a.aM H p D.d D.cs
 ga:H g=some (cR a.a_ D.dx (cl D.o))
 ja:JAt a.aQ H j D.b D.u D.bs D.kvs
 l1:D.bs.length<=100
 l2:D.kvs.length<=100
 ei:i=(D.n:Int)
 eq:D.bs[D.n]? = some (.ref D.q)
 hq:H D.q=some (.tup [.int D.n,.int D.d0,D.n0,.ref D.tq,.non])
 ht:H D.tq=some (.tup D.vs)
 hv:A2 (RwAt H) D.vs D.rs
 lr:D.rs.length<=60
 hr:∀r∈D.rs,∃c∈D.cs,c.pa=r.pa
 hu:(dN D.kvs (.inl (D.n:Int))).getD .non = .non
 t0:0<=t/\t<=146096
 dt:D.d0<=t
 lt:lts D.o t
def sp_Dj(a:Adr):Sp:=sp6 fun x y z u v r H Q E=>NoT H/\asR x fun p=>asR y fun g=>asR z fun j=>asI u fun i=>asI v fun t=>asT r fun nt=>nt2 nt/\∃D:UD,UOk a H p g j i t D /\
 ((D.rs.all (opR D.cs t))=true->∀ws H',A2 (RwAt H') ws (trn D.rs)->IC a H H' j D.b D.u D.bs (dB D.kvs (.inl (D.n:Int)) (.int D.bs.length)) (.int t) (L2.T nt) ws (.int D.n)->Q (.int D.bs.length) H')/\((D.rs.all (opR D.cs t))=false->E (.ref a.a9) none H)
theorem DE(T:Txt K mg a):Fo P w K mg base "undo" 7 (sp_Dj a):=by
 refine T.FJ.x6 ["chart","gate","journal","number","day","note","booking"] fun x0 x1 x2 x3 x4 x5 fA cdv A outer s H Q E ND HU hr h=>?_;obtain⟨hN,h1⟩:=h;obtain⟨p,rfl,h2⟩:=asR.inv h1;obtain⟨g,rfl,h3⟩:=asR.inv h2;obtain⟨j,rfl,h4⟩:=asR.inv h3;obtain⟨i,rfl,h5⟩:=asI.inv h4;obtain⟨t,rfl,h6⟩:=asI.inv h5;obtain⟨nt,rfl,hnt,⟨d,cs,dx,o,b,u,bs,kvs,n,q,d0,n0,tq,vs,rs⟩,⟨J,hg,JJ,l1,l2,rfl,e2,hq,htq,hw,lr,hrs,hv,ht,hd,hl⟩,k1,k0⟩:=asT.inv h6;dsimp only at J hg JJ l1 l2 e2 hq htq hw lr hrs hv hd hl k1 k0 |-
 have sz:=szl;obtain⟨dj,hj⟩:=JJ.ob;have lv:=hw.len;have hn:=(List.getElem?_eq_some_iff.mp e2).1
 skip
 have c4:∃u,PSs (bV (XE P w) P w K mg base ["chart","gate","journal","number","day","note","booking"] "undo" (au (top 62)) fA cdv A outer s H E) (Zn 4 (aZ (top 62))) u/\u { nx:=fun _ H'=>Q .non H',rt:=Q } [some (.ref p),some (.ref g),some (.ref j),some (.int n),some (.int t),some (L2.T nt),some (.ref q)] H:=by
  refine⟨_,(ae (a6 (iU (bR (bL (aD (tX K rfl) rfl T.Ax wK (fa1 (bN rfl (cl:=_) (x:="row") (xs:=["row"]) (fr:=["day","chart"]) (ks:=[4,0]) (by walk_at "cq") rfl (iV K (aB K (fv 6) aa)) (fun _ _ _ _ _=>(aK (i:=0) (bX (l:=["row","day","chart"]) (by decide)) rfl (Or.inl rfl))) (fun _ _ _ _ _=>dH) (fun _ _ _ _ _=>(b7 (fv 2) T.bw (f8 T) (hr.mono (by decide)) kF (fa2 (aB K (fv 0) aa) (fv 1)))))))))) (af (cC T.i_ T.fS bA)) aJ)
   (af (aC (b7 (fv 2) T.a7 (eQ T) (hr.mono (by decide)) aA (fa4 (fv 4) (fv 5) (aH (rB T) hr aA (fa1 (aB K (fv 6) aa))) (fv 3)))))),?_⟩
  walk_at "rd";refine⟨hN,Bp ?_⟩;walk_at "rd";refine⟨_,_,.inr (SqT.of hq),av (j:=3) rfl,tq,rfl,⟨vs,SqT.of htq⟩,C8 (S:=fun _ v c=>v = .bl c) (fun _ _ _ _ _ h=>h) tq vs rs (RwAt H) (fun _=>true) (opR cs t) htq hN hw (by lia) (fun v r mr rr G zs N1 N0 sG nG hz n1 n0=>?_) fun D ws G hD sG nG gD aG=>?_⟩
  ·obtain⟨q1,rfl,hq1⟩:=rr
   have hq1:=sG _ _ hq1;obtain⟨z1,rfl⟩:=ex1 hz;obtain⟨c,mc,ec⟩:=hrs r mr;have J1:=J.same sG;obtain⟨dp,hp⟩:=J1.ob;walk_at "rd";refine⟨⟨[_],rfl,rfl⟩,_,_,hp,aU (by decide +kernel),_,_,.inr (SqT.of hq1),av (j:=0) rfl,nG,⟨d,cs,c,J1,mc,ec,n1 rfl _ _ (Same.refl _) nG ?_⟩⟩;unfold opR;rw[<- ec,jF J.np mc]
  ·walk_at "rd"
   rw[Zm.mpr (fun _ _=>rfl)]at aG;have ew:=Bz aG;rw[ew]at gD;refine⟨_,SqL.of gD,H,Gc.none sG,?_⟩;have ea:(rs.map (opR cs t)).all id=rs.all (opR cs t):=by rw[List.all_map];rfl
   rw[ea];cases eo:rs.all (opR cs t) with
   |false=>exact itp rfl ⟨by walk_at "om",k0 eo⟩
   |true=>
    refine itn (by decide) ⟨_,_,hj,wZ _ _,_,_,.inr (SqT.of hq),av (j:=3) rfl,hN,?_⟩;walk_at "rd";refine⟨vs,rs,.inr htq,hw,by lia,fun t1 ws1 H1 f1 h1 a1 s1 N1=>?_⟩;have J1:=JJ.keep (S:=[]) (Keep.same s1) zY zY zY;refine⟨N1,b,u,bs,kvs,ws1,J1,l1,l2,.inr h1,.inr ⟨_,rfl⟩,fun t2 q2 H2 _ g2 g3 g4 g5 g6 g7=>?_⟩;have kp:Keep [b,u] H H2:=fun c z e m=>g6 c z (s1 c z e) m;exact k1 eo ws1 H2 (a1.imp fun v r _ _ h=>RwAt.mv _ _ v r (fun t l e=>g6 _ _ e (J1.tup e)) h) ⟨q2,t2,s1.free g3,g4,g2,g5,kp,g7⟩
 obtain⟨u4,hu4,c4⟩:=c4;refine⟨_,(ae (aO 6 ND (b7 (fv 2) T.a7 (e9 T) (hr.mono (by decide)) aA (fa1 (fv 3))))
  (ae (a6 (L2.PW.pt (kj (dX (dq (aB K (fv 6) aa))) (gB (dX (dq (b7 (fv 2) T.a7 (iz T) (hr.mono (by decide)) aA (fa1 (fv 3)))))))) (af (cC T.BC T.Cb bA)) aJ)
  (ae (a6 (L2.PW.pt (kj (bR (bL (aH (lW T) hr aA (fa1 (fv 4))))) (gB (aN rj (fv 4) (aB K (fv 6) aa))))) (af (cC T.pW T.qd bA)) aJ)
  (ae (bB (aH (ic T) hr aA (fa3 (fv 1) (fv 4) (fv 5))))
  hu4)))),?_⟩
 walk_at "rd";refine⟨_,_,hj,Jw _ _,hN,b,u,bs,kvs,JJ,by lia,(fun z=>by lia),fun n' v e1 e3=>?_⟩;have:n=n':=by lia
 subst this;rw[e2]at e3;cases e3;walk_at "rd";refine⟨_,_,.inr (SqT.of hq),av (j:=4) rfl,itp rfl ⟨_,_,hj,IW _ _,hN,b,u,bs,kvs,JJ,n,q,_,rfl,e2,hq,itp hv ⟨hN,?_⟩⟩⟩;walk_at "rd";rw[i4,decide_eq_true ht.1,decide_eq_true ht.2];refine itn (by decide) ⟨_,_,.inr (SqT.of hq),av (j:=1) rfl,?_⟩;walk_at "rd";exact itn (by lia) ⟨hN,hnt,ht,dx,o,hg,hl,c4⟩
def cA(ns:List Int)(k:Int):Int:=if k<ns.length then ns.getD k.toNat 0+ns.getD k.toNat 0 % 251*381840 else 0
def sp_at(K:W.Frag):Sp:=sp2 fun x y H Q _=>asR x fun p=>asI y fun k=>∃ns:List Int,SqL K H p (ns.map V.int)/\0<=k/\∀i,i=cA ns k->Q (.int i) H
theorem aT(T:Txt K mg a):Fo P w K mg base "_law_cell_at" 1 (sp_at K):=by
 refine T.qg.x2 ["_law_script","_law_k"] fun x0 x1 fA cdv A outer s H Q E ND HU hr h=>?_;obtain⟨p,rfl,h1⟩:=asR.inv h;obtain⟨k,rfl,ns,hp,k0,q⟩:=asI.inv h1;refine⟨_,(ae (a6 (aN rj (fv 1) (aD (bQ K) rfl T.cZ ci (fa1 (fv 0)))) (af (aC (aj aE (aB K (fv 0) (fv 1)) (aj cW (aj aW (aB K (fv 0) (fv 1)) aa) aa)))) aJ)
  (af (aC aa))),?_⟩
 walk_at "rd";refine⟨_,.inl hp,?_⟩;rw[zg];by_cases hk:k<ns.length
 ·obtain⟨j,rfl⟩:∃j:Nat,k=j:=⟨k.toNat,by lia⟩
  have hj:j<ns.length:=by lia
  have e:atI (ns.map V.int) (j:Int)=some (.int ns[j]):=av (by rw[List.getElem?_map,List.getElem?_eq_getElem hj];rfl);refine itp hk ⟨_,_,.inl hp,e,?_⟩;walk_at "rd";refine⟨_,_,.inl hp,e,?_⟩;walk_at "rd";refine q _ ?_;unfold cA;rw[if_pos hk,Int.toNat_natCast,Y3,List.getElem?_eq_getElem hj];rfl
 ·exact itn hk (q _ (by unfold cA;rw[if_neg hk]))
def sp_Ba:Sp:=sp1 fun x H Q _=>asI x fun y=>Q (.int (365*y+LD y)) H
theorem cI(T:Txt K mg a):Fo P w K mg base "_law_start" 1 sp_Ba:=by
 refine T.tT.x1 ["_law_year"] fun x0 fA cdv A outer s H Q E ND HU hr h=>?_;obtain⟨y,rfl,k⟩:=asI.inv h;refine⟨_,(af (aC (aj aE (aj cJ (aj aE (aj cW aa (fv 0)) (aj aX (aj aE (fv 0) aa) aa)) (aj aX (aj aE (fv 0) aa) aa)) (aj aX (aj aE (fv 0) aa) aa)))),?_⟩;walk_at "rd";have e:365*y+(y+3) / 4-(y+99) / 100+(y+399) / 400=365*y+LD y:=by unfold LD;lia
 rw[e];exact k
theorem E3{y:Int}(h:0<=y):0<=LD y:=by unfold LD;lia
theorem EO(y:Int):FD (12*y)=365*y+LD y:=by
 unfold FD;rw[show 12*y / 12=y by lia,show 12*y % 12=0 by lia,if_neg (by decide)];show _+S 0=_;rw[show S 0=0 by decide];lia
abbrev LNG(y:Int):List Int:=31::(28+(LD (y+1)-LD y))::R10
theorem Bc(y:Int):(28:Int)+(if 365*(y+1)+LD (y+1)-(365*y+LD y)=366 then 1 else 0)=28+(LD (y+1)-LD y):=by
 have h:LD (y+1)=LD y+1\/LD (y+1)=LD y:=by
  rw[xF];split
  ·exact .inl rfl
  ·exact .inr (Int.add_zero _)
 rcases h with h|h
 ·rw[h,if_pos (by lia)];lia
 ·rw[h,if_neg (by lia)];lia
def sp_xE:Sp:=sp1 fun x H Q _=>NoT H/\asI x fun y=>∀p,H p=none->Q (.ref p) (upd H p (.lst ((LNG y).map V.int)))
theorem nY(T:Txt K mg a):Fo P w K mg base "_law_lengths" 2 sp_xE:=by
 refine T.oH.x1 ["_law_year","_law_second"] fun x0 fA cdv A outer s H Q E ND HU hr h=>?_;obtain⟨hN,h1⟩:=h;obtain⟨y,rfl,k⟩:=asI.inv h1;have sz:=szl;refine⟨_,(ae (aO 1 ND (aj aE aa (bh dW rfl T.gY eg (fa1 (bP (bF K HU) (aj cJ (aH (cI T) hr aA (fa1 (aj aE (fv 0) aa))) (aH (cI T) hr aA (fa1 (fv 0)))) aa (bY _))))))
  (af (aC (bz (FA.pa (bc aa (bc (fv 1) (bc aa (bc aa (bc aa (bc aa (bc aa (bc aa (bc aa (bc aa (bc aa (bc aa ce))))))))))))))))),?_⟩
 walk_at "rd";refine⟨by walk_at "om",fun p hp=>?_⟩;rw[Bc];exact k p hp
def sp_Ek:Sp:=sp1 fun x H Q _=>NoT H/\asI x fun m=>∀p H',Same H H'->NoT H'->H' p=some (.tup [.int (FD m),.int (FD (m+1)-1)])->Q (.ref p) H'
theorem cD(T:Txt K mg a):Fo P w K mg base "_law_month_ends" 3 sp_Ek:=by
 refine T.lA.x1 ["_law_month_here","_law_lengths_here","_law_first"] fun x0 fA cdv A outer s H Q E ND HU hr h=>?_;obtain⟨hN,h1⟩:=h;obtain⟨m,rfl,k⟩:=asI.inv h1;have sz:=szl;refine⟨_,(ae (aO 1 ND (aH (nY T) hr aA (fa1 (aj aX (fv 0) aa))))
  (ae (aO 2 ND (aj aE (aH (cI T) hr aA (fa1 (aj aX (fv 0) aa))) (aD (yc K rfl) rfl T.EV AL (fa1 (dZ (pR K) (fv 1) gr (eK (aj aW (fv 0) aa)))))))
  (af (aC (bd (fa2 (fv 2) (aj cJ (aj aE (fv 2) (aB K (fv 1) (aj aW (fv 0) aa))) aa))))))),?_⟩
 walk_at "rd";refine⟨hN,fun p hp=>?_⟩;have s1:=ah (HO.lst ((LNG (m / 12)).map V.int)) hp;have N1:NoT (upd H p (HO.lst ((LNG (m / 12)).map V.int))):=aq hN rfl;have g1:upd H p (HO.lst ((LNG (m / 12)).map V.int)) p=some (HO.lst ((LNG (m / 12)).map V.int)):=ad;change Gr K (V.ref p) none (some (m % 12)) (upd H p (HO.lst ((LNG (m / 12)).map V.int))) _;generalize upd H p (HO.lst ((LNG (m / 12)).map V.int))=G1 at s1 N1 g1 |-
 have m0:0<=m % 12/\m % 12<12:=by lia
 refine⟨p,_,rfl,SqL.of g1,fun q hq=>?_⟩;rw[E5 _ m0.1,<- List.map_take];have s2:=ah (HO.lst (((LNG (m / 12)).take (m % 12).toNat).map V.int)) hq;have g2:upd G1 q (HO.lst (((LNG (m / 12)).take (m % 12).toNat).map V.int)) q=some (HO.lst (((LNG (m / 12)).take (m % 12).toNat).map V.int)):=ad;have N2:NoT (upd G1 q (HO.lst (((LNG (m / 12)).take (m % 12).toNat).map V.int))):=aq N1 rfl;generalize upd G1 q (HO.lst (((LNG (m / 12)).take (m % 12).toNat).map V.int))=G2 at s2 g2 N2 |-
 refine⟨_,.inl (SqL.of g2),?_⟩;walk_at "rd";rw[show 365*(m / 12)+LD (m / 12)+((LNG (m / 12)).take (m % 12).toNat).sum=FD m from HJ m];have hl:(m % 12).toNat<(LNG (m / 12)).length:=by show _<12;lia
 have ix:atI ((LNG (m / 12)).map V.int) (m % 12)=some (.int (LG (2000+m / 12) (1+m % 12))):=by
  have e:=JM m;have e2:m % 12=((m % 12).toNat:Int):=by lia
  rw[<- e]
  conv=>lhs;rw[e2]
  exact av (by rw[List.getElem?_map,List.getElem?_eq_getElem hl];simp[Y3,List.getElem?_eq_getElem hl])
 refine⟨_,_,.inl (SqL.of (s2 _ _ g1)),ix,?_⟩;walk_at "rd";rw[<- xV];refine⟨by walk_at "om",fun p3 hp3=>k p3 _ ((s1.trans s2).trans (ah _ hp3)) (aq N2 rfl) ad⟩
def sp_AJ:Sp:=sp1 fun x H Q _=>NoT H/\asI x fun d=>(0<=d/\d<=146096)/\∀H',Same H H'->NoT H'->Q (.int (MO d)) H'
theorem jz(T:Txt K mg a):Fo P w K mg base "_law_month" 4 sp_AJ:=by
 refine T.tV.x1 ["_law_day_here","_law_year","_law_month_here"] fun x0 fA cdv A outer s H Q E ND HU hr h=>?_;obtain⟨hN,h1⟩:=h;obtain⟨d,rfl,⟨d0,d1⟩,k⟩:=asI.inv h1;have sz:=szl;refine⟨_,(ae (aO 1 ND (aj aX (aj cW (fv 0) aa) aa))
  (ae (iR (by passes_own) (aN kq (aH (cI T) hr aA (fa1 (fv 1))) (fv 0)) (af (aO 1 ND (aj cJ (fv 1) aa))))
  (ae (iR (by passes_own) (aN d4 (aH (cI T) hr aA (fa1 (aj aE (fv 1) aa))) (fv 0)) (af (aO 1 ND (aj aE (fv 1) aa))))
  (ae (aO 2 ND aa)
  (ae (iR (by passes_own) (aN rj (aB K (aH (cD T) hr aA (fa1 (aj aE (aj cW aa (fv 1)) (fv 2)))) aa) (fv 0)) (af (aO 2 ND (aj aE (fv 2) aa))))
  (af (aC (aj aE (aj cW aa (fv 1)) (fv 2))))))))),?_⟩
 walk_at "rd";refine⟨fun n σ H1=>∃y:Int,σ=[some (.int d),some (.int y),none]/\H=H1/\0<=y/\n=y.toNat,⟨_,_,rfl,rfl,by lia,rfl⟩,?_⟩;rintro n σ H1 ⟨y,rfl,rfl,y0,rfl⟩;walk_at "rd";by_cases h2:d<365*y+LD y
 ·have y1:1<=y:=by
   by_cases z:y=0
   ·rw[z]at h2
    have:LD 0=0:=by decide
    lia
   ·lia
  exact itp h2 ⟨_,fun σ' H' z=>z,(y-1).toNat,by lia,y-1,rfl,rfl,by lia,rfl⟩
 ·refine itn h2 ⟨fun n σ H1=>∃y:Int,σ=[some (.int d),some (.int y),none]/\H=H1/\0<=y/\365*y+LD y<=d/\n=(d-y).toNat,⟨_,_,rfl,rfl,y0,by lia,rfl⟩,?_⟩
  rintro n σ H1 ⟨y,rfl,rfl,y0,h3,rfl⟩;walk_at "rd";by_cases h4:365*(y+1)+LD (y+1)<=d
  ·have:=E3 (y:=y+1) (by lia)
   exact itp h4 ⟨_,fun σ' H' z=>z,(d-(y+1)).toNat,by lia,y+1,rfl,rfl,by lia,h4,rfl⟩
  ·refine itn h4 ?_
   walk_at "rd";refine⟨fun n σ H1=>∃m:Int,σ=[some (.int d),some (.int y),some (.int m)]/\Same H H1/\NoT H1/\0<=m/\m<=11/\FD (12*y+m)<=d/\n=(11-m).toNat,⟨_,_,rfl,Same.refl _,hN,by lia,by lia,by rw[Int.add_zero,EO];exact h3,rfl⟩,?_⟩;rintro n σ H1 ⟨m,rfl,s1,N1,m0,m1,mf,rfl⟩;walk_at "rd";refine⟨N1,fun p H2 s2 N2 hp=>⟨_,_,.inr (SqT.of hp),av (j:=1) rfl,?_⟩⟩;walk_at "rd";by_cases h5:FD (12*y+m+1)-1<d
   ·have m2:m+1<=11:=by
     by_cases z:m=11
     ·exfalso
      rw[z,show 12*y+11+1=12*(y+1) by lia,EO]at h5;lia
     ·lia
    exact itp h5 ⟨_,fun σ' H' z=>z,(11-(m+1)).toNat,by lia,m+1,rfl,s1.trans s2,N2,by lia,m2,by rw[<- Int.add_assoc];lia,rfl⟩
   ·rw[BZ mf (by lia)]at k
    exact itn h5 (k _ (s1.trans s2) N2)
def sp_Db(K:W.Frag):Sp:=sp1 fun x H Q _=>asR x fun p=>∃ns:List Int,SqL K H p (ns.map V.int)/\∀i:Int,300<=i->i<=145721->Q (.int i) H
theorem gK(T:Txt K mg a):Fo P w K mg base "_law_base" 2 (sp_Db K):=by
 refine T.uT.x1 ["_law_script","_law_cell"] fun x0 fA cdv A outer s H Q E ND HU hr h=>?_;obtain⟨p,rfl,ns,hp,k⟩:=asR.inv h;refine⟨_,(ae (aO 1 ND (aH (aT T) hr aA (fa2 (fv 0) aa)))
  (af (aC (aD (o7 rfl) rfl T.v0 qj (fa2 aa (aj aE (aj cJ (aH (cI T) hr aA (fa1 (aj aE (aj aW (fv 1) aa) aa))) aa) (aj aW (aj aX (fv 1) aa) aa))))))),?_⟩
 walk_at "rd";refine⟨ns,hp,fun i _=>?_⟩;have y1:1<=i % 399+1/\i % 399+1<=399:=by lia
 have z1:0<=i / 399 % 50/\i / 399 % 50<50:=by lia
 generalize i % 399+1=y at y1;generalize i / 399 % 50=z at z1;have f1:=E3 (show 0<=y by lia);have f2:LD y<=97:=by unfold LD;clear z1 f1;lia
 generalize LD y=t at f1 f2;refine k _ ?_ ?_
 ·split <;> lia
 ·split <;> lia
def sp_Gh(K:W.Frag):Sp:=sp2 fun x y H Q _=>asR x fun p=>asI y fun k=>∃ns:List Int,SqL K H p (ns.map V.int)/\0<=k/\∀i:Int,0<=i->i<=145816->Q (.int i) H
theorem uW(T:Txt K mg a):Fo P w K mg base "_law_day" 3 (sp_Gh K):=by
 refine T.xm.x2 ["_law_script","_law_k"] fun x0 x1 fA cdv A outer s H Q E ND HU hr h=>?_;obtain⟨p,rfl,h1⟩:=asR.inv h;obtain⟨j,rfl,ns,hp,k0,k⟩:=asI.inv h1;refine⟨_,(af (aC (aD (GX rfl) rfl T.HR Gp (fa2 aa (aj aE (aH (gK T) hr aA (fa1 (fv 0))) (aj aW (aH (aT T) hr aA (fa2 (fv 0) (fv 1))) aa)))))),?_⟩;walk_at "rd";refine⟨ns,hp,fun i i0 i1=>⟨ns,hp,k0,fun x _=>?_⟩⟩;refine k _ ?_ ?_
 ·split <;> lia
 ·split <;> lia
theorem fX{ta:TA}{g:TG}{tb:TS}{D:eA}{σ:St}{H:Hp}(h:ta σ H fun vs H1=>∃j:Int,vs=[.int j] /\ -(2 ^ 62)<=j/\j<2 ^ 62/\FE (Itr 0 j.toNat) g tb D σ H1):sO (Fp ta) g tb D σ H:=h
theorem yb(l:List Nat)(lo hi:Option Int):(ie l lo hi).length<=l.length:=by
 unfold ie;rw[uV,List.length_drop];lia
theorem oy{l:List Nat}{lo hi:Option Int}{x:Nat}(h:x∈ie l lo hi):x∈l:=by
 unfold ie at h;exact List.mem_of_mem_drop (Yo h)
abbrev AH:List Nat:=[97,98,99,100,101,102,103,104]
theorem xX{l:List Nat}(h:l.length=8)(x:Int):∃z∈l,atI l (x % 8)=some z:=by
 obtain⟨j,e⟩:=Zh (ZJ x (show(8:Int)≠0 by decide));have b:=ZY x (show(0:Int)<8 by decide);rw[e]at b |-
 have hj:j<l.length:=by lia
 exact⟨l[j],Yh hj,av (List.getElem?_eq_getElem hj)⟩
structure NmOk(ls:List (List Nat)):Prop where
 len:ls.length=5
 nd:ls.Nodup
 nm:∀l∈ls,nm l=true
def sgs:List (List Nat):=[[107],[109],[112],[107,109],[122]]
theorem HY{u v s:List Nat}(hs:s∈sgs)(lu:u.length+v.length<=10)(hu:∀x∈u,x∈AH)(hv:∀x∈v,x∈AH):nm (u++s++v)=true:=by
 have hs2:1<=s.length/\s.length<=2/\∀x∈s,97<=x/\x<=122:=by
  have:∀s∈sgs,1<=s.length/\s.length<=2/\∀x∈s,97<=x/\x<=122:=by decide
  exact this s hs
 have ha:∀x∈AH,97<=x/\x<=122:=by decide
 have l:(u++s++v).length=u.length+s.length+v.length:=by rw[zi,zi]
 unfold nm lie;rw[decide_eq_true (by lia),decide_eq_true (by lia),Z9,Z9,Zk];intro x m;have:97<=x/\x<=122:=by
  rcases z7.mp m with m|m
  ·rcases z7.mp m with m|m
   ·exact ha x (hu x m)
   ·exact hs2.2.2 x m
  ·exact ha x (hv x m)
 rw[decide_eq_true this.1,decide_eq_true this.2];rfl
theorem NmOk.of{u v:List Nat}(lu:u.length+v.length<=10)(hu:∀x∈u,x∈AH)(hv:∀x∈v,x∈AH):NmOk (sgs.map fun s=>u++s++v):=by
 refine⟨rfl,?_,fun l m=>?_⟩
 ·refine Z0.mpr ((show sgs.Nodup by decide).imp fun {x y} h e=>h ?_)
  exact List.append_cancel_left (List.append_cancel_right e)
 ·obtain⟨s,ms,rfl⟩:=yS.mp m
  exact HY ms lu hu hv
theorem xz:∀ls:List (List Nat),A2 (fun(v:V) (c:List Nat)=>v=L2.T c) (ls.map L2.T) ls
 | []=>.nil
 |_::r=>.cons rfl (xz r)
theorem DX{ws:List V}{ls:List (List Nat)}(h:A2 (fun(v:V) (c:List Nat)=>v=L2.T c) ws ls):ws=ls.map L2.T:=by
 induction h with
 |nil=>rfl
 |cons e _ ih=>rw[xa,e,ih]
def sp_A4:Sp:=sp1 fun x H Q _=>NoT H/\asI x fun c=>∀p H' (ls:List (List Nat)),Same H H'->NoT H'->H p=none->H' p=some (.lst (ls.map L2.T))->NmOk ls->Q (.ref p) H'
theorem qJ(T:Txt K mg a):Fo P w K mg base "_law_names" 1 sp_A4:=by
 refine T.sD.x1 ["_law_cell","_law_word_here","_law_more","_law_k","_law_at"] fun x0 fA cdv A outer s H Q E ND HU hr h=>?_;obtain⟨hN,h1⟩:=h;obtain⟨c,rfl,k⟩:=asI.inv h1;have sz:=szl;refine⟨_,(ae (aO 1 ND (ak []))
  (ae (aO 2 ND (aj aX (fv 0) aa))
  (ae (cX (by passes_own) rfl (eO rfl T.gG (fa1 (aj aW (fv 0) aa))) (aK (i:=3) ND rfl (Or.inl rfl)) (ae (aO 1 ND (aj aE (fv 1) (aB K (ak [97,98,99,100,101,102,103,104]) (aj aW (fv 2) aa))))
  (af (aO 2 ND (aj aX (fv 2) aa)))))
  (ae (aO 4 ND (aj aW (aj aX (fv 0) aa) (aj aE (aD (bQ K) rfl T.cZ ci (fa1 (fv 1))) aa)))
  (af (aC (bN rfl (cl:=_) (x:="_law_sign") (xs:=["_law_sign"]) (fr:=["_law_word_here","_law_at"]) (ks:=[1,4]) (by walk_at "cq") rfl (bM K (bz (fa5 (ak [107]) (ak [109]) (ak [112]) (ak [107,109]) (ak [122])))) (fun _ _ _ _ _=>(aK (i:=0) (bX (l:=["_law_sign","_law_word_here","_law_at"]) (by decide)) rfl (Or.inl rfl))) (fun _ _ _ _ _=>dH) (fun _ _ _ _ _=>(aj aE (aj aE (dZ sT (fv 1) gr (eK (fv 2))) (fv 0)) (dZ sT (fv 1) (eK (fv 2)) gr)))))))))),?_⟩
 walk_at "rq";refine fX ?_;walk_at "rq";refine⟨by lia,by lia,eN (lo:=0) (n:=(c % 6).toNat) (fun i σ' H'=>H=H'/\∃wd x2 x3,wd.length=i/\(∀x∈wd,x∈AH)/\σ'=[some (.int c),some (L2.T wd),some (.int x2),x3,none]) ⟨rfl,[],_,_,rfl,(fun _ m=>nomatch m),rfl⟩ ?_ ?_⟩
 ·rintro i σ' H' hi ⟨rfl,wd,x2,x3,lw,hw,rfl⟩
  obtain⟨z,mz,ez⟩:=xX (l:=AH) rfl x2;walk_at "rq";refine⟨by show 8<=sizeLine;lia,?_⟩;show match atI AH (x2 % 8) with|some c=>_|none=>False
  rw[ez];refine⟨by lia,wd++[z],_,_,by rw[zi,lw];rfl,fun x m=>?_,rfl,rfl,rfl⟩;rcases z7.mp m with m|m
  ·exact hw x m
  ·rw[zq.mp m];exact mz
 ·rintro σ' H' ⟨rfl,wd,x2,x3,lw,hw,rfl⟩
  walk_at "rq";refine⟨by lia,by lia,gU ?_⟩;walk_at "rq";refine⟨by walk_at "om",fun p hp=>⟨⟨_,SqL.of ad⟩,?_⟩⟩;generalize c / 8 % ((wd.length:Int)+1)=t;have l1:=yb wd none (some t);have l2:=yb wd (some t) none;have s1:=ah (HO.lst (sgs.map L2.T)) hp;refine ceA (S:=fun _ v c=>v=L2.T c) (fun _ _ _ _ _ h=>h) p (sgs.map L2.T) sgs (fun v c=>v=L2.T c) (fun _=>true) (fun s=>ie wd none (some t)++s++ie wd (some t) none) ad (aq hN rfl) (xz sgs) (by show 5<sizeLine;lia) (fun v s ms hs G zs M1 M0 sG nG hz n1 n0=>?_) fun D ws G hD sG nG gD aG=>?_
  ·subst hs
   obtain⟨z1,rfl⟩:=ex1 hz;have ls:s.length<=2:=(show ∀s∈sgs,s.length<=2 by decide) s ms;walk_at "rq";exact⟨⟨[_],rfl,rfl⟩,by lia,by lia,by lia,by rw[zi];lia,n1 rfl _ _ (Same.refl _) nG rfl⟩
  ·rw[Zm.mpr (fun _ _=>rfl)]at aG
   rw[DX aG]at gD;exact k D G _ (s1.trans sG) nG (s1.free hD) gD (NmOk.of (by lia) (fun x m=>hw x (oy m)) fun x m=>hw x (oy m))
def HP(c:Int)(ls:List (List Nat)):Prop:=∃z1 z2,atI ([65,66,67,68,69,70,71,72]:List Nat) (c / 3 % 8)=some z1/\atI ([83,84,85,86,87,88,89,90]:List Nat) (c / 24 % 8)=some z2/\ls=[75,76,77].map fun x=>ie [z1,z2] none (some (c % 3))++[x]++ie [z1,z2] (some (c % 3)) none
def sp_D6:Sp:=sp1 fun x H Q _=>NoT H/\asI x fun c=>∀p H' (ls:List (List Nat)),Same H H'->NoT H'->H p=none->H' p=some (.lst (ls.map L2.T))->ls.length=3->(∀l∈ls,cur l=true)->HP c ls->Q (.ref p) H'
theorem fj(T:Txt K mg a):Fo P w K mg base "_law_currencies" 1 sp_D6:=by
 refine T.lh.x1 ["_law_cell","_law_two"] fun x0 fA cdv A outer s H Q E ND HU hr h=>?_;obtain⟨hN,h1⟩:=h;obtain⟨c,rfl,k⟩:=asI.inv h1;have sz:=szl;refine⟨_,(ae (aO 1 ND (aj aE (aB K (ak [65,66,67,68,69,70,71,72]) (aj aW (aj aX (fv 0) aa) aa)) (aB K (ak [83,84,85,86,87,88,89,90]) (aj aW (aj aX (fv 0) aa) aa))))
  (af (aC (bN rfl (cl:=_) (x:="_law_sign") (xs:=["_law_sign"]) (fr:=["_law_two","_law_cell"]) (ks:=[1,0]) (by walk_at "cq") rfl (At (ak [75,76,77])) (fun _ _ _ _ _=>(aK (i:=0) (bX (l:=["_law_sign","_law_two","_law_cell"]) (by decide)) rfl (Or.inl rfl))) (fun _ _ _ _ _=>dH) (fun _ _ _ _ _=>(aj aE (aj aE (dZ sT (fv 1) gr (eK (aj aW (fv 2) aa))) (fv 0)) (dZ sT (fv 1) (eK (aj aW (fv 2) aa)) gr))))))),?_⟩
 walk_at "rq";obtain⟨z1,m1,e1⟩:=xX (l:=[65,66,67,68,69,70,71,72]) rfl (c / 3);obtain⟨z2,m2,e2⟩:=xX (l:=[83,84,85,86,87,88,89,90]) rfl (c / 24);rw[e1];refine⟨by walk_at "om",?_⟩;dsimp only;rw[e2];refine⟨by walk_at "om",by walk_at "om",?_⟩;have up:∀x∈[z1,z2],65<=x/\x<=90:=by
  have a1:∀x∈([65,66,67,68,69,70,71,72]:List Nat),65<=x/\x<=90:=by decide
  have a2:∀x∈([83,84,85,86,87,88,89,90]:List Nat),65<=x/\x<=90:=by decide
  intro x m;simp only[zZ,zY,or_false]at m;rcases m with rfl|rfl
  ·exact a1 _ m1
  ·exact a2 _ m2
 have l2:(ie [z1,z2] none (some (c % 3))).length+(ie [z1,z2] (some (c % 3)) none).length=2:=by
  rcases(by lia:c % 3=0\/c % 3=1\/c % 3=2) with e|e|e <;> rw[e] <;> rfl
 refine cmS (fun _=>True) (fun _ _ _=>trivial) [75,76,77] (fun _=>true) (fun x=>L2.T (ie [z1,z2] none (some (c % 3))++[x]++ie [z1,z2] (some (c % 3)) none)) (fun R r=>r) (by decide) (by show 3<=sizeLine;lia) (fun c _ H R _ r=>r) (fun x _ _ H R _ r=>?_) (fun D hD=>?_)
 ·walk_at "rq"
  exact⟨by walk_at "om",by lia,by walk_at "om",by rw[zi,Zw];lia,r⟩
 ·refine k D _ ([75,76,77].map fun x=>ie [z1,z2] none (some (c % 3))++[x]++ie [z1,z2] (some (c % 3)) none) (ah _ hD) (aq hN rfl) hD ad rfl (fun l m=>?_) ⟨z1,z2,e1,e2,rfl⟩
  obtain⟨x,mx,rfl⟩:=yS.mp m;have hx:65<=x/\x<=90:=(show ∀x∈([75,76,77]:List Nat),65<=x/\x<=90 by decide) x mx;unfold cur lie;rw[decide_eq_true (by rw[zi,zi,Zw];lia),Z9,Zk];intro y my;have:65<=y/\y<=90:=by
   rcases z7.mp my with my|my
   ·rcases z7.mp my with my|my
    ·exact up y (oy my)
    ·rw[zq.mp my];exact hx
   ·exact up y (oy my)
  rw[decide_eq_true this.1,decide_eq_true this.2];rfl
theorem f_(x y:V):wO (zf "every") [(zf "bookings",x),(zf "undoings",y)]=none:=by rw[aU (by decide +kernel),aU (by decide +kernel)];rfl
def sp_xa:Sp:=sp1 fun x H Q _=>NoT H/\asR x fun p=>∃vs bs,H p=some (.lst vs)/\A2 (BkAt H) vs bs/\bs.length<=40/\(∀b∈bs,b.rs.length<=60)/\∀r ws H',H r=none->H' r=some (.lst ws)->A2 (RwAt H') ws (bs.flatMap (·.rs))->Same H H'->NoT H'->Q (.ref r) H'
theorem uY:∀ {bs:List Bk},(∀b∈bs,b.rs.length<=60)->(bs.flatMap (·.rs)).length<=60*bs.length
 | [],_=>zL _
 |b::r,h=>by
  have ih:=uY (bs:=r) fun x m=>h x (.tail _ m);have hb:=h b (.head _);rw[Yr,zi,vN];lia
theorem w_(T:Txt K mg a):Fo P w K mg base "rows_of" 1 sp_xa:=by
 refine T.zv.x1 ["bookings","rows","booking"] fun x0 fA cdv A outer s H Q E ND HU hr h=>?_;obtain⟨hN,h1⟩:=h;obtain⟨p,rfl,vs,bs,hp,ha,len,ok,k⟩:=asR.inv h1;have sz:=szl;refine⟨_,(ae (aO 1 ND (bz (FA.pa ce)))
  (ae (cX (by passes_own) rfl (bM K (fv 0)) (aK (i:=2) ND rfl (Or.inl rfl)) (af (bB (cK K pN PySem.F.slot_list_extend PySem.F.type_list_extend Dy (fv 1) (fa1 (aB K (fv 2) aa))))))
  (af (aC (fv 1))))),?_⟩
 walk_at "rq";refine⟨wQ _,fun r hr=>iC ?_⟩;walk_at "rq";refine il (SqL.of ((ah _ hr) _ _ hp)) (ij (fun i σ' H'=>Same H H'/\NoT H'/\∃ws x2,H' r=some (.lst ws)/\A2 (RwAt H') ws ((bs.take i).flatMap (·.rs))/\σ'=[some (.ref p),some (.ref r),x2]) ⟨ah _ hr,aq hN rfl,[],none,ad,.nil,rfl⟩ (fun i σ' H' _ h=>SqL.of (h.1 _ _ hp)) ?_ ?_)
 ·rintro i x σ' H' hx ⟨sm,nT,ws,x2,hr',aw,rfl⟩
  obtain⟨b,hb,q,u,us,nt,un,rfl,e1,e2,ar⟩:=ha.at_ hx;have e1':=sm _ _ e1;have e2':=sm _ _ e2;have lw:=aw.len;have lf:=uY (bs:=bs.take i) fun x m=>ok x (Yo m);rw[uV]at lf;have lb:=ok b (ww hb);have lu:=ar.len;walk_at "rq";refine⟨.inl ⟨_,SqL.of hr'⟩,_,_,.inr (SqT.of e1'),av (j:=3) rfl,r,u,ws,us,rfl,rfl,hr',e2',by rw[um];lia,e7 sm hr,aq nT rfl,_,_,ad,?_,rfl⟩;have kp:Keep [r] H' (upd H' r (.lst (ws++us))):=Keep.refl.put (.head _);rw[dD hb,List.flatMap_append,Yr,List.flatMap_nil,Zs];exact(dQ kp (LW.one hr') aw).app (dQ kp (LW.one hr') (bt sm ar))
 ·rintro σ' H' ⟨sm,nT,ws,x2,hr',aw,rfl⟩
  rw[ha.len,Zo]at aw;walk_at "rq";exact k r ws H' hr hr' aw sm nT
def sp_Cd(J:Addr):Sp:=sp2 fun x y H Q _=>NoT H/\asR x fun j=>asI y fun t=>∃b u vs kvs bs,JAt J H j b u vs kvs/\A2 (BkAt H) vs bs/\bs.length<=40/\∀r ws H',H r=none->H' r=some (.lst ws)->A2 (BkAt H') ws (bs.filter fun b=>decide (b.d<=t))->Same H H'->NoT H'->Q (.ref r) H'
theorem fB(T:Txt K mg a):Fo P w K mg base "bookings_up_to" 2 (sp_Cd a.aQ):=by
 refine T.mi.x2 ["journal","day"] fun x0 x1 fA cdv A outer s H Q E ND HU hr h=>?_;obtain⟨hN,h1⟩:=h;obtain⟨j,rfl,h2⟩:=asR.inv h1;obtain⟨t,rfl,b,u,vs,kvs,bs,JJ,hv,len,k⟩:=asI.inv h2;have sz:=szl;refine⟨_,(af (aC (bN rfl (cl:=_) (x:="booking") (xs:=["booking"]) (fr:=["day"]) (ks:=[1]) (by walk_at "cq") rfl (bM K (gA (fv 0) T.a7 (cw T) (hr.mono (by decide)) aA)) (fun _ _ _ _ _=>(aK (i:=0) (bX (l:=["booking","day"]) (by decide)) rfl (Or.inl rfl))) (fun _ _ _ _ _=>(cN (aN d4 (aB K (fv 0) aa) (fv 1)))) (fun _ _ _ _ _=>(fv 0))))),?_⟩;obtain⟨dj,hj⟩:=JJ.ob;walk_at "rq";refine gU ?_;walk_at "rq";refine⟨_,_,hj,f_ _ _,hN,b,u,vs,kvs,JJ,fun l hl=>?_⟩;have sl:=ah (HO.lst vs) hl;have lv:=hv.len;refine⟨⟨_,SqL.of ad⟩,ye l vs (fun D i ys G=>Same (upd H l (.lst vs)) G/\NoT G/\G D=some (.lst ys)/\upd H l (.lst vs) D=none/\A2 (BkAt G) ys ((bs.take i).filter fun b=>decide (b.d<=t))) (by rw[um];lia) (fun D hD=>⟨ah _ hD,aq (aq hN rfl) rfl,ad,hD,.nil⟩) (fun D i ys G h=>⟨h.2.2.1,SqL.of (h.1 _ _ ad),?_⟩) ?_ ?_⟩
 ·rw[h.2.2.2.2.len]
  exact wn (Zp _ _) (by rw[uV];lia)
 ·rintro D i y ys G zs N1 N0 hy ⟨sG,nG,hD,fD,aG⟩ hz n1 n0
  obtain⟨bb,hb1,hb2⟩:=hv.at_ hy;have hb3:=hb2.keep (W:=[]) (Keep.same (sl.trans sG)) LW.nil;obtain⟨qb,tb,vb,nt,un,rfl,e1,e2,rw_⟩:=id hb3;obtain⟨z1,rfl⟩:=ex1 hz;walk_at "rq";refine⟨⟨[some (.ref qb)],rfl,rfl⟩,_,_,.inr (SqT.of e1),av (j:=1) rfl,?_⟩;walk_at "rq";rw[dD hb1,Ze]at n1 n0;by_cases h:bb.d<=t
  ·rw[Zi (by simpa using h)]at n1
   have kp:Keep [D] G (upd G D (.lst (ys++[.ref qb]))):=Keep.refl.put (.head _);exact itp h (n1 _ _ hD ⟨e7 sG fD,aq nG rfl,ad,fD,(wb kp (LW.one hD) aG).snoc (hb3.keep kp (LW.one hD))⟩)
  ·rw[Zc (by simpa using h),Z3,Zs]at n0
   exact itn h (n0 _ ⟨sG,nG,hD,fD,aG⟩)
 ·rintro D ys G ⟨sG,nG,hD,fD,aG⟩
  rw[lv,Zo]at aG;exact k D ys G (sl.free fD) hD aG (sl.trans sG) nG
def sp_Hv(J:Addr):Sp:=sp3 fun _ y z H Q _=>NoT H/\asR y fun j=>asI z fun t=>∃b u vs kvs bs,JAt J H j b u vs kvs/\A2 (BkAt H) vs bs/\bs.length<=40/\(∀b∈bs,b.rs.length<=60)/\(dk (rsd t bs)).length<64/\Hw H Q (rsd t bs)
theorem m5(T:Txt K mg a):Fo P w K mg base "balances" 3 (sp_Hv a.aQ):=by
 refine T.wS.x3 ["chart","journal","day"] fun x0 x1 x2 fA cdv A outer s H Q E ND HU hr h=>?_;obtain⟨hN,h1⟩:=h;obtain⟨j,rfl,h2⟩:=asR.inv h1;obtain⟨t,rfl,b,u,vs,kvs,bs,JJ,hv,len,ok,l64,k⟩:=asI.inv h2;refine⟨_,(af (aC (aH (qe T) hr aA (fa1 (aH (w_ T) hr aA (fa1 (aH (fB T) hr aA (fa2 (fv 1) (fv 2))))))))),?_⟩;walk_at "rq";refine⟨hN,b,u,vs,kvs,bs,JJ,hv,len,fun r ws H1 fr hr aw s1 N1=>?_⟩;walk_at "rq";refine⟨N1,ws,_,hr,aw,wn (Zp _ _) len,fun x m=>ok x (ZV.mp m).1,fun r2 ws2 H2 fr2 hr2 aw2 s2 N2=>?_⟩;walk_at "rq";rw[oM]at aw2;have lr:=pQ (t:=t) ok;exact⟨N2,ws2,_,hr2,aw2,by lia,l64,fun out r3 ws3 H3 po oo f3 h3 a3 s3 N3=>k out r3 ws3 H3 po oo ((s1.trans s2).free f3) h3 a3 ((s1.trans s2).trans s3) N3⟩
def sp_Eg:Sp:=sp2 fun x y H Q _=>NoT H/\asR x fun m=>asI y fun t=>∃ws bs,H m=some (.lst ws)/\A2 (BkAt H) ws bs/\bs.length<=40/\(∀b∈bs,b.rs.length<=60)/\(dk (rsd t bs)).length<64/\Hw H Q (rsd t bs)
theorem gi(T:Txt K mg a):Fo P w K mg base "_law_balances" 3 sp_Eg:=by
 refine T.og.g2 ["_law_bookings","_law_day_here","_law_found","_law_booking","_law_path_here","_law_currency","_law_amount"] fun x0 x1 fA cdv A outer s H Q E ND HU hr h=>?_;obtain⟨hN,h1⟩:=h;obtain⟨m0,rfl,h2⟩:=asR.inv h1;obtain⟨t,rfl,ws,bs,hm0,hv,len,ok,l64,k⟩:=asI.inv h2;have sz:=szl;refine⟨hN,_,(ae (aO 2 ND ue)
  (ae (cX (by passes_own) rfl (bM K (fv 0)) (aK (i:=3) ND rfl (Or.inl rfl)) (af (a6 (aN d4 (aB K (fv 3) aa) (fv 1)) (af (cX (by passes_own) rfl (iV K (aB K (fv 3) aa)) (fJ K (n:=3) rfl (bf (aK (i:=4) ND rfl (Or.inl rfl)) (bf (aK (i:=5) ND rfl (Or.inl rfl)) (bf (aK (i:=6) ND rfl (Or.inl rfl)) dS)))) (af (dL (Zz HU) (fv 2) (bd (fa2 (fv 4) (fv 5))) (aj aE (qf (Zz HU) (fv 2) (bd (fa2 (fv 4) (fv 5))) aa ⟨rfl,rfl,rfl,rfl⟩) (fv 6)) rfl)))) aJ)))
  (af (aC (bN rfl (cl:=_) (x:="_law_pair") (xs:=["_law_pair"]) (fr:=["_law_found"]) (ks:=[2]) (by walk_at "cq") rfl (bM K (aD (ro rfl) rfl T.pD mQ (fa1 (fv 2)))) (fun _ _ _ _ _=>(aK (i:=0) (bX (l:=["_law_pair","_law_found"]) (by decide)) rfl (Or.inl rfl))) (fun _ _ _ _ _=>(cN (aN (cE K HU) (aL (Zz HU) (fv 1) (fv 0) (fun _ _=>rfl)) aa))) (fun _ _ _ _ _=>(bd (fa3 (aB K (fv 0) aa) (aB K (fv 0) aa) (aL (Zz HU) (fv 1) (fv 0) (fun _ _=>rfl)))))))))),?_⟩
 walk_at "rq";intro d hd;refine iC ?_;walk_at "rq";refine il (SqL.of ((ah _ hd) _ _ hm0)) (ij (fun i σ' H'=>Same H H'/\∃x3 x4 x5 x6,H' d=some (.dT ((dk (rsd t (bs.take i))).map jk))/\σ'=[some (.ref m0),some (.int t),some (.ref d),x3,x4,x5,x6]) ⟨ah _ hd,none,none,none,none,ad,rfl⟩ (fun i σ' H' _ h=>SqL.of (h.1 _ _ hm0)) ?_ ?_)
 ·rintro i x σ' H' hx ⟨sm,x3,x4,x5,x6,hd',rfl⟩
  obtain⟨b,hb,q,u,us,nt,un,rfl,e1,e2,ar⟩:=hv.at_ hx;have e1':=sm _ _ e1;have lb:=ok b (ww hb);have l1:(rsd t (bs.take i)).length<=2400:=by
   have:=pQ (t:=t) (bs:=bs.take i) fun x m=>ok x (Yo m);rw[uV]at this;lia
  rw[dD hb,BR];walk_at "rq";refine⟨_,_,.inr (SqT.of e1'),av (j:=1) rfl,?_⟩;walk_at "rq";by_cases h:¬ b.d<=t
  ·refine itn h ⟨sm,_,_,_,_,?_,rfl,rfl,rfl,rfl⟩
   rw[if_neg h,Zs];exact hd'
  have h:=Decidable.not_not.mp h;refine itp h (pP ?_);walk_at "rq";refine⟨_,_,.inr (SqT.of e1'),av (j:=3) rfl,?_⟩;refine qh (SqT.of (sm _ _ e2)) (tU (fun j σ' G=>Same H G/\∃x4 x5 x6,G d=some (.dT ((dk (rsd t (bs.take i)++b.rs.take j)).map jk))/\σ'=[some (.ref m0),some (.int t),some (.ref d),some (.ref q),x4,x5,x6]) ⟨sm,_,_,_,by rw[List.take_zero,Zs];exact hd',rfl⟩ (fun j σ' G _ h=>SqT.of (h.1 _ _ e2)) ?_ ?_)
  ·rintro j x σ' G hx ⟨sG,x4,x5,x6,dG,rfl⟩
   obtain⟨r,hr,q2,rfl,hq⟩:=ar.at_ hx;have hq':=sG _ _ hq;walk_at "rq";refine⟨_,_,rfl,SqT.of hq',rfl,_,_,rfl,_,_,rfl,_,_,rfl,rfl,?_⟩;walk_at "rq";have l2:=(iB (rsd t (bs.take i)++b.rs.take j)).2.2;have l3:(rsd t (bs.take i)++b.rs.take j).length<=3000:=by rw[zi,uV];lia
   refine⟨.inr ⟨_,.inl dG⟩,by walk_at "om",fun p1 hp1=>⟨_,DGet.t (k:=kP (r.pa,r.cu)) ((ah _ hp1) _ _ dG) ad,?_⟩⟩;rw[iN,sA];walk_at "rq";have s1:=ah (HO.tup [L2.T r.pa,L2.T r.cu]) hp1;refine⟨by walk_at "om",fun p2 hp2=>?_⟩;have s2:=s1.trans (ah (HO.tup [L2.T r.pa,L2.T r.cu]) hp2);refine⟨d,_,rfl,DPut.t (k:=kP (r.pa,r.cu)) (s2 _ _ dG) ad (by rw[zg,um];lia),?_⟩;rw[uX];refine⟨e7 (sG.trans s2) hd,_,_,_,?_,rfl,rfl,rfl⟩;rw[ad,dD hr,<- Yq,oE];rfl
  ·rintro σ' G ⟨sG,x4,x5,x6,dG,rfl⟩
   rw[ar.len,Zo]at dG;exact⟨sG,_,_,_,_,by rw[if_pos h];exact dG,rfl⟩
 ·rintro σ' H' ⟨sm,x3,x4,x5,x6,hd',rfl⟩
  rw[hv.len,Zo]at hd';walk_at "rq";refine gU ?_;walk_at "rq";refine⟨_,(dk (rsd t bs)).map (·.1),hd',ur _,by rw[zg];exact l64,fun out as po oo ao l hl=>?_⟩;have sl:=ah (HO.lst (as.map V.ref)) hl;have lo:=po.length_eq;rw[zg]at lo;have la:=ao.len;refine⟨⟨_,SqL.of ad⟩,ye l (as.map V.ref) (fun D i ys G=>Same (upd H' l (.lst (as.map V.ref))) G/\G D=some (.lst ys)/\upd H' l (.lst (as.map V.ref)) D=none/\A2 (RwAt G) ys (res (rsd t bs) (out.take i))) (by rw[zg,um];lia) (fun D hD=>⟨ah _ hD,ad,hD,.nil⟩) (fun D i ys G h=>⟨h.2.1,SqL.of (h.1 _ _ ad),?_⟩) ?_ ?_⟩
  ·rw[h.2.2.2.len]
   exact wn (i7 _ _) (by rw[uV];lia)
  ·rintro D i y ys G zs N1 N0 hy ⟨sG,hD,fD,aG⟩ hz n1 n0
   rw[List.getElem?_map]at hy;obtain⟨b,hb,rfl⟩:=Zt.mp hy;obtain⟨e,he,kb⟩:=ao.at_ hb;have kG:=sG _ _ (sl _ _ kb);have dG:=sG _ _ (sl _ _ hd');have ve:=xn (po.mem_iff.mp (ww he));obtain⟨z1,rfl⟩:=ex1 hz;have gd:∀(F:Hp) (q:Addr),KAt F q e->F d=some (.dT ((dk (rsd t bs)).map jk))->DGet F d (.ref q) (some (.int (val (rsd t bs) e))):=fun F q h1 h2=>by
    have g:=DGet.t (k:=kP e) h2 h1
    rwa [iN,ve]at g
   rw[dD he,uL]at n1 n0;walk_at "rq";refine⟨⟨[some (.ref b)],rfl,rfl⟩,d,_,rfl,gd _ b kG dG,?_⟩;walk_at "rq";by_cases hv:val (rsd t bs) e=0
   ·rw[if_neg fun z=>z hv,Zs]at n0
    exact itp hv (n0 _ ⟨sG,hD,fD,aG⟩)
   ·rw[if_pos hv]at n1
    refine itn hv ⟨_,_,.inr (SqT.of kG),av (j:=0) rfl,_,_,.inr (SqT.of kG),av (j:=1) rfl,d,_,rfl,gd _ b kG dG,by walk_at "om",fun p3 hp3=>?_⟩;obtain⟨m1,m2,m3⟩:=u_ ⟨e.1,e.2,val (rsd t bs) e⟩ sG fD hD hp3 aG;exact n1 _ _ m1 ⟨m2,ad,fD,m3⟩
  ·rintro D ys G ⟨sG,hD,fD,aG⟩
   rw[zg,la,Zo]at aG;have sg:=(sm.trans sl).trans sG;exact⟨_,Gc.flt sg,k out D ys _ po oo ((sm.trans sl).free fD) (wg sg hD rfl) (v5 sg aG) (Gc.flt sg).a (yd hN)⟩
structure SlAt(C:Addr)(H:Hp)(p b:Addr)(bs:List V):Prop where
 ob:∃dx,H p=some (.ins C dx [("told_seals",.ref b)])
 ls:H b=some (.lst bs)
theorem lks(x:V):wO (zf "told_seals") [(zf "told_seals",x)]=some x:=iP
def sp_zq(C:Addr):Sp:=sp1 fun x H Q _=>NoT H/\asR x fun p=>∃dx,H p=some (.ins C dx [])/\∀b H',H b=none->SlAt C H' p b []->Keep [p] H H'->NoT H'->Q .non H'
theorem lP(T:Txt K mg a):Mo P w K mg base a.cM "__init__" 1 (sp_zq a.cM):=by
 refine T.mO.x1 ["self"] fun x0 fA cdv A outer s H Q E ND HU hr h=>?_;obtain⟨hN,h1⟩:=h;obtain⟨p,rfl,dx,hp,k⟩:=asR.inv h1;refine⟨_,(af (di K (fv 0) (bz (FA.pa ce)))),?_⟩;walk_at "rd";refine⟨wQ _,fun b hb=>?_⟩;have np:p≠b:=az hp hb;refine⟨_,_,_,(ag np).trans hp,T.e_,T.dA,by show 0<1000;decide,?_⟩;refine k b _ hb ⟨⟨dx,?_⟩,?_⟩ ((Keep.refl.new hb).put (zq.2 rfl)) (aq (aq hN rfl) rfl)
 ·rw[ad];simp[dw]
 ·rw[ag (Ne.symm np),ad]
def sp_Cp(C:Addr):Sp:=sp2 fun x v H Q _=>NoT H/\asR x fun p=>∃b bs,SlAt C H p b bs/\bs.length<=100/\∀H',SlAt C H' p b (bs++[v])->Keep [b] H H'->NoT H'->Q .non H'
theorem r_(T:Txt K mg a):Mo P w K mg base a.cM "put" 1 (sp_Cp a.cM):=by
 refine T.v9.x2 ["self","told"] fun x0 x1 fA cdv A outer s H Q E ND HU hr h=>?_;obtain⟨hN,h1⟩:=h;obtain⟨p,rfl,b,bs,J,l1,k⟩:=asR.inv h1;obtain⟨dx,hp⟩:=J.ob;have nb:p≠b:=bD hp J.ls;refine⟨_,(af (bB (cK K pN Zx Zy cn (ba K (fv 0)) (fa1 (fv 1))))),?_⟩;walk_at "rd";refine⟨_,_,_,_,hp,T.e_,T.dA,lks _,.inl ⟨rfl,bs,SqL.of J.ls⟩,b,bs,_,rfl,rfl,J.ls,by rw[um];lia,?_⟩;exact k _ ⟨⟨dx,(ag nb).trans hp⟩,ad⟩ (Keep.refl.put (.head _)) (aq hN rfl)
def sp_wQ(C:Addr):Sp:=sp1 fun x H Q _=>NoT H/\asR x fun p=>∃b bs,SlAt C H p b bs/\∀q,H q=none->Q (.ref q) (upd H q (.lst bs))
theorem eT(T:Txt K mg a):Mo P w K mg base a.cM "every" 1 (sp_wQ a.cM):=by
 refine T.qF.g1 ["self"] fun x0 fA cdv A outer s H Q E ND HU hr h=>?_;obtain⟨hN,h1⟩:=h;obtain⟨p,rfl,b,bs,J,k⟩:=asR.inv h1;obtain⟨dx,hp⟩:=J.ob;refine⟨hN,_,(af (aC (bh (kX K) rfl T.mH i5 (fa1 (ba K (fv 0)))))),?_⟩;walk_at "rd";exact⟨_,_,_,_,hp,T.e_,T.dA,lks _,bs,.inl (SqL.of J.ls),fun l hl=>⟨_,Gc.one (ah _ hl) hl ad rfl,k l hl⟩⟩
def SeAt(H:Hp)(t:Addr)(m n:Int)(rs:List Row):Prop:=∃tr ws,H t=some (.tup [.int m,.int n,.ref tr])/\H tr=some (.tup ws)/\A2 (RwAt H) ws rs
def mny(t:Int)(bs:List Bk):Int:=((bs.filter fun b=>decide (b.d<=t)).length:Nat)
structure JB(J:Addr)(H:Hp)(j b u:Addr)(vs:List V)(kvs:List (Key × V))(bs:List Bk):Prop where
 jo:JAt J H j b u vs kvs
 bk:A2 (BkAt H) vs bs
 l1:bs.length<=40
 l2:∀b∈bs,b.rs.length<=60
 l3:∀t,(dk (rsd t bs)).length<64
theorem JB.same{J:Addr}{H H':Hp}{j b u:Addr}{vs:List V}{kvs:List (Key × V)}{bs:List Bk}(h:JB J H j b u vs kvs bs)(s:Same H H'):JB J H' j b u vs kvs bs:=
 { h with jo:=h.jo.keep (S:=[]) (Keep.same s) zY zY zY,bk:=kH s h.bk }
def IE(H:Hp)(Q:VK)(m:Int)(bs:List Bk):Prop:=∀out t H',out.Perm ((dk (rsd (FD (m+1)-1) bs)).map (·.1))->jq out->H t=none->SeAt H' t m (mny (FD (m+1)-1) bs) (res (rsd (FD (m+1)-1) bs) out)->Same H H'->NoT H'->Q (.ref t) H'
def sp_Dx(J:Addr):Sp:=sp3 fun _ y z H Q _=>NoT H/\asR y fun j=>asI z fun m=>(0<=m/\m<=4799)/\∃b u vs kvs bs,JB J H j b u vs kvs bs/\IE H Q m bs
theorem Es(T:Txt K mg a):Fo P w K mg base "seal" 4 (sp_Dx a.aQ):=by
 refine T.Gu.x3 ["chart","journal","month","day"] fun x0 x1 x2 fA cdv A outer s H Q E ND HU hr h=>?_;obtain⟨hN,h1⟩:=h;obtain⟨j,rfl,h2⟩:=asR.inv h1;obtain⟨m,rfl,hm,b,u,vs,kvs,bs,JJ,k⟩:=asI.inv h2;have sz:=szl;refine⟨_,(ae (a6 (bR (bL (aH (nJ T) hr aA (fa1 (fv 2))))) (af (cC T.pB T.jG bA)) aJ)
  (ae (aO 3 ND (aH (fI T) hr aA (fa1 (fv 2))))
  (af (aC (bd (fa3 (fv 2) (aD (bQ K) rfl T.cZ ci (fa1 (aH (fB T) hr aA (fa2 (fv 1) (fv 3))))) (bh (fR K) rfl T.gt fe (fa1 (aH (m5 T) hr aA (fa3 (fv 0) (fv 1) (fv 3))))))))))),?_⟩
 walk_at "rd";rw[i4,decide_eq_true hm.1,decide_eq_true hm.2];refine⟨hN,itn (by decide) ?_⟩;walk_at "rd";refine⟨hN,hN,b,u,vs,kvs,bs,JJ.jo,JJ.bk,JJ.l1,fun r ws H1 hr hr1 aw s1 N1=>?_⟩;have J1:=JJ.same s1;refine⟨ws,.inl (SqL.of hr1),N1,b,u,vs,kvs,bs,J1.jo,J1.bk,JJ.l1,JJ.l2,JJ.l3 _,?_⟩;intro out r2 ws2 H2 po oo hr2 hr3 a2 s2 N2;walk_at "rd";refine⟨ws2,.inl ⟨SqL.of hr3,fun t ht=>⟨by walk_at "om",fun p hp=>?_⟩⟩⟩;have s3:=ah (HO.tup ws2) ht;have s4:=s3.trans (ah (HO.tup [V.int m,V.int (ws.length:Nat),V.ref t]) hp);have em:((ws.length:Nat):Int)=mny (FD (m+1)-1) bs:=by rw[aw.len];rfl
 refine k out p _ po oo ((s1.trans (s2.trans s3)).free hp) ⟨t,ws2,by rw[ad,em],(ah _ hp) _ _ ad,bt s4 a2⟩ ((s1.trans s2).trans s4) (aq (aq N2 rfl) rfl)
theorem Do(l m:List Nat):((⟨⟨l⟩⟩:Str)==⟨⟨m⟩⟩)=(l==m):=by
 rw[Z4,beq_iff_eq,beq_iff_eq];exact⟨fun h=>by injection h with h;injection h,fun h=>by rw[h]⟩
theorem oC{H:Hp}{n:Nat}{i j:Int}:EqH K H n (.int i) (.int j) (i==j):=EqH.flat (x:=.int i) (y:=.int j) rfl rfl
theorem r9{H:Hp}{n:Nat}{l m:List Nat}:EqH K H n (L2.T l) (L2.T m) (l==m):=by
 have:=EqH.flat (K:=K) (H:=H) (n:=n) (x:=L2.T l) (y:=L2.T m) rfl rfl
 rwa [show eqV (L2.T l) (L2.T m)=(l==m) by unfold eqV;exact Do l m]at this
def rwB(r r':Row):Bool:=r.pa==r'.pa&&(r.cu==r'.cu&&r.am==r'.am)
theorem vp(r:Row):rwB r r=true:=by unfold rwB;rw[beq_self_eq_true,beq_self_eq_true,beq_self_eq_true];rfl
def y4(xs ys:List Row):Bool:=(Zb (min xs.length ys.length)).all (fun j=>(xs[j]?).any fun x=>(ys[j]?).any fun y=>rwB x y)&&xs.length==ys.length
theorem mj(xs:List Row):y4 xs xs=true:=by
 unfold y4;rw[beq_self_eq_true,Bool.and_true,Zk];intro j m;have hj:j<xs.length:=by rw[Nat.min_self]at m;exact List.mem_range.mp m
 rw[List.getElem?_eq_getElem hj];exact vp _
theorem yq{H:Hp}{v:V}{r r':Row}(h:RwAt H v r)(h':RwAt H v r'):r=r':=by
 obtain⟨q,rfl,e⟩:=h;obtain⟨q',e',e2⟩:=h';cases e';rw[e]at e2;cases r;cases r';simp at e2;simp[e2]
theorem CY{H:Hp}{xs:List V}{rs rs':List Row}(h:A2 (RwAt H) xs rs):A2 (RwAt H) xs rs'->rs=rs':=by
 induction h generalizing rs' with
 |nil=>intro h';cases h';rfl
 |cons e _ ih=>intro h';cases h' with|cons e' t=>rw[yq e e',ih t]
theorem Hb{H:Hp}{n:Nat}{v v':V}{r r':Row}(h:RwAt H v r)(h':RwAt H v' r'):EqH K H (n+1) v v' (rwB r r'):=by
 obtain⟨q,rfl,e1⟩:=id h;obtain⟨q',rfl,e2⟩:=id h';by_cases hq:q=q'
 ·subst hq;rw[yq h h',vp];exact .same
 ·have:=EqH.tup (K:=K) (H:=H) (n:=n) (e:=fun j=>[r.pa==r'.pa,r.cu==r'.cu,r.am==r'.am].getD j false) hq (SqT.of e1) (SqT.of e2) fun j x y gx gy=>by
   match j,gx with
   |0,gx=>cases gx;cases gy;exact r9
   |1,gx=>cases gx;cases gy;exact r9
   |2,gx=>cases gx;cases gy;exact oC
   |j+3,gx=>simp at gx
  have e:((r.pa==r'.pa&&(r.cu==r'.cu&&(r.am==r'.am&&true)))&&true)=rwB r r':=by rw[Bool.and_true,Bool.and_true];rfl
  exact e ▸ this
theorem yI{H:Hp}{n:Nat}{p q:Addr}{xs ys:List V}{rs rs':List Row}(hp:H p=some (.tup xs))(hq:H q=some (.tup ys))(h:A2 (RwAt H) xs rs)(h':A2 (RwAt H) ys rs'):EqH K H (n+2) (.ref p) (.ref q) (y4 rs rs'):=by
 by_cases e:p=q
 ·subst e
  rw[hp]at hq;cases hq;rw[CY h h',mj];exact .same
 ·have:=EqH.tup (K:=K) (H:=H) (n:=n+1) (e:=fun j=>(rs[j]?).any fun x=>(rs'[j]?).any fun y=>rwB x y) e (SqT.of hp) (SqT.of hq) fun j x y gx gy=>by
   obtain⟨r,g1,r1⟩:=h.at_ gx;obtain⟨r',g2,r2⟩:=h'.at_ gy;rw[g1,g2];exact Hb r1 r2
  rw[h.len,h'.len]at this;exact this
def seB(m n:Int)(rs:List Row)(m' n':Int)(rs':List Row):Bool:=m==m'&&(n==n'&&y4 rs rs')
theorem Au(m n:Int)(rs:List Row):seB m n rs m n rs=true:=by unfold seB;rw[mj,beq_self_eq_true,beq_self_eq_true];rfl
theorem Ip{H:Hp}{p q:Addr}{m n m' n':Int}{rs rs':List Row}(h:SeAt H p m n rs)(h':SeAt H q m' n' rs'):EqR K H p q (seB m n rs m' n' rs'):=by
 obtain⟨tr,ws,e1,e2,e3⟩:=h;obtain⟨tr',ws',g1,g2,g3⟩:=h';have:=EqR.tup (K:=K) (e:=fun j=>[m==m',n==n',y4 rs rs'].getD j false) (SqT.of e1) (SqT.of g1) fun j x y gx gy=>by
  match j,gx with
  |0,gx=>cases gx;cases gy;exact oC
  |1,gx=>cases gx;cases gy;exact oC
  |2,gx=>cases gx;cases gy;exact yI e2 g2 e3 g3
  |j+3,gx=>simp at gx
 have e:((m==m'&&(n==n'&&(y4 rs rs'&&true)))&&true)=seB m n rs m' n' rs':=by rw[Bool.and_true,Bool.and_true];rfl
 exact e ▸ this
structure La where
 pa:List Nat
 cu:Option (List Nat)
 fi:Int
 un:Option Int
 ki:List Nat
 ls:Addr
def cuV:Option (List Nat)->V
 |none=>.non
 |some l=>L2.T l
def kyL(x:La):Key × V:=(.inr ⟨⟨x.pa⟩⟩,.ref x.ls)
abbrev laL(x:La):HO:=.lst [cuV x.cu,.int x.fi,cl x.un,L2.T x.ki]
structure AcAt(H:Hp)(d:Addr)(as:List La):Prop where
 dc:Rd H d (.dK (as.map kyL))
 ls:∀x∈as,H x.ls=some (laL x)
theorem AcAt.val{H:Hp}{d:Addr}{as:List La}(nd:(as.map (·.pa)).Nodup){x:La}(m:x∈as):dN (as.map kyL) (.inr ⟨⟨x.pa⟩⟩)=some (.ref x.ls):=by
 induction as with
 |nil=>cases m
 |cons y r ih=>
  rw[xa]at nd;obtain⟨n1,n2⟩:=ZW.mp nd;by_cases c:y.pa=x.pa
  ·rw[xa,d9 (by unfold kyL;rw[c])]
   rcases zZ.mp m with rfl|m
   ·rfl
   ·exact absurd (c ▸ wR (f:=(·.pa)) m) n1
  ·rw[xa,de (fun z=>c (by simpa [kyL] using z))]
   rcases zZ.mp m with rfl|m
   ·exact absurd rfl c
   ·exact ih n2 m
theorem AcAt.get{H:Hp}{d:Addr}{as:List La}(h:AcAt H d as)(nd:(as.map (·.pa)).Nodup){x:La}(m:x∈as):DGet H d (L2.T x.pa) (some (.ref x.ls)):=
 .inl ⟨_,.inr ⟨⟨x.pa⟩⟩,h.dc,rfl,(AcAt.val (H:=H) (d:=d) nd m).symm⟩
theorem nA{l:List Nat}(h:nm l=true):58∉l:=fun m=>by have:=(jE h).2.2 58 m;lia
structure POk(l:List Nat):Prop where
 pn:kx l=true
 lo:∀c∈l,c<128
 ln:l.length+1<=13*(spN 58 l).length
theorem POk.len{l:List Nat}(h:POk l):l.length<=100:=by
 have:=h.pn;unfold kx at this;simp only[Zj,decide_eq_true_eq]at this;have:=h.ln;lia
theorem POk.top{l:List Nat}(hl:nm l=true):POk l:=by
 have e:=lg 58 _ (nA hl);obtain⟨h1,h2,h3⟩:=jE hl;refine⟨?_,fun x hx=>by have:=h3 x hx;lia,by rw[e];simp;lia⟩;unfold kx;rw[e];simp[hl]
theorem POk.ext{u n:List Nat}(hn:nm n=true)(h:POk u)(l5:(spN 58 u).length<=5):POk (u++58::n):=by
 have e:=fL (v:=u) (nA hn);obtain⟨h1,h2,h3⟩:=jE hn;have hp:=h.pn;unfold kx at hp;simp only[Zj,decide_eq_true_eq]at hp;refine⟨?_,fun x hx=>?_,?_⟩
 ·unfold kx
  rw[e,zi,List.all_append];simp only[Zj,decide_eq_true_eq];exact⟨⟨by lia,by simp;lia⟩,hp.2,by simp[hn]⟩
 ·rcases z7.mp hx with m|m
  ·exact h.lo x m
  ·rcases zZ.mp m with rfl|m
   ·decide
   ·have:=h3 x m;lia
 ·have:=h.ln
  rw[e,zi,zi,Zw,vN];lia
structure Ok1(as:List La)(x:La):Prop where
 nw:∀y∈as,y.pa≠x.pa
 po:POk x.pa
 ki:x.ki∈KDS
 fi:0<=x.fi/\x.fi<=10
 un:∀t,x.un=some t->10<t/\t<=146096
 cu:∀l,x.cu=some l->cur l=true
 st:(nm x.pa=true/\x.fi=0/\x.un=none/\x.cu=none)\/(∃u n,u∈as/\x.pa=u.pa++58::n/\58∉n/\u.un=none/\u.fi<=x.fi/\x.ki=u.ki)
def AsOk(as:List La):Prop:=∀i x,as[i]? = some x->Ok1 (as.take i) x
theorem AsOk.snoc{as:List La}{x:La}(h:AsOk as)(hx:Ok1 as x):AsOk (as++[x]):=fun i y e=>by
 rcases Nat.lt_trichotomy i as.length with l|l|l
 ·rw[List.getElem?_append_left l]at e
  rw[List.take_append_of_le_length (by lia)];exact h i y e
 ·subst l
  rw[List.getElem?_append_right (zL _),Nat.sub_self]at e;cases e;rw[List.take_left']
  ·exact hx
  ·rfl
 ·rw[List.getElem?_append_right (by lia),show i-as.length=(i-as.length-1)+1 by lia]at e
  cases e
theorem AsOk.nd{as:List La}(h:AsOk as):(as.map (·.pa)).Nodup:=by
 rw[List.nodup_iff_pairwise_ne];refine Zg.mpr fun i j hi hj hij e=>?_;rw[zg]at hi hj;rw[List.getElem_map,List.getElem_map]at e;have o:=h j as[j] (by simp);refine o.nw as[i] ?_ e;rw[List.mem_iff_getElem];exact⟨i,by rw[uV];lia,by rw[List.getElem_take]⟩
structure Tp(x:La):Prop where
 nm:nm x.pa=true
 cu:x.cu=none
 fi:x.fi=0
 un:x.un=none
def Tp3(as:List La):Prop:=∃x y z r,as=x::y::z::r/\Tp x/\Tp y/\Tp z/\y.ki=[111,119,110]
structure As8(as:List La):Prop where
 ok:AsOk as
 len:as.length<=8
 top:Tp3 as
def P8(n:Nat->List Nat):List (List Nat):=[n 0,n 1,n 3,n 0++58::n 2,n 0++58::n 3,n 1++58::n 2,n 3++58::n 4,(n 0++58::n 2)++58::n 0]
theorem Cm{l:List Nat}(h:58∉l):spN 58 l=[l]:=lg 58 _ h
theorem IM{n:Nat->List Nat}(hn:∀i,i<5->58∉n i)(ne:∀i j,i<j->j<5->n i≠n j):(P8 n).Nodup:=by
 have key:((P8 n).map (spN 58)).Nodup:=by
  have h0:=hn 0 (by decide);have h1:=hn 1 (by decide);have h2:=hn 2 (by decide);have h3:=hn 3 (by decide);have h4:=hn 4 (by decide);have e:(P8 n).map (spN 58)=[[n 0],[n 1],[n 3],[n 0,n 2],[n 0,n 3],[n 1,n 2],[n 3,n 4],[n 0,n 2,n 0]]:=by
   unfold P8;simp only[xa,Z6,fL h0,fL h2,fL h3,fL h4,Cm h0,Cm h1,Cm h3,ZG,YD]
  rw[e];have a01:=ne 0 1 (by decide) (by decide);have a03:=ne 0 3 (by decide) (by decide);have a13:=ne 1 3 (by decide) (by decide);have a23:=ne 2 3 (by decide) (by decide);have a31:=Ne.symm a13;simp[a01,a03,a13,a23,a31,Ne.symm a01,Ne.symm a03]
 exact(Z0.mp key).imp fun h e=>h (by rw[e])
theorem xZ{as:List La}{x:La}(h:∀y∈as,y.pa≠x.pa):dB (as.map kyL) (.inr ⟨⟨x.pa⟩⟩) (.ref x.ls)=(as++[x]).map kyL:=by
 rw[p8,vX]
 ·rfl
 ·induction as with
  |nil=>rfl
  |cons y r ih=>rw[xa,de (fun z=>h y (.head _) (by simpa [kyL] using z)),ih fun z m=>h z (.tail _ m)]
structure AF(n:Nat->List Nat)(as:List La)(m:Nat):Prop where
 pa:as.map (·.pa)=(P8 n).take m
 ok:AsOk as
 fi:∀x∈as,x.fi<=m
 un:∀j u,j<=3->as[j]? = some u->u.un=none
 tp:∀j u,j<3->as[j]? = some u->Tp u/\(j=1->u.ki=[111,119,110])
 le:m<=8
structure NF(n:Nat->List Nat):Prop where
 n_:∀i,i<5->nm (n i)=true
 nd:(P8 n).Nodup
 po:∀l∈P8 n,POk l
theorem NF.of{ls:List (List Nat)}(h:NmOk ls):NF fun i=>ls.getD i []:=by
 have hl:=h.len;have e:∀i,i<5->ls.getD i []∈ls:=fun i hi=>by
  have:i<ls.length:=by lia
  simp[Y3,List.getElem?_eq_getElem this]
 have a:∀i,i<5->nm (ls.getD i [])=true:=fun i hi=>h.nm _ (e i hi);refine⟨a,IM (fun i hi=>nA (a i hi)) fun i j hij hj q=>?_,fun l m=>?_⟩
 ·have hi2:i<ls.length:=by lia
  have hj2:j<ls.length:=by lia
  simp only[Y3,List.getElem?_eq_getElem hi2,List.getElem?_eq_getElem hj2,Option.getD_some]at q;have:=Zg.mp h.nd i j hi2 hj2 hij;exact this q
 ·have t:=fun i hi=>POk.top (a i hi)
  have l1:∀i,i<5->(spN 58 (ls.getD i [])).length=1:=fun i hi=>by rw[Cm (nA (a i hi))];rfl
  have x:=fun i j hi hj=>(t i hi).ext (a j hj) (by rw[l1 i hi];decide);unfold P8 at m;simp only[zZ,zY,or_false]at m;rcases m with rfl|rfl|rfl|rfl|rfl|rfl|rfl|rfl
  ·exact t 0 (by decide)
  ·exact t 1 (by decide)
  ·exact t 3 (by decide)
  ·exact x 0 2 (by decide) (by decide)
  ·exact x 0 3 (by decide) (by decide)
  ·exact x 1 2 (by decide) (by decide)
  ·exact x 3 4 (by decide) (by decide)
  ·exact(x 0 2 (by decide) (by decide)).ext (a 0 (by decide)) (by rw[fL (nA (a 2 (by decide))),zi,l1 0 (by decide)];show 1+1<=5;decide)
section
variable{n:Nat->List Nat}{as:List La}{m:Nat}{x:La}
theorem AF.len(h:AF n as m):as.length=m:=by
 have:=congrArg Y5 h.pa;rw[zg,uV]at this;have l8:(P8 n).length=8:=rfl;have:=h.le;lia
theorem AF.nw(h:AF n as m)(hn:NF n)(hx:(P8 n)[m]? = some x.pa):∀y∈as,y.pa≠x.pa:=fun y my e=>by
 have:y.pa∈(P8 n).take m:=h.pa ▸ wR my;obtain⟨i,hi,ei⟩:=List.mem_iff_getElem.mp this;rw[uV]at hi;rw[List.getElem_take]at ei;obtain⟨hm,em⟩:=List.getElem?_eq_some_iff.mp hx;have:=Zg.mp hn.nd i m (by lia) hm (by lia);exact this (ei.trans (e.trans em.symm))
theorem AF.snoc(h:AF n as m)(hx:(P8 n)[m]? = some x.pa)(o:Ok1 as x)(fi:x.fi<=m+1)(hu:m<=3->x.un=none)(hw:m<3->Tp x/\(m=1->x.ki=[111,119,110])):AF n (as++[x]) (m+1):=by
 have l8:(P8 n).length=8:=rfl;have hm:=(List.getElem?_eq_some_iff.mp hx).1;have ln:=h.len;have at_:∀j u,(as++[x])[j]? = some u->as[j]? = some u\/(j=m/\u=x):=fun j u e=>by
  rcases Nat.lt_trichotomy j as.length with l|l|l
  ·rw[List.getElem?_append_left l]at e
   exact .inl e
  ·subst l
   rw[List.getElem?_append_right (zL _),Nat.sub_self]at e;cases e;exact .inr ⟨ln,rfl⟩
  ·rw[List.getElem?_append_right (by lia),show j-as.length=(j-as.length-1)+1 by lia]at e
   cases e
 refine⟨?_,h.ok.snoc o,fun y my=>?_,fun j u hj e=>?_,fun j u hj e=>?_,by lia⟩
 ·rw[vX,h.pa,Yx,hx];rfl
 ·rcases z7.mp my with my|my
  ·have:=h.fi y my;lia
  ·rw[zq.mp my];lia
 ·rcases at_ j u e with e|⟨rfl,rfl⟩
  ·exact h.un j u hj e
  ·exact hu hj
 ·rcases at_ j u e with e|⟨rfl,rfl⟩
  ·exact h.tp j u hj e
  ·exact hw hj
theorem AF.t3(h:AF n as m)(hm:3<=m):Tp3 as:=by
 have ln:=h.len;have tp:=h.tp
 match as,ln,tp with
 |x::y::z::r,_,tp=>exact⟨x,y,z,r,rfl,(tp 0 x (by decide) rfl).1,(tp 1 y (by decide) rfl).1,(tp 2 z (by decide) rfl).1,(tp 1 y (by decide) rfl).2 rfl⟩
 | [],e,_=>exact absurd e (by show 0≠m;lia)
 | [_],e,_=>exact absurd e (by show 1≠m;lia)
 | [_,_],e,_=>exact absurd e (by show 2≠m;lia)
theorem AF.at_(h:AF n as m){j:Nat}{p:List Nat}(hj:j<m)(e:(P8 n)[j]? = some p):∃u,as[j]? = some u/\u.pa=p:=by
 have:=congrArg (·[j]?) h.pa;rw[List.getElem?_map,List.getElem?_take,if_pos hj,e]at this;cases e2:as[j]? with
 |none=>rw[e2]at this;cases this
 |some u=>rw[e2]at this;exact⟨u,rfl,tZ this⟩
end
theorem alloc{H:Hp}{p:Addr}(o:HO)(h:H p=none)(n:NoT H)(f:gN o=true):∃G,upd H p o=G/\Same H G/\G p=some o/\NoT G:=⟨_,rfl,ah _ h,ad,aq n f⟩
theorem br{H G:Hp}{p:Addr}{o:HO}(e:upd H p o=G)(h:H p=none)(n:NoT H)(f:gN o=true):Same H G/\G p=some o/\NoT G:=by subst e;exact⟨ah _ h,ad,aq n f⟩
abbrev sgA(sc pn pc:Addr)(c:Int)(pk pt d:Addr)(x7 x8 x9 x10 x11 x12:Option V):St:=[some (.ref sc),some (.ref pn),some (.ref pc),some (.int c),some (.ref pk),some (.ref pt),some (.ref d),x7,x8,x9,x10,x11,x12]
def Ii:Stmt->List Stmt
 | .For _ _ b _ _=>b
 |_=>[]
noncomputable abbrev Cq:List Stmt:=Ii ((aZ bq).getD 8 (.Pass ⟨0,0,0,0⟩))
theorem JA{c0 c1:List Nat}{H:Hp}{Q:VK}{i:Int}(h0:0<=i)(h1:i<4)(q:∀cu,(cu=none\/cu=some c0\/cu=some c1)->Q (cuV cu) H):fH [V.non,V.non,L2.T c0,L2.T c1] H H Q (.int i):=by
 obtain⟨j,rfl⟩:∃j:Nat,i=j:=⟨i.toNat,by lia⟩;unfold fH;rcases(by lia:j=0\/j=1\/j=2\/j=3) with rfl|rfl|rfl|rfl
 ·exact q none (.inl rfl)
 ·exact q none (.inl rfl)
 ·exact q (some c0) (.inr (.inl rfl))
 ·exact q (some c1) (.inr (.inr rfl))
theorem bA4(T:Txt K mg a){fA:Addr}{cdv:Value}{A:Around}{outer:List Env}{s:Shared}{H:Hp}{E:XK}(hr:Room 2 (A.deeper (Yj "_law_accounts" (au bq) s.heap.objs.size fA cdv))):∃u,PSs (bV (XE P w) P w K mg base cH "_law_accounts" (au bq) fA cdv A outer s H E) (Zn 4 Cq) u /\
 ∀(D:eA) sc pn pc c pk pt d (i:Int) p5 (mo:Int) uls (un:Option Int) x12 (cy:List (List Nat)) svs q up (x:Nat) (xs:List V) nx kvs ucu (ufi:Int) uun uki G,NoT G->G pc=some (.lst (cy.map L2.T))->cy.length=3->(∀l∈cy,cur l=true)->G uls=some (.lst [ucu,.int ufi,uun,L2.T uki])->G p5=some (.lst svs)->atI svs i=some (.ref q)->G q=some (.tup [L2.T up,.int (x:Int)])->G pn=some (.lst xs)->atI xs (x:Int)=some (L2.T nx)->up.length<=100->nx.length<=12->G d=some (.dK kvs)->kvs.length<=100 ->
  (∀x12 p cu,(∀l,cu=some l->cur l=true)->G p=none->D.nx (sgA sc pn pc c pk pt d (some (.int i)) (some (.ref p5)) (some (.int mo)) (some (.ref uls)) (some (cl un)) x12) (upd (upd G p (.lst [cuV cu,.int (ufi+mo / 28 % 2),cl un,L2.T uki])) d (.dK (dB kvs (.inr ⟨⟨up++[58]++nx⟩⟩) (.ref p))))) ->
  u D (sgA sc pn pc c pk pt d (some (.int i)) (some (.ref p5)) (some (.int mo)) (some (.ref uls)) (some (cl un)) x12) G:=by
 have sz:=szl;have ND:=gn.nd;have HU:=c8 hr;refine⟨_,(ae (aO 12 ND (d6 (fa4 cG cG (aB K (fv 2) aa) (aB K (fv 2) aa)) (aj aW (aj aX (fv 9) aa) aa) (fun _ _=>rfl)))
  (af (dL (Zz HU) (fv 6) (aj aE (aj aE (aB K (aB K (fv 8) (fv 7)) aa) (ak [58])) (aB K (fv 1) (aB K (aB K (fv 8) (fv 7)) aa))) (bz (fa4 (fv 12) (aj aE (aB K (fv 10) aa) (aj aW (aj aX (fv 9) aa) aa)) (fv 11) (aB K (fv 10) aa))) rfl))),fun D sc pn pc c pk pt d i p5 mo uls un x12 cy svs q up x xs nx kvs ucu ufi uun uki G nG hpc lcy ccy hu h5 e5 hq hpn ex lup lnx hd lkv k=>?_⟩
 obtain⟨c0,c1,c2,rfl⟩:=ex3 lcy;walk_at "rq";refine⟨nG,_,_,.inl (SqL.of hpc),av (j:=0) rfl,_,_,.inl (SqL.of hpc),av (j:=1) rfl,by walk_at "om",fun p _=>JA (by lia) (by lia) fun cu hcu=>?_⟩;refine⟨_,_,.inl (SqL.of hu),av (j:=1) rfl,?_⟩;walk_at "rq";refine⟨_,_,.inl (SqL.of hu),av (j:=3) rfl,by walk_at "om",fun p1 hp1=>?_⟩;obtain⟨G1,e1,s1,g1,N1⟩:=alloc (HO.lst [cuV cu,V.int (ufi+mo / 28 % 2),cl un,L2.T uki]) hp1 nG rfl;have k1:=k;rw[e1];refine⟨_,_,.inl (SqL.of (s1 _ _ h5)),e5,?_⟩;walk_at "rq";refine⟨_,_,.inr (SqT.of (s1 _ _ hq)),av (j:=0) rfl,?_⟩;walk_at "rq";refine⟨by lia,_,_,.inl (SqL.of (s1 _ _ h5)),e5,?_⟩;walk_at "rq";refine⟨_,_,.inr (SqT.of (s1 _ _ hq)),av (j:=1) rfl,?_⟩;walk_at "rq";refine⟨_,_,.inl (SqL.of (s1 _ _ hpn)),ex,?_⟩;walk_at "rq";refine⟨by rw[zi];show up.length+1+_<=_;lia,d,_,rfl,DPut.k (k:=.inr ⟨⟨up++[58]++nx⟩⟩) (s1 _ _ hd) (by rw[um];lia),?_⟩;rw[<- e1];refine k _ p1 cu (fun l e=>?_) hp1;rcases hcu with h|h|h
 ·rw[h]at e;cases e
 ·rw[h]at e;cases e;exact ccy _ (.head _)
 ·rw[h]at e;cases e;exact ccy _ (.tail _ (.head _))
theorem bA0(T:Txt K mg a){fA:Addr}{cdv:Value}{A:Around}{outer:List Env}{s:Shared}{H:Hp}{E:XK}(hr:Room 2 (A.deeper (Yj "_law_accounts" (au bq) s.heap.objs.size fA cdv))){u4:TS}(hu4:PSs (bV (XE P w) P w K mg base cH "_law_accounts" (au bq) fA cdv A outer s H E) (Zn 4 Cq) u4):∃ub:TS,PSs (bV (XE P w) P w K mg base cH "_law_accounts" (au bq) fA cdv A outer s H E) Cq ub /\
 ∀(D:eA) sc pn pc c pk pt d (i:Int) p5 x9 x10 x11 x12 svs q up (x:Int) (ns:List Int) kvs uls ucu (ufi:Int) uun uki G,SqL K G sc (ns.map V.int)->0<=i->G p5=some (.lst svs)->atI svs i=some (.ref q)->G q=some (.tup [L2.T up,.int x])->G d=some (.dK kvs)->dN kvs (.inr ⟨⟨up⟩⟩)=some (.ref uls)->G uls=some (.lst [ucu,.int ufi,uun,L2.T uki])->0<=ufi->ufi<=10 ->
  (∀mo un,(∀t,un=some t->10<t/\t<=146096)->(i=0->un=none)->u4 D (sgA sc pn pc c pk pt d (some (.int i)) (some (.ref p5)) (some (.int mo)) (some (.ref uls)) (some (cl un)) x12) G) ->
  ub D (sgA sc pn pc c pk pt d (some (.int i)) (some (.ref p5)) x9 x10 x11 x12) G:=by
 have sz:=szl;have ND:=gn.nd;have HU:=c8 hr
 skip
 refine⟨_,(ae (aO 9 ND (aH (aT T) hr aA (fa2 (fv 0) (aj aE aa (fv 7)))))
  (ae (aO 10 ND (aL (Zz HU) (fv 6) (aB K (aB K (fv 8) (fv 7)) aa) (fun _ _=>rfl)))
  (ae (aO 11 ND cG)
  (ae (a6 (L2.PW.pt (dJ (aN (bF K HU) (aj aW (fv 9) aa) aa) (cU (aN (cE K HU) (fv 7) aa)))) (af (aO 11 ND (aj aE (aj aE (aj aE (aB K (fv 10) aa) aa) (aD (o7 rfl) rfl T.v0 qj (fa2 aa (aj cJ (aH (gK T) hr aA (fa1 (fv 0))) (aB K (fv 10) aa))))) (aj aW (aj aX (fv 9) aa) aa)))) aJ)
  hu4)))),fun D sc pn pc c pk pt d i p5 x9 x10 x11 x12 svs q up x ns kvs uls ucu ufi uun uki G hS i0 h5 e5 hq hd hv hu f0 f1 k=>?_⟩
 have dget:=DGet.k (k:=.inr ⟨⟨up⟩⟩) hd;rw[hv]at dget;walk_at "rq";refine⟨ns,hS,by lia,fun mo _=>⟨_,_,.inl (SqL.of h5),e5,?_⟩⟩;walk_at "rq";refine⟨_,_,.inr (SqT.of hq),av (j:=0) rfl,?_⟩;walk_at "rq";refine⟨d,_,rfl,dget,?_⟩;by_cases m1:mo % 4=1
 ·refine itp m1 ?_
  by_cases i1:i=0
  ·exact itp i1 (k mo none (fun t e=>nomatch e) fun _=>rfl)
  ·refine itn i1 ?_
   walk_at "rq";refine⟨_,_,.inl (SqL.of hu),av (j:=1) rfl,?_⟩;walk_at "rq";refine⟨ns,hS,fun bs b0 b1=>⟨_,_,.inl (SqL.of hu),av (j:=1) rfl,?_⟩⟩;walk_at "rq";refine k mo (some _) (fun t e=>?_) fun z=>absurd z i1;cases e;split <;> lia
 ·exact itn m1 (k mo none (fun t e=>nomatch e) fun _=>rfl)
theorem Cr{ls:List (List Nat)}(nok:NmOk ls)(i:Nat)(hi:i<5):atI (ls.map L2.T) (i:Int)=some (L2.T (ls.getD i [])):=av (by
 have:i<ls.length:=by rw[nok.len];exact hi
 rw[List.getElem?_map,List.getElem?_eq_getElem this];simp[Y3,List.getElem?_eq_getElem this])
def NL(H:Hp)(as:List La):Prop:=(as.map (·.ls)).Nodup/\∀x∈as,H x.ls=none
theorem NL.snoc{H:Hp}{as:List La}{x:La}(h:NL H as)(n:∀y∈as,y.ls≠x.ls)(f:H x.ls=none):NL H (as++[x]):=by
 refine⟨by rw[vX];exact fh h.1 fun m=>by obtain⟨y,my,e⟩:=yS.mp m;exact n y my e,fun y m=>?_⟩;rcases z7.mp m with m|m
 ·exact h.2 y m
 ·rw[zq.mp m];exact f
def sp_CN(K:W.Frag):Sp:=sp1 fun x H Q _=>NoT H/\asR x fun sc=>∃ns:List Int,SqL K H sc (ns.map V.int)/\∀d as H',Same H H'->NoT H'->H d=none->H' d=some (.dK (as.map kyL))->AcAt H' d as->As8 as->NL H as->Q (.ref d) H'
theorem mI(T:Txt K mg a):Fo P w K mg base "_law_accounts" 3 (sp_CN K):=by
 refine T.nX.x1 cH fun x0 fA cdv A outer s H Q E ND HU hr h=>?_;obtain⟨hN,h1⟩:=h;obtain⟨sc,rfl,ns,hS,k⟩:=asR.inv h1;have sz:=szl
 skip
 obtain⟨u4,hu4,k4⟩:=@bA4 P w K mg base a T (fA:=fA) (cdv:=cdv) (A:=A) (outer:=outer) (s:=s) (H:=H) (E:=E) hr;obtain⟨ub,hub,kb⟩:=bA0 T hr hu4;have c7:∃u,PSs (bV (XE P w) P w K mg base cH "_law_accounts" (au bq) fA cdv A outer s H E) (Zn 7 (aZ bq)) u/\∀pn pc c pk pt d x7 (ls cy:List (List Nat)) (as:List La) H1,H1 pn=some (.lst (ls.map L2.T))->NmOk ls->H1 pc=some (.lst (cy.map L2.T))->cy.length=3->(∀l∈cy,cur l=true)->H1 pt=some (.lst [L2.T (ls.getD 0 []),L2.T (ls.getD 1 []),L2.T (ls.getD 3 [])])->H1 d=some (.dK (as.map kyL))->(∀x∈as,H1 x.ls=some (laL x))->AF (fun i=>ls.getD i []) as 3->Same H H1->NoT H1->H d=none->NL H as ->
  u { nx:=fun _ H'=>Q .non H',rt:=Q } (sgA sc pn pc c pk pt d x7 none none none none none) H1:=by
  refine⟨_,(ae (aO 8 ND (bz (fa5 (bd (fa2 (aB K (fv 5) aa) aa)) (bd (fa2 (aB K (fv 5) aa) aa)) (bd (fa2 (aB K (fv 5) aa) aa)) (bd (fa2 (aB K (fv 5) aa) aa)) (bd (fa2 (aj aE (aj aE (aB K (fv 5) aa) (ak [58])) (aB K (fv 1) aa)) aa)))))
   (ae (cX (by passes_own) rfl (eO rfl T.gG (fa1 aa)) (aK (i:=7) ND rfl (Or.inl rfl)) hub)
   (af (aC (fv 6))))),fun pn pc c pk pt d x7 ls cy as H1 hpn nok hpc lcy ccy hpt hd hls F s1 N1 hd0 nlA=>?_⟩
  have NFn:=NF.of nok;have l5:=nok.len;have at5:∀i:Nat,i<5->atI (ls.map L2.T) (i:Int)=some (L2.T (ls.getD i [])):=fun i hi=>av (by
   have:i<ls.length:=by lia
   rw[List.getElem?_map,List.getElem?_eq_getElem this];simp[Y3,List.getElem?_eq_getElem this])
  generalize hn:(fun i=>ls.getD i [])=n at F NFn;have en:∀i,ls.getD i []=n i:=fun i=>congrFun hn i;simp only[en]at hpt at5 |-
  have pl:∀l∈P8 n,l.length<=100:=fun l m=>(NFn.po l m).len;have nl:∀i:Nat,i<5->(n i).length<=12:=fun i hi=>(jE (NFn.n_ i hi)).2.1;walk_at "rd";refine⟨_,_,.inl (SqL.of hpt),av (j:=0) rfl,by walk_at "om",fun p0 h0=>?_⟩;generalize e0:upd _ _ (HO.tup [L2.T (n 0),V.int 2])=G0;obtain⟨s0,g0,N0⟩:=br e0 h0 N1 rfl;refine⟨_,_,.inl (SqL.of (s0 _ _ hpt)),av (j:=0) rfl,by walk_at "om",fun p1 h1=>?_⟩;generalize e1:upd _ _ (HO.tup [L2.T (n 0),V.int 3])=G1;obtain⟨s11,g1,N11⟩:=br e1 h1 N0 rfl;have s01:=s0.trans s11;refine⟨_,_,.inl (SqL.of (s01 _ _ hpt)),av (j:=1) rfl,by walk_at "om",fun p2 h2=>?_⟩;generalize e2:upd _ _ (HO.tup [L2.T (n 1),V.int 2])=G2;obtain⟨s12,g2,N12⟩:=br e2 h2 N11 rfl;have s02:=s01.trans s12;refine⟨_,_,.inl (SqL.of (s02 _ _ hpt)),av (j:=2) rfl,by walk_at "om",fun p3 h3=>?_⟩;generalize e3:upd _ _ (HO.tup [L2.T (n 3),V.int 4])=G3;obtain⟨s13,g3,N13⟩:=br e3 h3 N12 rfl;have s03:=s02.trans s13;refine⟨_,_,.inl (SqL.of (s03 _ _ hpt)),av (j:=0) rfl,?_⟩;have n0:=nl 0 (by decide);have n2:=nl 2 (by decide);walk_at "rd";refine⟨by lia,_,_,.inl (SqL.of (s03 _ _ hpn)),at5 2 (by decide),?_⟩;walk_at "rd";refine⟨by rw[zi];show(n 0).length+1+_<=_;lia,by walk_at "om",fun p4 h4=>?_⟩;generalize e4:upd _ _ (HO.tup [L2.T (n 0++[58]++n 2),V.int 0])=G4;obtain⟨s14,g4,N14⟩:=br e4 h4 N13 rfl;refine⟨by walk_at "om",fun p5 h5=>?_⟩;generalize e5:upd _ _ (HO.lst [V.ref p0,V.ref p1,V.ref p2,V.ref p3,V.ref p4])=G5;obtain⟨s15,g5,N15⟩:=br e5 h5 N14 rfl;have s45:=s14.trans s15;have s05:=s03.trans s45;have tab:∀i:Nat,i<5->∃q up x j,atI [V.ref p0,V.ref p1,V.ref p2,V.ref p3,V.ref p4] (0+(i:Int))=some (.ref q)/\G5 q=some (.tup [L2.T up,.int ((x:Nat):Int)])/\x<5/\j<=3/\j<3+i/\(P8 n)[j]? = some up/\(P8 n)[3+i]? = some (up++58::n x):=fun i hi=>by
   rw[Int.zero_add];rcases(by lia:i=0\/i=1\/i=2\/i=3\/i=4) with rfl|rfl|rfl|rfl|rfl
   ·exact⟨p0,n 0,2,0,av rfl,(s11.trans (s12.trans (s13.trans s45))) _ _ g0,by decide,by decide,by decide,rfl,rfl⟩
   ·exact⟨p1,n 0,3,0,av rfl,(s12.trans (s13.trans s45)) _ _ g1,by decide,by decide,by decide,rfl,rfl⟩
   ·exact⟨p2,n 1,2,1,av rfl,(s13.trans s45) _ _ g2,by decide,by decide,by decide,rfl,rfl⟩
   ·exact⟨p3,n 3,4,2,av rfl,s45 _ _ g3,by decide,by decide,by decide,rfl,rfl⟩
   ·refine⟨p4,n 0++58::n 2,0,3,av rfl,?_,by decide,by decide,by decide,rfl,rfl⟩
    have:=s15 _ _ g4;rw[Yq]at this;exact this
  have od:∀ {p:Addr} {l:List V},G5 p=some (.lst l)->p∉[d]:=fun {p l} e m=>by
   rw[zq.mp m,s05 _ _ hd]at e;cases e
  have odt:∀ {p:Addr} {l:List V},G5 p=some (.tup l)->p∉[d]:=fun {p l} e m=>by
   rw[zq.mp m,s05 _ _ hd]at e;cases e
  have hpn5:=s05 _ _ hpn;have hpc5:=s05 _ _ hpc;refine fX ?_;walk_at "rd";refine eN (lo:=0) (n:=5) (fun i σ' G=>Keep [d] G5 G/\NoT G/\∃as x7 x9 x10 x11 x12,G d=some (.dK (as.map kyL))/\(∀x∈as,G x.ls=some (laL x))/\AF n as (3+i)/\NL H as/\σ'=sgA sc pn pc c pk pt d x7 (some (.ref p5)) x9 x10 x11 x12) ⟨Keep.refl,N15,as,_,_,_,_,_,s05 _ _ hd,fun x m=>s05 _ _ (hls x m),F,nlA,rfl⟩ ?_ ?_
  ·rintro i σ' G hi ⟨kp,nG,as,x7,x9,x10,x11,x12,hdG,hlG,FG,nlG,rfl⟩
   obtain⟨q,up,x,j,eq,hq,lx,j3,ji,ej,ex⟩:=tab i hi;obtain⟨u,hu,pu⟩:=FG.at_ ji ej;have mu:=ww hu;have hqG:=kp _ _ hq (odt hq);have g5G:=kp _ _ g5 (od g5);have hnG:=kp _ _ hpn5 (od hpn5);have hcG:=kp _ _ hpc5 (od hpc5);have sH:Same H G:=fun p o e=>kp _ _ (s05 _ _ (s1 _ _ e)) (by intro m;rw[zq.mp m,hd0]at e;cases e);have hSG:=hS.same sH;have nd:=FG.ok.nd;have dget:DGet G d (L2.T up) (some (.ref u.ls)):=by
    have:=DGet.k (k:=.inr ⟨⟨u.pa⟩⟩) hdG;rw[AcAt.val (H:=G) (d:=d) nd mu]at this;rw[<- pu];exact this
   have key:∀(D:eA) (mo:Int) un x12,(∀t,un=some t->10<t/\t<=146096)->(i=0->un=none)->(∀σ' G',(Keep [d] G5 G'/\NoT G'/\∃as x7 x9 x10 x11 x12,G' d=some (.dK (as.map kyL))/\(∀x∈as,G' x.ls=some (laL x))/\AF n as (3+(i+1))/\NL H as/\σ'=sgA sc pn pc c pk pt d x7 (some (.ref p5)) x9 x10 x11 x12)->D.nx σ' G')->u4 D (sgA sc pn pc c pk pt d (some (.int (0+(i:Int)))) (some (.ref p5)) (some (.int mo)) (some (.ref u.ls)) (some (cl un)) x12) G:=fun D mo un x12 hun hun0 kD=>by
    have e58:up++[58]++n x=up++58::n x:=by rw[Yq];rfl
    refine k4 D sc pn pc c pk pt d _ p5 mo u.ls un x12 cy _ q up x _ (n x) _ _ u.fi _ u.ki G nG hcG lcy ccy (hlG u mu) g5G eq hqG hnG (at5 x lx) (by rw[<- pu];exact(NFn.po _ (pu ▸ ww ej)).len) (nl x lx) hdG (by rw[zg];have:=FG.len;lia) fun x12 p cu hcu hp=>kD _ _ ?_;rw[e58];have ou:=(FG.ok j u hu);have X:Ok1 as ⟨up++58::n x,cu,u.fi+mo / 28 % 2,un,u.ki,p⟩:=⟨FG.nw NFn (x:=⟨up++58::n x,cu,u.fi+mo / 28 % 2,un,u.ki,p⟩) ex,NFn.po _ (ww ex),ou.ki,⟨by have:=ou.fi;show 0<=u.fi+mo / 28 % 2;lia,by have:=FG.fi u mu;show u.fi+mo / 28 % 2<=10;lia⟩,hun,hcu,.inr ⟨u,n x,mu,by rw[pu],nA (NFn.n_ x lx),FG.un j u j3 hu,by show u.fi<=u.fi+mo / 28 % 2;lia,rfl⟩⟩;rw[xZ (x:=⟨up++58::n x,cu,u.fi+mo / 28 % 2,un,u.ki,p⟩) X.nw];have pd:p≠d:=Ne.symm (az hdG hp);refine⟨(kp.new hp).put (.head _),aq (aq nG rfl) rfl,_,_,_,_,_,_,ad,fun y my=>?_,FG.snoc ex X (by have:=FG.fi u mu;show u.fi+mo / 28 % 2<=_;lia) (fun h3=>hun0 (by lia)) (fun h1=>by lia),nlG.snoc (fun y my z=>az (hlG y my) hp z) (sH.free hp),rfl⟩;rcases z7.mp my with my|my
    ·have e:=hlG y my
     rw[ag (bD e hdG),ag (az e hp)];exact e
    ·rw[zq.mp my]
     exact(ag pd).trans ad
   have dget:=AcAt.val (H:=G) (d:=d) nd mu;rw[pu]at dget;have ou:=(FG.ok j u hu).fi;walk_at "rd";refine kb _ sc pn pc c pk pt d _ p5 _ _ _ _ _ q up x ns _ u.ls _ u.fi _ u.ki G hSG (by lia) g5G eq hqG hdG dget (hlG u mu) ou.1 ou.2 fun mo un h1 h2=>key _ mo un _ h1 (fun z=>h2 (by lia)) fun _ _ h=>h
  ·rintro σ' G ⟨kp,nG,as,x7,x9,x10,x11,x12,hdG,hlG,FG,nlG,rfl⟩
   walk_at "rd";have sH:Same H G:=fun p o e=>kp _ _ (s05 _ _ (s1 _ _ e)) (by intro m;rw[zq.mp m,hd0]at e;cases e);exact k d as G sH nG hd0 hdG ⟨.inl hdG,hlG⟩ ⟨FG.ok,by have:=FG.len;lia,FG.t3 (by decide)⟩ nlG
 obtain⟨u7,hu7,c7⟩:=c7;refine⟨_,(ae (aO 1 ND (aH (qJ T) hr aA (fa1 (aH (aT T) hr aA (fa2 (fv 0) aa)))))
  (ae (aO 2 ND (aH (fj T) hr aA (fa1 (aH (aT T) hr aA (fa2 (fv 0) aa)))))
  (ae (aO 3 ND (aj aX (aH (aT T) hr aA (fa2 (fv 0) aa)) aa))
  (ae (aO 4 ND (bz (fa3 (d6 (fa4 (ak [103,97,105,110]) (ak [99,111,115,116]) (ak [103,97,105,110]) (ak [104,97,118,101])) (aj aW (fv 3) aa) (fun _ _=>rfl)) (ak [111,119,110]) (d6 (fa3 (ak [99,111,115,116]) (ak [111,119,101]) (ak [104,97,118,101])) (aj aW (aj aX (fv 3) aa) aa) (fun _ _=>rfl)))))
  (ae (aO 5 ND (bz (fa3 (aB K (fv 1) aa) (aB K (fv 1) aa) (aB K (fv 1) aa))))
  (ae (aO 6 ND ot)
  (ae (cX (by passes_own) rfl (eO rfl T.gG (fa1 aa)) (aK (i:=7) ND rfl (Or.inl rfl)) (af (dL (Zz HU) (fv 6) (aB K (fv 5) (fv 7)) (bz (fa4 cG aa cG (aB K (fv 4) (fv 7)))) rfl)))
  hu7))))))),?_⟩
 walk_at "rd";refine⟨ns,hS,fun _ _=>⟨hN,fun pn H1 ls s1 N1 hpn0 hpn nok=>⟨ns,hS.same s1,fun _ _=>⟨N1,fun pc H2 cy s2 N2 hpc0 hpc lcy ccy _=>⟨ns,(hS.same s1).same s2,fun c _=>⟨N2,by walk_at "om",fun _ _=>qU (ls:=[[103,97,105,110],[99,111,115,116],[103,97,105,110],[104,97,118,101]]) (by lia) (by show _<(4:Int);lia) fun k0 mk0=>?_⟩⟩⟩⟩⟩⟩;refine⟨N2,by walk_at "om",fun _ _=>qU (ls:=[[99,111,115,116],[111,119,101],[104,97,118,101]]) (by lia) (by show _<(3:Int);lia) fun k2 mk2=>?_⟩;walk_at "rd";refine⟨by walk_at "om",fun pk hpk=>?_⟩;generalize e1:upd _ _ (HO.lst [L2.T k0,L2.T [111,119,110],L2.T k2])=G1;obtain⟨s11,g1,N11⟩:=br e1 hpk N2 rfl;have hpn1:=s11 _ _ (s2 _ _ hpn);refine⟨_,_,.inl (SqL.of hpn1),Cr nok 0 (by decide),_,_,.inl (SqL.of hpn1),Cr nok 1 (by decide),_,_,.inl (SqL.of hpn1),Cr nok 3 (by decide),by walk_at "om",fun pt hpt d hd=>?_⟩;generalize e2:upd _ _ (HO.lst [L2.T (ls.getD 0 []),L2.T (ls.getD 1 []),L2.T (ls.getD 3 [])])=G2 at hd |-
 obtain⟨s12,g2,N12⟩:=br e2 hpt N11 rfl;generalize e3:upd _ _ (HO.dK [])=G3;obtain⟨s13,g3,N13⟩:=br e3 hd N12 rfl;have s23:=s11.trans (s12.trans s13);have s03:=s1.trans (s2.trans s23);have d0:H d=none:=(s1.trans (s2.trans (s11.trans s12))).free hd;have NFn:=NF.of nok;have KD:k0∈KDS/\k2∈KDS:=⟨(show ∀k∈([[103,97,105,110],[99,111,115,116],[103,97,105,110],[104,97,118,101]]:List (List Nat)),k∈KDS by decide) _ mk0,(show ∀k∈([[99,111,115,116],[111,119,101],[104,97,118,101]]:List (List Nat)),k∈KDS by decide) _ mk2⟩;have tab:∀i:Nat,i<3->∃pa kd,atI [L2.T (ls.getD 0 []),L2.T (ls.getD 1 []),L2.T (ls.getD 3 [])] (0+(i:Int))=some (L2.T pa)/\(P8 fun i=>ls.getD i [])[i]? = some pa/\nm pa=true/\atI [L2.T k0,L2.T [111,119,110],L2.T k2] (0+(i:Int))=some (L2.T kd)/\kd∈KDS/\(i=1->kd=[111,119,110]):=fun i hi=>by
  rw[Int.zero_add];rcases(by lia:i=0\/i=1\/i=2) with rfl|rfl|rfl
  ·exact⟨_,k0,av rfl,rfl,NFn.n_ 0 (by decide),av rfl,KD.1,fun z=>by cases z⟩
  ·exact⟨_,_,av rfl,rfl,NFn.n_ 1 (by decide),av rfl,(show([111,119,110]:List Nat)∈KDS by decide),fun _=>rfl⟩
  ·exact⟨_,k2,av rfl,rfl,NFn.n_ 3 (by decide),av rfl,KD.2,fun z=>by cases z⟩
 obtain⟨n,hn⟩:∃n:Nat->List Nat,n=fun i=>ls.getD i []:=⟨_,rfl⟩;rw[<- hn]at NFn tab;have od:∀ {p:Addr} {l:List V},G3 p=some (.lst l)->p∉[d]:=fun {p l} e m=>by
  rw[zq.mp m,g3]at e;cases e
 have g1':=(s12.trans s13) _ _ g1;have g2':=s13 _ _ g2;refine fX ?_;walk_at "rd";refine eN (lo:=0) (n:=3) (fun i σ' G=>Keep [d] G3 G/\NoT G/\∃as x7,G d=some (.dK (as.map kyL))/\(∀x∈as,G x.ls=some (laL x))/\AF n as i/\NL H as/\σ'=sgA sc pn pc (c / 200) pk pt d x7 none none none none none) ⟨Keep.refl,N13,[],_,g3,(fun _ m=>nomatch m),⟨rfl,(fun _ _ e=>nomatch e),(fun _ m=>nomatch m),(fun _ _ _ e=>nomatch e),(fun _ _ _ e=>nomatch e),by decide⟩,⟨.nil,(fun _ z=>nomatch z)⟩,rfl⟩ ?_ ?_
 ·rintro i σ' G hi ⟨kp,nG,as,x7,hdG,hlG,FG,nlG,rfl⟩
  obtain⟨pa,kd,t1,t2,t3,t4,t5,t6⟩:=tab i hi;have sK:Same H G:=fun p o e=>kp _ _ (s03 _ _ e) fun m=>by rw[zq.mp m,d0]at e;cases e
  walk_at "rd";refine⟨_,_,.inl (SqL.of (kp _ _ g1' (od g1'))),t4,by walk_at "om",fun p hp=>?_⟩;refine⟨_,_,.inl (SqL.of ((ag (az (kp _ _ g2' (od g2')) hp)).trans (kp _ _ g2' (od g2')))),t1,?_⟩;have X:Ok1 as ⟨pa,none,0,none,kd,p⟩:=⟨FG.nw NFn (x:=⟨pa,none,0,none,kd,p⟩) t2,NFn.po _ (ww t2),t5,⟨Yd _,(by decide:(0:Int)<=10)⟩,(fun t e=>nomatch e),(fun t e=>nomatch e),.inl ⟨t3,rfl,rfl,rfl⟩⟩;have pd:p≠d:=Ne.symm (az hdG hp);refine⟨d,_,rfl,DPut.k (k:=.inr ⟨⟨pa⟩⟩) ((ag (Ne.symm pd)).trans hdG) (by rw[zg,um];have:=FG.len;lia),?_⟩;rw[xZ (x:=⟨pa,none,0,none,kd,p⟩) X.nw];refine⟨(kp.new hp).put (.head _),aq (aq nG rfl) rfl,_,_,ad,fun y my=>?_,FG.snoc t2 X (by show(0:Int)<=_;lia) (fun _=>rfl) (fun h1=>⟨⟨t3,rfl,rfl,rfl⟩,t6⟩),nlG.snoc (fun y my z=>az (hlG y my) hp z) (sK.free hp),rfl⟩;rcases z7.mp my with my|my
  ·have e:=hlG y my
   rw[ag (bD e hdG),ag (az e hp)];exact e
  ·rw[zq.mp my]
   exact(ag pd).trans ad
 ·rintro σ' G ⟨kp,nG,as,x7,hdG,hlG,FG,nlG,rfl⟩
  have ol:∀ {p:Addr} {l:List V},G3 p=some (.lst l)->G p=some (.lst l):=fun e=>kp _ _ e (od e);rw[hn]at FG;exact c7 pn pc _ pk pt d x7 ls cy as G (ol (s23 _ _ (s2 _ _ hpn))) nok (ol (s23 _ _ hpc)) lcy ccy (ol g2') hdG hlG FG (fun p o e=>kp _ _ (s03 _ _ e) fun m=>by rw[zq.mp m,d0]at e;cases e) nG d0 nlG
structure CR(as:List La)(c:Acc)(x:La):Prop where
 pa:c.pa=x.pa
 cu:c.cu=cuV x.cu
 ki:c.ki=L2.T x.ki
 fi:c.fi=x.fi
 bu:c.be≠[]->x.un=none
 be:c.be≠[]->∃y∈as,∃n,y.pa=x.pa++58::n
structure CF(as:List La)(c:Acc)(x:La):Prop where
 pa:c.pa=x.pa
 cu:c.cu=cuV x.cu
 ki:c.ki=L2.T x.ki
 fi:c.fi=x.fi
 un:c.un=x.un
 be:c.be≠[]->∃y∈as,∃n,y.pa=x.pa++58::n
theorem AR{α β:Type}{R:α->β->Prop}{xs:List α}{ys:List β}(h:A2 R xs ys){x:α}(m:x∈xs):∃y∈ys,R x y:=by
 induction h with
 |nil=>cases m
 |cons r _ ih=>
  rcases zZ.mp m with rfl|m
  ·exact⟨_,.head _,r⟩
  ·obtain⟨y,my,r⟩:=ih m;exact⟨y,.tail _ my,r⟩
theorem An{α β:Type}{R:α->β->Prop}{xs:List α}{ys:List β}(h:A2 R xs ys){y:β}(m:y∈ys):∃x∈xs,R x y:=by
 induction h with
 |nil=>cases m
 |cons r _ ih=>
  rcases zZ.mp m with rfl|m
  ·exact⟨_,.head _,r⟩
  ·obtain⟨y,my,r⟩:=ih m;exact⟨y,.tail _ my,r⟩
theorem tI{α β:Type}{R:α->β->Prop}{f:α->α}:∀ {xs:List α} {ys:List β},(∀x y,y∈ys->R x y->R (f x) y)->A2 R xs ys->A2 R (xs.map f) ys
 |_,_,_,.nil=>.nil
 |_,_,k,.cons r h=>.cons (k _ _ (.head _) r) (tI (fun x y m=>k x y (.tail _ m)) h)
theorem Cj{al:List La}{cs:List Acc}{as:List La}{l:List Nat}{f:Acc->Acc}(hf:∀z,(f z).pa=z.pa/\(f z).cu=z.cu/\(f z).ki=z.ki/\(f z).fi=z.fi)(hb:∀x∈as,x.pa=l->∀z:Acc,(f z).be≠[]->z.be≠[]\/(x.un=none/\∃y∈al,∃n,y.pa=x.pa++58::n))(h:A2 (CR al) cs as):A2 (CR al) (gJ cs l f) as:=by
 refine tI (fun c x mx r=>?_) h;by_cases e:c.pa=l
 ·rw[if_pos e]
  refine⟨(hf c).1.trans r.pa,(hf c).2.1.trans r.cu,(hf c).2.2.1.trans r.ki,(hf c).2.2.2.trans r.fi,fun z=>?_,fun z=>?_⟩
  ·rcases hb x mx (r.pa.symm.trans e) c z with z|z
   ·exact r.bu z
   ·exact z.1
  ·rcases hb x mx (r.pa.symm.trans e) c z with z|z
   ·exact r.be z
   ·exact z.2
 ·rw[if_neg e];exact r
theorem yJ{cs:List Acc}:∀ {as:List La} {R S:Acc->La->Prop},A2 R cs as->(∀(j:Nat) c x,cs[j]? = some c->as[j]? = some x->R c x->S c x)->A2 S cs as
 |_,_,_,.nil,_=>.nil
 |_,_,_,.cons r h,k=>.cons (k 0 _ _ rfl rfl r) (yJ h fun j c x e1 e2=>k (j+1) c x e1 e2)
def OldK(H G:Hp)(d:Addr):Prop:=∀p o,H p=some o->p≠d->G p=some o
theorem OldK.keep{H G G':Hp}{d:Addr}{S:List Addr}(h:OldK H G d)(k:Keep S G G')(n:∀p∈S,H p=none):OldK H G' d:=fun p o e np=>k _ _ (h p o e np) fun m=>by rw[n p m]at e;cases e
theorem Bn{cs:List Acc}{l:List Nat}(h:∀c∈cs,c.pa≠l):fnd cs l=none:=List.find?_eq_none.mpr fun c m=>by simpa using h c m
theorem Fd{as:List La}(nd:(as.map (·.pa)).Nodup){x y:La}(mx:x∈as)(my:y∈as)(e:x.pa=y.pa):x=y:=by
 induction as with
 |nil=>cases mx
 |cons z r ih=>
  rw[xa]at nd;obtain⟨n1,n2⟩:=ZW.mp nd;rcases zZ.mp mx with rfl|mx1
  ·rcases zZ.mp my with rfl|my1
   ·rfl
   ·exact absurd (by rw[e];exact wR (f:=(·.pa)) my1) n1
  ·rcases zZ.mp my with rfl|my1
   ·exact absurd (by rw[<- e];exact wR (f:=(·.pa)) mx1) n1
   ·exact ih n2 mx1 my1
structure CI(C A:Addr)(H G:Hp)(d ch cd:Addr)(al:List La)(cs:List Acc)(as:List La)(n:Nat):Prop where
 old:OldK H G d
 nT:NoT G
 at_:CAt C A G ch cd cs
 cr:A2 (CR al) cs as
 fr:∀c∈cs,H c.ob=none/\H c.bl=none
 lb:∀c∈cs,c.be.length<=n
theorem CI.dict{C A:Addr}{H G:Hp}{d ch cd:Addr}{al:List La}{cs:List Acc}{as:List La}{n:Nat}{u:HO}(h:CI C A H G d ch cd al cs as n)(hd:H d=some u)(h1:H ch=none)(h2:H cd=none){o:HO}(f:gN o=true):CI C A H (upd G d o) d ch cd al cs as n:=by
 have ne:∀ {p:Addr},H p=none->p∉[d]:=fun e m=>by rw[zq.mp m,hd]at e;cases e
 exact⟨fun p z e np=>(ag np).trans (h.old p z e np),aq h.nT f,h.at_.keep (S:=[d]) (Keep.refl.put (.head _)) (ne h1) (ne h2) fun c m=>⟨ne (h.fr c m).1,ne (h.fr c m).2⟩,h.cr,h.fr,h.lb⟩
theorem CP{G:Hp}{as:List La}{i:Nat}{y v:V}(h:rF G (.dK (as.map kyL)) i y v):∃x,as[i]? = some x/\y=L2.T x.pa/\v = .ref x.ls:=by
 obtain⟨kk,e,rfl⟩:=h;rw[List.getElem?_map]at e;obtain⟨x,ex,e2⟩:=Zt.mp e;cases e2;exact⟨x,ex,rfl,rfl⟩
theorem D9(x:V):wO (zf "shut") [(zf "by_path",x)]=none:=by rw[aU (by decide +kernel)];rfl
theorem Cn(x:V):wO (zf "add") [(zf "by_path",x)]=none:=by rw[aU (by decide +kernel)];rfl
theorem Hk(x:V):wO (zf "add_top") [(zf "by_path",x)]=none:=by rw[aU (by decide +kernel)];rfl
theorem wX{G:Hp}{d:Addr}{o:Obj}{as:List La}(nd:(as.map (·.pa)).Nodup){x:La}(m:x∈as)(h:G d=some (.frz o (.dK (as.map kyL)))):DGet G d (L2.T x.pa) (some (.ref x.ls)):=
 .inl ⟨_,.inr ⟨⟨x.pa⟩⟩,.inr ⟨o,h⟩,rfl,(AcAt.val (H:=G) (d:=d) nd m).symm⟩
def sp_Bm(C A:Addr):Sp:=sp1 fun x H Q _=>NoT H/\asR x fun d=>∃as,H d=some (.dK (as.map kyL))/\AcAt H d as/\As8 as/\∀ch cd cs H',CAt C A H' ch cd cs->A2 (CF as) cs as->(∀c∈cs,H c.ob=none/\H c.bl=none/\c.be.length<=8)->H ch=none->H cd=none->Same H H'->NoT H'->Q (.ref ch) H'
theorem qx(T:Txt K mg a):Fo P w K mg base "_law_chart" 8 (sp_Bm a.aR a.aM):=by
 refine T.sy.x1 ["_law_accounts_here","_law_chart_here","_law_path_here","_law_currency","_law_first","_law_until","_law_kind"] fun x0 fA cdv A outer s H Q E ND HU hr h=>?_;obtain⟨hN,h1⟩:=h;obtain⟨d,rfl,as,hd,AC,A8,k⟩:=asR.inv h1;have sz:=szl;have nd:=A8.ok.nd;have l8:=A8.len
 skip
 have c2:∃u,PSs (bV (XE P w) P w K mg base ["_law_accounts_here","_law_chart_here","_law_path_here","_law_currency","_law_first","_law_until","_law_kind"] "_law_chart" (au (top 78)) fA cdv A outer s H E) (Zn 2 (aZ (top 78))) u/\∀ch cd cs x2 x3 x4 x5 x6 G,CI a.aR a.aM H G d ch cd as cs as 8->(∀c∈cs,c.un=none)->G d=some (.dK (as.map kyL))->H ch=none->H cd=none ->
  u { nx:=fun _ H'=>Q .non H',rt:=Q } [some (.ref d),some (.ref ch),x2,x3,x4,x5,x6] G:=by
  refine⟨_,(ae (kl (cX (by passes_own) rfl (iW (fv 0)) (aK (i:=2) ND rfl (Or.inl rfl)) (af (a6 (dX (dq (aB K (aL (Zz HU) (fv 0) (fv 2) (fun _ _=>rfl)) aa))) (af (bB (b7 (fv 1) T.bw (qQ T) (hr.mono (by decide)) aA (fa2 (fv 2) (aB K (aL (Zz HU) (fv 0) (fv 2) (fun _ _=>rfl)) aa))))) aJ))))
   (af (aC (fv 1)))),fun ch cd cs x2 x3 x4 x5 x6 G I un0 hdG hch0 hcd0=>CD ?_⟩
  walk_at "rq";refine⟨d,.dK (as.map kyL),rfl,rfl,.inl hdG,fun o _=>AT (fun i σ' G'=>G' d=some (.frz o (.dK (as.map kyL)))/\∃cs x2,CI a.aR a.aM H G' d ch cd as cs as 8/\(∀j c,i<=j->cs[j]? = some c->c.un=none)/\(∀j c x,j<i->cs[j]? = some c->as[j]? = some x->c.un=x.un)/\σ'=[some (.ref d),some (.ref ch),x2,x3,x4,x5,x6]) ⟨ad,cs,_,?_,(fun j c _ e=>un0 c (ww e)),(fun _ _ _ h=>absurd h (Nat.not_lt_zero _)),rfl⟩ (fun i σ' G' h=>h.1) ?_ ?_⟩
  ·exact I.dict hd hch0 hcd0 rfl
  ·rintro i y v σ' G' hi en ⟨hf,cs,x2,I,un,u2,rfl⟩
   obtain⟨x,ex,rfl,rfl⟩:=CP en;have mx:=ww ex;have ok:=A8.ok i x ex;have dg:=wX nd mx hf;have hx:G' x.ls=some (.lst [cuV x.cu,.int x.fi,cl x.un,L2.T x.ki]):=I.old _ _ (AC.ls x mx) (bD (AC.ls x mx) hd);have lp:=ok.po.len;obtain⟨dx,hch⟩:=I.at_.ob;walk_at "rq";refine⟨d,.ref x.ls,rfl,dg,?_⟩;walk_at "rq";refine⟨_,_,.inl (SqL.of hx),av (j:=2) rfl,?_⟩;cases eu:x.un with
   |none=>
    refine itp rfl ⟨hf,cs,_,I,(fun j c hj e=>un j c (by lia) e),(fun j c y hj e1 e2=>?_),rfl⟩;rcases Nat.lt_or_eq_of_le (Nat.le_of_lt_succ hj) with lt|rfl
    ·exact u2 j c y lt e1 e2
    ·rw[ex]at e2;cases e2
     rw[un j c (zL _) e1,eu]
   |some t=>
    refine itn (by intro z;cases z) ?_;walk_at "rq";have ut:=ok.un t eu;obtain⟨c,hc,rc⟩:∃c,cs[i]? = some c/\CR as c x:=by
     have l1:=I.cr.len;have l2:=(List.getElem?_eq_some_iff.mp ex).1;have hi:i<cs.length:=by lia
     obtain⟨y,ey,r⟩:=I.cr.at_ (List.getElem?_eq_getElem hi);rw[ex]at ey;cases ey;exact⟨cs[i],List.getElem?_eq_getElem hi,r⟩
    have mc:=ww hc;have fx:=ok.fi;have be0:c.be=[]:=by
     cases eb:c.be with
     |nil=>rfl
     |cons _ _=>have:=rc.bu (by rw[eb];intro z;cases z);rw[eu]at this;cases this
    have eV:cl (some t)=V.int t:=rfl;rw[eu,eV]at hx;refine⟨dx,_,hch,D9 _,d,.ref x.ls,rfl,dg,?_⟩;walk_at "rq";refine⟨_,_,.inl (SqL.of hx),av (j:=2) rfl,I.nT,⟨ok.po.lo,by lia⟩,?_⟩;walk_at "rq";refine⟨⟨by lia,ut.2⟩,cd,cs,c,I.at_,mc,rc.pa,ok.po.pn,un i c (zL _) hc,by rw[rc.fi];lia,be0,fun H2 J2 K2 N2=>?_⟩;have nob:∀p∈cs.map (·.ob),H p=none:=fun p m=>by
     obtain⟨z,mz,rfl⟩:=yS.mp m;exact(I.fr z mz).1
    have fr2:∀z∈gJ cs x.pa (shu t),∃y∈cs,z.ob=y.ob/\z.bl=y.bl/\z.be=y.be:=fun z mz=>by
     obtain⟨y,my,e⟩:=fU mz;refine⟨y,my,?_⟩;rw[e];split <;> exact⟨rfl,rfl,rfl⟩
    refine⟨K2 _ _ hf (fun m=>by rw[nob _ m]at hd;cases hd),_,_,⟨I.old.keep K2 nob,N2,J2,Cj (fun _=>⟨rfl,rfl,rfl,rfl⟩) (fun y my ey z hz=>.inl hz) I.cr,fun z mz=>?_,fun z mz=>?_⟩,(fun j z hj e=>?_),(fun j z y hj e e3=>?_),rfl⟩
    ·obtain⟨y,my,e1,e2,_⟩:=fr2 z mz
     rw[e1,e2];exact I.fr y my
    ·obtain⟨y,my,_,_,e3⟩:=fr2 z mz
     rw[e3];exact I.lb y my
    ·unfold gJ at e
     rw[List.getElem?_map]at e;obtain⟨y,ey,rfl⟩:=Zt.mp e;obtain⟨w1,ew,r1⟩:=I.cr.at_ ey;have ne:¬ y.pa=x.pa:=fun z=>by
      have:=(A8.ok j w1 ew).nw x (by
       rw[List.mem_iff_getElem?];exact⟨i,by rw[List.getElem?_take,if_pos (by lia)];exact ex⟩)
      exact this (z.symm.trans r1.pa)
     rw[if_neg ne];exact un j y (by lia) ey
    ·unfold gJ at e
     rw[List.getElem?_map]at e;obtain⟨y',ey,rfl⟩:=Zt.mp e;rcases Nat.lt_or_eq_of_le (Nat.le_of_lt_succ hj) with lt|rfl
     ·obtain⟨w1,ew,r1⟩:=I.cr.at_ ey
      have ne:¬ y'.pa=x.pa:=fun z=>by
       refine ok.nw w1 ?_ (r1.pa.symm.trans z);rw[List.mem_iff_getElem?];exact⟨j,by rw[List.getElem?_take,if_pos lt];exact ew⟩
      rw[if_neg ne];exact u2 j y' y lt ey e3
     ·rw[ex]at e3;cases e3
      rw[hc]at ey;cases ey;rw[if_pos rc.pa,eu];rfl
  ·rintro σ' G' ⟨hf,cs,x2,I,un,u2,rfl⟩
   walk_at "rq";refine⟨d,o,_,hf,.inl ⟨hdG,rfl,?_⟩⟩;have I2:=I.dict (o:=.dK (as.map kyL)) hd hch0 hcd0 rfl;refine k ch cd cs _ I2.at_ (yJ I2.cr fun j c x e1 e2 r=>⟨r.pa,r.cu,r.ki,r.fi,u2 j c x ?_ e1 e2,r.be⟩) (fun c m=>⟨(I2.fr c m).1,(I2.fr c m).2,I2.lb c m⟩) hch0 hcd0 (fun p z e=>?_) I2.nT
   ·have:=(List.getElem?_eq_some_iff.mp e2).1
    show j<(as.map kyL).length;rw[zg];exact this
   ·by_cases hp:p=d
    ·rw[hp,ad];rw[hp,hd]at e;exact e
    ·exact I2.old p z e hp
 obtain⟨u2,hu2,c2⟩:=c2;refine⟨_,(ae (aO 1 ND (tH T.By (lH T) (hr.mono (by decide)) rfl T.ED aA))
  (ae (kl (cX (by passes_own) rfl (iW (fv 0)) (aK (i:=2) ND rfl (Or.inl rfl)) (ae (BK (aL (Zz HU) (fv 0) (fv 2) (fun _ _=>rfl)) (yz K (n:=4) rfl (bf (aK (i:=3) ND rfl (Or.inl rfl)) (bf (aK (i:=4) ND rfl (Or.inl rfl)) (bf (aK (i:=5) ND rfl (Or.inl rfl)) (bf (aK (i:=6) ND rfl (Or.inl rfl)) dS))))))
  (af (a6 (jP H_ (ak [58]) (fv 2) (by with_unfolding_all rfl)) (af (bB (b7 (fv 1) T.bw (k9 T) (hr.mono (by decide)) aA (fa3 (fv 2) (fv 3) (fv 4))))) (af (bB (b7 (fv 1) T.bw (mJ T) (hr.mono (by decide)) aA (fa2 (fv 2) (fv 6))))))))))
  hu2)),?_⟩
 walk_at "rq";intro ch dx hch hdx ndx;refine⟨aq (aq hN rfl) rfl,dx,ad,fun cd H1 hcd J1 kp N1=>CD ?_⟩;have k0:=eP hch hdx kp;have hcd0:=dE hcd;walk_at "rq";have I0:CI a.aR a.aM H H1 d ch cd as [] (as.take 0) 0:=⟨fun p o e _=>k0 _ _ e zY,N1,J1,.nil,(fun _ m=>nomatch m),fun _ m=>nomatch m⟩;refine⟨d,.dK (as.map kyL),rfl,rfl,.inl (k0 _ _ hd zY),fun o _=>AT (fun i σ' G'=>G' d=some (.frz o (.dK (as.map kyL)))/\∃cs x2 x3 x4 x5 x6,CI a.aR a.aM H G' d ch cd as cs (as.take i) i/\(∀c∈cs,c.un=none)/\σ'=[some (.ref d),some (.ref ch),x2,x3,x4,x5,x6]) ⟨ad,[],_,_,_,_,_,I0.dict hd hch hcd0 rfl,(fun _ m=>nomatch m),rfl⟩ (fun i σ' G' h=>h.1) ?_ ?_⟩
 ·rintro i y v σ' G' hi en ⟨hf,cs,x2,x3,x4,x5,x6,I,un,rfl⟩
  obtain⟨x,ex,rfl,rfl⟩:=CP en;have mx:=ww ex;have ok:=A8.ok i x ex;have dg:=wX nd mx hf;have hx:G' x.ls=some (.lst [cuV x.cu,.int x.fi,cl x.un,L2.T x.ki]):=I.old _ _ (AC.ls x mx) (bD (AC.ls x mx) hd);have lp:=ok.po.len;obtain⟨dx,hch1⟩:=I.at_.ob;have i8:i<as.length:=(List.getElem?_eq_some_iff.mp ex).1;have lc:cs.length<=8:=by have:=I.cr.len;rw[uV]at this;lia
  have ef:fnd cs x.pa=none:=Bn fun c mc e=>by
   obtain⟨z,mz,r⟩:=AR I.cr mc;exact ok.nw z mz (r.pa.symm.trans e)
  have et:as.take (i+1)=as.take i++[x]:=by rw[Yx,ex];rfl
  walk_at "rq";refine⟨d,.ref x.ls,rfl,dg,x.ls,_,rfl,SqL.of hx,rfl,?_⟩;walk_at "rq";refine⟨_,_,⟨rfl,rfl⟩,_,_,rfl,_,_,rfl,_,_,rfl,rfl,?_⟩;have fre:∀ {p:Addr},G' p=none->H p=none:=fun {p} e=>by
   cases e1:H p with
   |none=>rfl
   |some z=>
    by_cases hp:p=d
    ·rw[hp,hf]at e;cases e
    ·rw[I.old p z e1 hp]at e;cases e
  have sub:∀ {y:La},y∈as.take i->y∈as:=fun m=>Yo m;rcases ok.st with ⟨t1,t2,t3,t4⟩|⟨u,n,mu,ep,n58,uu,uf,uk⟩
  ·refine itn (fun z=>nA t1 (of_decide_eq_true z)) ?_
   walk_at "rq";refine⟨dx,_,hch1,Hk _,I.nT,t1,ok.ki,cd,cs,I.at_,by lia,ef,fun c H2 p1 pk p2 p3 p4 p5 p6 p7 J2 K2 N2=>?_⟩;refine⟨K2 _ _ hf (fun m=>by rw[zq.mp m,hcd0]at hd;cases hd),_,_,_,_,_,_,⟨I.old.keep K2 (fun p m=>by rw[zq.mp m];exact hcd0),N2,J2,?_,fun z mz=>?_,fun z mz=>?_⟩,fun z mz=>?_,rfl,rfl,rfl,rfl,rfl⟩
   ·rw[et];exact I.cr.snoc ⟨p1,by rw[p2,t4];rfl,pk,p3.trans t2.symm,(fun z=>absurd p5 z),fun z=>absurd p5 z⟩
   ·rcases z7.mp mz with mz|mz
    ·exact I.fr z mz
    ·rw[zq.mp mz];exact⟨fre p6,fre p7⟩
   ·rcases z7.mp mz with mz|mz
    ·have:=I.lb z mz;lia
    ·rw[zq.mp mz,p5];exact wQ _
   ·rcases z7.mp mz with mz|mz
    ·exact un z mz
    ·rw[zq.mp mz];exact p4
  ·obtain⟨cu',mcu,rcu⟩:=An I.cr mu
   refine itp (by rw[ep];simp) ?_;walk_at "rq";have hc:cuV x.cu=V.non\/∃cl,cuV x.cu=L2.T cl/\cur cl=true:=by
    cases ec:x.cu with
    |none=>exact .inl rfl
    |some l=>exact .inr ⟨l,rfl,ok.cu l ec⟩
   have fx:=ok.fi;have ncl:∀p∈cd::cs.map (·.bl),H p=none:=fun p m=>by
    rcases zZ.mp m with rfl|m
    ·exact hcd0
    ·obtain⟨z,mz,rfl⟩:=yS.mp m
     exact(I.fr z mz).2
   refine⟨dx,_,hch1,Cn _,I.nT,⟨ok.po.lo,by lia⟩,hc,⟨fx.1,by lia⟩,u.pa,n,cd,cs,cu',ep,n58,ok.po.pn,I.at_,by lia,(fun c m=>by have:=I.lb c m;lia),ef,mcu,rcu.pa,un cu' mcu,by rw[rcu.fi];exact uf,fun c H2 p1 pk p2 p3 p4 p5 p6 p7 J2 K2 N2=>?_⟩;have fr2:∀z∈gJ cs u.pa (grw x.pa),∃y∈cs,z.ob=y.ob/\z.bl=y.bl/\z.un=y.un/\z.be.length<=y.be.length+1:=fun z mz=>by
    obtain⟨y,my,e⟩:=fU mz;refine⟨y,my,?_⟩;rw[e];split
    ·exact⟨rfl,rfl,rfl,by show(y.be++[x.pa]).length<=_;rw[zi];exact zL _⟩
    ·exact⟨rfl,rfl,rfl,YS _⟩
   refine⟨K2 _ _ hf (fun m=>by rw[ncl _ m]at hd;cases hd),_,_,_,_,_,_,⟨I.old.keep K2 ncl,N2,J2,?_,fun z mz=>?_,fun z mz=>?_⟩,fun z mz=>?_,rfl,rfl,rfl,rfl,rfl⟩
   ·rw[et]
    refine(Cj (f:=grw x.pa) (fun _=>⟨rfl,rfl,rfl,rfl⟩) (fun y my ey z hz=>.inr ⟨?_,x,mx,n,?_⟩) I.cr).snoc ⟨p1,p2,by rw[pk,rcu.ki,uk],p3,(fun z=>absurd p5 z),fun z=>absurd p5 z⟩
    ·rw[Fd nd (sub my) (sub mu) ey];exact uu
    ·rw[ep,ey]
   ·rcases z7.mp mz with mz|mz
    ·obtain⟨y,my,e1,e2,_⟩:=fr2 z mz
     rw[e1,e2];exact I.fr y my
    ·rw[zq.mp mz];exact⟨fre p6,fre p7⟩
   ·rcases z7.mp mz with mz|mz
    ·obtain⟨y,my,_,_,_,e3⟩:=fr2 z mz
     have:=I.lb y my;lia
    ·rw[zq.mp mz,p5];exact wQ _
   ·rcases z7.mp mz with mz|mz
    ·obtain⟨y,my,_,_,e3,_⟩:=fr2 z mz
     rw[e3];exact un y my
    ·rw[zq.mp mz];exact p4
 ·rintro σ' G' ⟨hf,cs,x2,x3,x4,x5,x6,I,un,rfl⟩
  walk_at "rq";refine⟨d,o,_,hf,.inl ⟨k0 _ _ hd zY,rfl,?_⟩⟩;have el:as.take (fM (.dK (as.map kyL)))=as:=Zd (by show _<=(as.map kyL).length;rw[zg];exact zL _);rw[el]at I;have ln:fM (.dK (as.map kyL))=as.length:=zg ..;have I2:=I.dict (o:=.dK (as.map kyL)) hd hch hcd0 rfl;exact c2 ch cd cs _ _ _ _ _ _ ⟨I2.old,I2.nT,I2.at_,I2.cr,I2.fr,fun c m=>by have:=I2.lb c m;lia⟩ un ad hch hcd0
structure AsI(as:List La)(m:Nat):Prop where
 nd:(as.map (·.pa)).Nodup
 len:as.length<=m
 ok:∀x∈as,POk x.pa/\(0<=x.fi/\x.fi<=145816)/\∀l,x.cu=some l->cur l=true
 top:Tp3 as
theorem As8.I{as:List La}(h:As8 as):AsI as 8:=⟨h.ok.nd,h.len,fun x m=>by
 obtain⟨i,e⟩:=List.getElem?_of_mem m;have o:=h.ok i x e;exact⟨o.po,⟨o.fi.1,by have:=o.fi.2;lia⟩,o.cu⟩,h.top⟩
def sp_Dp:Sp:=sp3 fun x y z H Q _=>NoT H/\asR x fun d=>asT y fun l=>asI z fun day=>∃as x,AcAt H d as/\(as.map (·.pa)).Nodup/\x∈as/\x.pa=l/\Q (.bl (opn x.fi x.un day)) H
theorem eh(T:Txt K mg a):Fo P w K mg base "_law_is_open" 1 sp_Dp:=by
 refine T.pi.g3 ["_law_accounts_here","_law_path_here","_law_day_here","_law_first","_law_until"] fun x0 x1 x2 fA cdv A outer s H Q E ND HU hr h=>?_;obtain⟨hN,h1⟩:=h;obtain⟨d,rfl,h2⟩:=asR.inv h1;obtain⟨l,rfl,h3⟩:=asT.inv h2;obtain⟨day,rfl,as,x,AC,nd,mx,rfl,k⟩:=asI.inv h3;have sz:=szl;refine⟨hN,_,(ae (BK (dZ (pR K) (aL (Zz HU) (fv 0) (fv 1) (fun _ _=>rfl)) (eK aa) (eK aa)) (yz K (n:=2) rfl (bf (aK (i:=3) ND rfl (Or.inl rfl)) (bf (aK (i:=4) ND rfl (Or.inl rfl)) dS))))
  (af (aC (cj (bP d4 (fv 3) (fv 2) (bY _)) (cF (Bf (rV (sJ (fv 4))) (cF (bP rj (fv 2) (fv 4) (bY _))))))))),?_⟩
 walk_at "rq";refine⟨d,.ref x.ls,rfl,AC.get nd mx,?_⟩;walk_at "rq";refine⟨x.ls,_,rfl,SqL.of (AC.ls x mx),fun p hp=>?_⟩;have s1:=ah (HO.lst (jS [cuV x.cu,V.int x.fi,cl x.un,L2.T x.ki] (some 1) (some 3))) hp;have g1:upd H p (HO.lst (jS [cuV x.cu,V.int x.fi,cl x.un,L2.T x.ki] (some 1) (some 3))) p=some (HO.lst [V.int x.fi,cl x.un]):=ad.trans rfl;generalize upd H p (HO.lst (jS [cuV x.cu,V.int x.fi,cl x.un,L2.T x.ki] (some 1) (some 3)))=G1 at s1 g1 |-
 refine⟨p,[V.int x.fi,cl x.un],rfl,SqL.of g1,rfl,_,_,rfl,_,_,rfl,rfl,?_⟩;walk_at "rq";have fin:∀b:Bool,opn x.fi x.un day=b->∃G,Gc H G G1/\Q (.bl b) G:=fun b e=>⟨H,Gc.none s1,by rw[<- e];exact k⟩;by_cases h1:x.fi<=day
 ·refine itp h1 ?_
  have e1:opn x.fi x.un day=lat x.un day:=by unfold opn;rw[decide_eq_true h1];rfl
  cases eu:x.un with
  |none=>exact itp rfl (fin _ (by rw[e1,eu];rfl))
  |some t=>exact itn (by intro z;cases z) (fin _ (by rw[e1,eu];rfl))
 ·refine itn h1 (fin _ ?_)
  unfold opn;rw[decide_eq_false h1];rfl
def tF(as:List La)(q:La->Bool)(v:V):Bool:=as.any fun x=>decide (v=L2.T x.pa)&&q x
theorem wB{as:List La}{q:La->Bool}(nd:(as.map (·.pa)).Nodup){x:La}(m:x∈as):tF as q (L2.T x.pa)=q x:=by
 unfold tF;cases e:q x with
 |true=>exact List.any_eq_true.mpr ⟨x,m,by rw[e,decide_eq_true rfl];rfl⟩
 |false=>
  refine List.any_eq_false.mpr fun y my=>?_;by_cases h:L2.T x.pa=L2.T y.pa
  ·have hp:x.pa=y.pa:=by simpa using h
   rw[<- Fd nd m my hp,e,Bool.and_false];decide
  ·rw[decide_eq_false h,YO];decide
def tk(as:List La)(day:Int)(cy:List Nat)(v:V):Bool:=tF as (fun x=>opn x.fi x.un day&&inV (cuV x.cu) [.non,L2.T cy]) v
theorem EY{as:List La}{day:Int}{cy:List Nat}(nd:(as.map (·.pa)).Nodup){x:La}(m:x∈as):tk as day cy (L2.T x.pa)=(opn x.fi x.un day&&inV (cuV x.cu) [.non,L2.T cy]):=wB nd m
theorem yP{G:Hp}{p pr:Addr}{ys:List V}{rs:List Row}(r:Row)(hpr:G pr=some (.lst ys))(hp:G p=none)(ay:A2 (RwAt G) ys rs)(nG:NoT G) :
 Keep [pr] G (upd (upd G p (.tup [L2.T r.pa,L2.T r.cu,.int r.am])) pr (.lst (ys++[.ref p])))/\NoT (upd (upd G p (.tup [L2.T r.pa,L2.T r.cu,.int r.am])) pr (.lst (ys++[.ref p])))/\upd (upd G p (.tup [L2.T r.pa,L2.T r.cu,.int r.am])) pr (.lst (ys++[.ref p])) pr=some (.lst (ys++[.ref p]))/\A2 (RwAt (upd (upd G p (.tup [L2.T r.pa,L2.T r.cu,.int r.am])) pr (.lst (ys++[.ref p])))) (ys++[.ref p]) (rs++[r]):=by
 have kG:Keep [pr] G (upd (upd G p (.tup [L2.T r.pa,L2.T r.cu,.int r.am])) pr (.lst (ys++[.ref p]))):=(Keep.refl.new hp).put (.head _);exact⟨kG,aq (aq nG rfl) rfl,ad,(dQ kG (LW.one hpr) ay).snoc ⟨p,rfl,(ag (Ne.symm (az hpr hp))).trans ad⟩⟩
def sp_zj:Sp:=sp4 fun x y z t H Q _=>NoT H/\asI x fun c=>asR y fun d=>asI z fun day=>asR t fun pc=>0<=day/\∃(as:List La) (m:Nat) (cy:List (List Nat)),H d=some (.dK (as.map kyL))/\AcAt H d as/\AsI as m/\m<=50/\H pc=some (.lst (cy.map L2.T))/\cy.length=3/\∀q vs rs H',H q=none->H' q=some (.lst vs)->A2 (RwAt H') vs rs->2<=rs.length->rs.length<=4->(∀r∈rs,(∃z∈as,z.pa=r.pa)/\r.cu∈cy/\r.am≠0 /\ -1000000000000000<=r.am/\r.am<=1000000000000000)->Same H H'->NoT H'->Q (.ref q) H'
theorem nR(T:Txt K mg a):Fo P w K mg base "_law_rows_by" 2 sp_zj:=by
 refine T.px.x4 ["_law_cell","_law_accounts_here","_law_day_here","_law_currencies_here","_law_currency","_law_paths","_law_rows","_law_total","_law_k","_law_amount"] fun x0 x1 x2 x3 fA cdv A outer s H Q E ND HU hr h=>?_;obtain⟨hN,h1⟩:=h;obtain⟨c,rfl,h2⟩:=asI.inv h1;obtain⟨d,rfl,h3⟩:=asR.inv h2;obtain⟨day,rfl,h4⟩:=asI.inv h3;obtain⟨pc,rfl,d0,as,m,cy,hd,AC,AI,m50,hpc,lcy,k⟩:=asR.inv h4;have sz:=szl;have nd:=AI.nd;have l8:=AI.len;obtain⟨c1,mc1,ec⟩:∃c1∈cy,atI (cy.map L2.T) (c % 3)=some (L2.T c1):=by
  obtain⟨j,e⟩:=Zh (ZJ c (show(3:Int)≠0 by decide));have b:=ZY c (show(0:Int)<3 by decide);rw[e]at b |-
  have hj:j<cy.length:=by lia
  exact⟨cy[j],Yh hj,av (by simp[hj])⟩
 refine⟨_,(ae (aO 4 ND (aB K (fv 3) (aj aW (fv 0) aa)))
  (ae (kl (fY (i0:=5) ND rfl (Or.inl rfl) rfl (cl:=_) (x:="_law_path_here") (xs:=["_law_path_here"]) (fr:=["_law_accounts_here","_law_day_here","_law_currency"]) (ks:=[1,2,4]) (by walk_at "cq") rfl (iW (fv 1)) (fun _ _ _ _ _=>(aK (i:=0) (bX (l:=["_law_path_here","_law_accounts_here","_law_day_here","_law_currency"]) (by decide)) rfl (Or.inl rfl))) (fun _ _ _ _ _=>(cN (iU (L2.PW.pt (dJ (bL (aH (eh T) hr kF (fa3 (fv 1) (fv 0) (fv 2)))) (cU (jP (xl K) (aB K (aL (Zz HU) (fv 1) (fv 0) (fun _ _=>rfl)) aa) (bd (fa2 cG (fv 3))) (by with_unfolding_all rfl)))))))) (fun _ _ _ _ _=>(fv 0))))
  (ae (aO 6 ND (bz (FA.pa ce)))
  (ae (aO 7 ND aa)
  (ae (cX (by passes_own) rfl (eO rfl T.gG (fa1 (aj aE aa (aj aW (aj aX (fv 0) aa) aa)))) (aK (i:=8) ND rfl (Or.inl rfl)) (ae (aO 9 ND (aj aE aa (aj aW (aj aE (aj aX (fv 0) (aj aE aa (aj cW aa (fv 8)))) (aj cW aa (fv 8))) (d6 (fa3 aa aa (aj Ct aa aa)) (aj aW (aj aX (fv 0) aa) aa) (fun _ _=>rfl)))))
  (ae (aO 7 ND (aj aE (fv 7) (fv 9)))
  (af (bB (cK K pN Zx Zy cn (fv 6) (fa1 (bd (fa3 (aB K (fv 5) (aj aW (aj aX (fv 0) (aj aE aa (aj cW aa (fv 8)))) (aD (bQ K) rfl T.cZ ci (fa1 (fv 5))))) (fv 4) (fv 9))))))))))
  (ae (bB (cK K pN Zx Zy cn (fv 6) (fa1 (bd (fa3 (aB K (fv 5) (aj aW (aj aX (fv 0) aa) (aD (bQ K) rfl T.cZ ci (fa1 (fv 5))))) (fv 4) (aj cJ aa (fv 7)))))))
  (af (aC (fv 6))))))))),?_⟩
 walk_at "rq";refine⟨_,_,.inl (SqL.of hpc),ec,?_⟩;refine cmK d (as.map kyL) (tk as day c1) (fun v=>v) (fun R r=>r) (.inl hd) (by rw[zg,um];lia) (fun v mv D ys o R hD nD r=>?_) (fun v mv _ D ys o R hD nD r=>r) fun D hD=>?_
 ·have eV:∃x∈as,v=L2.T x.pa:=by
   obtain⟨e,me,rfl⟩:=yS.mp mv;obtain⟨x,mx,rfl⟩:=yS.mp me;exact⟨x,mx,rfl⟩
  obtain⟨x,mx,rfl⟩:=eV;have et:tk as day c1 (L2.T x.pa)=(opn x.fi x.un day&&inV (cuV x.cu) [.non,L2.T c1]):=EY nd mx;rw[et]at r;have nG:NoT (upd (upd H d (HO.frz o (HO.dK (as.map kyL)))) D (HO.lst ys)):=aq (aq hN rfl) rfl;have AG:AcAt (upd (upd H d (HO.frz o (HO.dK (as.map kyL)))) D (HO.lst ys)) d as:=⟨.inr ⟨o,(ag (Ne.symm nD)).trans ad⟩,fun y my=>by
   have e:=AC.ls y my;rw[ag (az e hD),ag (bD e hd)];exact e⟩
  generalize upd (upd H d (HO.frz o (HO.dK (as.map kyL)))) D (HO.lst ys)=G at r nG AG |-
  walk_at "rq";refine⟨nG,nG,as,x,AG,nd,mx,rfl,?_⟩;cases eo:opn x.fi x.un day with
  |false=>
   rw[eo,YO]at r;exact itn (by decide) r
  |true=>
   rw[eo,Z9]at r;refine itp rfl ⟨d,.ref x.ls,rfl,AG.get nd mx,?_⟩;walk_at "rq";exact⟨_,_,.inl (SqL.of (AG.ls x mx)),av (j:=0) rfl,by walk_at "om",fun p hp=>⟨_,.inr (SqT.of ad),by cases x.cu <;> rfl,rfl,G,Gc.none (ah _ hp),r⟩⟩
 ·have vin:∀v∈((as.map kyL).map fun e=>kV e.1).filter (tk as day c1),∃x∈as,v=L2.T x.pa:=fun v m=>by
   obtain⟨e,me,rfl⟩:=yS.mp (ZV.mp m).1;obtain⟨x,mx,rfl⟩:=yS.mp me;exact⟨x,mx,rfl⟩
  have vne:0<(((as.map kyL).map fun e=>kV e.1).filter (tk as day c1)).length:=by
   obtain⟨x0,x,z,r,ea,_,⟨_,x1,x2,x3⟩,_,_⟩:=AI.top;have mx:x∈as:=by rw[ea];exact .tail _ (.head _)
   refine List.length_pos_of_mem (a:=L2.T x.pa) (ZV.mpr ⟨yS.mpr ⟨kyL x,wR mx,rfl⟩,?_⟩);rw[EY nd mx,x1,x2,x3];unfold opn;rw[decide_eq_true d0];rfl
  have vl:(((as.map kyL).map fun e=>kV e.1).filter (tk as day c1)).length<=50:=wn (Zp _ _) (by rw[zg,zg];lia);rw[show ∀l:List V,l.map (fun v=>v)=l from fun l=>YR l];generalize ((as.map kyL).map fun e=>kV e.1).filter (tk as day c1)=vs at vin vne vl |-
  have pick:∀x:Int,∃y∈as,atI vs (x % (vs.length:Int))=some (L2.T y.pa):=fun x=>by
   have p0:(0:Int)<vs.length:=by lia
   obtain⟨j,e⟩:=Zh (ZJ x (Int.ne_of_gt p0));have b:=ZY x p0;rw[e]at b |-
   have hj:j<vs.length:=by lia
   obtain⟨y,my,ey⟩:=vin vs[j] (Yh hj);exact⟨y,my,by rw[<- ey];exact av (List.getElem?_eq_getElem hj)⟩
  generalize e1:upd _ _ (HO.lst vs)=G1;obtain⟨s1,g1,N1⟩:=br e1 hD hN rfl;walk_at "rq";refine⟨wQ _,fun pr hpr=>?_⟩;generalize e2:upd _ _ (HO.lst [])=G2;obtain⟨s2,g2,N2⟩:=br e2 hpr N1 rfl;have s12:=s1.trans s2;have pr0:H pr=none:=s1.free hpr;have npr:D≠pr:=az g1 hpr;refine fX ?_;walk_at "rq";refine⟨by lia,by lia,eN (lo:=0) (n:=(1+c / 3 % 3).toNat) (fun i σ' G=>Keep [pr] G2 G/\NoT G/\∃ys rs tot x8 x9,G pr=some (.lst ys)/\A2 (RwAt G) ys rs/\rs.length=i/\((i:Int)<=tot/\tot<=100000000000000*i)/\(∀r∈rs,(∃z∈as,z.pa=r.pa)/\r.cu∈cy/\r.am≠0 /\ -1000000000000000<=r.am/\r.am<=1000000000000000)/\σ'=[some (.int c),some (.ref d),some (.int day),some (.ref pc),some (L2.T c1),some (.ref D),some (.ref pr),some (.int tot),x8,x9]) ⟨Keep.refl,N2,[],[],_,_,_,g2,.nil,rfl,⟨by lia,by lia⟩,(fun _ m=>nomatch m),rfl⟩ ?_ ?_⟩
  ·rintro i σ' G hi ⟨kp,nG,ys,rs,tot,x8,x9,hpr',ay,lrs,ht,hin,rfl⟩
   have gD:=kp _ _ (s2 _ _ g1) (by simpa using npr);have li:i<4:=by lia
   obtain⟨y,my,ey⟩:=pick (c / (11+5*(0+(i:Int))));have ly:=ay.len;have pos:0<([9,1000,10 ^ Int.toNat 14]:List Int).getD (c / 9 % 3).toNat 0/\([9,1000,10 ^ Int.toNat 14]:List Int).getD (c / 9 % 3).toNat 0<=100000000000000:=by
    rcases(by lia:c / 9 % 3=0\/c / 9 % 3=1\/c / 9 % 3=2) with e|e|e <;> rw[e] <;> decide
   walk_at "rq";refine⟨⟨by lia,by lia⟩,nG,by decide,by walk_at "om",fun _ _=>zV (ns:=[9,1000,10 ^ Int.toNat 14]) (by lia) (by show _<(3:Int);lia) ?_⟩;generalize ([9,1000,10 ^ Int.toNat 14]:List Int).getD (c / 9 % 3).toNat 0=md at pos;walk_at "rq";refine⟨pos.1,.inl ⟨_,SqL.of hpr'⟩,⟨by lia,by lia⟩,_,.inl (SqL.of gD),by lia,_,_,.inl (SqL.of gD),ey,by walk_at "om",fun p hp=>⟨pr,ys,_,rfl,rfl,(ag (az hpr' hp)).trans hpr',by lia,?_⟩⟩;obtain⟨q1,q2,q3,q4⟩:=yP ⟨y.pa,c1,1+(c / (9+14*(0+(i:Int)))+7*(0+(i:Int))) % md⟩ hpr' hp ay nG;have a0:=ZJ (c / (9+14*(0+(i:Int)))+7*(0+(i:Int))) (Int.ne_of_gt pos.1);have a1:=ZY (c / (9+14*(0+(i:Int)))+7*(0+(i:Int))) pos.1;generalize (c / (9+14*(0+(i:Int)))+7*(0+(i:Int))) % md=am at a0 a1 q1 q2 q3 q4 |-
   have pm:=pos.2;refine⟨kp.trans q1,q2,_,_,_,_,_,q3,q4,by rw[zi,lrs];rfl,⟨by lia,by lia⟩,fun r m=>?_,rfl,rfl,rfl⟩;rcases z7.mp m with m|m
   ·exact hin r m
   ·rw[zq.mp m];exact⟨⟨y,my,rfl⟩,mc1,by dsimp only;lia,by dsimp only;lia,by dsimp only;lia⟩
  ·rintro σ' G ⟨kp,nG,ys,rs,tot,x8,x9,hpr',ay,lrs,ht,hin,rfl⟩
   have gD:=kp _ _ (s2 _ _ g1) (by simpa using npr);obtain⟨y,my,ey⟩:=pick (c / 13);have ly:=ay.len;walk_at "rq";refine⟨.inl ⟨_,SqL.of hpr'⟩,_,.inl (SqL.of gD),by lia,_,_,.inl (SqL.of gD),ey,by walk_at "om",fun p hp=>⟨pr,ys,_,rfl,rfl,(ag (az hpr' hp)).trans hpr',by lia,?_⟩⟩;obtain⟨q1,q2,q3,q4⟩:=yP ⟨y.pa,c1,0-tot⟩ hpr' hp ay nG;refine k pr _ _ _ pr0 q3 q4 (by rw[zi,Zw];lia) (by rw[zi,Zw];lia) (fun r m=>?_) (fun p o e=>(kp.trans q1) _ _ (s12 _ _ e) fun m=>by rw[zq.mp m,pr0]at e;cases e) q2;rcases z7.mp m with m|m
   ·exact hin r m
   ·rw[zq.mp m];exact⟨⟨y,my,rfl⟩,mc1,by dsimp only;lia,by dsimp only;lia,by dsimp only;lia⟩
def Gk(as:List La)(l:List Nat):List Nat:=((as.find? fun x=>decide (x.pa=l)).map (·.ki)).getD []
abbrev GC:List (List Nat):=[[103,97,105,110],[99,111,115,116]]
def gcB(as:List La)(l:List Nat):Bool:=decide (Gk as l∈GC)
theorem BW(l:List Nat):∀ls:List (List Nat),inV (L2.T l) (ls.map L2.T)=decide (l∈ls)
 | []=>rfl
 |x::r=>by
  have ih:=BW l r;unfold inV at ih |-
  rw[xa,YZ,ih];by_cases c:x=l
  ·subst c;simp[eqV]
  ·have c2:¬ l=x:=fun z=>c z.symm
   simp[eqV,c,c2]
structure Ix(C A:Addr)(H:Hp)(p:Addr)(as:List La)(d:Addr)(cs:List Acc):Prop where
 at_:CAt C A H p d cs
 kd:∀x∈as,∃c∈cs,c.pa=x.pa/\c.ki=L2.T x.ki
def Due(H:Hp)(Q:VK)(g:List Nat->Bool)(p:List Nat)(rs:List Row):Prop:=∀out out2 r ws H',out.Perm ((dk rs).map (·.1))->jq out->out2.Perm ((dk (mvd p (gh g rs out))).map (·.1))->jq out2->H r=none->H' r=some (.lst ws)->A2 (RwAt H') ws (due g p rs out out2)->(due g p rs out out2).length<=60->(∀r∈due g p rs out out2,(r.pa=p\/∃r0∈rs,r.pa=r0.pa)/\∃r0∈rs,r.cu=r0.cu)->Same H H'->NoT H'->Q (.ref r) H'
structure BsOk(as:List La)(cy:List (List Nat))(bs:List Bk):Prop where
 l1:bs.length<=40
 l2:∀b∈bs,b.rs.length<=60
 mem:∀b∈bs,∀r∈b.rs,r.pa∈as.map (·.pa)/\r.cu∈cy
theorem BsOk.row{as:List La}{cy:List (List Nat)}{bs:List Bk}(h:BsOk as cy bs){t:Int}:∀r∈rsd t bs,r.pa∈as.map (·.pa)/\r.cu∈cy:=fun r m=>by
 obtain⟨b,mb,mr⟩:=Et m;exact h.mem b mb r mr
theorem BsOk.few{as:List La}{cy:List (List Nat)}{bs:List Bk}(h:BsOk as cy bs)(la:as.length<=18)(lc:cy.length=3){t:Int}:(dk (rsd t bs)).length<=54:=by
 have:=Cc (h.row (t:=t));rw[zg,lc]at this;lia
def sp_Aj(J C A:Addr):Sp:=sp4 fun x y z t H Q _=>NoT H/\asR x fun ch=>asR y fun j=>asT z fun path=>asI t fun yr=>∃b u vs kvs bs as cy d cs,JAt J H j b u vs kvs/\A2 (BkAt H) vs bs/\BsOk as cy bs/\as.length<=18/\cy.length=3/\(as.map (·.pa)).Nodup/\Ix C A H ch as d cs /\
 Due H Q (gcB as) path (rsd (FD (12*(yr-2000)+11+1)-1) bs)
theorem Ig{as:List La}(nd:(as.map (·.pa)).Nodup){x:La}(m:x∈as):Gk as x.pa=x.ki:=by
 unfold Gk
 induction as with
 |nil=>cases m
 |cons y r ih=>
  rw[xa]at nd;obtain⟨n1,n2⟩:=ZW.mp nd;by_cases c:y.pa=x.pa
  ·rw[List.find?_cons_of_pos (by exact decide_eq_true c)]
   rcases zZ.mp m with rfl|m
   ·rfl
   ·exact absurd (c ▸ wR (f:=(·.pa)) m) n1
  ·rw[List.find?_cons_of_neg (by simpa using c)]
   rcases zZ.mp m with rfl|m
   ·exact absurd rfl c
   ·exact ih n2 m
theorem E1{as:List La}(nd:(as.map (·.pa)).Nodup){x:La}(m:x∈as){l:List Nat}(e:x.pa=l):inV (L2.T x.ki) [L2.T [103,97,105,110],L2.T [99,111,115,116]]=gcB as l:=by
 unfold gcB;rw[<- e,Ig nd m];exact BW x.ki GC
theorem Ez(x:V):wO (zf "kind_of") [(zf "by_path",x)]=none:=by rw[aU (by decide +kernel)];rfl
theorem qH(T:Txt K mg a):Fo P w K mg base "carry_rows" 4 (sp_Aj a.aQ a.aR a.aM):=by
 refine T.r6.x4 ["chart","journal","path","year","day","carried"] fun x0 x1 x2 x3 fA cdv A outer s H Q E ND HU hr h=>?_;obtain⟨hN,h1⟩:=h;obtain⟨ch,rfl,h2⟩:=asR.inv h1;obtain⟨j,rfl,h3⟩:=asR.inv h2;obtain⟨path,rfl,h4⟩:=asT.inv h3;obtain⟨yr,rfl,b,u,vs,kvs,bs,as,cy,d,cs,JJ,hv,ok,la,lc,nd,CH,k⟩:=asI.inv h4;have sz:=szl;have sz1:=Ji;refine⟨_,(ae (aO 4 ND (aH (fI T) hr aA (fa1 (aj aE (aj cW aa (aj cJ (fv 3) aa)) aa))))
  (ae (fY (i0:=5) ND rfl (Or.inl rfl) rfl (cl:=_) (x:="row") (xs:=["row"]) (fr:=["chart"]) (ks:=[0]) (by walk_at "cq") rfl (bM K (aH (m5 T) hr aA (fa3 (fv 0) (fv 1) (fv 4)))) (fun _ _ _ _ _=>(aK (i:=0) (bX (l:=["row","chart"]) (by decide)) rfl (Or.inl rfl))) (fun _ _ _ _ _=>(cN (iU (jP (xl K) (b7 (fv 1) T.bw (fW T) (hr.mono (by decide)) kF (fa1 (aB K (fv 0) aa))) (bd (fa2 (ak [103,97,105,110]) (ak [99,111,115,116]))) (by with_unfolding_all rfl))))) (fun _ _ _ _ _=>(fv 0)))
  (af (aC (aj gw (bh (kX K) rfl T.mH i5 (fa1 (aH (rB T) hr aA (fa1 (fv 5))))) (aH (qe T) hr aA (fa1 (bN rfl (cl:=_) (x:="row") (xs:=["row"]) (fr:=["path"]) (ks:=[2]) (by walk_at "cq") rfl (bM K (fv 5)) (fun _ _ _ _ _=>(aK (i:=0) (bX (l:=["row","path"]) (by decide)) rfl (Or.inl rfl))) (fun _ _ _ _ _=>dH) (fun _ _ _ _ _=>(bd (fa3 (fv 1) (aB K (fv 0) aa) (aB K (fv 0) aa)))))))))))),?_⟩
 walk_at "rq";refine⟨hN,?_⟩;refine gU ?_;walk_at "rq";have few:=ok.few la lc (t:=FD (12*(yr-2000)+11+1)-1);refine⟨hN,b,u,vs,kvs,bs,JJ,hv,ok.l1,ok.l2,by lia,?_⟩;intro out r ws H1 po oo hr hr1 a1 s1 N1;have row:=ok.row (t:=FD (12*(yr-2000)+11+1)-1);unfold Due at k;have lo:out.length<=54:=by rw[po.length_eq,zg];exact few
 generalize rsd (FD (12*(yr-2000)+11+1)-1) bs=rs at po a1 k row |-
 have inA:∀z∈res rs out,(∃x∈as,x.pa=z.pa)/\z.cu∈cy:=fun z m=>by
  obtain⟨r0,mr,e⟩:=(iB rs).2.1 _ (po.mem_iff.mp (oj m).1);obtain⟨e1,e2⟩:=Prod.mk.inj e;obtain⟨x,mx,ex⟩:=yS.mp (row r0 mr).1;exact⟨⟨x,mx,ex.trans e1.symm⟩,e2 ▸ (row r0 mr).2⟩
 have lr:=i7 rs out;have lw:=a1.len;have CH1:=CH.at_.same s1;refine⟨r,rfl,⟨_,SqL.of hr1⟩,ceA RwAt.mv r ws (res rs out) (RwAt H1) (fun z=>gcB as z.pa) id hr1 N1 a1 (by lia) (fun v z mz hz G zs M1 M0 sG nG hzs n1 n0=>?_) fun D ws2 G hD sG nG gD aG=>?_⟩
 ·obtain⟨q,rfl,hq⟩:=hz
  have hq:=sG _ _ hq;obtain⟨z1,rfl⟩:=ex1 hzs;obtain⟨⟨x,mx,ex⟩,_⟩:=inA z mz;obtain⟨c,mc,c1,c2⟩:=CH.kd x mx;have CG:=CH1.same sG;obtain⟨dx,hch⟩:=CG.ob;walk_at "rq";refine⟨⟨[_],rfl,rfl⟩,nG,dx,_,hch,Ez _,_,_,.inr (SqT.of hq),av (j:=0) rfl,nG,?_⟩;walk_at "rq";refine⟨d,cs,CG,?_⟩;rw[vh,<- ex,<- c1,jF CG.np mc];refine⟨by walk_at "om",fun p1 hp1=>⟨_,.inr (SqT.of ad),by rw[c2];rfl,rfl,G,Gc.none (ah _ hp1),?_⟩⟩;rw[c2,E1 nd mx ex];cases e:gcB as z.pa with
  |true=>exact itp rfl (n1 e _ _ (Same.refl _) nG ⟨q,rfl,hq⟩)
  |false=>exact itn (by decide) (n0 e _ (Same.refl _) nG)
 ·walk_at "rq"
  have aG:A2 (RwAt G) ws2 (gh (gcB as) rs out):=by rw[YR]at aG;exact aG
  have lc1:(gh (gcB as) rs out).length<=54:=wn (Zp _ _) (by lia);have cin:∀z∈gh (gcB as) rs out,z.cu∈cy:=fun z m=>(inA z (ZV.mp m).1).2;refine⟨nG,ws2,_,.inl gD,aG,by lia,fun t ts H2 ht ht2 at2 s2 N2=>⟨ts,.inr (SqT.of ht2),fun l hl=>?_⟩⟩;have s3:=s2.trans (ah (HO.lst ts) hl);have N3:NoT (upd H2 l (HO.lst ts)):=aq N2 rfl;have gl:upd H2 l (HO.lst ts) l=some (HO.lst ts):=ad;have at3:=bt (ah (HO.lst ts) hl) at2;have l0:G l=none:=s2.free hl;generalize upd H2 l (HO.lst ts)=G3 at s3 N3 gl at3 |-
  refine gU ?_;walk_at "rq";have lc2:=aG.len;refine⟨⟨_,SqL.of (s3 _ _ gD)⟩,ceA RwAt.mv D ws2 _ (RwAt G3) (fun _=>true) (fun z=>⟨path,z.cu,z.am⟩) (s3 _ _ gD) N3 (bt s3 aG) (by lia) (fun v z mz hz F zs M1 M0 sF nF hzs n1 n0=>?_) fun D2 ws3 F hD2 sF nF gF aF=>?_⟩
  ·obtain⟨q,rfl,hq⟩:=hz
   have hq:=sF _ _ hq;obtain⟨z1,rfl⟩:=ex1 hzs;walk_at "rq";exact⟨⟨[_],rfl,rfl⟩,_,_,.inr (SqT.of hq),av (j:=1) rfl,_,_,.inr (SqT.of hq),av (j:=2) rfl,by walk_at "om",fun p1 hp1=>n1 rfl _ _ (ah _ hp1) (aq nF rfl) ⟨p1,rfl,ad⟩⟩
  ·rw[Zm.mpr (fun _ _=>rfl)]at aF
   have aF:A2 (RwAt F) ws3 (mvd path (gh (gcB as) rs out)):=aF;walk_at "rq";have few2:(dk (mvd path (gh (gcB as) rs out))).length<=3:=by
    have:=Cc (rs:=mvd path (gh (gcB as) rs out)) (ps:=[path]) (cu:=cy) fun r m=>by
     obtain⟨z,mz,rfl⟩:=yS.mp m;exact⟨zq.mpr rfl,cin z mz⟩
    rw[lc]at this;simpa using this
   refine⟨nF,ws3,_,gF,aF,by unfold mvd;rw[zg];lia,Y0 few2 (by decide),?_⟩;intro out2 r3 ws4 H4 po2 oo2 hr3 hr4 a4 s4 N4;walk_at "rq";have l4:=a4.len;have l5:=at3.len;have lo2:=po2.length_eq;rw[zg]at lo2;have l6:=i7 (mvd path (gh (gcB as) rs out)) out2;have l7:(trn (gh (gcB as) rs out)).length=(gh (gcB as) rs out).length:=zg ..;have sl:=sF.trans s4;refine⟨ts,ws4,sl _ _ gl,hr4,by lia,fun p5 hp5=>?_⟩;have s5:=ah (HO.lst (ts++ws4)) hp5;have dl:(due (gcB as) path rs out out2).length<=60:=by unfold due;rw[zi];lia
   have cin2:∀z∈gh (gcB as) rs out,∃r0∈rs,z.pa=r0.pa/\z.cu=r0.cu:=fun z m=>by
    obtain⟨r0,mr,e⟩:=(iB rs).2.1 _ (po.mem_iff.mp (oj (ZV.mp m).1).1);obtain⟨e1,e2⟩:=Prod.mk.inj e;exact⟨r0,mr,e1,e2⟩
   have dm:∀z∈due (gcB as) path rs out out2,(z.pa=path\/∃r0∈rs,z.pa=r0.pa)/\∃r0∈rs,z.cu=r0.cu:=fun z m=>by
    rcases z7.mp m with m|m
    ·obtain⟨y,my,rfl⟩:=yS.mp m
     obtain⟨r0,mr,e1,e2⟩:=cin2 y my;exact⟨.inr ⟨r0,mr,e1⟩,r0,mr,e2⟩
    ·obtain⟨y,my,e⟩:=(iB _).2.1 _ (po2.mem_iff.mp (oj m).1)
     obtain⟨e1,e2⟩:=Prod.mk.inj e;obtain⟨y0,m0,rfl⟩:=yS.mp my;obtain⟨r0,mr,e3,e4⟩:=cin2 y0 m0;exact⟨.inl e1,r0,mr,e2.trans e4⟩
   exact k out out2 p5 _ _ po oo po2 oo2 (((s1.trans sG).trans (s3.trans sl)).free hp5) ad ((bt s5 (bt sl at3)).app (bt s5 a4)) dl dm (((s1.trans sG).trans (s3.trans sl)).trans s5) (aq N4 rfl)
abbrev oa:List Nat:=[111,119,110]
def kpP(a:Adr)(cs:List Acc)(y:V)(t:Int)(e:Addr->Prop)(q:Prop):Prop:=match acV cs y with
 |none=>e a.aS
 |some c=>if c.ki=L2.T oa then (if opn c.fi c.un t=true then q else e a.a9) else e a.bn
def sp_z7(a:Adr):Sp:=sp3 fun x y z H Q E=>NoT H/\asR x fun p=>asI z fun t=>∃d cs,CAt a.aR a.aM H p d cs/\(∀c∈cs,∃kd,c.ki=L2.T kd)/\asK H y fun _=>kpP a cs y t (fun e=>E (.ref e) none H) (Q .non H)
theorem oW(T:Txt K mg a):Fo P w K mg base "need_keeper" 4 (sp_z7 a):=by
 refine T.qv.g3 ["chart","path","day"] fun x0 x1 x2 fA cdv A outer s H Q E ND HU hr h=>?_;obtain⟨hN,h1⟩:=h;obtain⟨p,rfl,h2⟩:=asR.inv h1;obtain⟨t,rfl,d,cs,J,hk,h3⟩:=asI.inv h2;obtain⟨tt,ht,hb,k⟩:=asK.inv h3;have sz:=szl;obtain⟨dx,hp⟩:=J.ob;unfold kpP at k;refine⟨hN,_,(ae (a6 (aN (cE K HU) (b7 (fv 0) T.bw (fW T) (hr.mono (by decide)) aA (fa1 (fv 1))) (ak [111,119,110])) (af (cC T.rM T.mW bA)) aJ)
  (af (a6 (bR (bL (b7 (fv 0) T.bw (f8 T) (hr.mono (by decide)) aA (fa2 (fv 1) (fv 2))))) (af (cC T.i_ T.fS bA)) aJ))),?_⟩
 walk_at "rd";refine⟨_,_,hp,aU (by decide +kernel),hN,d,cs,J,asK.of ht ?_⟩;cases e:acV cs x1 with
 |none=>rw[e]at k;exact k
 |some c=>
  rw[e]at k;have hc:c∈cs/\x1=L2.T c.pa:=by
   cases es:isS x1 with
   |false=>rw[tB es]at e;cases e
   |true=>
    obtain⟨l,rfl⟩:=vg es;exact⟨(ow e).1,by rw[(ow e).2]⟩
  obtain⟨hc,rfl⟩:=hc;obtain⟨kd,ek⟩:=hk c hc;dsimp only at k |-
  rw[ek]at k |-
  walk_at "rd";by_cases h:kd=oa
  ·rw[if_pos (by rw[h])]at k
   refine itp h ⟨_,_,hp,aU (by decide +kernel),hN,d,cs,c,J,hc,rfl,?_⟩;cases ho:opn c.fi c.un t with
   |false=>rw[ho,if_neg (by decide)]at k;exact itp rfl ⟨by walk_at "om",k⟩
   |true=>rw[ho,if_pos rfl]at k;exact itn (by decide) k
  ·rw[if_neg (fun z=>h (by simpa using z))]at k
   exact itn h ⟨by walk_at "om",k⟩
def ncB(cu:V)(l:List Nat)(rs:List Row):Bool:=match cu with
 | .str s=>rs.any fun r=>decide (r.pa=l) && !decide (r.cu=s.cps.toList)
 |_=>false
def CuV(v:V):Prop:=v = .non\/∃l,v=L2.T l
def sp_Ev(a:Adr):Sp:=sp3 fun x y z H Q E=>NoT H/\asR x fun p=>asT y fun l=>asR z fun q=>∃d cs c vs rs,CAt a.aR a.aM H p d cs/\c∈cs/\c.pa=l/\CuV c.cu/\H q=some (.lst vs)/\A2 (RwAt H) vs rs/\rs.length<=60/\(ncB c.cu l rs=false->Q .non H)/\(ncB c.cu l rs=true->E (.ref a.aP) none H)
theorem jR(T:Txt K mg a):Fo P w K mg base "need_currencies" 4 (sp_Ev a):=by
 refine T.j0.g3 ["chart","path","rows","held"] fun x0 x1 x2 fA cdv A outer s H Q E ND HU hr h=>?_;obtain⟨hN,h1⟩:=h;obtain⟨p,rfl,h2⟩:=asR.inv h1;obtain⟨l,rfl,h3⟩:=asT.inv h2;obtain⟨q,rfl,d,cs,c,vs,rs,J,hc,rfl,hcu,hq,ha,len,k1,kc⟩:=asR.inv h3;have sz:=szl;have lv:=ha.len;obtain⟨dx,hp⟩:=J.ob;refine⟨hN,_,(ae (aO 3 ND (b7 (fv 0) T.bw (iq T) (hr.mono (by decide)) aA (fa1 (fv 1))))
  (af (a6 (iU (L2.PW.pt (dJ (dX (dq (fv 3))) (cU (bL (aD (yM K rfl) rfl T.EX A3 (fa1 (bN rfl (cl:=_) (x:="row") (xs:=["row"]) (fr:=["path","held"]) (ks:=[1,3]) (by walk_at "cq") rfl (bM K (fv 2)) (fun _ _ _ _ _=>(aK (i:=0) (bX (l:=["row","path","held"]) (by decide)) rfl (Or.inl rfl))) (fun _ _ _ _ _=>dH) (fun _ _ _ _ _=>(cj (bP (bF K HU) (aB K (fv 0) aa) (fv 1) (bY _)) (cF (bP (cE K HU) (aB K (fv 0) aa) (fv 2) (bY _))))))))))))) (af (cC T.jx T.fN bA)) aJ))),?_⟩
 walk_at "rd";refine⟨_,_,hp,aU (by decide +kernel),hN,d,cs,c,J,hc,rfl,?_⟩;refine⟨hN,?_⟩;rcases hcu with e|⟨hl,e⟩
 ·exact itp e (k1 (by rw[e];rfl))
 ·rw[e]at k1 kc
  refine itn (by rw[e];intro z;cases z) (gU ?_);rw[e];walk_at "rd";refine⟨⟨vs,SqL.of hq⟩,ceA (S:=fun _ v c=>v = .bl c) (fun _ _ _ _ _ h=>h) q vs rs (RwAt H) (fun _=>true) (fun r=>decide (r.pa=c.pa) && !decide (r.cu=hl)) hq hN ha (by lia) (fun v r mr rr G zs N1 N0 sG nG hz n1 n0=>?_) fun D ws G hD sG nG gD aG=>?_⟩
  ·obtain⟨q1,rfl,hq1⟩:=rr
   have hq1:=sG _ _ hq1;obtain⟨z1,rfl⟩:=ex1 hz;have fin:=n1 rfl _ _ (Same.refl _) nG rfl;walk_at "rd";refine⟨⟨[_],rfl,rfl⟩,_,_,.inr (SqT.of hq1),av (j:=0) rfl,?_⟩;walk_at "rd";by_cases h1:r.pa=c.pa
   ·rw[decide_eq_true h1,Z9]at fin
    refine itp h1 ⟨_,_,.inr (SqT.of hq1),av (j:=1) rfl,?_⟩;show io K true (L2.T r.cu) (L2.T hl) G N1;walk_at "rd";exact fin
   ·rw[decide_eq_false h1,YO]at fin
    exact itn h1 fin
  ·walk_at "rd"
   rw[Zm.mpr (fun _ _=>rfl)]at aG;have ew:=Bz aG;rw[ew]at gD;refine⟨_,SqL.of gD,H,Gc.none sG,?_⟩;have eb:(rs.map fun r=>decide (r.pa=c.pa) && !decide (r.cu=hl)).any id=ncB (L2.T hl) c.pa rs:=by rw[List.any_map];rfl
   rw[eb];cases hb:ncB (L2.T hl) c.pa rs with
   |true=>exact itp rfl ⟨by lia,H,Gc.refl,kc hb⟩
   |false=>exact itn (by decide) ⟨H,Gc.refl,k1 hb⟩
structure Bx where
 k:Int
 d:Int
 nt:List Nat
 rs:List Row
 un:Option Int
def Bx.bk(b:Bx):Bk:=⟨b.k,b.d,b.rs⟩
def BxAt(H:Hp)(v:V)(b:Bx):Prop:=∃q t vs,v = .ref q/\H q=some (.tup [.int b.k,.int b.d,L2.T b.nt,.ref t,cl b.un])/\H t=some (.tup vs)/\A2 (RwAt H) vs b.rs
theorem ud{H:Hp}{vs:List V}{bx:List Bx}(h:A2 (BxAt H) vs bx):A2 (BkAt H) vs (bx.map Bx.bk):=by
 induction h with
 |nil=>exact .nil
 |cons r _ ih=>
  obtain⟨q,t,ws,e,h1,h2,h3⟩:=r;exact .cons ⟨q,t,ws,_,_,e,h1,h2,h3⟩ ih
def Kt(H H':Hp):Prop:=∀t l,H t=some (.tup l)->H' t=some (.tup l)
theorem Kt.same{H H':Hp}(s:Same H H'):Kt H H':=fun _ _ e=>s _ _ e
theorem BxAt.mv{H H':Hp}(k:Kt H H'){v:V}{b:Bx}(h:BxAt H v b):BxAt H' v b:=by
 obtain⟨q,t,vs,e,h1,h2,h3⟩:=h;exact⟨q,t,vs,e,k _ _ h1,k _ _ h2,h3.imp fun v r _ _ z=>RwAt.mv _ _ v r k z⟩
theorem SeAt.mv{H H':Hp}(k:Kt H H'){t:Addr}{m n:Int}{rs:List Row}(h:SeAt H t m n rs):SeAt H' t m n rs:=by
 obtain⟨tr,ws,h1,h2,h3⟩:=h;exact⟨tr,ws,k _ _ h1,k _ _ h2,h3.imp fun v r _ _ z=>RwAt.mv _ _ v r k z⟩
structure Se where
 m:Int
 n:Int
 rs:List Row
def SeV(H:Hp)(v:V)(s:Se):Prop:=∃t,v = .ref t/\SeAt H t s.m s.n s.rs
theorem SeV.mv{H H':Hp}(k:Kt H H'){v:V}{s:Se}(h:SeV H v s):SeV H' v s:=by
 obtain⟨t,e,h⟩:=h;exact⟨t,e,h.mv k⟩
noncomputable def srt(X:List Pt):List Pt:=Classical.epsilon fun out=>out.Perm X/\jq out
theorem wE{X out:List Pt}(p:out.Perm X)(o:jq out):srt X=out:=by
 have h:=Classical.epsilon_spec (p:=fun out:List Pt=>out.Perm X/\jq out) ⟨out,p,o⟩;exact ri (h.1.trans p.symm) h.2 o
noncomputable def Ch(rs:List Row):List Row:=res rs (srt ((dk rs).map (·.1)))
theorem yj{rs:List Row}{out:List Pt}(p:out.Perm ((dk rs).map (·.1)))(o:jq out):res rs out=Ch rs:=by unfold Ch;rw[wE p o]
noncomputable def DJ(g:List Nat->Bool)(p:List Nat)(rs:List Row):List Row:=due g p rs (srt ((dk rs).map (·.1))) (srt ((dk (mvd p (gh g rs (srt ((dk rs).map (·.1)))))).map (·.1)))
theorem ya{g:List Nat->Bool}{p:List Nat}{rs:List Row}{out out2:List Pt}(h1:out.Perm ((dk rs).map (·.1)))(o1:jq out)(h2:out2.Perm ((dk (mvd p (gh g rs out))).map (·.1)))(o2:jq out2):due g p rs out out2=DJ g p rs:=by
 unfold DJ;rw[wE h1 o1,wE h2 o2]
structure Vr where
 o:Option Int
 bx:List Bx
 se:List Se
abbrev wl:List Nat:=[99,97,114,114,121]
abbrev fO(M:Int):Int:=FD (M+1)-1
noncomputable def jM(as:List La)(bx:List Bx)(M:Int)(l:List Nat):List Row:=DJ (gcB as) l (rsd (fO M) (bx.map Bx.bk))
noncomputable def nxB(as:List La)(bx:List Bx)(M:Int)(l:List Nat):List Bx:=match jM as bx M l with
 | []=>bx
 |r::rs=>bx++[⟨bx.length,fO M,wl,r::rs,none⟩]
noncomputable def nxS(bx:List Bx)(M:Int):Se:=⟨M,mny (fO M) (bx.map Bx.bk),Ch (rsd (fO M) (bx.map Bx.bk))⟩
def acL(as:List La)(y:V):Option La:=match y with
 | .str s=>as.find? fun x=>decide (x.pa=s.cps.toList)
 |_=>none
noncomputable def clK(as:List La)(bx:List Bx)(M:Int)(y:V):Nat:=match acL as y with
 |none=>3
 |some z=>if z.ki=oa then (if opn z.fi z.un (fO M)=true then (if ncB (cuV z.cu) z.pa (jM as bx M z.pa)=true then 6 else 0) else 5) else 4
noncomputable def cls(as:List La)(v:Vr)(x y:V):Nat:=match x with
 | .int M=>if 0<=M/\M<=4799 then (if v.o=none\/v.o=some (M-1) then (if M % 12=11 then clK as v.bx M y else 0) else 2) else 1
 |_=>1
noncomputable def nxV(as:List La)(v:Vr)(M:Int)(y:V):Vr:=
 let bx:=if M % 12=11 then (match acL as y with|none=>v.bx|some z=>nxB as v.bx M z.pa) else v.bx
 ⟨some M,bx,v.se++[nxS bx M]⟩
def clE(a:Adr):Nat->Addr
 |1=>a.a8
 |2=>a.bj
 |3=>a.aS
 |4=>a.bn
 |5=>a.a9
 |_=>a.aP
def clW:Nat->List Nat
 |0=>[]
 |1=>[109,111,110,116,104]
 |2=>[110,101,120,116]
 |3=>[97,99,99,111,117,110,116]
 |4=>[107,105,110,100]
 |5=>[111,112,101,110]
 |_=>[99,117,114,114,101,110,99,121]
theorem EF{al:List La}{cs:List Acc}{as:List La}(h:A2 (CF al) cs as)(y:V):(acV cs y=none/\acL as y=none)\/∃c z,acV cs y=some c/\acL as y=some z/\c∈cs/\z∈as/\CF al c z/\y=L2.T z.pa:=by
 cases es:isS y with
 |false=>
  refine .inl ⟨tB es,?_⟩;cases y with
  |str s=>cases es
  |_=>rfl
 |true=>
  obtain⟨l,rfl⟩:=vg es;show(fnd cs l=none/\as.find? (fun x=>decide (x.pa=l))=none)\/∃c z,fnd cs l=some c/\as.find? (fun x=>decide (x.pa=l))=some z/\_;unfold fnd
  induction h with
  |nil=>exact .inl ⟨rfl,rfl⟩
  | @cons c z cs as r _ ih=>
   by_cases e:z.pa=l
   ·refine .inr ⟨c,z,?_,?_,.head _,.head _,r,by rw[e]⟩
    ·rw[List.find?_cons_of_pos (by rw[r.pa];exact decide_eq_true e)]
    ·rw[List.find?_cons_of_pos (by exact decide_eq_true e)]
   ·rw[List.find?_cons_of_neg (by rw[r.pa];simpa using e),List.find?_cons_of_neg (by simpa using e)]
    rcases ih with ih|⟨c,z,e1,e2,m1,m2,r,e3⟩
    ·exact .inl ih
    ·exact .inr ⟨c,z,e1,e2,.tail _ m1,.tail _ m2,r,e3⟩
structure Wd where
 ch:Addr
 cd:Addr
 g:Addr
 gx:Addr
 j:Addr
 b:Addr
 u:Addr
 d:Addr
 sl:Addr
 sb:Addr
 md:Addr
 mr:Addr
 ml:Addr
 as:List La
 cs:List Acc
 f:Int
def cad(W:Wd):List Addr:=W.ch::W.d::W.cd::(W.cs.map (·.bl)++W.cs.map (·.ob)++W.as.map (·.ls))
def sad(W:Wd):List Addr:=[W.j,W.sl,W.b,W.u,W.sb,W.g]
def mad(W:Wd):List Addr:=[W.md,W.mr,W.ml]
def own(W:Wd):List Addr:=cad W++(sad W++mad W)
structure ChP(a:Adr)(m:Nat)(H:Hp)(W:Wd):Prop where
 ca:CAt a.aR a.aM H W.ch W.cd W.cs
 cf:A2 (CF W.as) W.cs W.as
 bl:∀c∈W.cs,c.be.length<=m
 dd:H W.d=some (.dK (W.as.map kyL))
 ls:∀x∈W.as,H x.ls=some (laL x)
 ai:AsI W.as m
 ne:W.cd≠W.d
structure Sd(a:Adr)(H:Hp)(W:Wd)(v:Vr):Prop where
 ga:H W.g=some (cR a.a_ W.gx (cl v.o))
 ja:∃bs,JAt a.aQ H W.j W.b W.u bs []/\A2 (BxAt H) bs v.bx
 sa:∃ss,SlAt a.cM H W.sl W.sb ss/\A2 (SeV H) ss v.se
 ne:W.b≠W.sb
abbrev kyR:Key:=.inr ⟨⟨[114,111,119,115]⟩⟩
abbrev kyS:Key:=.inr ⟨⟨[115,101,97,108,115]⟩⟩
abbrev kyC:Key:=.inr ⟨⟨[99,108,111,115,101,100]⟩⟩
abbrev kyF:Key:=.inr ⟨⟨[102,105,114,115,116]⟩⟩
def mnD(W:Wd)(o:Option Int):HO:=.dK [(kyR,.ref W.mr),(kyS,.ref W.ml),(kyC,cl o),(kyF,.int W.f)]
structure Mn(H:Hp)(W:Wd)(v:Vr):Prop where
 hm:H W.md=some (mnD W v.o)
 hr:∃bs,H W.mr=some (.lst bs)/\A2 (BxAt H) bs v.bx
 hs:∃ss,H W.ml=some (.lst ss)/\A2 (SeV H) ss v.se
 ne:W.mr≠W.ml
structure VOk(as:List La)(cy:List (List Nat))(n:Nat)(v:Vr):Prop where
 bo:BsOk as cy (v.bx.map Bx.bk)
 nk:∀(i:Nat) x,v.bx[i]? = some x->x.k=i/\x.un=none
 cr:∀x∈v.bx,x.nt=wl->∃z,v.o=some z/\x.d<=fO z
 oo:∀z,v.o=some z->0<=z/\z<=4799
 ll:v.bx.length<=n
 sn:v.se.length<=n
structure Ap(W:Wd):Prop where
 cs:∀p∈cad W,p∉sad W
 cm:∀p∈cad W,p∉mad W
 sm:∀p∈sad W,p∉mad W
structure LS(a:Adr)(cy:List (List Nat))(m n:Nat)(H:Hp)(W:Wd)(v:Vr):Prop where
 cp:ChP a m H W
 sd:Sd a H W v
 mn:Mn H W v
 ok:VOk W.as cy n v
 ap:Ap W
 nT:NoT H
section
variable{cy:List (List Nat)}{m n:Nat}{H H':Hp}{W:Wd}{v:Vr}{S:List Addr}
theorem ChP.keep(h:ChP a m H W)(k:Keep S H H')(no:∀p∈cad W,p∉S):ChP a m H' W:=by
 have o6:∀p∈W.cs.map (·.bl)++W.cs.map (·.ob)++W.as.map (·.ls),p∉S:=fun p q=>no p (.tail _ (.tail _ (.tail _ q)));exact { h with
  ca:=h.ca.keep k (no _ (.head _)) (no _ (.tail _ (.tail _ (.head _)))) fun c mc=>⟨o6 _ (wW _ (zd _ (wR mc))),o6 _ (wW _ (wW _ (wR mc)))⟩
  dd:=k _ _ h.dd (no _ (.tail _ (.head _)))
  ls:=fun x mx=>k _ _ (h.ls x mx) (o6 _ (zd _ (wR mx))) }
theorem SlAt.keep{C:Addr}{p b:Addr}{bs:List V}(h:SlAt C H p b bs)(x:Keep S H H')(hp:p∉S)(hb:b∉S):SlAt C H' p b bs:=
 ⟨by obtain⟨dx,e⟩:=h.ob;exact⟨dx,x _ _ e hp⟩,x _ _ h.ls hb⟩
theorem Sd.keep(h:Sd a H W v)(k:Keep S H H')(kt:Kt H H')(no:∀p∈sad W,p∉S):Sd a H' W v:=by
 obtain⟨bs,J,B⟩:=h.ja;obtain⟨ss,L,C⟩:=h.sa;exact⟨k _ _ h.ga (no _ (.tail _ (.tail _ (.tail _ (.tail _ (.tail _ (.head _))))))),⟨bs,J.keep k (no _ (.head _)) (no _ (.tail _ (.tail _ (.head _)))) (no _ (.tail _ (.tail _ (.tail _ (.head _))))),B.imp fun _ _ _ _ z=>z.mv kt⟩,⟨ss,L.keep k (no _ (.tail _ (.head _))) (no _ (.tail _ (.tail _ (.tail _ (.tail _ (.head _)))))),C.imp fun _ _ _ _ z=>z.mv kt⟩,h.ne⟩
theorem Mn.keep(h:Mn H W v)(k:Keep S H H')(kt:Kt H H')(no:∀p∈mad W,p∉S):Mn H' W v:=by
 obtain⟨bs,J,B⟩:=h.hr;obtain⟨ss,L,C⟩:=h.hs;exact⟨k _ _ h.hm (no _ (.head _)),⟨bs,k _ _ J (no _ (.tail _ (.head _))),B.imp fun _ _ _ _ z=>z.mv kt⟩,⟨ss,k _ _ L (no _ (.tail _ (.tail _ (.head _)))),C.imp fun _ _ _ _ z=>z.mv kt⟩,h.ne⟩
theorem Sd.tup(h:Sd a H W v){t:Addr}{l:List V}(e:H t=some (.tup l)):t∉sad W:=fun q=>by
 obtain⟨bs,J,_⟩:=h.ja;obtain⟨ss,L,_⟩:=h.sa;obtain⟨dj,hj⟩:=J.ob;obtain⟨ds,hs⟩:=L.ob;simp only[sad,zZ,zY,or_false]at q;rcases q with q|q|q|q|q|q <;> rw[q]at e
 ·rw[hj]at e;cases e
 ·rw[hs]at e;cases e
 ·rw[J.ls]at e;cases e
 ·rw[J.dc]at e;cases e
 ·rw[L.ls]at e;cases e
 ·rw[h.ga]at e;cases e
theorem Mn.tup(h:Mn H W v){t:Addr}{l:List V}(e:H t=some (.tup l)):t∉mad W:=fun q=>by
 obtain⟨bs,J,_⟩:=h.hr;obtain⟨ss,L,_⟩:=h.hs;simp only[mad,zZ,zY,or_false]at q;rcases q with q|q|q <;> rw[q]at e
 ·rw[h.hm]at e;cases e
 ·rw[J]at e;cases e
 ·rw[L]at e;cases e
theorem ChP.tup(h:ChP a m H W){t:Addr}{l:List V}(e:H t=some (.tup l)):t∉cad W:=fun q=>by
 obtain⟨dj,hj⟩:=h.ca.ob;simp only[cad,zZ,z7,yS]at q;rcases q with q|q|q|(⟨c,mc,q⟩|⟨c,mc,q⟩)|⟨x,mx,q⟩
 ·rw[q,hj]at e;cases e
 ·rw[q,h.dd]at e;cases e
 ·rw[q,h.ca.dc]at e;cases e
 ·rw[<- q,(h.ca.ac c mc).ls]at e;cases e
 ·obtain⟨dx,ho⟩:=(h.ca.ac c mc).ob
  rw[<- q,ho]at e;cases e
 ·rw[<- q,h.ls x mx]at e;cases e
theorem cq:∀p∈S,p∉([]:List Addr):=fun _ _=>zY
theorem LS.same(h:LS a cy m n H W v)(s:Same H H')(nT:NoT H'):LS a cy m n H' W v:=
 ⟨h.cp.keep (Keep.same s) cq,h.sd.keep (Keep.same s) (Kt.same s) cq,h.mn.keep (Keep.same s) (Kt.same s) cq,h.ok,h.ap,nT⟩
theorem LS.le(h:LS a cy m n H W v){m' n':Nat}(hm:m<=m')(hn:n<=n'):LS a cy m' n' H W v:=
 { h with cp:={ h.cp with bl:=fun c mc=>wn (h.cp.bl c mc) hm,ai:=⟨h.cp.ai.nd,wn h.cp.ai.len hm,h.cp.ai.ok,h.cp.ai.top⟩ },ok:={ h.ok with ll:=wn h.ok.ll hn,sn:=wn h.ok.sn hn } }
theorem LS.tup(h:LS a cy m n H W v){t:Addr}{l:List V}(e:H t=some (.tup l)):t∉own W:=fun q=>by
 rcases z7.mp q with q|q
 ·exact h.cp.tup e q
 ·rcases z7.mp q with q|q
  ·exact h.sd.tup e q
  ·exact h.mn.tup e q
theorem ChP.ac(h:ChP a m H W):AcAt H W.d W.as:=⟨.inl h.dd,h.ls⟩
theorem ChP.ch_(h:ChP a m H W):Ix a.aR a.aM H W.ch W.as W.cd W.cs:=⟨h.ca,fun x mx=>by
 obtain⟨c,mc,r⟩:=An h.cf mx;exact⟨c,mc,r.pa,r.ki⟩⟩
theorem Hs(x:Option (List Nat)):CuV (cuV x):=by
 cases x with
 |none=>exact .inl rfl
 |some l=>exact .inr ⟨l,rfl⟩
end
theorem Ir{l k:List Nat}(h:L2.T l=L2.T k):l=k:=by simpa using h
def uP(as:List La)(cy:List (List Nat))(rs:List Row):Prop:=rs.length<=60/\∀r∈rs,r.pa∈as.map (·.pa)/\r.cu∈cy
theorem VOk.nx{as:List La}{cy:List (List Nat)}{n:Nat}{v:Vr}{M:Int}{y:V}(h:VOk as cy n v)(hn:n<40)(hM:0<=M/\M<=4799)(ho:v.o=none\/v.o=some (M-1))(hc:M % 12=11->∀z,acL as y=some z->uP as cy (jM as v.bx M z.pa)):VOk as cy (n+1) (nxV as v M y):=by
 have l1:=h.ll;have l2:=h.sn;have hx:∀bx,(bx=v.bx\/∃rs,bx=v.bx++[⟨v.bx.length,fO M,wl,rs,none⟩]/\uP as cy rs)->VOk as cy (n+1) ⟨some M,bx,v.se++[nxS bx M]⟩:=fun bx hb=>by
  have se:(v.se++[nxS bx M]).length<=n+1:=by rw[zi];exact Yy l2
  have oo:∀z,(some M:Option Int)=some z->0<=z/\z<=4799:=fun z e=>by cases e;exact hM
  have old:∀x∈v.bx,x.nt=wl->∃z,(some M:Option Int)=some z/\x.d<=fO z:=fun x mx e=>by
   obtain⟨z,ez,le⟩:=h.cr x mx e;refine⟨M,rfl,Int.le_trans le ?_⟩;rcases ho with q|q
   ·rw[q]at ez;cases ez
   ·rw[q]at ez;cases ez
    have:=iY (show M-1+1<=M+1 by lia);show FD (M-1+1)-1<=FD (M+1)-1;lia
  rcases hb with rfl|⟨rs,rfl,c1,c2⟩
  ·exact⟨h.bo,h.nk,old,oo,Nat.le_succ_of_le l1,se⟩
  ·refine⟨⟨?_,fun b mb=>?_,fun b mb=>?_⟩,fun i x e=>?_,fun x mx e=>?_,oo,?_,se⟩
   ·show((v.bx++[_]).map Bx.bk).length<=40
    rw[zg,zi];show v.bx.length+1<=40;lia
   ·obtain⟨x,mx,rfl⟩:=yS.mp mb
    rcases z7.mp mx with mx|mx
    ·exact h.bo.l2 _ (wR mx)
    ·rw[zq.mp mx];exact c1
   ·obtain⟨x,mx,rfl⟩:=yS.mp mb
    rcases z7.mp mx with mx|mx
    ·exact h.bo.mem _ (wR mx)
    ·rw[zq.mp mx];exact c2
   ·have e:(v.bx++[_])[i]? = some x:=e
    rcases Nat.lt_trichotomy i v.bx.length with l|l|l
    ·rw[List.getElem?_append_left l]at e;exact h.nk i x e
    ·subst l
     rw[List.getElem?_append_right (zL _),Nat.sub_self]at e;cases e;exact⟨rfl,rfl⟩
    ·rw[List.getElem?_append_right (by lia),show i-v.bx.length=(i-v.bx.length-1)+1 by lia]at e
     cases e
   ·rcases z7.mp mx with mx|mx
    ·exact old x mx e
    ·rw[zq.mp mx];exact⟨M,rfl,Yd _⟩
   ·show(v.bx++[_]).length<=n+1
    rw[zi];exact Yy l1
 refine hx _ ?_;by_cases h11:M % 12=11
 ·rw[if_pos h11]
  cases ea:acL as y with
  |none=>exact .inl rfl
  |some z=>
   have c:=hc h11 z ea;refine(show nxB as v.bx M z.pa=v.bx\/∃rs,nxB as v.bx M z.pa=v.bx++[⟨v.bx.length,fO M,wl,rs,none⟩]/\uP as cy rs from ?_);unfold nxB;generalize jM as v.bx M z.pa=rs at c |-
   cases rs with
   |nil=>exact .inl rfl
   |cons r rs=>exact .inr ⟨_,rfl,c⟩
 ·rw[if_neg h11];exact .inl rfl
def sp_Ef(a:Adr):Sp:=sp4 fun x y z t H Q E=>asR x fun ch=>asR y fun j=>asI z fun M=>∃cy m n W v,ChP a m H W/\Sd a H W v/\VOk W.as cy n v/\NoT H/\m<=18/\n<=40/\cy.length=3/\ch=W.ch/\j=W.j/\M % 12=11/\asK H t fun _=>
 (clK W.as v.bx M t=0->∀z∈W.as,acL W.as t=some z->uP W.as cy (jM W.as v.bx M z.pa)->∀H',Sd a H' W { v with bx:=nxB W.as v.bx M z.pa }->Keep [W.b,W.u] H H'->NoT H'->Q .non H')/\∀k,clK W.as v.bx M t=k->k≠0->∀H',Same H H'->NoT H'->E (.ref (clE a k)) none H'
theorem Ck(T:Txt K mg a):Fo P w K mg base "carry" 5 (sp_Ef a):=by
 refine T.Ep.x4 ["chart","journal","month","path","day","rows"] fun x0 x1 x2 x3 fA cdv A outer s H Q E ND HU hr h=>?_;obtain⟨ch,rfl,h2⟩:=asR.inv h;obtain⟨j,rfl,h3⟩:=asR.inv h2;obtain⟨M,rfl,cy,m,n,W,v,C,S,O,hN,m18,n40,lc,rfl,rfl,M11,h4⟩:=asI.inv h3;obtain⟨tt,ht,hb,kQ,kE⟩:=asK.inv h4;have sz:=szl;have nd:=C.ai.nd;have hki:∀c∈W.cs,∃kd,c.ki=L2.T kd:=fun c mc=>by
  obtain⟨z,_,r⟩:=AR C.cf mc;exact⟨_,r.ki⟩
 obtain⟨bs,J,B⟩:=S.ja;refine⟨_,(ae (aO 4 ND (aH (fI T) hr aA (fa1 (fv 2))))
  (ae (bB (aH (oW T) hr aA (fa3 (fv 0) (fv 3) (fv 4))))
  (ae (aO 5 ND (aH (qH T) hr aA (fa4 (fv 0) (fv 1) (fv 3) (aj aE aa (aj aX (fv 2) aa)))))
  (ae (bB (aH (jR T) hr aA (fa3 (fv 0) (fv 3) (fv 5))))
  (af (a6 (aN kq (aD (bQ K) rfl T.cZ ci (fa1 (fv 5))) aa) (af (bB (b7 (fv 1) T.a7 (eQ T) (hr.mono (by decide)) aA (fa4 (fv 4) (ak [99,97,114,114,121]) (fv 5) cG)))) aJ)))))),?_⟩
 walk_at "rd";refine⟨hN,hN,W.cd,W.cs,C.ca,hki,asK.of ht ?_⟩;unfold kpP;unfold clK at kQ kE;rcases EF C.cf x3 with ⟨e1,e2⟩|⟨c,z,e1,e2,mc,mz,rc,rfl⟩ <;> rw[e1] <;> rw[e2]at kQ kE
 ·exact kE 3 rfl (by decide) H (Same.refl _) hN
 dsimp only at kQ kE |-
 rw[rc.ki,rc.fi,rc.un];by_cases ko:z.ki=oa
 rotate_left 1
 ·rw[if_neg ko]at kE
  rw[if_neg fun q=>ko (Ir q)];exact kE 4 rfl (by decide) H (Same.refl _) hN
 rw[if_pos ko]at kE kQ;rw[if_pos (by rw[ko])];by_cases kp:opn z.fi z.un (fO M)=true
 rotate_left 1
 ·rw[if_neg kp]at kE
  rw[if_neg kp];exact kE 5 rfl (by decide) H (Same.refl _) hN
 rw[if_pos kp]at kE kQ;rw[if_pos kp];refine⟨hN,W.b,W.u,bs,[],v.bx.map Bx.bk,W.as,cy,W.cd,W.cs,J,ud B,O.bo,wn C.ai.len m18,lc,nd,C.ch_,?_⟩;rw[show 12*(2000+M / 12-2000)+11+1=M+1 by lia];intro out out2 r ws H1 p1 o1 p2 o2 hr hr1 ar lr mr s1 N1;rw[ya p1 o1 p2 o2]at ar lr mr;have cok:uP W.as cy (jM W.as v.bx M z.pa):=⟨lr,fun r mm=>by
  obtain⟨q,r1,m1,e1⟩:=mr r mm;refine⟨?_,by rw[e1];exact(O.bo.row r1 m1).2⟩;rcases q with e|⟨r0,m0,e⟩
  ·rw[e];exact wR mz
  ·rw[e];exact(O.bo.row r0 m0).1⟩
 change A2 (RwAt H1) ws (jM W.as v.bx M z.pa) at ar;change (jM W.as v.bx M z.pa).length<=60 at lr;walk_at "rd";refine⟨N1,W.cd,W.cs,c,ws,_,C.ca.same s1,mc,rc.pa,by rw[rc.cu];exact Hs _,hr1,ar,lr,fun nc=>?_,fun nc=>?_⟩
 rotate_left 1
 ·rw[rc.cu]at nc
  rw[if_pos nc]at kE;exact kE 6 rfl (by decide) H1 s1 N1
 rw[rc.cu]at nc;rw[if_neg (by rw[nc];decide)]at kQ;have kQ:=kQ rfl z mz rfl cok;clear kE;unfold nxB at kQ;have lw:=ar.len;have S1:=S.keep (Keep.same s1) (Kt.same s1) cq (S:=[]);refine⟨_,.inl (SqL.of hr1),?_⟩;clear cok mr nc;generalize jM W.as v.bx M z.pa=rs at kQ ar lr lw;cases rs with
 |nil=>exact itn (by rw[lw];decide) (kQ H1 S1 (Keep.same s1) N1)
 |cons r0 rs=>
  have J1:JAt a.aQ H1 W.j W.b W.u bs []:=J.keep (S:=[]) (Keep.same s1) zY zY zY;obtain⟨dj,hj⟩:=J1.ob;have lb:=B.len;have l1:=O.ll;rw[vN]at lw;refine itp (by lia) ⟨_,_,hj,wZ _ _,N1,W.b,W.u,bs,[],ws,J1,by lia,by decide,.inl (SqL.of hr1),fun t q H2 g1 g2 g3 g4 g5 g6 g7=>?_⟩;have kt:Kt H1 H2:=fun t l e=>g6 _ _ e (J1.tup e);obtain⟨bs1,J1',B1⟩:=S1.ja;have eb:bs1=bs:=by have:=J1'.ls;rw[J1.ls]at this;cases this;rfl
  subst eb;rw[lb]at g4;obtain⟨ss,L,D⟩:=S1.sa;obtain⟨dl,hl⟩:=L.ob;have nb:∀ {p:Addr} {o:HO},H1 p=some o->p≠W.b->(∀kv,o ≠ .dK kv)->p∉[W.b,W.u]:=fun {p o} e nb nd mm=>by
   rcases zZ.mp mm with z|z
   ·exact nb z
   ·rw[zq.mp z,J1.dc]at e;cases e;exact nd _ rfl
  have ni:∀ {p:Addr} {C dx:Addr} {fs:List (Str × V)},H1 p=some (.ins C dx fs)->p∉[W.b,W.u]:=fun {p C dx fs} e=>nb e (bD e J1.ls) fun _ z=>nomatch z;refine kQ H2 ⟨g6 _ _ S1.ga (ni S1.ga),⟨_,g5,(B1.imp fun _ _ _ _ z=>z.mv kt).snoc ⟨q,t,ws,rfl,g4,g2,ar.imp fun v r _ _ h=>RwAt.mv _ _ v r kt h⟩⟩,⟨ss,L.keep g6 (ni hl) (nb L.ls (Ne.symm S.ne) fun _ z=>nomatch z),D.imp fun _ _ _ _ z=>z.mv kt⟩,S.ne⟩ (fun c z e n=>g6 c z (s1 c z e) n) g7
theorem HH(v:V):wO (zf "need_next") [(zf "last_closed",v)]=none:=by rw[aU (by decide +kernel)];rfl
theorem vA(x:V):wO (zf "shut") [(zf "last_closed",x)]=none:=by rw[aU (by decide +kernel)];rfl
theorem Dm(x:V):wO (zf "put") [(zf "told_seals",x)]=none:=by rw[aU (by decide +kernel)];rfl
structure ClP(a:Adr)(cy:List (List Nat))(m n:Nat)(H:Hp)(W:Wd)(v:Vr)(ch g j sl:Addr):Prop where
 cp:ChP a m H W
 sd:Sd a H W v
 ok:VOk W.as cy n v
 nT:NoT H
 m18:m<=18
 n40:n<40
 lc:cy.length=3
 e1:ch=W.ch
 e2:g=W.g
 e3:j=W.j
 e4:sl=W.sl
def sp_BQ(a:Adr):Sp:=sp6 fun x y z u s r H Q E=>asR x fun ch=>asR y fun g=>asR z fun j=>asR u fun sl=>∃cy m n W v,ClP a cy m n H W v ch g j sl/\asK H s fun _=>asK H r fun _=>
 (cls W.as v s r=0->∀M,s = .int M->∀t H',Sd a H' W (nxV W.as v M r)->VOk W.as cy (n+1) (nxV W.as v M r)->(∀e∈(nxV W.as v M r).se.getLast?,SeAt H' t e.m e.n e.rs)->Keep (sad W) H H'->NoT H'->Q (.ref t) H')/\∀k,cls W.as v s r=k->k≠0->∀H',Same H H'->NoT H'->E (.ref (clE a k)) none H'
theorem BO(T:Txt K mg a):Fo P w K mg base "close" 6 (sp_BQ a):=by
 refine T.EM.x6 ["chart","gate","journal","seals","month","path","told"] fun x0 x1 x2 x3 x4 x5 fA cdv A outer s H Q E ND HU hr h=>?_;obtain⟨ch,rfl,h2⟩:=asR.inv h;obtain⟨g,rfl,h3⟩:=asR.inv h2;obtain⟨j,rfl,h4⟩:=asR.inv h3;obtain⟨sl,rfl,cy,m,n,W,v,⟨C,S,O,hN,m18,n40,lc,rfl,rfl,rfl,rfl⟩,h6⟩:=asR.inv h4;obtain⟨t4,ht4,hb4,h7⟩:=asK.inv h6;obtain⟨t5,ht5,hb5,kQ,kE⟩:=asK.inv h7;have sz:=szl
 skip
 have c2:∃u,PSs (bV (XE P w) P w K mg base ["chart","gate","journal","seals","month","path","told"] "close" (au (top 55)) fA cdv A outer s H E) (Zn 2 (aZ (top 55))) u/\∀M bx H1,(0<=M/\M<=4799)->(v.o=none\/v.o=some (M-1))->Sd a H1 W { v with bx:=bx }->VOk W.as cy (n+1) (nxV W.as v M x5)->(nxV W.as v M x5=⟨some M,bx,v.se++[nxS bx M]⟩)->cls W.as v (.int M) x5=0->x4 = .int M->Keep (sad W) H H1->NoT H1->u { nx:=fun _ H'=>Q .non H',rt:=Q } [some (.ref W.ch),some (.ref W.g),some (.ref W.j),some (.ref W.sl),some (.int M),some x5,none] H1:=by
  refine⟨_,(ae (aO 6 ND (aH (Es T) hr aA (fa3 (fv 0) (fv 2) (fv 4))))
   (ae (bB (b7 (fv 3) T.e_ (r_ T) (hr.mono (by decide)) aA (fa1 (fv 6))))
   (ae (bB (b7 (fv 1) T.cV (kW T) (hr.mono (by decide)) aA (fa1 (fv 4))))
   (af (aC (fv 6)))))),fun M bx H1 hM ho S1 O1 en c0 e4 k1 N1=>?_⟩
  subst e4;have kQ:=kQ c0 M rfl;clear kE;rw[en]at kQ O1;obtain⟨bs,J,B⟩:=S1.ja;walk_at "rd";refine⟨N1,hM,W.b,W.u,bs,[],bx.map Bx.bk,⟨J,ud B,O1.bo.l1,O1.bo.l2,fun t=>Y0 (O1.bo.few (wn C.ai.len m18) lc (t:=t)) (by decide)⟩,fun out t H2 po oo ht hs s2 N2=>?_⟩;rw[yj po oo]at hs;have S2:=S1.keep (Keep.same s2) (Kt.same s2) cq (S:=[]);obtain⟨ss,L,D⟩:=S2.sa;obtain⟨ds,hsl⟩:=L.ob;have l1:=O.sn;have l2:=D.len;have l2:ss.length=v.se.length:=l2;walk_at "rd";refine⟨_,_,hsl,Dm _,N2,W.sb,ss,L,by lia,fun H3 J3 K3 N3=>?_⟩;have hg:H3 W.g=some (cR a.a_ W.gx (cl v.o)):=K3 _ _ S2.ga fun z=>bD S2.ga L.ls (by intro z;cases z) (zq.mp z);refine⟨_,_,hg,vA _,N3,W.gx,v.o,hg,hM,ho,?_⟩;have k3:Keep [W.sb,W.g] H2 (upd H3 W.g (cR a.a_ W.gx (.int M))):=(K3.mono fun c q=>by rw[zq.mp q];exact .head _).put (.tail _ (.head _));have k4:Keep (sad W) H2 (upd H3 W.g (cR a.a_ W.gx (.int M))):=k3.mono fun c q=>by
   rcases zZ.mp q with q|q
   ·rw[q];exact .tail _ (.tail _ (.tail _ (.tail _ (.head _))))
   ·rw[zq.mp q];exact .tail _ (.tail _ (.tail _ (.tail _ (.tail _ (.head _)))))
  have kt:Kt H2 (upd H3 W.g (cR a.a_ W.gx (.int M))):=fun t l e=>k4 _ _ e (S2.tup e);obtain⟨bs2,J2,B2⟩:=S2.ja;obtain⟨dj,hj⟩:=J2.ob;have no:∀ {q:Addr} {o:HO},H2 q=some o->q≠W.sb->o≠cR a.a_ W.gx (cl v.o)->q∉[W.sb,W.g]:=fun e n1 n2 z=>by
   rcases zZ.mp z with z|z
   ·exact n1 z
   ·exact bD e S2.ga n2 (zq.mp z)
  have ng:W.sl≠W.g:=bD hsl S2.ga fun z=>by
   injection z with _ _ z;injection z with z;injection z with z
   exact absurd z (by decide +kernel)
  have nb:W.sb≠W.g:=bD L.ls S2.ga;obtain⟨d3,h3⟩:=J3.ob;have hs':SeAt (upd H3 W.g (cR a.a_ W.gx (.int M))) t M (mny (fO M) (bx.map Bx.bk)) (Ch (rsd (fO M) (bx.map Bx.bk))):=hs.mv kt;refine kQ t _ ⟨ad,⟨bs2,J2.keep k3 (no hj (bD hj L.ls) (by intro z;injection z with _ _ z;injection z with _ z;cases z)) (no J2.ls S1.ne (by intro z;cases z)) (no J2.dc (bD J2.dc L.ls) (by intro z;cases z)),B2.imp fun _ _ _ _ z=>z.mv kt⟩,⟨ss++[.ref t],⟨⟨d3,(ag ng).trans h3⟩,(ag nb).trans J3.ls⟩,(D.imp fun _ _ _ _ z=>z.mv kt).snoc ⟨t,rfl,hs'⟩⟩,S.ne⟩ O1 (fun e me=>?_) (k1.trans ((Keep.same s2).trans k4)) (aq N3 rfl);have me:e∈(v.se++[nxS bx M]).getLast?:=me;rw[List.getLast?_append]at me;cases me;exact hs'
 obtain⟨u2,hu2,c2⟩:=c2;refine⟨_,(ae (bB (b7 (fv 1) T.cV (fz T) (hr.mono (by decide)) aA (fa1 (fv 4))))
  (ae (a6 (aN (bF K HU) (aj aW (fv 4) aa) aa) (af (bB (aH (Ck T) hr aA (fa4 (fv 0) (fv 2) (fv 4) (fv 5))))) aJ)
  hu2)),?_⟩
 walk_at "rd";refine⟨_,_,S.ga,HH _,hN,W.gx,v.o,S.ga,asK.of ht4 ⟨fun e=>?_,fun M e m0 m1=>⟨fun ho=>?_,fun z ez nz=>?_⟩⟩⟩
 ·refine kE 1 ?_ (by decide) H (Same.refl _) hN
  cases x4 with
  |int M=>
   show(if _ then _ else _)=_;rw[if_neg fun q=>?_];rw[i4,decide_eq_true q.1,decide_eq_true q.2]at e;cases e
  |_=>rfl
 rotate_left 1
 ·subst e
  refine kE 2 ?_ (by decide) H (Same.refl _) hN;show(if _ then _ else _)=_;rw[if_pos ⟨m0,m1⟩,if_neg fun q=>?_];rcases q with q|q <;> rw[q]at ez <;> cases ez
  exact nz (by lia)
 subst e;have ec:cls W.as v (.int M) x5=if M % 12=11 then clK W.as v.bx M x5 else 0:=by
  show(if _ then _ else _)=_;rw[if_pos ⟨m0,m1⟩,if_pos ho]
 walk_at "rd";by_cases h:M % 12=11
 ·rw[if_pos h]at ec
  refine itp h ⟨cy,m,n,W,v,C,S,O,hN,m18,by lia,lc,rfl,rfl,h,asK.of ht5 ⟨fun e0 z mz ez co H1 S1 k1 N1=>?_,fun k ek k0=>kE k (ec.trans ek) k0⟩⟩;have en:nxV W.as v M x5=⟨some M,nxB W.as v.bx M z.pa,v.se++[nxS (nxB W.as v.bx M z.pa) M]⟩:=by unfold nxV;rw[if_pos h,ez]
  exact c2 M _ H1 ⟨m0,m1⟩ ho S1 (O.nx n40 ⟨m0,m1⟩ ho fun _ z' e'=>by rw[ez]at e';cases e';exact co) en (ec.trans e0) rfl (k1.mono fun p q=>by
   rcases zZ.mp q with q|q
   ·rw[q];exact .tail _ (.tail _ (.head _))
   ·rw[zq.mp q];exact .tail _ (.tail _ (.tail _ (.head _)))) N1
 ·rw[if_neg h]at ec
  refine itn h (c2 M v.bx H ⟨m0,m1⟩ ho S (O.nx n40 ⟨m0,m1⟩ ho fun h'=>absurd h' h) ?_ ec rfl Keep.refl hN);unfold nxV;rw[if_neg h]
theorem AcAt.same{H H':Hp}{d:Addr}{as:List La}(h:AcAt H d as)(s:Same H H'):AcAt H' d as:=
 ⟨by rcases h.dc with e|⟨o,e⟩;exact .inl (s _ _ e);exact .inr ⟨o,s _ _ e⟩,fun x m=>s _ _ (h.ls x m)⟩
def sp_Dl:Sp:=sp4 fun x y z t H Q _=>NoT H/\asR x fun d=>asR y fun m=>asT z fun path=>asI t fun t=>∃ws bs as cy,AcAt H d as/\H m=some (.lst ws)/\A2 (BkAt H) ws bs/\BsOk as cy bs/\as.length<=18/\cy.length=3/\(as.map (·.pa)).Nodup/\∀r ws H',H r=none->H' r=some (.lst ws)->ws.length<=200->A2 (RwAt H') ws (DJ (gcB as) path (rsd t bs))->Same H H'->NoT H'->Q (.ref r) H'
theorem jB(T:Txt K mg a):Fo P w K mg base "_law_carry" 4 sp_Dl:=by
 refine T.tG.x4 ["_law_accounts_here","_law_bookings","_law_path_here","_law_day_here","_law_rows","_law_together","_law_account","_law_currency","_law_amount"] fun x0 x1 x2 x3 fA cdv A outer s H Q E ND HU hr h=>?_;obtain⟨hN,h1⟩:=h;obtain⟨d,rfl,h2⟩:=asR.inv h1;obtain⟨m0,rfl,h3⟩:=asR.inv h2;obtain⟨path,rfl,h4⟩:=asT.inv h3;obtain⟨t,rfl,ws,bs,as,cy,AC,hm0,hv,ok,la,lc,nd,k⟩:=asI.inv h4;have sz:=szl;have sz1:=Ji;refine⟨_,(ae (aO 4 ND (bz (FA.pa ce)))
  (ae (aO 5 ND ot)
  (ae (cX (by passes_own) rfl (bM K (aH (gi T) hr aA (fa2 (fv 1) (fv 3)))) (fJ K (n:=3) rfl (bf (aK (i:=6) ND rfl (Or.inl rfl)) (bf (aK (i:=7) ND rfl (Or.inl rfl)) (bf (aK (i:=8) ND rfl (Or.inl rfl)) dS)))) (af (a6 (iU (jP (xl K) (aB K (aL (Zz HU) (fv 0) (fv 6) (fun _ _=>rfl)) aa) (bd (fa2 (ak [103,97,105,110]) (ak [99,111,115,116]))) (by with_unfolding_all rfl))) (ae (bB (cK K pN Zx Zy cn (fv 4) (fa1 (bd (fa3 (fv 6) (fv 7) (aj cJ aa (fv 8)))))))
  (af (dL (Zz HU) (fv 5) (fv 7) (aj aE (qf (Zz HU) (fv 5) (fv 7) aa ⟨rfl,rfl,rfl,rfl⟩) (fv 8)) rfl))) aJ)))
  (af (aC (aj gw (fv 4) (bN rfl (cl:=_) (x:="_law_currency") (xs:=["_law_currency"]) (fr:=["_law_path_here","_law_together"]) (ks:=[2,5]) (by walk_at "cq") rfl (bM K (aD (Cz rfl) rfl T.pD mQ (fa1 (fv 5)))) (fun _ _ _ _ _=>(aK (i:=0) (bX (l:=["_law_currency","_law_path_here","_law_together"]) (by decide)) rfl (Or.inl rfl))) (fun _ _ _ _ _=>(cN (aN (cE K HU) (aL (Zz HU) (fv 2) (fv 0) (fun _ _=>rfl)) aa))) (fun _ _ _ _ _=>(bd (fa3 (fv 1) (fv 0) (aL (Zz HU) (fv 2) (fv 0) (fun _ _=>rfl)))))))))))),?_⟩
 walk_at "rq";refine⟨wQ _,fun pr hpr pt hpt=>?_⟩;have s1:=(ah (HO.lst []) hpr).trans (ah (HO.dK []) hpt);have N1:NoT (upd (upd H pr (HO.lst [])) pt (HO.dK [])):=aq (aq hN rfl) rfl;have g1:upd (upd H pr (HO.lst [])) pt (HO.dK []) pr=some (HO.lst []):=(ah (HO.dK []) hpt) _ _ ad;have g2:upd (upd H pr (HO.lst [])) pt (HO.dK []) pt=some (HO.dK []):=ad;have pt0:H pt=none:=(ah (HO.lst []) hpr).free hpt;generalize upd (upd H pr (HO.lst [])) pt (HO.dK [])=G1 at s1 N1 g1 g2 |-
 refine iC ?_;walk_at "rq";have few:=ok.few la lc (t:=t);refine⟨N1,ws,bs,s1 _ _ hm0,kH s1 hv,ok.l1,ok.l2,by lia,?_⟩;intro out r rw1 H2 po oo hr hr2 a2 s2 N2;have row:=ok.row (t:=t);have lo:out.length<=54:=by rw[po.length_eq,zg];exact few
 generalize rsd t bs=rs at po a2 k row |-
 have inA:∀z∈res rs out,(∃x∈as,x.pa=z.pa)/\z.cu∈cy:=fun z m=>by
  obtain⟨r0,mr,e⟩:=(iB rs).2.1 _ (po.mem_iff.mp (oj m).1);obtain⟨e1,e2⟩:=Prod.mk.inj e;obtain⟨x,mx,ex⟩:=yS.mp (row r0 mr).1;exact⟨⟨x,mx,ex.trans e1.symm⟩,e2 ▸ (row r0 mr).2⟩
 have lr:=i7 rs out;have lw:=a2.len;have s12:=s1.trans s2;have AC2:=AC.same s12;have npt:pr≠pt:=fun z=>by rw[z,g2]at g1;cases g1
 have nr:r∉[pr,pt]:=by
  simp only[zZ,zY,or_false];rintro(rfl|rfl)
  ·rw[g1]at hr;cases hr
  ·rw[g2]at hr;cases hr
 have old:∀ {p:Addr} {o:HO},H p=some o->p∉[pr,pt]:=fun {p o} e=>by
  simp only[zZ,zY,or_false];rintro(rfl|rfl)
  ·rw[hpr]at e;cases e
  ·rw[pt0]at e;cases e
 have tupn:∀ {p:Addr} {l:List V},H2 p=some (.tup l)->p∉[pr,pt]:=fun {p l} e=>by
  simp only[zZ,zY,or_false];rintro(rfl|rfl)
  ·rw[s2 _ _ g1]at e;cases e
  ·rw[s2 _ _ g2]at e;cases e
 refine il (xs:=rw1) (SqL.of hr2) (ij (xs:=rw1) (fun i σ' G=>Keep [pr,pt] H2 G/\NoT G/\∃ys x6 x7 x8,G pr=some (.lst ys)/\A2 (RwAt G) ys (trn (((res rs out).take i).filter fun z=>gcB as z.pa))/\G pt=some (.dK ((dk (mvd path (((res rs out).take i).filter fun z=>gcB as z.pa))).map jb))/\σ'=[some (.ref d),some (.ref m0),some (L2.T path),some (.int t),some (.ref pr),some (.ref pt),x6,x7,x8]) ⟨Keep.refl,N2,[],_,_,_,s2 _ _ g1,.nil,s2 _ _ g2,rfl⟩ ?_ ?_ ?_)
 ·rintro i σ' G _ ⟨kp,_⟩
  exact SqL.of (kp _ _ hr2 nr)
 ·rintro i x σ' G hx ⟨kp,nG,ys,x6,x7,x8,hpr',ay,hpt',rfl⟩
  obtain⟨z,hz,q,rfl,hq⟩:=a2.at_ hx;have mz:=ww hz;obtain⟨⟨x,mx,ex⟩,_⟩:=inA z mz;have sG:Same H G:=fun p o e=>kp _ _ (s12 _ _ e) (old e);have hqG:G q=some (.tup [L2.T z.pa,L2.T z.cu,.int z.am]):=kp _ _ hq (tupn hq);have ACG:=AC.same sG;walk_at "rq";refine⟨q,_,rfl,SqT.of hqG,rfl,_,_,rfl,_,_,rfl,_,_,rfl,rfl,nG,d,.ref x.ls,rfl,ex ▸ ACG.get nd mx,?_⟩;walk_at "rq";refine⟨_,_,.inl (SqL.of (ACG.ls x mx)),av (j:=3) rfl,by walk_at "om",fun p hp=>⟨_,.inr (SqT.of ad),rfl,rfl,G,Gc.none (ah _ hp),?_⟩⟩;rw[E1 nd mx ex,dD hz,Ze];cases e:gcB as z.pa with
  |false=>
   rw[Zc (by simp[e]),Z3,Zs];exact itn (by decide) ⟨kp,nG,ys,_,_,_,hpr',ay,hpt',rfl,rfl,rfl⟩
  |true=>
   rw[Zi (by simp[e]),Z3];refine itp rfl ⟨.inl ⟨_,SqL.of hpr'⟩,?_⟩;walk_at "rq";have lCi:(((res rs out).take i).filter fun z=>gcB as z.pa).length<=54:=wn (Zp _ _) (by rw[uV];lia);generalize ((res rs out).take i).filter (fun z=>gcB as z.pa)=Ci at ay hpt' lCi |-
   have ly:=ay.len;have lt:(trn Ci).length=Ci.length:=zg ..;refine⟨by walk_at "om",fun p1 hp1=>⟨pr,ys,_,rfl,rfl,(ag (az hpr' hp1)).trans hpr',by lia,?_⟩⟩;have kG:Keep [pr,pt] G (upd (upd G p1 (HO.tup [L2.T z.pa,L2.T z.cu,V.int (0-z.am)])) pr (HO.lst (ys++[V.ref p1]))):=(Keep.refl.new hp1).put (.head _);have kG1:Keep [pr] G (upd (upd G p1 (HO.tup [L2.T z.pa,L2.T z.cu,V.int (0-z.am)])) pr (HO.lst (ys++[V.ref p1]))):=(Keep.refl.new hp1).put (.head _);have ay2:=dQ kG1 (LW.one hpr') ay;have q1:upd (upd G p1 (HO.tup [L2.T z.pa,L2.T z.cu,V.int (0-z.am)])) pr (HO.lst (ys++[V.ref p1])) pr=some (HO.lst (ys++[V.ref p1])):=ad;have q2:upd (upd G p1 (HO.tup [L2.T z.pa,L2.T z.cu,V.int (0-z.am)])) pr (HO.lst (ys++[V.ref p1])) pt=some (.dK ((dk (mvd path Ci)).map jb)):=kG1 _ _ hpt' (by simpa using Ne.symm npt);have q3:upd (upd G p1 (HO.tup [L2.T z.pa,L2.T z.cu,V.int (0-z.am)])) pr (HO.lst (ys++[V.ref p1])) p1=some (HO.tup [L2.T z.pa,L2.T z.cu,V.int (0-z.am)]):=(ag (Ne.symm (az hpr' hp1))).trans ad;have N4:NoT (upd (upd G p1 (HO.tup [L2.T z.pa,L2.T z.cu,V.int (0-z.am)])) pr (HO.lst (ys++[V.ref p1]))):=aq (aq nG rfl) rfl;generalize upd (upd G p1 (HO.tup [L2.T z.pa,L2.T z.cu,V.int (0-z.am)])) pr (HO.lst (ys++[V.ref p1]))=G4 at kG kG1 ay2 q1 q2 q3 N4 |-
   refine⟨.inl ⟨_,.inl q2⟩,_,DGet.k (k:=.inr ⟨⟨z.cu⟩⟩) q2,?_⟩;rw[Fz z.cu kh,sA];walk_at "rq";have ld:=(iB (mvd path Ci)).2.2;have lm:(mvd path Ci).length=Ci.length:=zg ..;refine⟨pt,_,rfl,DPut.k (k:=.inr ⟨⟨z.cu⟩⟩) q2 (by rw[zg];lia),?_⟩;rw[JX z.cu _ kh];have kt:∀(o:HO) (t:Addr) (l:List V),G4 t=some (.tup l)->upd G4 pt o t=some (.tup l):=fun o t l e=>by
    rw[ag fun z=>by rw[z,q2]at e;cases e];exact e
   refine⟨(kp.trans kG).put (.tail _ (.head _)),aq N4 rfl,ys++[.ref p1],_,_,_,(ag npt).trans q1,?_,?_,rfl,rfl,rfl⟩
   ·have e1:trn (Ci++[z])=trn Ci++[⟨z.pa,z.cu,0-z.am⟩]:=by unfold trn;rw[vX,List.map_singleton,Int.zero_sub]
    rw[e1];exact(ay2.imp fun _ _ _ _ h=>RwAt.mv _ _ _ _ (kt _) h).snoc ⟨p1,rfl,kt _ _ _ q3⟩
   ·have e1:mvd path (Ci++[z])=mvd path Ci++[⟨path,z.cu,z.am⟩]:=by unfold mvd;rw[vX];rfl
    rw[ad,e1,oE];rfl
 ·rintro σ' G ⟨kp,nG,ys,x6,x7,x8,hpr',ay,hpt',rfl⟩
  rw[lw,Zo]at ay hpt';walk_at "rq";refine gU ?_;walk_at "rq";have sG:Same H G:=fun p o e=>kp _ _ (s12 _ _ e) (old e);have lC:(gh (gcB as) rs out).length<=54:=wn (Zp _ _) (by lia);have ay:A2 (RwAt G) ys (trn (gh (gcB as) rs out)):=ay;have hpt':G pt=some (.dK ((dk (mvd path (gh (gcB as) rs out))).map jb)):=hpt';have k:∀(out2:List Pt) r ws H',out2.Perm ((dk (mvd path (gh (gcB as) rs out))).map (·.1))->jq out2->H r=none->H' r=some (.lst ws)->ws.length<=200->A2 (RwAt H') ws (due (gcB as) path rs out out2)->Same H H'->NoT H'->Q (.ref r) H':=fun out2 r ws H' p2 o2 h1 h2 h3 h4=>k r ws H' h1 h2 h3 (by rw[<- ya po oo p2 o2];exact h4);unfold due at k;generalize gh (gcB as) rs out=C at ay hpt' k lC;have lm:(mvd path C).length=C.length:=zg ..;have ld:=(iB (mvd path C)).2.2;refine⟨_,(dk (mvd path C)).map fun e=>e.1.2,hpt',by rw[tf,tf];rfl,by rw[zg];lia,fun cz pz oz l hl=>⟨⟨_,SqL.of ad⟩,?_⟩⟩;obtain⟨po2,oo2⟩:=D8 pz oz;have lz:=pz.length_eq;rw[zg]at lz;have s3:=ah (HO.lst (cz.map L2.T)) hl;have g3:upd G l (HO.lst (cz.map L2.T)) l=some (HO.lst (cz.map L2.T)):=ad;have N3:NoT (upd G l (HO.lst (cz.map L2.T))):=aq nG rfl;generalize upd G l (HO.lst (cz.map L2.T))=G3 at s3 g3 N3 |-
  refine ceA RwAt.mv l (cz.map L2.T) cz (fun v c=>v=L2.T c) (fun c=>decide (val (mvd path C) (path,c)≠0)) (fun c=>⟨path,c,val (mvd path C) (path,c)⟩) g3 N3 (xz cz) (by rw[zg];lia) (fun v c mc hc F zs M1 M0 sF nF hzs n1 n0=>?_) fun D ws2 F hD sF nF gD aF=>?_
  ·subst hc
   obtain⟨z1,rfl⟩:=ex1 hzs;have ve:=xn (po2.mem_iff.mp (yS.mpr ⟨c,mc,rfl⟩));have gd:=DGet.k (k:=.inr ⟨⟨c⟩⟩) (sF _ _ (s3 _ _ hpt'));rw[Fz c kh,ve]at gd;walk_at "rq";refine⟨⟨[_],rfl,rfl⟩,pt,_,rfl,gd,?_⟩;walk_at "rq";by_cases hv:val (mvd path C) (path,c)=0
   ·exact itp hv (n0 (decide_eq_false fun z=>z hv) _ (Same.refl _) nF)
   ·refine itn hv ⟨pt,_,rfl,gd,by walk_at "om",fun p1 hp1=>n1 (decide_eq_true hv) _ _ (ah _ hp1) (aq nF rfl) ⟨p1,rfl,ad⟩⟩
  ·walk_at "rq"
   have er:(cz.filter fun c=>decide (val (mvd path C) (path,c)≠0)).map (fun c=>(⟨path,c,val (mvd path C) (path,c)⟩:Row))=res (mvd path C) (cz.map fun c=>(path,c)):=by
    unfold res;rw[List.filter_map,tf];rfl
   rw[er]at aF;have l1:=aF.len;have l2:=ay.len;have l3:=i7 (mvd path C) (cz.map fun c=>(path,c));rw[zg]at l3;have lt:(trn C).length=C.length:=zg ..;have s4:=s3.trans sF;refine⟨ys,ws2,s4 _ _ hpr',gD,by lia,fun p5 hp5=>?_⟩;have s5:=ah (HO.lst (ys++ws2)) hp5;exact k _ p5 _ _ po2 oo2 ((sG.trans s4).free hp5) ad (by rw[zi];lia) ((bt (s4.trans s5) ay).app (bt s5 aF)) ((sG.trans s4).trans s5) (aq nF rfl)
theorem qC(T:Txt K mg a):Fo P w K mg base "_law_whole" 1 sp_nE:=by
 refine T.tD.g1 ["_law_found"] fun x0 fA cdv A outer s H Q E ND HU hr h=>?_;obtain⟨hN,h1⟩:=h;obtain⟨t,ht,hb,k⟩:=asK.inv h1;refine⟨hN,_,(af (aC (cj (aD (bU K) rfl T.aY aV (fa2 (fv 0) (df (v:=.ty "int") rfl T.gY eg rfl))) (cF (C0 (aD (bU K) rfl T.aY aV (fa2 (fv 0) (df (v:=.ty "bool") rfl T.Az yB rfl)))))))),?_⟩;walk_at "rq";simp only[ht];rw[<- uU ht]at k;rcases hb with rfl|rfl|rfl|rfl|rfl|rfl|rfl
 all_goals first
  |exact F7 k
  |exact HC k
theorem mX(W:Wd)(o:Option Int):dN [(kyR,.ref W.mr),(kyS,.ref W.ml),(kyC,cl o),(kyF,.int W.f)] kyR=some (.ref W.mr)/\dN [(kyR,.ref W.mr),(kyS,.ref W.ml),(kyC,cl o),(kyF,.int W.f)] kyS=some (.ref W.ml)/\dN [(kyR,.ref W.mr),(kyS,.ref W.ml),(kyC,cl o),(kyF,.int W.f)] kyC=some (cl o)/\dN [(kyR,.ref W.mr),(kyS,.ref W.ml),(kyC,cl o),(kyF,.int W.f)] kyF=some (.int W.f):=⟨rfl,rfl,rfl,rfl⟩
theorem Mn.rows{H:Hp}{W:Wd}{v:Vr}(h:Mn H W v):DGet H W.md (L2.T [114,111,119,115]) (some (.ref W.mr)):=.inl ⟨_,kyR,.inl h.hm,rfl,(mX W v.o).1.symm⟩
theorem Mn.seals{H:Hp}{W:Wd}{v:Vr}(h:Mn H W v):DGet H W.md (L2.T [115,101,97,108,115]) (some (.ref W.ml)):=.inl ⟨_,kyS,.inl h.hm,rfl,(mX W v.o).2.1.symm⟩
theorem Mn.clsd{H:Hp}{W:Wd}{v:Vr}(h:Mn H W v):DGet H W.md (L2.T [99,108,111,115,101,100]) (some (cl v.o)):=.inl ⟨_,kyC,.inl h.hm,rfl,(mX W v.o).2.2.1.symm⟩
theorem Mn.first{H:Hp}{W:Wd}{v:Vr}(h:Mn H W v):DGet H W.md (L2.T [102,105,114,115,116]) (some (.int W.f)):=.inl ⟨_,kyF,.inl h.hm,rfl,(mX W v.o).2.2.2.symm⟩
theorem x_(l:List Nat):∀as:List La,dN (as.map kyL) (.inr ⟨⟨l⟩⟩)=(acL as (L2.T l)).map fun z=>.ref z.ls
 | []=>rfl
 |y::r=>by
  show dN (kyL y::r.map kyL) _=(List.find? (fun x=>decide (x.pa=l)) (y::r)).map _;by_cases c:y.pa=l
  ·rw[d9 (by unfold kyL;rw[c]),List.find?_cons_of_pos (by exact decide_eq_true c)];rfl
  ·rw[de (fun z=>c (by simpa [kyL] using z)),List.find?_cons_of_neg (by simpa using c)];exact x_ l r
theorem on{as:List La}{l:List Nat}{z:La}(h:acL as (L2.T l)=some z):z∈as/\z.pa=l:=⟨List.mem_of_find?_eq_some h,by simpa using List.find?_some h⟩
theorem zK{K:W.Frag}{H:Hp}{p q:Addr}{xs:List V}(hx:SqL K H p xs)(hy:SqL K H q []):EqR K H p q xs.isEmpty:=by
 cases xs with
 |nil=>exact EqR.lst (e:=fun _=>true) hx hy rfl fun j x y gx _=>by simp at gx
 |cons x r=>exact EqR.len hx hy (by simp)
theorem wJ{α β:Type}{R:α->β->Prop}{xs:List α}{ys:List β}(h:A2 R xs ys):xs.isEmpty=ys.isEmpty:=by cases h <;> rfl
theorem Fy(z:La):∀rs:List Row,(rs.filter fun r=>decide (r.pa=z.pa) && !inV (cuV z.cu) [.non,L2.T r.cu]).isEmpty = !ncB (cuV z.cu) z.pa rs:=fun rs=>by
 cases e:z.cu with
 |none=>
  have:rs.filter (fun r=>decide (r.pa=z.pa) && !inV (cuV none) [.non,L2.T r.cu])=[]:=List.filter_eq_nil_iff.mpr fun r _=>by
   show ¬ (decide (r.pa=z.pa) && !true)=true;simp
  rw[this];rfl
 |some l=>
  show _ = !(rs.any fun r=>decide (r.pa=z.pa) && !decide (r.cu=l))
  induction rs with
  |nil=>rfl
  |cons r rs ih=>
   have q:inV (cuV (some l)) [.non,L2.T r.cu]=decide (r.cu=l):=by
    show inV (L2.T l) [.non,L2.T r.cu]=_;have:=BW l [r.cu];show(false || inV (L2.T l) [L2.T r.cu])=_;rw[Bool.false_or];rw[show([L2.T r.cu]:List V)=[r.cu].map L2.T from rfl,this];simp[eq_comm]
   rw[List.filter_cons,q,YZ];cases hb:decide (r.pa=z.pa) && !decide (r.cu=l) with
   |true=>rfl
   |false=>rw[if_neg (by decide),Bool.false_or];exact ih
def sp_D7(a:Adr):Sp:=sp4 fun x y s r H Q _=>asR x fun d=>asR y fun md=>∃cy m n W v,ChP a m H W/\Mn H W v/\VOk W.as cy n v/\NoT H/\m<=18/\cy.length=3/\d=W.d/\md=W.md/\asK H s fun _=>asK H r fun _=>∀H',Same H H'->NoT H'->Q (L2.T (clW (cls W.as v s r))) H'
theorem v7(T:Txt K mg a):Fo P w K mg base "_law_due" 5 (sp_D7 a):=by
 refine T.wU.x4 ["_law_accounts_here","_law_mine","_law_month_here","_law_path_here","_law_day_here","_law_rows"] fun x0 x1 x2 x3 fA cdv A outer s H Q E ND HU hr h=>?_;obtain⟨d,rfl,h2⟩:=asR.inv h;obtain⟨md,rfl,cy,m,n,W,v,C,M,O,hN,m18,lc,rfl,rfl,h3⟩:=asR.inv h2;obtain⟨t4,ht4,hb4,h4⟩:=asK.inv h3;obtain⟨t5,ht5,hb5,k⟩:=asK.inv h4;have sz:=szl
 skip
 have nd:=C.ai.nd;obtain⟨bs,hmr,B⟩:=M.hr;have c4:∃u,PSs (bV (XE P w) P w K mg base ["_law_accounts_here","_law_mine","_law_month_here","_law_path_here","_law_day_here","_law_rows"] "_law_due" (au (top 83)) fA cdv A outer s H E) (Zn 4 (aZ (top 83))) u/\∀N z,z∈W.as->x3=L2.T z.pa->(∀H',Same H H'->NoT H'->Q (L2.T (clW (if z.ki=oa then (if opn z.fi z.un (fO N)=true then (if ncB (cuV z.cu) z.pa (jM W.as v.bx N z.pa)=true then 6 else 0) else 5) else 4))) H')->u { nx:=fun _ H'=>Q .non H',rt:=Q } [some (.ref W.d),some (.ref W.md),some (.int N),some x3,none,none] H:=by
  refine⟨_,(ae (aO 4 ND (aB K (aH (cD T) hr aA (fa1 (fv 2))) aa))
   (ae (a6 (aN (cE K HU) (aB K (aL (Zz HU) (fv 0) (fv 3) (fun _ _=>rfl)) aa) (ak [111,119,110])) (af (aC (ak [107,105,110,100]))) aJ)
   (ae (a6 (bR (bL (aH (eh T) hr aA (fa3 (fv 0) (fv 3) (fv 4))))) (af (aC (ak [111,112,101,110]))) aJ)
   (ae (aO 5 ND (aH (jB T) hr aA (fa4 (fv 0) (aL (Zz HU) (fv 1) (ak [114,111,119,115]) (fun _ _=>rfl)) (fv 3) (fv 4))))
   (ae (a6 (iU (aN (cE K HU) (bN rfl (cl:=_) (x:="_law_row") (xs:=["_law_row"]) (fr:=["_law_path_here","_law_accounts_here"]) (ks:=[3,0]) (by walk_at "cq") rfl (bM K (fv 5)) (fun _ _ _ _ _=>(aK (i:=0) (bX (l:=["_law_row","_law_path_here","_law_accounts_here"]) (by decide)) rfl (Or.inl rfl))) (fun _ _ _ _ _=>(cN (iU (L2.PW.pt (dJ (aN (bF K HU) (aB K (fv 0) aa) (fv 1)) (cU (jP (rA K) (aB K (aL (Zz HU) (fv 2) (fv 1) (fun _ _=>rfl)) aa) (bd (fa2 cG (aB K (fv 0) aa))) (by with_unfolding_all rfl)))))))) (fun _ _ _ _ _=>(fv 0))) (bz (FA.pa ce)))) (af (aC (ak [99,117,114,114,101,110,99,121]))) aJ)
   (af (aC (ak [])))))))),fun N z mz e3 kk=>?_⟩
  subst e3;clear k;walk_at "rq";refine⟨hN,fun p H1 s1 N1 hp=>⟨_,_,.inr (SqT.of hp),av (j:=1) rfl,?_⟩⟩;have A1:=C.ac.same s1;refine⟨W.d,.ref z.ls,rfl,A1.get nd mz,?_⟩;walk_at "rq";refine⟨_,_,.inl (SqL.of (A1.ls z mz)),av (j:=3) rfl,?_⟩;walk_at "rq";by_cases ko:z.ki=oa
  rotate_left 1
  ·rw[if_neg ko]at kk
   exact itn ko (kk H1 s1 N1)
  rw[if_pos ko]at kk;refine itp ko ⟨N1,W.as,z,A1,nd,mz,rfl,?_⟩;by_cases kp:opn z.fi z.un (fO N)=true
  rotate_left 1
  ·rw[if_neg kp]at kk
   exact itp (by simpa using kp) (kk H1 s1 N1)
  rw[if_pos kp]at kk;have M1:=M.keep (Keep.same s1) (Kt.same s1) cq (S:=[]);refine itn (by rw[kp];decide) ⟨W.md,.ref W.mr,rfl,M1.rows,N1,?_⟩;walk_at "rq";refine⟨bs,v.bx.map Bx.bk,W.as,cy,A1,s1 _ _ hmr,kH s1 (ud B),O.bo,wn C.ai.len m18,lc,nd,fun r ws H2 hr hr2 l2 a2 s2 N2=>⟨N2,?_⟩⟩;have A2':=A1.same s2;have s12:=s1.trans s2;change A2 (RwAt H2) ws (jM W.as v.bx N z.pa) at a2;have nc:=Fy z (jM W.as v.bx N z.pa);generalize jM W.as v.bx N z.pa=rs at a2 nc kk;refine gU ?_;walk_at "rq";refine⟨⟨_,SqL.of hr2⟩,ceA RwAt.mv r ws rs (RwAt H2) (fun r=>decide (r.pa=z.pa) && !inV (cuV z.cu) [.non,L2.T r.cu]) id hr2 N2 a2 (by lia) (fun u r mr rr G zs N1 N0 sG nG hz n1 n0=>?_) fun D ws G hD sG nG gD aG=>?_⟩
  ·obtain⟨q1,rfl,hq1⟩:=rr
   have hq1:=sG _ _ hq1;obtain⟨z1,rfl⟩:=ex1 hz;have AG:=A2'.same sG;have n1:=fun h=>n1 h _ _ (Same.refl _) nG ⟨q1,rfl,hq1⟩;have n0:=fun h=>n0 h _ (Same.refl _) nG;walk_at "rq";refine⟨⟨[_],rfl,rfl⟩,nG,_,_,.inr (SqT.of hq1),av (j:=0) rfl,?_⟩;walk_at "rq";by_cases h1:r.pa=z.pa
   ·refine itp h1 ⟨W.d,.ref z.ls,rfl,AG.get nd mz,?_⟩
    walk_at "rq";refine⟨_,_,.inl (SqL.of (AG.ls z mz)),av (j:=0) rfl,_,_,.inr (SqT.of hq1),av (j:=1) rfl,by walk_at "om",fun p hp=>⟨_,.inr (SqT.of ad),by cases z.cu <;> rfl,rfl,G,Gc.none (ah _ hp),?_⟩⟩;rw[decide_eq_true h1,Z9]at n1 n0;cases hb:inV (cuV z.cu) [.non,L2.T r.cu] with
    |true=>rw[hb]at n0;exact itn (by decide) (n0 rfl)
    |false=>rw[hb]at n1;exact itp rfl (n1 rfl)
   ·rw[decide_eq_false h1,YO]at n0
    exact itn h1 (n0 rfl)
  ·walk_at "rq"
   rw[YR]at aG;have em:=(wJ aG).trans nc;refine⟨wQ _,fun p hp=>⟨_,zK (SqL.of ((ag (az gD hp)).trans gD)) (SqL.of ad),H2,Gc.none (sG.trans (ah _ hp)),?_⟩⟩;have kk:=kk H2 s12 N2;rw[em];cases hb:ncB (cuV z.cu) z.pa rs with
   |true=>rw[hb]at kk;exact itp rfl kk
   |false=>rw[hb]at kk;exact itn (by decide) kk
 obtain⟨u4,hu4,c4⟩:=c4;have c2:∃u,PSs (bV (XE P w) P w K mg base ["_law_accounts_here","_law_mine","_law_month_here","_law_path_here","_law_day_here","_law_rows"] "_law_due" (au (top 83)) fA cdv A outer s H E) (Zn 2 (aZ (top 83))) u/\∀N,(∀H',Same H H'->NoT H'->Q (L2.T (clW (if N % 12=11 then clK W.as v.bx N x3 else 0))) H')->u { nx:=fun _ H'=>Q .non H',rt:=Q } [some (.ref W.d),some (.ref W.md),some (.int N),some x3,none,none] H:=by
  refine⟨_,(ae (a6 (aN (cE K HU) (aj aW (fv 2) aa) aa) (af (aC (ak []))) aJ)
   (ae (a6 (L2.PW.pt (kj (bR (bL (aD (bU K) rfl T.aY aV (fa2 (fv 3) (df (v:=.ty "str") rfl T.rS mK rfl))))) (gB (dX (rN (Zz HU) (fv 3) (fv 0)) (by with_unfolding_all rfl))))) (af (aC (ak [97,99,99,111,117,110,116]))) aJ)
   hu4)),fun N kk=>?_⟩
  walk_at "rq";by_cases h11:N % 12=11
  rotate_left 1
  ·rw[if_neg h11]at kk
   exact itn h11 (kk H (Same.refl _) hN)
  rw[if_pos h11]at kk;refine itp h11 ?_;unfold clK at kk;simp only[ht5];rw[show bZ t5 "str" = isS x3 by rw[<- uB ht5];rcases hb5 with rfl|rfl|rfl|rfl|rfl|rfl|rfl <;> rfl];cases e:isS x3 with
  |false=>
   rw[show acL W.as x3=none by cases x3 with|str s=>cases e|_=>rfl]at kk;exact itp rfl (kk H (Same.refl _) hN)
  |true=>
   obtain⟨l,rfl⟩:=vg e;refine itn (by decide) ⟨W.d,_,rfl,DGet.k (k:=.inr ⟨⟨l⟩⟩) C.dd,?_⟩;rw[x_,ZA];cases ea:acL W.as (L2.T l) with
   |none=>rw[ea]at kk;exact itp rfl (kk H (Same.refl _) hN)
   |some z=>rw[ea]at kk;exact itn (by intro q;cases q) (c4 N z (on ea).1 (by rw[(on ea).2]) kk)
 obtain⟨u2,hu2,c2⟩:=c2;refine⟨_,(ae (a6 (L2.PW.pt (kj (bR (bL (aH (qC T) hr aA (fa1 (fv 2))))) (gB (bR (BX d4 d4 aa (fv 2) aa))))) (af (aC (ak [109,111,110,116,104]))) aJ)
  (ae (a6 (L2.PW.pt (dJ (dX (dq (aL (Zz HU) (fv 1) (ak [99,108,111,115,101,100]) (fun _ _=>rfl)))) (cU (aN (cE K HU) (fv 2) (aj aE (aL (Zz HU) (fv 1) (ak [99,108,111,115,101,100]) (fun _ _=>rfl)) aa))))) (af (aC (ak [110,101,120,116]))) aJ)
  hu2)),?_⟩
 walk_at "rq";refine⟨hN,asK.of ht4 ?_⟩;cases ei:isI x2 with
 |false=>
  rw[show cls W.as v x2 x3=1 by cases x2 with|int s=>cases ei|_=>rfl]at k;exact itp rfl (k H (Same.refl _) hN)
 |true=>
  obtain⟨N,rfl⟩:∃N,x2 = .int N:=by
   cases x2 with
   |int N=>exact⟨N,rfl⟩
   |_=>cases ei
  refine itn (by decide) ?_;have k:∀H',Same H H'->NoT H'->Q (L2.T (clW (if 0<=N/\N<=4799 then (if v.o=none\/v.o=some (N-1) then (if N % 12=11 then clK W.as v.bx N x3 else 0) else 2) else 1))) H':=k;walk_at "rq";by_cases h0:0<=N
  rotate_left 1
  ·rw[if_neg fun q=>h0 q.1]at k
   exact itn h0 (k H (Same.refl _) hN)
  refine itp h0 ?_;by_cases h1:N<=4799
  rotate_left 1
  ·rw[if_neg fun q=>h1 q.2]at k
   exact itn h1 (k H (Same.refl _) hN)
  refine itp h1 ⟨W.md,_,rfl,M.clsd,?_⟩;rw[if_pos ⟨h0,h1⟩]at k;have ck:=M.clsd;cases eo:v.o with
  |none=>
   rw[if_pos (.inl eo)]at k;exact itp rfl (c2 N k)
  |some z=>
   rw[eo]at ck;refine itn (by intro z;cases z) ⟨W.md,_,rfl,ck,?_⟩;show qN (.int z) (.int 1) H _;walk_at "rq";by_cases hz:N=z+1
   ·rw[if_pos (.inr (by rw[eo,hz,show z+1-1=z by lia]))]at k
    exact itp hz (c2 N k)
   ·rw[if_neg (by rw[eo];rintro(q|q);cases q;injection q with q;exact hz (by lia))]at k
    exact itn hz (k H (Same.refl _) hN)
def rb(b:Bool)(l:List Nat):List V:=if b=true then [L2.T l] else []
theorem jO(b:Bool)(l:List Nat):(rb b l).length<=1:=by
 cases b with
 |true=>exact zL 1
 |false=>exact wQ 1
def Gv(σ:St)(H:Hp)(te:TE)(xs:List V):Prop:=∀R:VK,(∀p G,Same H G->NoT G->G p=some (.lst xs)->R (.ref p) G)->te σ H R
abbrev tWd(K:W.Frag)(C:Addr)(l:List Nat):TE:=tOp F5 (Hu (cc (tC (L2.T l)) h8)) (tCB yC (cc (tCB (BU K) (cc (uC 0) (cc (tC (V.ref C)) h8))) h8))
theorem wdG{e X C:Addr}{o:Option V}{H:Hp}{b:Bool}{l:List Nat}(he:H e=some (gZ (.ref X) e))(hN:NoT H)(xc:cL K X)(kb:sV K (.ref X) (.ref C)=some b):Gv [some (.ref e),o] H (tWd K C l) (rb b l):=fun R q=>by
 have sz:=szl;unfold tWd;walk_at "rd";refine⟨by walk_at "om",fun p hp=>⟨_,b,(ag (az he hp)).trans he,xc,kb,_,ad,by cases b <;> decide,by cases b <;> decide,?_,fun p1 hp1=>q p1 _ ((ah _ hp).trans (ah _ hp1)) (aq (aq hN rfl) rfl) ?_⟩⟩
 ·cases b with
  |true=>exact wn (show 1*1<=1000 by decide) sz
  |false=>exact wn (show 1*0<=1000 by decide) sz
 ·rw[ad];cases b <;> rfl
theorem zx{ta tb:TE}{σ:St}{H:Hp}{xs ys:List V}(ha:Gv σ H ta xs)(hb:∀G,Same H G->NoT G->Gv σ G tb ys)(lx:xs.length<=20)(ly:ys.length<=20):Gv σ H (tOp FR ta tb) (xs++ys):=fun R q=>by
 have sz:=szl;refine ha _ fun p G s n h=>hb G s n _ fun p1 G1 s1 n1 h1=>?_;exact⟨xs,ys,s1 _ _ h,h1,by lia,fun p2 hp2=>q p2 _ ((s.trans s1).trans (ah _ hp2)) (aq n1 rfl) ad⟩
theorem F6{e p:Addr}{H:Hp}{xs:List V}(h:H p=some (.lst xs))(hN:NoT H):Gv [some (.ref e),some (.ref p)] H (uC 1) xs:=fun R q=>q p H (Same.refl _) hN h
theorem F9{te:TE}{rest:TS}{D:eA}{e:Addr}{o:Option V}{H:Hp}{xs:List V}(g:Gv [some (.ref e),o] H te xs)(q:∀p G,Same H G->NoT G->G p=some (.lst xs)->rest D [some (.ref e),some (.ref p)] G):EI (vS te (fG 1)) rest D [some (.ref e),o] H:=g _ q
def sp_Eh(a:Adr):Sp:=sp1 fun x H Q _=>NoT H/\asR x fun e=>∃k,1<=k/\k<=6/\H e=some (gZ (.ref (clE a k)) e)/\∀H',Same H H'->NoT H'->Q (L2.T (clW k)) H'
theorem j6(T:Txt K mg a):FoC P w K mg base "_law_word" 1 (sp_Eh a):=by
 refine T.vy.c1 ["_law_e","_law_words"] fun x0 fA cdv A outer s H Q E ND HU hr h=>?_;obtain⟨hN,h1⟩:=h;obtain⟨e,rfl,n,n1,n6,he,k⟩:=asR.inv h1;have sz:=szl;refine⟨_,(ae (aO 1 ND (aj gw (aj jQ (bz (fa1 (ak [109,111,110,116,104]))) (bh dW rfl T.gY eg (fa1 (aD (bU K) rfl T.aY aV (fa2 (fv 0) (eI (v:=.ref a.a8) rfl T.jG rfl)))))) (aj jQ (bz (fa1 (ak [110,101,120,116]))) (bh dW rfl T.gY eg (fa1 (aD (bU K) rfl T.aY aV (fa2 (fv 0) (eI (v:=.ref a.bj) rfl T.rm rfl))))))))
  (ae (aO 1 ND (aj gw (aj gw (fv 1) (aj jQ (bz (fa1 (ak [97,99,99,111,117,110,116]))) (bh dW rfl T.gY eg (fa1 (aD (bU K) rfl T.aY aV (fa2 (fv 0) (eI (v:=.ref a.aS) rfl T.nj rfl))))))) (aj jQ (bz (fa1 (ak [107,105,110,100]))) (bh dW rfl T.gY eg (fa1 (aD (bU K) rfl T.aY aV (fa2 (fv 0) (eI (v:=.ref a.bn) rfl T.mW rfl))))))))
  (ae (aO 1 ND (aj gw (aj gw (fv 1) (aj jQ (bz (fa1 (ak [111,112,101,110]))) (bh dW rfl T.gY eg (fa1 (aD (bU K) rfl T.aY aV (fa2 (fv 0) (eI (v:=.ref a.a9) rfl T.fS rfl))))))) (aj jQ (bz (fa1 (ak [99,117,114,114,101,110,99,121]))) (bh dW rfl T.gY eg (fa1 (aD (bU K) rfl T.aY aV (fa2 (fv 0) (eI (v:=.ref a.aP) rfl T.fN rfl))))))))
  (af (aC (aj EC (cK K ZU PySem.F.slot_str_join PySem.F.type_str_join (v8 K) (ak [32]) (fa1 (aj gw (fv 1) (aj jQ (bz (fa1 (ak [114,111,119]))) (bh dW rfl T.gY eg (fa1 (aD (bU K) rfl T.aY aV (fa2 (fv 0) (eI (v:=.ref a.dM) rfl T.B8 rfl))))))))) (bh dW rfl T.gY eg (fa1 (aD (bU K) rfl T.aY aV (fa2 (fv 0) (df (v:=.ty "ValueError") rfl T.tQ qz rfl))))))))))),?_⟩
 obtain⟨b0,b1,b2,b3,b4,b5,b6,xc,s0,s1,s2,s3,s4,s5,s6,sv,fin⟩:∃b0 b1 b2 b3 b4 b5 b6:Bool,cL K (clE a n)/\W.kitOne K (.ref (clE a n)) (.ref a.a8)=some b0/\W.kitOne K (.ref (clE a n)) (.ref a.bj)=some b1/\W.kitOne K (.ref (clE a n)) (.ref a.aS)=some b2/\W.kitOne K (.ref (clE a n)) (.ref a.bn)=some b3/\W.kitOne K (.ref (clE a n)) (.ref a.a9)=some b4/\W.kitOne K (.ref (clE a n)) (.ref a.aP)=some b5/\W.kitOne K (.ref (clE a n)) (.ref a.dM)=some b6/\W.kitOne K (.ref (clE a n)) (.type "ValueError")=some true/\rb b0 [109,111,110,116,104]++rb b1 [110,101,120,116]++rb b2 [97,99,99,111,117,110,116]++rb b3 [107,105,110,100]++rb b4 [111,112,101,110]++rb b5 [99,117,114,114,101,110,99,121]++rb b6 [114,111,119]=[L2.T (clW n)]:=by
  clear k he;rcases(by lia:n=1\/n=2\/n=3\/n=4\/n=5\/n=6) with rfl|rfl|rfl|rfl|rfl|rfl
  ·exact⟨_,_,_,_,_,_,_,  T.wC,T.jt,T.jJ,T.ii,T.jZ,T.jD,T.gs,T.j8,T.ig,rfl⟩
  ·exact⟨_,_,_,_,_,_,_,  T.zR,T.jU,T.lJ,T.jr,T.j5,T.kr,T.hX,T.mB,T.iF,rfl⟩
  ·exact⟨_,_,_,_,_,_,_,  T.vY,T.ip,T.je,T.ia,T.jf,T.jg,T.gk,T.jV,T.gp,rfl⟩
  ·exact⟨_,_,_,_,_,_,_,  T.zb,T.jT,T.lF,T.jj,T.lR,T.j7,T.ib,T.mY,T.iQ,rfl⟩
  ·exact⟨_,_,_,_,_,_,_,  T.zF,T.jX,T.kA,T.jn,T.lq,T.ku,T.hJ,T.mR,T.iy,rfl⟩
  ·exact⟨_,_,_,_,_,_,_,  T.qP,T.gH,T.h9,T.gm,T.hU,T.hZ,T.fm,T.ir,T.fQ,rfl⟩
 have l0:=jO b0 [109,111,110,116,104];have l1:=jO b1 [110,101,120,116];have l2:=jO b2 [97,99,99,111,117,110,116];have l3:=jO b3 [107,105,110,100];have l4:=jO b4 [111,112,101,110];have l5:=jO b5 [99,117,114,114,101,110,99,121];have l6:=jO b6 [114,111,119];refine F9 (zx (wdG he hN xc s0) (fun G s n=>wdG (s _ _ he) n xc s1) (by lia) (by lia)) fun p1 H1 m1 N1 h1=>?_;refine F9 (zx (zx (F6 h1 N1) (fun G s n=>wdG (s _ _ (m1 _ _ he)) n xc s2) (by rw[zi];lia) (by lia)) (fun G s n=>wdG (s _ _ (m1 _ _ he)) n xc s3) (by rw[zi,zi];lia) (by lia)) fun p2 H2 m2 N2 h2=>?_;refine F9 (zx (zx (F6 h2 N2) (fun G s n=>wdG (s _ _ (m2 _ _ (m1 _ _ he))) n xc s4) (by rw[zi,zi,zi];lia) (by lia)) (fun G s n=>wdG (s _ _ (m2 _ _ (m1 _ _ he))) n xc s5) (by rw[zi,zi,zi,zi];lia) (by lia)) fun p3 H3 m3 N3 h3=>?_;have he3:=m3 _ _ (m2 _ _ (m1 _ _ he));have cg:=zx (F6 (e:=e) h3 N3) (fun G s n=>wdG (l:=[114,111,119]) (s _ _ he3) n xc s6) (by rw[zi,zi,zi,zi,zi];lia) (by lia);rw[fin]at cg;refine z9 rfl (cg _ fun q G13 s13 hN hl=>?_);have he:=s13 _ _ he3;have s013:=m1.trans (m2.trans (m3.trans s13));walk_at "rd";have lw:(clW n).length<=8:=by
  clear fin k he hl;rcases(by lia:n=1\/n=2\/n=3\/n=4\/n=5\/n=6) with rfl|rfl|rfl|rfl|rfl|rfl <;> decide
 refine⟨[clW n],SqL.of hl,?_,?_⟩
 ·show((clW n).length+0)+1*1<=16777216
  lia
 have ke:cP G13 (.ref e)=none:=by simp[cP,he,gZ]
 simp only[ke];refine⟨e,_,true,rfl,he,xc,sv,?_⟩;refine⟨⟨show(clW n).length<=1000 by lia,by decide,by decide⟩,?_⟩;rw[show(t7 (if true=true then 1 else 0:Int).toNat (cs { cps:={ toList:=cx (cs { cps:={ toList:=[32] } }) [clW n] } })).flatten=clW n from(Zs _)];exact k _ s013 hN
def sp_Dt(a:Adr):Sp:=sp4 fun x y s r H Q _=>asR x fun d=>asR y fun md=>asI s fun M=>∃cy m n W v,ChP a m H W/\Mn H W v/\(∀p∈cad W,p∉mad W)/\VOk W.as cy n v/\VOk W.as cy (n+1) (nxV W.as v M r)/\NoT H/\m<=18/\n<40/\cy.length=3/\d=W.d/\md=W.md/\(M % 12=11->∃z∈W.as,r=L2.T z.pa/\acL W.as r=some z) /\
 ∀t H',Mn H' W (nxV W.as v M r)->(∀e∈(nxV W.as v M r).se.getLast?,SeAt H' t e.m e.n e.rs)->Keep (mad W) H H'->NoT H'->Q (.ref t) H'
theorem oG(T:Txt K mg a):Fo P w K mg base "_law_closed" 5 (sp_Dt a):=by
 refine T.qL.x4 ["_law_accounts_here","_law_mine","_law_month_here","_law_path_here","_law_day_here","_law_rows","_law_many"] fun x0 x1 x2 x3 fA cdv A outer s H Q E ND HU hr h=>?_;obtain⟨d,rfl,h2⟩:=asR.inv h;obtain⟨md,rfl,h3⟩:=asR.inv h2;obtain⟨N,rfl,cy,m,n,W,v,C,M,ap,O,ON,hN,m18,n40,lc,rfl,rfl,hz,kQ⟩:=asI.inv h3;have sz:=szl
 skip
 have c2:∃u,PSs (bV (XE P w) P w K mg base ["_law_accounts_here","_law_mine","_law_month_here","_law_path_here","_law_day_here","_law_rows","_law_many"] "_law_closed" (au (top 85)) fA cdv A outer s H E) (Zn 2 (aZ (top 85))) u/\∀bx H1 o5,Mn H1 W { v with bx:=bx }->nxV W.as v N x3=⟨some N,bx,v.se++[nxS bx N]⟩->Keep (mad W) H H1->NoT H1->u { nx:=fun _ H'=>Q .non H',rt:=Q } [some (.ref W.d),some (.ref W.md),some (.int N),some x3,some (.int (fO N)),o5,none] H1:=by
  refine⟨_,(ae (aO 6 ND (aD (bQ K) rfl T.cZ ci (fa1 (bN rfl (cl:=_) (x:="_law_booking") (xs:=["_law_booking"]) (fr:=["_law_day_here"]) (ks:=[4]) (by walk_at "cq") rfl (bM K (aL (Zz HU) (fv 1) (ak [114,111,119,115]) (fun _ _=>rfl))) (fun _ _ _ _ _=>(aK (i:=0) (bX (l:=["_law_booking","_law_day_here"]) (by decide)) rfl (Or.inl rfl))) (fun _ _ _ _ _=>(cN (aN d4 (aB K (fv 0) aa) (fv 1)))) (fun _ _ _ _ _=>(fv 0))))))
   (ae (bB (cK K pN Zx Zy cn (aL (Zz HU) (fv 1) (ak [115,101,97,108,115]) (fun _ _=>rfl)) (fa1 (bd (fa3 (fv 2) (fv 6) (bh (fR K) rfl T.gt fe (fa1 (aH (gi T) hr aA (fa2 (aL (Zz HU) (fv 1) (ak [114,111,119,115]) (fun _ _=>rfl)) (fv 4))))))))))
   (ae (dL (Zz HU) (fv 1) (ak [99,108,111,115,101,100]) (fv 2) rfl)
   (af (aC (aB K (aL (Zz HU) (fv 1) (ak [115,101,97,108,115]) (fun _ _=>rfl)) (yf tM aa))))))),fun bx H1 o5 M1 en k1 N1=>?_⟩
  rw[en]at kQ ON;obtain⟨bs,hr,B⟩:=M1.hr;have lB:=B.len;have lO:=ON.ll;have lO:bx.length<=n+1:=lO;walk_at "rd";refine gU ?_;walk_at "rd";refine⟨W.md,.ref W.mr,rfl,M1.rows,W.mr,rfl,⟨_,SqL.of hr⟩,ceA (S:=BxAt) (fun G G' v c k h=>h.mv k) W.mr bs bx (BxAt H1) (fun b=>decide (b.d<=fO N)) id hr N1 B (by lia) (fun u b mb rb G zs M1' M0 sG nG hz n1 n0=>?_) fun D ws G hD sG nG gD aG=>?_⟩
  ·obtain⟨q,t,vs,rfl,hq,ht,hrs⟩:=rb
   have hq:=sG _ _ hq;obtain⟨z1,rfl⟩:=ex1 hz;have n1:=fun h=>n1 h _ _ (Same.refl _) nG ⟨q,t,vs,rfl,hq,sG _ _ ht,bt sG hrs⟩;have n0:=fun h=>n0 h _ (Same.refl _) nG;walk_at "rd";refine⟨⟨[_],rfl,rfl⟩,_,_,.inr (SqT.of hq),av (j:=1) rfl,?_⟩;walk_at "rd";by_cases hd:b.d<=fO N
   ·exact itp hd (n1 (decide_eq_true hd))
   ·exact itn hd (n0 (decide_eq_false hd))
  walk_at "rd";have MG:=M1.keep (Keep.same sG) (Kt.same sG) cq (S:=[]);rw[YR]at aG;have lw:(ws.length:Int)=mny (fO N) (bx.map Bx.bk):=by
   unfold mny;rw[aG.len,List.filter_map,zg];rfl
  obtain⟨ss,hs,D⟩:=MG.hs;have lD:=D.len;refine⟨_,.inl (SqL.of gD),W.md,.ref W.ml,rfl,MG.seals,.inl ⟨rfl,_,SqL.of hs⟩,W.md,.ref W.mr,rfl,MG.rows,nG,?_⟩;walk_at "rd";refine⟨bs,bx.map Bx.bk,sG _ _ hr,kH sG (ud B),ON.bo.l1,ON.bo.l2,Y0 (ON.bo.few (wn C.ai.len m18) lc) (by decide),fun out r rws H2 po oo hr0 hr2 a2 s2 N2=>?_⟩;rw[yj po oo]at a2;walk_at "rd";have hs2:=s2 _ _ hs;have M2:=MG.keep (Keep.same s2) (Kt.same s2) cq (S:=[]);have lS:=O.sn;have lD:ss.length=v.se.length:=lD;refine⟨_,.inl ⟨SqL.of hr2,fun l hl=>⟨by walk_at "om",fun p hp=>⟨W.ml,ss,_,rfl,rfl,(ah _ hp) _ _ ((ah _ hl) _ _ hs2),by lia,?_⟩⟩⟩⟩;generalize eU:upd (upd (upd H2 l _) p _) W.ml _=U;have kp:Keep [W.ml] H2 U:=by rw[<- eU];exact((Keep.refl.new hl).new hp).put (.head _)
  have np:p≠W.ml:=fun q=>by rw[q,(ah _ hl) _ _ hs2]at hp;cases hp
  have nl:l≠W.ml:=fun q=>by rw[q,hs2]at hl;cases hl
  have hp2:U p=some (HO.tup [V.int N,V.int ws.length,V.ref l]):=by rw[<- eU];exact(ag np).trans ad
  have hl2:U l=some (HO.tup rws):=by rw[<- eU];exact(ag nl).trans ((ah _ hp) _ _ ad)
  have hm2:U W.ml=some (HO.lst (ss++[V.ref p])):=by rw[<- eU];exact ad
  have N3:NoT U:=by rw[<- eU];exact aq (aq (aq N2 rfl) rfl) rfl
  rw[lw]at hp2;have hd3:U W.md=some (mnD W v.o):=kp _ _ M2.hm fun q=>by
   have e:=M2.hm;rw[zq.mp q,hs2]at e;cases e
  have nd1:W.ml≠W.md:=fun q=>by rw[q,hd3]at hm2;cases hm2
  have nd2:W.mr≠W.md:=fun q=>by
   have e:=M2.hm;rw[<- q,s2 _ _ (sG _ _ hr)]at e;cases e
  have kp4:Keep [W.ml,W.md] H2 (upd U W.md (mnD W (some N))):=(kp.mono fun c q=>by rw[zq.mp q];exact .head _).put (.tail _ (.head _));have kt:Kt H2 (upd U W.md (mnD W (some N))):=fun t l e=>kp4 _ _ e fun q=>by
   rcases zZ.mp q with q|q
   ·rw[q,hs2]at e;cases e
   ·rw[zq.mp q,M2.hm]at e;cases e
  have dp:=DPut.k (k:=kyC) (v:=.int N) hd3 (by show 4<sizeLine;lia);have st:SeAt (upd U W.md (mnD W (some N))) p N (mny (fO N) (bx.map Bx.bk)) (Ch (rsd (fO N) (bx.map Bx.bk))):=by
   refine⟨l,rws,?_,?_,a2.imp fun v r _ _ h=>RwAt.mv _ _ v r kt h⟩
   ·rw[ag fun q=>by rw[q,hd3]at hp2;cases hp2];exact hp2
   ·rw[ag fun q=>by rw[q,hd3]at hl2;cases hl2];exact hl2
  have hml:upd U W.md (mnD W (some N)) W.ml=some (HO.lst (ss++[V.ref p])):=(ag nd1).trans hm2;have M4:Mn (upd U W.md (mnD W (some N))) W ⟨some N,bx,v.se++[nxS bx N]⟩:=by
   obtain⟨bs2,hr2,B2⟩:=M2.hr;refine⟨ad,⟨bs2,kp4 _ _ hr2 fun q=>?_,B2.imp fun _ _ _ _ z=>z.mv kt⟩,⟨_,hml,(D.imp fun _ _ _ _ z=>(z.mv (Kt.same s2)).mv kt).snoc ⟨p,rfl,st⟩⟩,M.ne⟩;rcases zZ.mp q with q|q
   ·exact M.ne q
   ·exact nd2 (zq.mp q)
  refine⟨W.md,_,rfl,dp,W.md,.ref W.ml,rfl,M4.seals,?_⟩;refine⟨_,_,.inl (SqL.of hml),vH _ _,kQ p _ M4 (fun e me=>?_) (k1.trans ((Keep.same sG).trans ((Keep.same s2).trans (kp4.mono fun c q=>?_)))) (aq N3 rfl)⟩
  ·have me:e∈(v.se++[nxS bx N]).getLast?:=me
   rw[List.getLast?_append]at me;cases me;exact st
  ·rcases zZ.mp q with q|q
   ·rw[q];exact .tail _ (.tail _ (.head _))
   ·rw[zq.mp q];exact .head _
 obtain⟨u2,hu2,c2⟩:=c2;refine⟨_,(ae (aO 4 ND (aB K (aH (cD T) hr aA (fa1 (fv 2))) aa))
  (ae (a6 (aN (bF K HU) (aj aW (fv 2) aa) aa) (ae (aO 5 ND (aH (jB T) hr aA (fa4 (fv 0) (aL (Zz HU) (fv 1) (ak [114,111,119,115]) (fun _ _=>rfl)) (fv 3) (fv 4))))
  (af (a6 (iU (aN (cE K HU) (fv 5) (bz (FA.pa ce)))) (af (bB (cK K pN Zx Zy cn (aL (Zz HU) (fv 1) (ak [114,111,119,115]) (fun _ _=>rfl)) (fa1 (bd (fa5 (aD (bQ K) rfl T.cZ ci (fa1 (aL (Zz HU) (fv 1) (ak [114,111,119,115]) (fun _ _=>rfl)))) (fv 4) (ak [99,97,114,114,121]) (bh (fR K) rfl T.gt fe (fa1 (fv 5))) cG)))))) aJ))) aJ)
  hu2)),?_⟩
 walk_at "rd";refine⟨hN,fun p H1 s1 N1 hp=>⟨_,_,.inr (SqT.of hp),av (j:=1) rfl,?_⟩⟩;walk_at "rd";by_cases h11:N % 12=11
 rotate_left 1
 ·refine itn h11 (c2 v.bx H1 none (M.keep (Keep.same s1) (Kt.same s1) cq (S:=[])) ?_ (Keep.same s1) N1)
  unfold nxV;rw[if_neg h11]
 obtain⟨z,mz,e3,ez⟩:=hz h11;have en:nxV W.as v N x3=⟨some N,nxB W.as v.bx N z.pa,v.se++[nxS (nxB W.as v.bx N z.pa) N]⟩:=by unfold nxV;rw[if_pos h11,ez]
 rw[en]at c2;subst e3;have M1:=M.keep (Keep.same s1) (Kt.same s1) cq (S:=[]);obtain⟨bs,hr,B⟩:=M1.hr;have lB:=B.len;refine itp h11 ⟨W.md,.ref W.mr,rfl,M1.rows,N1,?_⟩;walk_at "rd";refine⟨bs,v.bx.map Bx.bk,W.as,cy,C.ac.same s1,hr,ud B,O.bo,wn C.ai.len m18,lc,C.ai.nd,fun r ws H2 hr0 hr2 l2 a2 s2 N2=>⟨N2,wQ _,fun p hp=>⟨_,zK (SqL.of ((ag (az hr2 hp)).trans hr2)) (SqL.of ad),H2,Gc.none (ah _ hp),?_⟩⟩⟩;change A2 (RwAt H2) ws (jM W.as v.bx N z.pa) at a2;have c2:=fun H1=>c2 (nxB W.as v.bx N z.pa) H1 (some (.ref r));unfold nxB at c2;have M2:=M1.keep (Keep.same s2) (Kt.same s2) cq (S:=[]);generalize jM W.as v.bx N z.pa=rs at a2 c2;cases a2 with
 |nil=>exact itn (by decide) (c2 H2 M2 rfl ((Keep.same s1).trans (Keep.same s2)) N2)
 | @cons w0 r0 ws rs a0 a2=>
  have hr':=s2 _ _ hr;refine itp rfl ⟨W.md,.ref W.mr,rfl,M2.rows,.inl ⟨rfl,_,SqL.of hr'⟩,W.md,.ref W.mr,rfl,M2.rows,?_⟩;have lO:=O.ll;walk_at "rd";refine⟨_,.inl (SqL.of hr'),_,.inl ⟨SqL.of hr2,fun l hl=>⟨by walk_at "om",fun p hp=>⟨W.mr,bs,_,rfl,rfl,?_,by lia,?_⟩⟩⟩⟩
  ·exact(ah _ hp) _ _ ((ah _ hl) _ _ hr')
  generalize eU:upd (upd (upd H2 l _) p _) W.mr _=U;have kp:Keep [W.mr] H2 U:=by rw[<- eU];exact((Keep.refl.new hl).new hp).put (.head _)
  have kt:Kt H2 U:=fun t l e=>kp _ _ e fun q=>by rw[zq.mp q,hr']at e;cases e
  have np:p≠W.mr:=fun q=>by rw[q,(ah _ hl) _ _ hr']at hp;cases hp
  have nl:l≠W.mr:=fun q=>by rw[q,hr']at hl;cases hl
  have hp2:U p=some (HO.tup [V.int bs.length,V.int (FD (N+1)-1),L2.T [99,97,114,114,121],V.ref l,V.non]):=by rw[<- eU];exact(ag np).trans ad
  have hl2:U l=some (HO.tup (w0::ws)):=by rw[<- eU];exact(ag nl).trans ((ah _ hp) _ _ ad)
  have hm2:U W.mr=some (HO.lst (bs++[V.ref p])):=by rw[<- eU];exact ad
  have N3:NoT U:=by rw[<- eU];exact aq (aq (aq N2 rfl) rfl) rfl
  rw[lB]at hp2;obtain⟨ss,hs,D⟩:=M2.hs;refine c2 U ⟨kp _ _ M2.hm fun q=>?_,⟨_,hm2,(B.imp fun _ _ _ _ z=>(z.mv (Kt.same s2)).mv kt).snoc ⟨p,l,_,rfl,hp2,hl2,.cons (RwAt.mv _ _ _ _ kt a0) (a2.imp fun v r _ _ h=>RwAt.mv _ _ v r kt h)⟩⟩,⟨ss,kp _ _ hs fun q=>?_,D.imp fun _ _ _ _ z=>z.mv kt⟩,M.ne⟩ rfl (((Keep.same s1).trans (Keep.same s2)).trans (kp.mono fun c q=>by rw[zq.mp q];exact .tail _ (.head _))) N3
  ·have e:=M2.hm
   rw[zq.mp q,hr']at e;cases e
  ·exact M.ne (zq.mp q).symm
abbrev JF(as:List La):List V:=((as.map kyL).map fun e=>kV e.1).filter (tF as fun x=>decide (x.ki=[111,119,110]))
theorem si{as:List La}{v:V}(mv:v∈(as.map kyL).map fun e=>kV e.1):∃z∈as,v=L2.T z.pa:=by
 obtain⟨e,me,rfl⟩:=yS.mp mv;obtain⟨y,my,rfl⟩:=yS.mp me;exact⟨y,my,rfl⟩
theorem yV{as:List La}(nd:(as.map (·.pa)).Nodup)(h:Tp3 as):∃t vs,t∈as/\Tp t/\t.ki=oa/\JF as=L2.T t.pa::vs:=by
 obtain⟨x,y,z,r,e,tx,ty,tz,yo⟩:=h;have mx:x∈as:=by rw[e];exact .head _
 have my:y∈as:=by rw[e];exact .tail _ (.head _)
 have q:∀u∈as,tF as (fun x=>decide (x.ki=[111,119,110])) (L2.T u.pa)=decide (u.ki=[111,119,110]):=fun u mu=>wB nd mu;have es:(as.map kyL).map (fun e=>kV e.1)=L2.T x.pa::L2.T y.pa::(L2.T z.pa::(r.map kyL).map fun e=>kV e.1):=by rw[e];rfl
 have e0:=congrArg (List.filter (tF as fun x=>decide (x.ki=[111,119,110]))) es;by_cases hx:x.ki=oa
 ·exact⟨x,_,mx,tx,hx,e0.trans (Zi (by rw[q x mx];exact decide_eq_true hx))⟩
 ·exact⟨y,_,my,ty,yo,(e0.trans (Zc (by rw[q x mx];simpa using hx))).trans (Zi (by rw[q y my];exact decide_eq_true yo))⟩
def KnV(H H':Hp)(v:V):Prop:=∀S H2,(∀p∈S,H p≠none)->Keep S H' H2->∃t,cP H2 v=some t
theorem KnV.t{H H':Hp}(l:List Nat):KnV H H' (L2.T l):=fun _ _ _ _=>⟨_,rfl⟩
theorem sB(vs:List V)(c:Int)(h:0<vs.length):∃v∈vs,atI vs (c % (vs.length:Int))=some v:=by
 obtain⟨j,e⟩:=Zh (ZJ c (show((vs.length:Nat):Int)≠0 by lia));have b:=ZY c (show(0:Int)<vs.length by lia);rw[e]at b |-
 have hj:j<vs.length:=by lia
 exact⟨vs[j],Yh hj,av (List.getElem?_eq_getElem hj)⟩
theorem B_{as:List La}{d D:Addr}{H:Hp}{o:Obj}{ys:List V}{y:La}(nd:(as.map (·.pa)).Nodup)(C:AcAt H d as)(dd:H d=some (.dK (as.map kyL)))(my:y∈as)(hD:H D=none)(nD:D≠d):upd (upd H d (.frz o (.dK (as.map kyL)))) D (.lst ys) y.ls=some (laL y)/\DGet (upd (upd H d (.frz o (.dK (as.map kyL)))) D (.lst ys)) d (L2.T y.pa) (some (.ref y.ls)):=
 ⟨(ag (az (C.ls y my) hD)).trans ((ag (bD (C.ls y my) dd)).trans (C.ls y my)),wX nd my ((ag (Ne.symm nD)).trans ad)⟩
theorem FM{as:List La}{d:Addr}{H:Hp}{σ:St}{td:TE}{ks:List Nat}{Q:VK}(nd:(as.map (·.pa)).Nodup)(C:AcAt H d as)(dd:H d=some (.dK (as.map kyL)))(la:as.length<=50)(hN:NoT H)(hl:∀R:VK,R (.ref d) H->td σ H R)(hk:ks.map (fun k=>(σ[k]?).join)=[some (.ref d)])(t3:Tp3 as)
 (q:∀t vs D H1,t∈as->Tp t->t.ki=oa->(∀v∈L2.T t.pa::vs,∃z∈as,v=L2.T z.pa)->H D=none->Same H H1->H1 D=some (.lst (L2.T t.pa::vs))->NoT H1->Q (.ref D) H1) :
 uN (cQ (pO td) 1 (fG 0) ks (oR (tOp (io K false) (tOp (gIx K) (Cs (uC 1) (uC 0)) (tC (V.int 3))) (tC (L2.T [111,119,110])))) (uC 0)) σ H Q:=by
 have sz:=szl;refine cmK d (as.map kyL) (tF as fun x=>decide (x.ki=[111,119,110])) (fun v=>v) hl (.inl dd) (by rw[zg];lia) (fun v mv D ys o R hD nD r=>?_) (fun v mv _ D ys o R hD nD r=>r) fun D hD=>?_
 ·obtain⟨y,my,rfl⟩:=si mv
  change R (tF as _ (L2.T y.pa)) _ at r;rw[wB nd my]at r;obtain⟨g2,g1⟩:=B_ (o:=o) (ys:=ys) nd C dd my hD nD;generalize upd (upd H d _) D _=G1 at r g1 g2 |-
  rw[hk];walk_at "rd";refine⟨d,.ref y.ls,rfl,g1,?_⟩;walk_at "rd";refine⟨_,_,.inl (SqL.of g2),av (j:=3) rfl,?_⟩;walk_at "rd";exact r
 obtain⟨t,vs,mt,tt,to,ev⟩:=yV nd t3;rw[show ∀l:List V,l.map (fun v=>v)=l from fun l=>YR l,show((as.map kyL).map fun e=>kV e.1).filter (tF as fun x=>decide (x.ki=[111,119,110]))=L2.T t.pa::vs from ev];exact q t vs D _ mt tt to (fun v mv=>si (ZV.mp (ev ▸ mv)).1) hD (ah _ hD) ad (aq hN rfl)
def sp_AZ(a:Adr):Sp:=sp2 fun x y H Q _=>asR x fun d=>asI y fun _=>NoT H/\∃m W,ChP a m H W/\m<=50/\d=W.d/\∀v H',Same H H'->NoT H'->KnV H H' v->Q v H'
theorem sM(T:Txt K mg a):Fo P w K mg base "_law_path" 1 (sp_AZ a):=by
 refine T.vO.x2 ["_law_accounts_here","_law_cell","_law_own","_law_some"] fun x0 x1 fA cdv A outer s H Q E ND HU hr h=>?_;obtain⟨d,rfl,h2⟩:=asR.inv h;obtain⟨c,rfl,hN,m,W,C,m50,rfl,k⟩:=asI.inv h2;have sz:=szl;have nd:=C.ai.nd;have la:=C.ai.len;refine⟨_,(ae (kl (fY (i0:=2) ND rfl (Or.inl rfl) rfl (cl:=_) (x:="_law_path_here") (xs:=["_law_path_here"]) (fr:=["_law_accounts_here"]) (ks:=[0]) (by walk_at "cq") rfl (iW (fv 0)) (fun _ _ _ _ _=>(aK (i:=0) (bX (l:=["_law_path_here","_law_accounts_here"]) (by decide)) rfl (Or.inl rfl))) (fun _ _ _ _ _=>(cN (aN (bF K HU) (aB K (aL (Zz HU) (fv 1) (fv 0) (fun _ _=>rfl)) aa) (ak [111,119,110])))) (fun _ _ _ _ _=>(fv 0))))
  (ae (a6 (aN kq (aj aW (fv 1) aa) aa) (af (aC (aB K (fv 2) (aj aW (aj aX (fv 1) aa) (aD (bQ K) rfl T.cZ ci (fa1 (fv 2))))))) aJ)
  (ae (aO 3 ND (aj gw (bh (CL rfl) rfl T.mH i5 (fa1 (fv 0))) (bz (fa6 (ak []) (ak [122,122]) cG aa (bz (fa1 (ak [97]))) (aj aE (aB K (fv 2) aa) (ak [120]))))))
  (af (aC (aB K (fv 3) (aj aW (aj aX (fv 1) aa) (aD (bQ K) rfl T.cZ ci (fa1 (fv 3)))))))))),?_⟩
 walk_at "rd";refine Bj (FM nd C.ac C.dd (wn la m50) hN (fun R r=>r) rfl C.ai.top fun t vs D H1 mt tt to vin hD s1 hD1 N1=>?_);walk_at "rd";by_cases h:0<c % 4
 ·obtain⟨v,mv,ea⟩:=sB (L2.T t.pa::vs) (c / 4) (Nat.zero_lt_succ _)
  refine itp h ⟨_,.inl (SqL.of hD1),by rw[vN];lia,_,v,.inl (SqL.of hD1),ea,?_⟩;obtain⟨z,mz,rfl⟩:=vin v mv;exact k _ H1 s1 N1 (KnV.t _)
 refine itn h ⟨_,s1 _ _ C.dd,fun l hl=>⟨by walk_at "om",fun p hp=>?_⟩⟩;generalize e2:upd _ _ (HO.lst ((W.as.map kyL).map fun e=>kV e.1))=H2 at hp |-
 obtain⟨s2,hl2,N2⟩:=br e2 hl N1 rfl;generalize e3:upd _ _ (HO.lst [L2.T [97]])=H3;obtain⟨s3,hp3,N3⟩:=br e3 hp N2 rfl;refine⟨_,_,.inl (SqL.of (s3 _ _ (s2 _ _ hD1))),av (j:=0) rfl,?_⟩;have lt:=(jE tt.nm).2.1;walk_at "rd";refine⟨by lia,by walk_at "om",fun q hq=>?_⟩;generalize e4:upd _ _ (HO.lst [L2.T [],L2.T [122,122],V.non,V.int 5,V.ref p,L2.T (t.pa++[120])])=H4;obtain⟨s4,hq4,N4⟩:=br e4 hq N3 rfl;refine⟨_,_,s4 _ _ (s3 _ _ hl2),hq4,by rw[zg,zg];show W.as.length+6<=_;lia,fun r hr=>?_⟩;generalize e5:upd _ _ (HO.lst ((W.as.map kyL).map (fun e=>kV e.1)++[L2.T [],L2.T [122,122],V.non,V.int 5,V.ref p,L2.T (t.pa++[120])]))=H5;obtain⟨s5,hr5,N5⟩:=br e5 hr N4 rfl;obtain⟨v,mv,ea⟩:=sB ((W.as.map kyL).map (fun e=>kV e.1)++[L2.T [],L2.T [122,122],V.non,V.int 5,V.ref p,L2.T (t.pa++[120])]) (c / 4) (by rw[zi];exact vD (by decide:0<6) (Nat.le_add_left _ _));refine⟨_,.inl (SqL.of hr5),by rw[zi];show(0:Int)<((_+6:Nat):Int);lia,_,v,.inl (SqL.of hr5),ea,k v H5 ((s1.trans s2).trans (s3.trans (s4.trans s5))) N5 ?_⟩;rcases z7.mp mv with mv|mv
 ·obtain⟨z,mz,rfl⟩:=si mv
  exact KnV.t _
 simp only[zZ,zY,or_false]at mv;rcases mv with rfl|rfl|rfl|rfl|rfl|rfl
 ·exact KnV.t _
 ·exact KnV.t _
 ·exact fun _ _ _ _=>⟨_,rfl⟩
 ·exact fun _ _ _ _=>⟨_,rfl⟩
 ·intro S G hS kS
  have g:=kS _ _ (s5 _ _ (s4 _ _ hp3)) fun mp=>hS p mp ((s1.trans s2).free hp);exact⟨"list",by simp[cP,g]⟩
 ·exact KnV.t _
theorem Ah(T:Txt K mg a):∀k,ZZ K (.ref (clE a k)) (.ref a.b_)=some true
 |0=>T.da
 |1=>T.hV
 |2=>T.iO
 |3=>T.gC
 |4=>T.iS
 |5=>T.d7
 |(n+6)=>T.da
theorem Fq(as:List La)(v:Vr)(x y:V):cls as v x y<=6:=by
 unfold cls clK
 repeat' split
 all_goals decide
theorem GW:∀ {k:Nat},k≠0->clW k≠[]
 |0,h=>absurd rfl h
 |1,_=>by decide
 |2,_=>by decide
 |3,_=>by decide
 |4,_=>by decide
 |5,_=>by decide
 |(n+6),_=>by show([99,117,114,114,101,110,99,121]:List Nat)≠[];decide
theorem Fj{as:List La}{y:V}{z:La}(h:acL as y=some z):z∈as/\y=L2.T z.pa:=by
 cases y with
 |str s=>
  have h:acL as (L2.T s.cps.toList)=some z:=h;exact⟨(on h).1,by rw[(on h).2]⟩
 |_=>cases h
theorem GS{as:List La}{v:Vr}{M:Int}{y:V}(h:cls as v (.int M) y=0)(h11:M % 12=11):∃z∈as,y=L2.T z.pa/\acL as y=some z:=by
 cases e:acL as y with
 |some z=>exact⟨z,(Fj e).1,(Fj e).2,rfl⟩
 |none=>
  have:cls as v (.int M) y=if 0<=M/\M<=4799 then (if v.o=none\/v.o=some (M-1) then 3 else 2) else 1:=by
   show(if _ then (if _ then (if _ then clK as v.bx M y else 0) else 2) else 1)=_;unfold clK;rw[if_pos h11,e]
  rw[this]at h;split at h
  ·split at h <;> cases h
  ·cases h
theorem Hm{W:Wd}(h:Ap W):∀p∈mad W,p∉sad W:=fun p q r=>h.sm p r q
structure Jm(a:Adr)(cy:List (List Nat))(m n:Nat)(H:Hp)(W:Wd)(v:Vr)(hd d md:Addr):Prop where
 ls:LS a cy m n H W v
 hh:H hd=some (.lst [.ref W.ch,.ref W.g,.ref W.j,.ref W.sl])
 nh:hd∉own W
 m18:m<=18
 n40:n<40
 lc:cy.length=3
 ed:d=W.d
 em:md=W.md
def sp_zY(a:Adr):Sp:=sp5 fun x y z s r H Q _=>asR x fun hd=>asR y fun d=>asR z fun md=>∃cy m n W v,Jm a cy m n H W v hd d md/\asK H s fun _=>asK H r fun _=>
 ∀H' v',LS a cy m (n+1) H' W v'->(v.o≠none->v'.o≠none)->Keep (own W) H H'->Q (.bl true) H'
theorem dR(T:Txt K mg a):Fo P w K mg base "_law_close" 7 (sp_zY a):=by
 refine T.sw.x5 ["_law_held","_law_accounts_here","_law_mine","_law_month_here","_law_path_here","_law_due_here","_law_found","_law_e"] fun x0 x1 x2 x3 x4 fA cdv A outer s H Q E ND HU hr h=>?_;obtain⟨hd,rfl,h2⟩:=asR.inv h;obtain⟨d,rfl,h3⟩:=asR.inv h2;obtain⟨md,rfl,cy,m,n,W,v,⟨S,hh,nh,m18,n40,lc,rfl,rfl⟩,h4⟩:=asR.inv h3;obtain⟨t3,ht3,hb3,h5⟩:=asK.inv h4;obtain⟨t4,ht4,hb4,kQ⟩:=asK.inv h5;have sz:=szl;have hN:=S.nT
 skip
 have c2:∃u,PSs (bV (XE P w) P w K mg base ["_law_held","_law_accounts_here","_law_mine","_law_month_here","_law_path_here","_law_due_here","_law_found","_law_e"] "_law_close" (au (top 87)) fA cdv A outer s H E) (Zn 2 (aZ (top 87))) u/\∀M t H1 H2,Same H H1->NoT H1->cls W.as v (.int M) x4=0->Sd a H2 W (nxV W.as v M x4)->VOk W.as cy (n+1) (nxV W.as v M x4)->(∀e∈(nxV W.as v M x4).se.getLast?,SeAt H2 t e.m e.n e.rs)->Keep (sad W) H1 H2->NoT H2->u { nx:=fun _ H'=>Q .non H',rt:=Q } [some (.ref hd),some (.ref W.d),some (.ref W.md),some (.int M),some x4,some (L2.T []),some (.ref t),none] H2:=by
  refine⟨_,(af (aC (cj (bP (bF K HU) (fv 5) (ak []) (bY _)) (cj (aD (bU K) rfl T.aY aV (fa2 (fv 6) (df (v:=.ty "tuple") rfl T.gt fe rfl))) (cF (bP (bF K HU) (fv 6) (aH (oG T) hr aA (fa4 (fv 1) (fv 2) (fv 3) (fv 4))) (bY _))))))),fun M t H1 H2 s1 N1 c0 D2 O2 st k2 N2=>?_⟩;have S1:=S.same s1 N1;obtain⟨e0,ee,st⟩:∃e0,(nxV W.as v M x4).se.getLast? = some e0/\SeAt H2 t e0.m e0.n e0.rs:=by
   obtain⟨e0,ee⟩:∃e0,(nxV W.as v M x4).se.getLast? = some e0:=⟨_,List.getLast?_append⟩;exact⟨e0,ee,st e0 ee⟩
  obtain⟨tr,ws,ht,_⟩:=id st;have kt2:Kt H1 H2:=fun t l e=>k2 _ _ e (S1.sd.tup e);have C2:=S1.cp.keep k2 S.ap.cs;have M2:=S1.mn.keep k2 kt2 (Hm S.ap);have ke:cP H2 (.ref t)=some "tuple":=by simp[cP,ht]
  walk_at "rq";simp only[ke];refine itp rfl ?_;refine⟨cy,m,n,W,v,C2,M2,S.ap.cm,S.ok,O2,N2,m18,n40,lc,rfl,rfl,GS c0,fun t2 H3 M3 st3 k3 N3=>?_⟩;have kt3:Kt H2 H3:=fun t l e=>k3 _ _ e (M2.tup e);have eq:=Ip (K:=K) (st.mv kt3) (st3 _ ee);rw[Au]at eq;refine⟨true,eq,kQ H3 _ ⟨C2.keep k3 S.ap.cm,D2.keep k3 kt3 S.ap.sm,M3,O2,S.ap,N3⟩ (fun _ q=>nomatch q) ((Keep.same s1).trans ((k2.mono fun p q=>?_).trans (k3.mono fun p q=>?_)))⟩
  ·exact zd _ (wW _ q)
  ·exact zd _ (zd _ q)
 obtain⟨u2,hu2,c2⟩:=c2;refine⟨_,(ae (aO 5 ND (aH (v7 T) hr aA (fa4 (fv 1) (fv 2) (fv 3) (fv 4))))
  (ae (Cl (i:=7) ND rfl rfl rfl T.k7 rfl rfl rfl (fun pn Ee Ex PX=>(af (aO 6 ND (aH (BO T) hr PX (fa6 (aB K (fv 0) aa) (aB K (fv 0) aa) (aB K (fv 0) aa) (aB K (fv 0) aa) (fv 3) (fv 4)))))) (fun e=>(af (aC (cj (bP (cE K HU) (fv 5) (ak []) (bY _)) (cF (bP (bF K HU) (Fa (j6 T) (Room.toC hr (by decide)) kF (fa1 (fv 7))) (fv 5) (bY _))))))))
  hu2)),?_⟩
 walk_at "rq";refine⟨cy,m,n,W,v,S.cp,S.mn,S.ok,hN,m18,lc,rfl,rfl,asK.of ht3 (asK.of ht4 fun H1 s1 N1=>?_)⟩;have S1:=S.same s1 N1;have hh1:=s1 _ _ hh;refine⟨_,_,.inl (SqL.of hh1),av (j:=0) rfl,_,_,.inl (SqL.of hh1),av (j:=1) rfl,_,_,.inl (SqL.of hh1),av (j:=2) rfl,_,_,.inl (SqL.of hh1),av (j:=3) rfl,?_⟩;walk_at "rq";refine⟨cy,m,n,W,v,⟨S1.cp,S1.sd,S1.ok,N1,m18,n40,lc,rfl,rfl,rfl,rfl⟩,asK.of (rH s1 ht3) (asK.of (rH s1 ht4) ⟨fun c0 M e3 t H2 D2 O2 st k2 N2=>?_,fun k ek k0 H2 s2 N2=>⟨_,rfl,Ah T k,fun e he=>?_⟩⟩)⟩
 rotate_left 1
 ·have le:=Fq W.as v x3 x4
  rw[ek]at le |-
  refine itn (GW k0) ⟨aq N2 rfl,k,by lia,le,ad,fun H3 s3 N3=>?_⟩;rw[decide_eq_true rfl];have s4:=s1.trans (s2.trans ((ah _ he).trans s3));exact kQ H3 v ((S.same s4 N3).le (zL _) (YS _)) id (Keep.same s4)
 subst e3;rw[c0];exact c2 M t H1 H2 s1 N1 c0 D2 O2 st k2 N2
theorem Jq(be:List (List Nat))(x:La):HO.lst (be.map L2.T)≠laL x:=fun z=>by
 injection z with z
 have e:=congrArg (fun l:List V=>l[1]?) z;simp only[List.getElem?_map]at e;obtain⟨l,_,e⟩:=Zt.mp e;cases e
theorem LS.live{cy:List (List Nat)}{m n:Nat}{H:Hp}{W:Wd}{v:Vr}(S:LS a cy m n H W v):∀p∈own W,H p≠none:=fun p q e=>by
 obtain⟨dc,hc⟩:=S.cp.ca.ob;obtain⟨bs,J,_⟩:=S.sd.ja;obtain⟨ss,L,_⟩:=S.sd.sa;obtain⟨dj,hj⟩:=J.ob;obtain⟨ds,hs⟩:=L.ob;obtain⟨b2,J2,_⟩:=S.mn.hr;obtain⟨s2,L2,_⟩:=S.mn.hs;simp only[own,cad,sad,mad,zZ,z7,yS,zY,or_false]at q;rcases q with (q|q|q|(⟨c,mc,q⟩|⟨c,mc,q⟩)|⟨x,mx,q⟩)|(q|q|q|q|q|q)|q|q|q
 ·rw[q,hc]at e;cases e
 ·rw[q,S.cp.dd]at e;cases e
 ·rw[q,S.cp.ca.dc]at e;cases e
 ·rw[<- q,(S.cp.ca.ac c mc).ls]at e;cases e
 ·obtain⟨dx,ho⟩:=(S.cp.ca.ac c mc).ob
  rw[<- q,ho]at e;cases e
 ·rw[<- q,S.cp.ls x mx]at e;cases e
 ·rw[q,hj]at e;cases e
 ·rw[q,hs]at e;cases e
 ·rw[q,J.ls]at e;cases e
 ·rw[q,J.dc]at e;cases e
 ·rw[q,L.ls]at e;cases e
 ·rw[q,S.sd.ga]at e;cases e
 ·rw[q,S.mn.hm]at e;cases e
 ·rw[q,J2]at e;cases e
 ·rw[q,L2]at e;cases e
theorem LS.chg{cy:List (List Nat)}{m n:Nat}{H H':Hp}{W:Wd}{v:Vr}(S:LS a cy m n H W v){as:List La}{cs:List Acc}(C:ChP a (m+1) H' { W with as:=as,cs:=cs })(kp:Keep (cad W) H H')(nT:NoT H')
 (nw:∀p∈cad { W with as:=as,cs:=cs },p∈cad W\/H p=none) (up:∀z∈W.as,∃y∈as,y.pa=z.pa) :
 LS a cy (m+1) n H' { W with as:=as,cs:=cs } v/\Keep (own W) H H'/\∀p∈own { W with as:=as,cs:=cs },p∈own W\/H p=none:=by
 have kt:Kt H H':=fun t l e=>kp _ _ e (S.cp.tup e);have D:=S.sd.keep kp kt fun p q r=>S.ap.cs p r q;have M:=S.mn.keep kp kt fun p q r=>S.ap.cm p r q;refine⟨⟨C,⟨D.ga,D.ja,D.sa,D.ne⟩,⟨M.hm,M.hr,M.hs,M.ne⟩,{ S.ok with bo:=⟨S.ok.bo.l1,S.ok.bo.l2,fun b mb r mr=>?_⟩ },⟨fun p q r=>?_,fun p q r=>?_,S.ap.sm⟩,nT⟩,kp.mono fun p q=>wW _ q,fun p q=>?_⟩
 ·obtain⟨h1,h2⟩:=S.ok.bo.mem b mb r mr
  obtain⟨z,mz,e⟩:=yS.mp h1;obtain⟨y,my,f1⟩:=up z mz;exact⟨yS.mpr ⟨y,my,f1.trans e⟩,h2⟩
 ·rcases nw p q with q|q
  ·exact S.ap.cs p q r
  ·exact S.live p (zd _ (wW _ r)) q
 ·rcases nw p q with q|q
  ·exact S.ap.cm p q r
  ·exact S.live p (zd _ (zd _ r)) q
 ·rcases z7.mp q with q|q
  ·exact(nw p q).imp (wW _) id
  ·exact .inl (zd _ q)
theorem wV{l:List Nat}:∀ {as:List La},(∀y∈as,y.pa≠l)->dN (as.map kyL) (.inr ⟨⟨l⟩⟩)=none
 | [],_=>rfl
 |y::r,h=>by
  rw[xa,de (fun z=>h y (.head _) (by simpa [kyL] using z))];exact wV fun z m=>h z (.tail _ m)
theorem CA{as:List La}{x:La}(h:∀y∈as,y.pa≠x.pa):dB (as.map kyL) (.inr ⟨⟨x.pa⟩⟩) (.ref x.ls)=(as++[x]).map kyL:=by
 rw[p8 _ (wV h),vX];rfl
abbrev sk(H:Hp)(W:Wd)(x:La):Hp:=upd (upd H x.ls (laL x)) W.d (.dK ((W.as++[x]).map kyL))
section
variable{cy:List (List Nat)}{m n:Nat}{H H':Hp}{W:Wd}{v:Vr}(S:LS a cy m n H W v){x:La}
include S
theorem LS.addC(hp:H x.ls=none):CAt a.aR a.aM (sk H W x) W.ch W.cd W.cs:=by
 obtain⟨dx,ho⟩:=S.cp.ca.ob;refine S.cp.ca.keep (S:=[W.d]) ((Keep.refl.new hp).put (.head _)) (fun z=>bD ho S.cp.dd (by intro z;cases z) (zq.mp z)) (fun z=>S.cp.ne (zq.mp z)) fun c mc=>?_;obtain⟨dx,ho⟩:=(S.cp.ca.ac c mc).ob;exact⟨fun z=>bD ho S.cp.dd (by intro z;cases z) (zq.mp z),fun z=>bD (S.cp.ca.ac c mc).ls S.cp.dd (by intro z;cases z) (zq.mp z)⟩
theorem LS.more(hx:∀y∈W.as,y.pa≠x.pa)(hp:H x.ls=none)(po:POk x.pa)(xf:0<=x.fi/\x.fi<=145816)(xc:x.cu=none)(xu:x.un=none){t:La}(mt:t∈W.as){n':List Nat}(ep:x.pa=t.pa++58::n'){c:Acc}(c1:c.pa=x.pa)(ck:c.ki=L2.T x.ki)(c2:c.cu = .non)(c3:c.fi=x.fi)(c4:c.un=none)(c5:c.be=[])
 (f1:sk H W x c.ob=none) (f2:sk H W x c.bl=none) (J:CAt a.aR a.aM H' W.ch W.cd (gJ W.cs t.pa (grw x.pa)++[c])) (kp:Keep (W.cd::W.cs.map (·.bl)) (sk H W x) H') (nT:NoT H') :
 LS a cy (m+1) n H' { W with as:=W.as++[x],cs:=gJ W.cs t.pa (grw x.pa)++[c] } v/\Keep (own W) H H'/\∀p∈own { W with as:=W.as++[x],cs:=gJ W.cs t.pa (grw x.pa)++[c] },p∈own W\/H p=none:=by
 have C:=S.cp;have pd:x.ls≠W.d:=fun z=>by rw[z,C.dd]at hp;cases hp
 have of1:∀ {p:Addr},sk H W x p=none->H p=none:=fun {p} e=>by
  have n1:p≠W.d:=fun z=>by rw[z]at e;unfold sk at e;rw[ad]at e;cases e
  unfold sk at e;rw[ag n1]at e;have n2:p≠x.ls:=fun z=>by rw[z,ad]at e;cases e
  rw[ag n2]at e;exact e
 have out:∀ {p:Addr},p≠W.cd->(∀c∈W.cs,p≠c.bl)->p∉W.cd::W.cs.map (·.bl):=fun {p} h1 h2 mm=>by
  rcases zZ.mp mm with q|q
  ·exact h1 q
  ·obtain⟨c,mc,e⟩:=yS.mp q
   exact h2 c mc e.symm
 have fre:∀ {q:Addr} {o:HO},H q=some o->x.ls≠q:=fun e z=>by rw[z,e]at hp;cases hp
 have inl:∀ {y:La},y∈W.as->y∈W.as++[x]:=fun my=>wW _ my;have hx1:sk H W x x.ls=some (laL x):=(ag pd).trans ad;have md:∀z∈gJ W.cs t.pa (grw x.pa),∃y∈W.cs,z.ob=y.ob/\z.bl=y.bl/\z.be.length<=y.be.length+1:=fun z mz=>by
  obtain⟨y,my,e⟩:=fU mz;refine⟨y,my,?_⟩;rw[e];split
  ·exact⟨rfl,rfl,by show(y.be++[x.pa]).length<=_;rw[zi];exact zL _⟩
  ·exact⟨rfl,rfl,YS _⟩
 refine S.chg ⟨J,?_,fun z mz=>?_,kp _ _ ad (out (Ne.symm C.ne) fun c mc=>Ne.symm (bD (C.ca.ac c mc).ls C.dd)),fun y my=>?_,⟨?_,?_,fun y my=>?_,?_⟩,C.ne⟩ ?_ nT (fun p q=>?_) (fun z mz=>⟨z,inl mz,rfl⟩)
 ·refine(tI (fun c y my r=>?_) (C.cf.imp (S:=CF (W.as++[x])) fun _ _ _ _ r=>⟨r.pa,r.cu,r.ki,r.fi,r.un,fun z=>by obtain⟨y,my,e⟩:=r.be z;exact⟨y,inl my,e⟩⟩)).snoc ⟨c1,by rw[c2,xc];rfl,ck,c3,c4.trans xu.symm,fun z=>absurd c5 z⟩
  split
  ·rename_i e
   exact⟨r.pa,r.cu,r.ki,r.fi,r.un,fun _=>⟨x,zd _ (.head _),n',by rw[ep,<- e,r.pa]⟩⟩
  ·exact r
 ·rcases z7.mp mz with mz|mz
  ·obtain⟨y,my,_,_,e⟩:=md z mz
   exact wn e (Yy (C.bl y my))
  ·rw[zq.mp mz,c5];exact wQ _
 ·rcases z7.mp my with my|my
  ·have e:=C.ls y my
   exact kp _ _ ((ag (bD e C.dd)).trans ((ag (Ne.symm (fre e))).trans e)) (out (bD e C.ca.dc) fun c mc=>Ne.symm (bD (C.ca.ac c mc).ls e (Jq _ _)))
  ·rw[zq.mp my]
   exact kp _ _ hx1 (out (fre C.ca.dc) fun c mc=>fre (C.ca.ac c mc).ls)
 ·show((W.as++[x]).map _).Nodup
  rw[vX];exact fh C.ai.nd fun mm=>by obtain⟨y,my,e⟩:=yS.mp mm;exact hx y my e
 ·show(W.as++[x]).length<=_
  rw[zi];exact Yy C.ai.len
 ·rcases z7.mp my with my|my
  ·exact C.ai.ok y my
  ·rw[zq.mp my]
   exact⟨po,xf,fun l e=>by rw[xc]at e;cases e⟩
 ·obtain⟨y,z,u,r,e,t1⟩:=C.ai.top
  exact⟨y,z,u,r++[x],by show W.as++[x]=_;rw[e];rfl,t1⟩
 ·refine Keep.trans ((Keep.refl.new hp).put (.tail _ (.head _))) (kp.mono fun p mm=>?_)
  rcases zZ.mp mm with q|q
  ·rw[q];exact .tail _ (.tail _ (.head _))
  ·exact .tail _ (.tail _ (.tail _ (wW _ (wW _ q))))
 ·unfold cad at q |-
  simp only[zZ,z7,yS]at q |-
  rcases q with q|q|q|(⟨z,mz,rfl⟩|⟨z,mz,rfl⟩)|⟨y,my,rfl⟩
  ·exact .inl (.inl q)
  ·exact .inl (.inr (.inl q))
  ·exact .inl (.inr (.inr (.inl q)))
  ·rcases mz with mz|mz
   ·obtain⟨y,my,_,e,_⟩:=md z mz
    exact .inl (.inr (.inr (.inr (.inl (.inl ⟨y,my,e.symm⟩)))))
   ·rcases mz with rfl|mz
    ·exact .inr (of1 f2)
    ·cases mz
  ·rcases mz with mz|mz
   ·obtain⟨y,my,e,_⟩:=md z mz
    exact .inl (.inr (.inr (.inr (.inl (.inr ⟨y,my,e.symm⟩)))))
   ·rcases mz with rfl|mz
    ·exact .inr (of1 f1)
    ·cases mz
  ·rcases my with my|my
   ·exact .inl (.inr (.inr (.inr (.inr ⟨y,my,rfl⟩))))
   ·rcases my with rfl|my
    ·exact .inr hp
    ·cases my
end
def KnM(v:V):Prop:=∀H,∃t,cP H v=some t
theorem HI{b:Bool}{n:Int}{t:List Nat}{i j k:Int}{H:Hp}{Q:VK}(h0:0<=i)(h1:i<6)(q:∀v,KnM v->Q v H):fH [V.int j,V.int k,V.bl b,V.non,L2.T t,V.int n] H H Q (.int i):=by
 obtain⟨j,rfl⟩:∃j:Nat,i=j:=⟨i.toNat,by lia⟩;unfold fH;rcases(by lia:j=0\/j=1\/j=2\/j=3\/j=4\/j=5) with rfl|rfl|rfl|rfl|rfl|rfl <;> exact q _ fun _=>⟨_,rfl⟩
theorem Il{α:Type}{q:Prop}{c T:α->Prop}(f:(∀M,c M->T M)->q)(x:∀M,c M->T M):q:=f x
def ifB:Stmt->List Stmt
 | .If _ b _ _=>b
 |_=>[]
noncomputable abbrev AE(i:Nat):List Stmt:=ifB ((aZ bC).getD i (.Pass ⟨0,0,0,0⟩))
abbrev sgS(hd:Addr)(W:Wd)(c m:Int)(x y:Option V):St:=[some (.ref hd),some (.ref W.d),some (.ref W.md),some (.int c),some (.int m),x,y,none,none,none,none]
def sp_C9(a:Adr):Sp:=sp5 fun x y z s r H Q _=>asR x fun hd=>asR y fun d=>asR z fun md=>asI s fun _=>asI r fun _=>∃cy m n W v,LS a cy m n H W v/\H hd=some (.lst [.ref W.ch,.ref W.g,.ref W.j,.ref W.sl])/\hd∉own W/\m<18/\n<36/\cy.length=3/\d=W.d/\md=W.md /\
 ∀H' as cs v',LS a cy (m+1) (n+4) H' { W with as:=as,cs:=cs } v'->Keep (own W) H H'->(∀p∈own { W with as:=as,cs:=cs },p∈own W\/H p=none)->Q (.bl true) H'
theorem tY(T:Txt K mg a):Fo P w K mg base "_law_step" 9 (sp_C9 a):=by
 refine T.vE.x5 cB fun x0 x1 x2 x3 x4 fA cdv A outer s H Q E ND HU hr h=>?_;obtain⟨hd,rfl,h2⟩:=asR.inv h;obtain⟨d,rfl,h3⟩:=asR.inv h2;obtain⟨md,rfl,h4⟩:=asR.inv h3;obtain⟨cell,rfl,h5⟩:=asI.inv h4;obtain⟨more,rfl,cy,m,n,W,v,S,hh,nh,m18,n36,lc,rfl,rfl,kQ⟩:=asI.inv h5;have sz:=szl;have hN:=S.nT;have lv:=S.live;have nd:=S.cp.ai.nd;have la:=S.cp.ai.len
 skip
 have fin:∀ {H':Hp} {v':Vr} {n':Nat},n'<=n+4->LS a cy m n' H' W v'->Keep (own W) H H'->Q (.bl true) H':=fun {H' v' n'} le S' k=>kQ H' W.as W.cs v' (S'.le (YS _) le) k fun p q=>.inl q;have c6:∃u,PSs (bV (XE P w) P w K mg base cB "_law_step" (au bC) fA cdv A outer s H E) (Zn 6 (aZ bC)) u/\∀mo pv H1,KnM mo->KnV H H1 pv->Same H H1->NoT H1->u { nx:=fun _ H'=>Q .non H',rt:=Q } (sgS hd W cell more (some mo) (some pv)) H1:=by
  refine⟨_,(af (aC (aH (dR T) hr aA (fa5 (fv 0) (fv 1) (fv 2) (fv 5) (fv 6))))),fun mo pv H1 km kp s1 N1=>?_⟩;walk_at "rq";obtain⟨t1,e1⟩:=km H1;obtain⟨t2,e2⟩:=kp [] H1 (fun _ q=>nomatch q) Keep.refl;exact⟨cy,m,n,W,v,⟨S.same s1 N1,s1 _ _ hh,nh,by lia,by lia,lc,rfl,rfl⟩,asK.of e1 (asK.of e2 fun H' v' S' _ k=>fin (by lia) S' ((Keep.same s1).trans k))⟩
 obtain⟨u6,hu6,c6⟩:=c6;have c50:∃u,PSs (bV (XE P w) P w K mg base cB "_law_step" (au bC) fA cdv A outer s H E) (AE 5) u/\∀(D:eA) mo pv z H1,D.rt=Q->KnV H H1 pv->Same H H1->NoT H1->v.o=some z->u D (sgS hd W cell more (some mo) (some pv)) H1:=by
  refine⟨_,(ae (kl (fY (i0:=7) ND rfl (Or.inl rfl) rfl (cl:=_) (x:="_law_one") (xs:=["_law_one"]) (fr:=["_law_accounts_here"]) (ks:=[1]) (by walk_at "cq") rfl (iW (fv 1)) (fun _ _ _ _ _=>(aK (i:=0) (bX (l:=["_law_one","_law_accounts_here"]) (by decide)) rfl (Or.inl rfl))) (fun _ _ _ _ _=>(cN (aN (bF K HU) (aB K (aL (Zz HU) (fv 1) (fv 0) (fun _ _=>rfl)) aa) (ak [111,119,110])))) (fun _ _ _ _ _=>(fv 0))))
   (ae (aO 5 ND (aj aE (aL (Zz HU) (fv 2) (ak [99,108,111,115,101,100]) (fun _ _=>rfl)) aa))
   (ae (cX (by passes_own) rfl (bM K (bz (fa4 (bd (fa2 (aj aE (fv 5) aa) (fv 6))) (bd (fa2 (fv 5) (fv 6))) (bd (fa2 (fv 5) (aB K (fv 7) aa))) (bd (fa2 (aj aE (fv 5) aa) (aB K (fv 7) aa)))))) (fJ K (n:=2) rfl (bf (aK (i:=9) ND rfl (Or.inl rfl)) (bf (aK (i:=10) ND rfl (Or.inl rfl)) dS))) (af (a6 (bR (bL (aH (dR T) hr aA (fa5 (fv 0) (fv 1) (fv 2) (fv 9) (fv 10))))) (af (aC g8)) aJ)))
   (af (aC g8))))),fun D mo pv z H1 hDr kp s1 N1 eo=>?_⟩
  have S1:=S.same s1 N1;have ck:=S1.mn.clsd;rw[eo]at ck;walk_at "rq";refine Bj (FM nd S1.cp.ac S1.cp.dd (by lia) N1 (fun R r=>r) rfl S1.cp.ai.top fun t vs D1 H2 mt tt to vin hD s2 hD2 N2=>?_);have s12:=s1.trans s2;have S2:=S.same s12 N2;have ck:=S2.mn.clsd;rw[eo]at ck;walk_at "rq";refine⟨W.md,_,rfl,ck,?_⟩;show qN (.int z) (.int 1) H2 _;refine iC ?_;walk_at "rq";refine⟨by walk_at "om",fun q1 h1=>?_⟩;generalize e1:upd _ _ (HO.tup [V.int (z+1+1),pv])=G1;obtain⟨g1,t1,M1⟩:=br e1 h1 N2 rfl;refine⟨by walk_at "om",fun q2 h2=>?_⟩;generalize e2:upd _ _ (HO.tup [V.int (z+1),pv])=G2;obtain⟨g2,t2,M2⟩:=br e2 h2 M1 rfl;refine⟨_,_,.inl (SqL.of (g2 _ _ (g1 _ _ hD2))),av (j:=0) rfl,by walk_at "om",fun q3 h3=>?_⟩;generalize e3:upd _ _ (HO.tup [V.int (z+1),L2.T t.pa])=G3;obtain⟨g3,t3,M3⟩:=br e3 h3 M2 rfl;refine⟨_,_,.inl (SqL.of (g3 _ _ (g2 _ _ (g1 _ _ hD2)))),av (j:=0) rfl,by walk_at "om",fun q4 h4=>?_⟩;generalize e4:upd _ _ (HO.tup [V.int (z+1+1),L2.T t.pa])=G4;obtain⟨g4,t4,M4⟩:=br e4 h4 M3 rfl;refine⟨by walk_at "om",fun ql hl=>?_⟩;generalize e5:upd _ _ (HO.lst [V.ref q1,V.ref q2,V.ref q3,V.ref q4])=G5;obtain⟨g5,t5,M5⟩:=br e5 hl M4 rfl;have s25:=g1.trans (g2.trans (g3.trans (g4.trans g5)));have s5:=s12.trans s25;have S5:=S.same s5 M5;have kp5:KnV H G5 pv:=fun A B hA hB=>kp A B hA ((Keep.same (s2.trans s25)).trans hB);have it:∀x∈[V.ref q1,V.ref q2,V.ref q3,V.ref q4],∃(q:Addr) (j:Int) (y:V),x = .ref q/\G5 q=some (.tup [.int j,y])/\KnV H G5 y:=fun x mx=>by
   simp only[zZ,zY,or_false]at mx;rcases mx with rfl|rfl|rfl|rfl
   ·exact⟨_,_,_,rfl,g5 _ _ (g4 _ _ (g3 _ _ (g2 _ _ t1))),kp5⟩
   ·exact⟨_,_,_,rfl,g5 _ _ (g4 _ _ (g3 _ _ t2)),kp5⟩
   ·exact⟨_,_,_,rfl,g5 _ _ (g4 _ _ t3),KnV.t _⟩
   ·exact⟨_,_,_,rfl,g5 _ _ t4,KnV.t _⟩
  have l0:H ql=none:=(s12.trans (g1.trans (g2.trans (g3.trans g4)))).free hl;refine il (SqL.of t5) (ij (xs:=[V.ref q1,V.ref q2,V.ref q3,V.ref q4]) (fun i σ' G=>Keep (own W) G5 G/\∃v' x9 x10,LS a cy m (n+i) G W v'/\σ'=[some (.ref hd),some (.ref W.d),some (.ref W.md),some (.int cell),some (.int more),some (.int (z+1)),some pv,some (.ref D1),none,x9,x10]) ⟨Keep.refl,v,none,none,S5,rfl⟩ ?_ ?_ ?_)
  ·rintro i σ' G _ ⟨k,_⟩
   exact SqL.of (k _ _ t5 fun q=>lv _ q l0)
  ·rintro i x σ' G hx ⟨k,v',x9,x10,S',rfl⟩
   obtain⟨q,j,y,rfl,hq,ky⟩:=it x (ww hx);have hi:i<4:=(List.getElem?_eq_some_iff.mp hx).1;obtain⟨ty,ety⟩:=ky (own W) G lv k;have hqG:G q=some (.tup [.int j,y]):=k _ _ hq (S5.tup hq);walk_at "rq";refine⟨q,_,rfl,SqT.of hqG,rfl,_,_,rfl,_,_,rfl,rfl,cy,m,n+i,W,v',⟨S',k _ _ (s5 _ _ hh) nh,nh,by lia,by lia,lc,rfl,rfl⟩,asK.of rfl (asK.of ety fun H' v'' S'' _ k''=>?_)⟩;exact⟨k.trans k'',v'',_,_,S'',rfl,rfl⟩
  ·rintro σ' G ⟨k,v',x9,x10,S',rfl⟩
   walk_at "rq";rw[hDr];exact fin (zL _) S' ((Keep.same s5).trans k)
 obtain⟨ub5,hb5,c50⟩:=c50;have c5:∃u,PSs (bV (XE P w) P w K mg base cB "_law_step" (au bC) fA cdv A outer s H E) (Zn 5 (aZ bC)) u/\∀mo pv H1,KnM mo->KnV H H1 pv->Same H H1->NoT H1->u { nx:=fun _ H'=>Q .non H',rt:=Q } (sgS hd W cell more (some mo) (some pv)) H1:=by
  refine⟨_,(ae (a6 (L2.PW.pt (dJ (aN (bF K HU) (aj aW (aj aX (fv 3) aa) aa) aa) (cU (dX (dq (aL (Zz HU) (fv 2) (ak [99,108,111,115,101,100]) (fun _ _=>rfl))))))) hb5 aJ)
   hu6),fun mo pv H1 km kp s1 N1=>?_⟩
  have S1:=S.same s1 N1;walk_at "rq";by_cases w1:cell / 108 % 4=1
  rotate_left 1
  ·exact itn w1 (c6 mo pv H1 km kp s1 N1)
  have ck:=S1.mn.clsd;refine itp w1 ⟨W.md,_,rfl,ck,?_⟩;cases eo:v.o with
  |none=>exact itp rfl (c6 mo pv H1 km kp s1 N1)
  |some z=>
   rw[eo]at ck;exact itn (by intro q;cases q) (c50 _ mo pv z H1 rfl kp s1 N1 eo)
 obtain⟨u5,hu5,c5⟩:=c5;have c43:∃u,PSs (bV (XE P w) P w K mg base cB "_law_step" (au bC) fA cdv A outer s H E) (Zn 3 (AE 4)) u/\∀(D:eA) mo pv t c H3 v3,D.rt=Q->t∈W.as->Tp t->t.ki=oa->(97<=c/\c<=104)->LS a cy m (n+1) H3 W v3->v3.o≠none->Keep (own W) H H3->u D [some (.ref hd),some (.ref W.d),some (.ref W.md),some (.int cell),some (.int more),some mo,some pv,some (L2.T t.pa),some (L2.T (t.pa++58::[110,101,119,c])),none,none] H3:=by
  refine⟨_,(ae (a6 (L2.PW.pt (dJ (dX (rN (Zz HU) (fv 8) (fv 1)) (by with_unfolding_all rfl)) (cU (aN (bF K HU) (aj aW (aL (Zz HU) (fv 2) (ak [99,108,111,115,101,100]) (fun _ _=>rfl)) aa) aa)))) (ae (dL (Zz HU) (fv 1) (fv 8) (bz (fa4 cG aa cG (ak [111,119,110]))) rfl)
   (af (bB (b7 (aB K (fv 0) aa) T.bw (k9 T) (hr.mono (by decide)) aA (fa3 (fv 8) cG aa))))) aJ)
   (af (aC (aH (dR T) hr aA (fa5 (fv 0) (fv 1) (fv 2) (aj aE (aL (Zz HU) (fv 2) (ak [99,108,111,115,101,100]) (fun _ _=>rfl)) aa) (fv 8)))))),fun D mo pv t c H3 v3 hDr mt tt to c01 S3 o3 k03=>?_⟩
  walk_at "rq";have hh3:=k03 _ _ hh nh;have N3:=S3.nT;have po:POk (t.pa++58::[110,101,119,c]):=by
   refine POk.ext ?_ (POk.top tt.nm) (by rw[Cm (nA tt.nm)];exact(by decide:1<=5));unfold nm lie;simp only[List.all_cons,List.all_nil,vN,Z2,Zj,decide_eq_true_eq];lia
  have n58:58∉[110,101,119,c]:=by simp;lia
  have key:∀G,(∃as cs v4,LS a cy (m+1) (n+1) G { W with as:=as,cs:=cs } v4/\v4.o≠none/\Keep (own W) H G/\∀p∈own { W with as:=as,cs:=cs },p∈own W\/H p=none)->∃a_1 v,W.md=a_1/\DGet G a_1 (L2.T [99,108,111,115,101,100]) (some v)/\qN v (V.int 1) G fun x H1=>∃cy m n W_1 v,Jm a cy m n H1 W_1 v hd W.d W.md/\asK H1 x fun _=>∀H' v',LS a cy m (n+1) H' W_1 v'->(v.o≠none->v'.o≠none)->Keep (own W_1) H1 H'->D.rt (V.bl true) H':=by
   intro G hG;obtain⟨as,cs,v4,S4,o4,k4,w4⟩:=hG;cases e4:v4.o with
   |none=>exact absurd e4 o4
   |some z4=>
   have ck4:=S4.mn.clsd;rw[e4]at ck4;refine⟨W.md,_,rfl,ck4,?_⟩;show qN (.int z4) (.int 1) G _;walk_at "rq";refine⟨cy,m+1,n+1,{ W with as:=as,cs:=cs },v4,⟨S4,k4 _ _ hh nh,fun q=>?_,by lia,by lia,lc,rfl,rfl⟩,fun H6 v6 S6 o6 k6=>(by rw[hDr];exact kQ H6 as cs v6 (S6.le (zL _) (by lia)) (fun c o e nc=>k6 _ _ (k4 _ _ e nc) fun q=>(w4 _ q).elim nc fun q=>by rw[e]at q;cases q) w4)⟩
   ·rcases w4 _ q with q|q
    ·exact nh q
    ·rw[hh]at q;cases q
  have hS:∃as cs v4,LS a cy (m+1) (n+1) H3 { W with as:=as,cs:=cs } v4/\v4.o≠none/\Keep (own W) H H3/\∀p∈own { W with as:=as,cs:=cs },p∈own W\/H p=none:=⟨W.as,W.cs,v3,S3.le (YS _) (zL _),o3,k03,fun p q=>.inl q⟩;by_cases hx:∀y∈W.as,y.pa≠t.pa++58::[110,101,119,c]
  rotate_left 1
  ·obtain⟨y,my,e⟩:∃y∈W.as,y.pa=t.pa++58::[110,101,119,c]:=Classical.byContradiction fun z=>hx fun y my e=>z ⟨y,my,e⟩
   have g:=S3.cp.ac.get nd my;rw[e]at g;exact⟨W.d,_,rfl,g,itn (by intro z;cases z) (key H3 hS)⟩
  have g:=DGet.k (k:=.inr ⟨⟨t.pa++58::[110,101,119,c]⟩⟩) S3.cp.dd;rw[wV hx]at g;cases e3:v3.o with
  |none=>exact absurd e3 o3
  |some z3=>
  have ck3:=S3.mn.clsd;rw[e3]at ck3;refine⟨W.d,none,rfl,g,itp rfl ⟨W.md,_,rfl,ck3,?_⟩⟩;show gIC (fun x j=>0<j) (fun i j=>V.int (i % j)) (.int z3) (.int 12) H3 _;walk_at "rq";by_cases h10:z3 % 12=10
  rotate_left 1
  ·exact itn h10 (key H3 hS)
  refine itp h10 ⟨by walk_at "om",fun p hp=>?_⟩
  let x:La:=⟨t.pa++58::[110,101,119,c],none,0,none,oa,p⟩
  have pd:W.d≠p:=az S3.cp.dd hp;have ln:(W.as.map kyL).length<sizeLine:=by rw[zg];lia
  have dp:=DPut.k (k:=.inr ⟨⟨t.pa++58::[110,101,119,c]⟩⟩) (v:=.ref p) ((ag (o:=.lst [V.non,V.int 0,V.non,L2.T oa]) pd).trans S3.cp.dd) ln;rw[CA (x:=x) hx]at dp;refine⟨W.d,_,rfl,dp,?_⟩;have J:=S3.addC (x:=x) hp;obtain⟨dx,ho⟩:=J.ob;obtain⟨c1,mc1,rc⟩:=An S.cp.cf mt;have l1:=S.cp.cf.len;have lp:=po.len;have hh4:sk H3 W x hd=some (.lst [.ref W.ch,.ref W.g,.ref W.j,.ref W.sl]):=by
   have n1:hd≠W.d:=fun q=>nh (by rw[q];exact .tail _ (.head _));have n2:hd≠p:=az hh3 hp;exact(ag n1).trans ((ag n2).trans hh3)
  refine⟨_,_,.inl (SqL.of hh4),av (j:=0) rfl,?_⟩;walk_at "rq";refine⟨dx,_,ho,Cn _,aq (aq N3 rfl) rfl,⟨po.lo,by lia⟩,t.pa,[110,101,119,c],W.cd,W.cs,c1,rfl,n58,po.pn,J,by lia,(fun c mc=>by have:=S.cp.bl c mc;lia),Bn (fun c mc e=>?_),mc1,rc.pa,by rw[rc.un,tt.un],by rw[rc.fi,tt.fi];exact Yd _,fun c' H5 p1 pk p2 p3 p4 p5 p6 p7 J5 K5 N5=>?_⟩
  ·obtain⟨y,my,ry⟩:=AR S.cp.cf mc
   exact hx y my (ry.pa.symm.trans e)
  ·obtain⟨q1,q2,q3⟩:=S3.more (x:=x) hx hp po ⟨(by decide:(0:Int)<=0),(by decide:(0:Int)<=145816)⟩ rfl rfl mt rfl p1 (pk.trans (rc.ki.trans (by rw[to]))) p2 p3 p4 p5 p6 p7 J5 K5 N5
   exact key H5 ⟨_,_,v3,q1,o3,k03.trans q2,fun p mp=>(q3 p mp).imp id fun e=>k03.free e fun mm=>S3.live p mm e⟩
 obtain⟨u43,hu43,c43⟩:=c43;have c40:∃u,PSs (bV (XE P w) P w K mg base cB "_law_step" (au bC) fA cdv A outer s H E) (AE 4) u/\∀(D:eA) mo pv z H1,D.rt=Q->Same H H1->NoT H1->v.o=some z->u D (sgS hd W cell more (some mo) (some pv)) H1:=by
  refine⟨_,(ae (aO 7 ND (aB K (Dv (bN rfl (cl:=_) (x:="_law_one") (xs:=["_law_one"]) (fr:=["_law_accounts_here"]) (ks:=[1]) (by walk_at "cq") rfl (iW (fv 1)) (fun _ _ _ _ _=>(aK (i:=0) (bX (l:=["_law_one","_law_accounts_here"]) (by decide)) rfl (Or.inl rfl))) (fun _ _ _ _ _=>(cN (aN (bF K HU) (aB K (aL (Zz HU) (fv 1) (fv 0) (fun _ _=>rfl)) aa) (ak [111,119,110])))) (fun _ _ _ _ _=>(fv 0)))) aa))
   (ae (aO 8 ND (aj aE (aj aE (fv 7) (ak [58,110,101,119])) (aB K (ak [97,98,99,100,101,102,103,104]) (aj aW (fv 4) aa))))
   (ae (a6 (bR (bL (aH (dR T) hr aA (fa5 (fv 0) (fv 1) (fv 2) (aj aE (aL (Zz HU) (fv 2) (ak [99,108,111,115,101,100]) (fun _ _=>rfl)) aa) (fv 8))))) (af (aC g8)) aJ)
   hu43))),fun D mo pv z H1 hDr s1 N1 eo=>?_⟩
  have S1:=S.same s1 N1;walk_at "rq";refine FM nd S1.cp.ac S1.cp.dd (by lia) N1 (fun R r=>r) rfl S1.cp.ai.top fun t vs D1 H2 mt tt to vin hD s2 hD2 N2=>?_;have s12:=s1.trans s2;have S2:=S.same s12 N2;have hh2:=s12 _ _ hh;have ck:=S2.mn.clsd;rw[eo]at ck;refine⟨_,_,.inl (SqL.of hD2),av (j:=0) rfl,?_⟩;obtain⟨c,mc,ec⟩:=xX (l:=AH) rfl more;have c01:97<=c/\c<=104:=(show ∀x∈AH,97<=x/\x<=104 by decide) c mc;rw[show([97,98,99,100,101,102,103,104]:List Nat)=AH from rfl,ec];have lt:=(jE tt.nm).2.1;walk_at "rq";have ep:t.pa++[58,110,101,119]++[c]=t.pa++58::[110,101,119,c]:=by simp
  rw[ep];refine⟨by lia,by walk_at "om",by rw[zi];show t.pa.length+4+1<=_;lia,W.md,_,rfl,ck,?_⟩;show qN (.int z) (.int 1) H2 _;walk_at "rq";refine⟨cy,m,n,W,v,⟨S2,hh2,nh,by lia,by lia,lc,rfl,rfl⟩,fun H3 v3 S3 o3 k3=>?_⟩;exact c43 D mo pv t c H3 v3 hDr mt tt to c01 S3 (o3 (by rw[eo];intro q;cases q)) ((Keep.same s12).trans k3)
 obtain⟨ub4,hb4,c40⟩:=c40;have c4:∃u,PSs (bV (XE P w) P w K mg base cB "_law_step" (au bC) fA cdv A outer s H E) (Zn 4 (aZ bC)) u/\∀mo pv H1,KnM mo->KnV H H1 pv->Same H H1->NoT H1->u { nx:=fun _ H'=>Q .non H',rt:=Q } (sgS hd W cell more (some mo) (some pv)) H1:=by
  refine⟨_,(ae (a6 (L2.PW.pt (dJ (aN (bF K HU) (aj aW (aj aX (fv 3) aa) aa) aa) (dJ (dX (dq (aL (Zz HU) (fv 2) (ak [99,108,111,115,101,100]) (fun _ _=>rfl)))) (cU (aN (bF K HU) (aj aW (aj aE (aL (Zz HU) (fv 2) (ak [99,108,111,115,101,100]) (fun _ _=>rfl)) aa) aa) aa))))) hb4 aJ)
   hu5),fun mo pv H1 km kp s1 N1=>?_⟩
  have S1:=S.same s1 N1;walk_at "rq";by_cases w1:cell / 108 % 4=2
  rotate_left 1
  ·exact itn w1 (c5 mo pv H1 km kp s1 N1)
  have ck:=S1.mn.clsd;refine itp w1 ⟨W.md,_,rfl,ck,?_⟩;cases eo:v.o with
  |none=>exact itp rfl (c5 mo pv H1 km kp s1 N1)
  |some z=>
   rw[eo]at ck;refine itn (by intro q;cases q) ⟨W.md,_,rfl,ck,?_⟩;show qN (.int z) (.int 1) H1 _;walk_at "rq";by_cases h11:(z+1) % 12=11
   rotate_left 1
   ·exact itn h11 (c5 mo pv H1 km kp s1 N1)
   exact itp h11 (c40 _ mo pv z H1 rfl s1 N1 eo)
 obtain⟨u4,hu4,c4⟩:=c4;clear c5 c6 hu5 hu6;have c2:∃u,PSs (bV (XE P w) P w K mg base cB "_law_step" (au bC) fA cdv A outer s H E) (Zn 2 (aZ bC)) u/\∀mo H1,KnM mo->Same H H1->NoT H1->u { nx:=fun _ H'=>Q .non H',rt:=Q } (sgS hd W cell more (some mo) none) H1:=by
  refine⟨_,(ae (a6 (aN (bF K HU) (aj aW (aj aX (fv 3) aa) aa) aa) (af (aO 5 ND (d6 (fa6 (yf tM aa) aa g8 cG (ak [55]) (aj aE aa (aj aW (fv 4) (aj Ct aa aa)))) (aj aW (fv 4) aa) (fun _ _=>rfl)))) aJ)
   (ae (aO 6 ND (aH (sM T) hr aA (fa2 (fv 1) (fv 4))))
   hu4)),fun mo H1 km s1 N1=>?_⟩
  walk_at "rq";refine' Il (c:=KnM) (fun key=>_) _
  rotate_left 1
  ·by_cases h1:cell / 12 % 9=1
   ·refine itp h1 ⟨N1,by decide,by decide,by walk_at "om",fun p hp=>HI (by lia) (by lia) fun v kv=>?_⟩
    exact key v kv
   ·exact itn h1 (key mo km)
  intro M kM;exact⟨N1,m,W,S.cp.keep (Keep.same s1) cq (S:=[]),by lia,rfl,fun pv H2 s2 N2 kp=>c4 M pv H2 kM (fun A B hA hB=>kp A B (fun p q e=>hA p q (s1.free e)) hB) (s1.trans s2) N2⟩
 obtain⟨u2,hu2,c2⟩:=c2;clear c4 hu4;refine⟨_,(ae (aO 5 ND (aD (o7 rfl) rfl T.v0 qj (fa2 aa (aH (jz T) hr aA (fa1 (aj aW (aj aX (fv 3) aa) aa))))))
  (ae (a6 (dX (sJ (aL (Zz HU) (fv 2) (ak [99,108,111,115,101,100]) (fun _ _=>rfl)))) (af (aO 5 ND (aj cW (aD (o7 rfl) rfl T.v0 qj (fa2 aa (aj aE (aj cJ (aL (Zz HU) (fv 2) (ak [102,105,114,115,116]) (fun _ _=>rfl)) aa) (aj aW (aj aX (fv 3) aa) aa)))) (bh dW rfl T.gY eg (fa1 (bP (cE K HU) (aj aW (fv 4) aa) aa (bY _))))))) (af (a6 (aN kq (aj aW (fv 3) aa) aa) (af (aO 5 ND (aj aE (aL (Zz HU) (fv 2) (ak [99,108,111,115,101,100]) (fun _ _=>rfl)) aa))) aJ)))
  hu2)),?_⟩
 walk_at "rq";refine⟨hN,⟨by lia,by lia⟩,fun H1 s1 N1=>?_⟩;have S1:=S.same s1 N1;have ck:=S1.mn.clsd;refine⟨W.md,_,rfl,ck,?_⟩;cases eo:v.o with
 |none=>
  refine itp rfl ⟨W.md,_,rfl,S1.mn.first,?_⟩;walk_at "rq";exact⟨.inr (by split <;> decide),c2 (.int _) H1 (fun _=>⟨_,rfl⟩) s1 N1⟩
 |some z=>
  rw[eo]at ck;refine itn (by intro q;cases q) ?_;by_cases h3:0<cell % 3
  ·refine itp h3 ⟨W.md,_,rfl,ck,?_⟩
   show qN (.int z) (.int 1) H1 _;walk_at "rq";exact c2 (.int _) H1 (fun _=>⟨_,rfl⟩) s1 N1
  ·exact itn h3 (c2 (.int _) H1 (fun _=>⟨_,rfl⟩) s1 N1)
theorem lI(T:Txt K mg a):MoC P w K mg base a.aQ "every" 1 (sp_pN a.aQ):=by
 refine T.g_.c1 ["self"] fun x0 fA cdv A outer s H Q E ND HU hr h=>?_;obtain⟨hN,h1⟩:=h;obtain⟨p,rfl,b,u,bs,kvs,J,k⟩:=asR.inv h1;obtain⟨dx,hp⟩:=J.ob;refine⟨_,(af (aC (bh (kX K) rfl T.mH i5 (fa1 (ba K (fv 0)))))),?_⟩;walk_at "rq";exact⟨_,_,_,_,hp,T.a7,T.bJ,lkb _ _,bs,.inl (.inl (.inl J.ls)),k⟩
theorem yO{α:Type}(q:α->Bool):∀rs:List α,(rs.filter fun r=>!q r).isEmpty=rs.all q
 | []=>rfl
 |r::rs=>by
  rw[List.filter_cons,List.all_cons];cases q r with
  |true=>rw[if_neg (by decide),Z9];exact yO q rs
  |false=>rfl
theorem Hd{C A:Addr}{H:Hp}{p d:Addr}{al:List La}{cs:List Acc}{as:List La}(J:CAt C A H p d cs)(h:A2 (CF al) cs as){x:La}(mx:x∈as){r:Row}(e:x.pa=r.pa)(t:Int):opR cs t r=opn x.fi x.un t:=by
 obtain⟨c,mc,rc⟩:=An h mx;unfold opR;rw[<- e,<- rc.pa,jF J.np mc];show opn c.fi c.un t=_;rw[rc.fi,rc.un]
theorem Gs{α β:Type}{R:α->β->Prop}{xs:List α}{ys:List β}(h:A2 R xs ys):∀ {i:Nat} {y:β},ys[i]? = some y->∃x,xs[i]? = some x/\R x y:=by
 induction h with
 |nil=>intro i y e;cases e
 |cons r _ ih=>
  intro i y e;cases i with
  |zero=>cases e;exact⟨_,rfl,r⟩
  |succ i=>exact ih e
theorem vU{H:Hp}{n:Nat}(i:Int):EqH K H n (.int i) (.int i) true:=by
 have:=oC (K:=K) (H:=H) (n:=n) (i:=i) (j:=i)
 rwa [beq_self_eq_true]at this
theorem E7{H:Hp}{n:Nat}{p q:Addr}{xs ys:List V}{rs:List Row}(hp:H p=some (.tup xs))(hq:H q=some (.tup ys))(h:A2 (RwAt H) xs rs)(h':A2 (RwAt H) ys rs):EqH K H (n+2) (.ref p) (.ref q) true:=by
 have:=yI (K:=K) (n:=n) hp hq h h'
 rwa [mj]at this
theorem Ia{H:Hp}{n:Nat}{v v':V}{x:Bx}(h:BxAt H v x)(h':BxAt H v' x):EqH K H (n+3) v v' true:=by
 obtain⟨q,t,vs,rfl,h1,h2,h3⟩:=h;obtain⟨q',t',vs',rfl,g1,g2,g3⟩:=h';by_cases hq:q=q'
 ·subst hq;exact .same
 ·exact EqH.tup (K:=K) (H:=H) (n:=n+2) (e:=fun _=>true) hq (SqT.of h1) (SqT.of g1) fun j x y gx gy=>by
   match j,gx with
   |0,gx=>cases gx;cases gy;exact vU _
   |1,gx=>cases gx;cases gy;exact vU _
   |2,gx=>
    cases gx;cases gy;have:=r9 (K:=K) (H:=H) (n:=n+2) (l:=x.nt) (m:=x.nt)
    rwa [beq_self_eq_true]at this
   |3,gx=>cases gx;cases gy;exact E7 h2 g2 h3 g3
   |4,gx=>
    cases gx;cases gy;cases x.un with
    |none=>exact .flat rfl rfl
    |some i=>exact vU _
   |j+5,gx=>simp at gx
theorem FW{H:Hp}{n:Nat}{v v':V}{x:Se}(h:SeV H v x)(h':SeV H v' x):EqH K H (n+3) v v' true:=by
 obtain⟨q,rfl,t,vs,h1,h2,h3⟩:=h;obtain⟨q',rfl,t',vs',g1,g2,g3⟩:=h';by_cases hq:q=q'
 ·subst hq;exact .same
 ·exact EqH.tup (K:=K) (H:=H) (n:=n+2) (e:=fun _=>true) hq (SqT.of h1) (SqT.of g1) fun j x y gx gy=>by
   match j,gx with
   |0,gx=>cases gx;cases gy;exact vU _
   |1,gx=>cases gx;cases gy;exact vU _
   |2,gx=>cases gx;cases gy;exact E7 h2 g2 h3 g3
   |j+3,gx=>simp at gx
theorem A5{β:Type}{R:V->β->Prop}{H:Hp}{p q:Addr}{xs ys:List V}{zs:List β}(e:∀x y z,R x z->R y z->EqH K H 50 x y true)(hp:H p=some (.lst xs))(hq:H q=some (.lst ys))(h:A2 R xs zs)(h':A2 R ys zs):EqR K H p q true:=by
 have:=EqR.lst (K:=K) (H:=H) (e:=fun _=>true) (SqL.of hp) (SqL.of hq) (h.len.trans h'.len.symm) fun j x y gx gy=>by
  obtain⟨z,g1,r1⟩:=h.at_ gx;obtain⟨z',g2,r2⟩:=h'.at_ gy;rw[g1]at g2;cases g2;exact e x y z r1 r2
 rwa [Zk.mpr fun _ _=>rfl]at this
theorem ua{H:Hp}{p q:Addr}{xs ys:List V}{zs:List Bx}(hp:H p=some (.lst xs))(hq:H q=some (.lst ys))(h:A2 (BxAt H) xs zs)(h':A2 (BxAt H) ys zs):EqR K H p q true:=A5 (R:=BxAt H) (fun _ _ _ r1 r2=>Ia r1 r2) hp hq h h'
theorem xr{H:Hp}{p q:Addr}{xs ys:List V}{zs:List Se}(hp:H p=some (.lst xs))(hq:H q=some (.lst ys))(h:A2 (SeV H) xs zs)(h':A2 (SeV H) ys zs):EqR K H p q true:=A5 (R:=SeV H) (fun _ _ _ r1 r2=>FW r1 r2) hp hq h h'
def sp_DA(a:Adr):Sp:=sp4 fun x y z s H Q _=>asR x fun hd=>asR y fun d=>asR z fun md=>asI s fun _=>∃cy m n W v,LS a cy m n H W v/\H hd=some (.lst [.ref W.ch,.ref W.g,.ref W.j,.ref W.sl])/\hd∉own W/\m<=18/\n<=40/\d=W.d/\md=W.md/\∀H',Keep [W.b,W.u,W.mr] H H'->NoT H'->Q (.bl true) H'
theorem iH(T:Txt K mg a):Fo P w K mg base "_law_carry_undone" 9 (sp_DA a):=by
 refine T.js.x4 ["_law_held","_law_accounts_here","_law_mine","_law_cell","_law_carries","_law_old","_law_day_here","_law_shut","_law_found","_law_e","_law_rows"] fun x0 x1 x2 x3 fA cdv A outer s H Q E ND HU hr h=>?_;obtain⟨hd,rfl,h2⟩:=asR.inv h;obtain⟨d,rfl,h3⟩:=asR.inv h2;obtain⟨md,rfl,h4⟩:=asR.inv h3;obtain⟨cell,rfl,cy,m,n,W,v,S,hh,nh,m18,n40,rfl,rfl,kQ⟩:=asI.inv h4;have sz:=szl;have hN:=S.nT;have nd:=S.cp.ai.nd
 skip
 have c6:∃u,PSs (bV (XE P w) P w K mg base ["_law_held","_law_accounts_here","_law_mine","_law_cell","_law_carries","_law_old","_law_day_here","_law_shut","_law_found","_law_e","_law_rows"] "_law_carry_undone" (au (top 89)) fA cdv A outer s H E) (Zn 6 (aZ (top 89))) u/\∀H1 H2 D0 o (x:Bx) (i:Nat) ps ws (sh:List Row) day tr rws bs ws',Same H H1->NoT H1->H ps=none->H1 ps=some (.lst ws)->A2 (RwAt H1) ws sh->sh.isEmpty=true->JAt a.aQ H1 W.j W.b W.u bs []->A2 (BxAt H1) bs v.bx->H1 o=some (.tup [.int i,.int x.d,L2.T x.nt,.ref tr,.non])->H1 tr=some (.tup rws)->A2 (RwAt H1) rws x.rs->x.rs.length<=60->A2 (RwAt H2) ws' (trn x.rs)->IC a H1 H2 W.j W.b W.u bs (dB [] (.inl (i:Int)) (.int bs.length)) (.int day) (L2.T []) ws' (.int i)->u { nx:=fun _ H'=>Q .non H',rt:=Q } [some (.ref hd),some (.ref W.d),some (.ref W.md),some (.int cell),some (.ref D0),some (.ref o),some (.int day),some (.ref ps),some (.int bs.length),none,none] H2:=by
  refine⟨_,(ae (aO 10 ND (bh (fR K) rfl T.gt fe (fa1 (bN rfl (cl:=_) (x:="_law_path_here") (xs:=["_law_path_here","_law_currency","_law_amount"]) (fr:=[]) (ks:=[]) (by walk_at "cq") rfl (iV K (aB K (fv 5) aa)) (fun _ _ _ _ _=>(fJ K (n:=3) rfl (bf (aK (i:=0) (bX (l:=["_law_path_here","_law_currency","_law_amount"]) (by decide)) rfl (Or.inl rfl)) (bf (aK (i:=1) (bX (l:=["_law_path_here","_law_currency","_law_amount"]) (by decide)) rfl (Or.inl rfl)) (bf (aK (i:=2) (bX (l:=["_law_path_here","_law_currency","_law_amount"]) (by decide)) rfl (Or.inl rfl)) dS))))) (fun _ _ _ _ _=>dH) (fun _ _ _ _ _=>(bd (fa3 (fv 0) (fv 1) (aj cJ aa (fv 2)))))))))
   (ae (bB (cK K pN Zx Zy cn (aL (Zz HU) (fv 2) (ak [114,111,119,115]) (fun _ _=>rfl)) (fa1 (bd (fa5 (aD (bQ K) rfl T.cZ ci (fa1 (aL (Zz HU) (fv 2) (ak [114,111,119,115]) (fun _ _=>rfl)))) (fv 6) (ak []) (fv 10) (aB K (fv 5) aa))))))
   (af (aC (cj (bP (bF K HU) (fv 7) (bz (FA.pa ce)) (bY _)) (cj (bP (bF K HU) (fv 8) (aj cJ (aD (bQ K) rfl T.cZ ci (fa1 (aL (Zz HU) (fv 2) (ak [114,111,119,115]) (fun _ _=>rfl)))) aa) (bY _)) (cF (bP (bF K HU) (gA (aB K (fv 0) aa) T.a7 (cw T) (hr.mono (by decide)) aA) (aL (Zz HU) (fv 2) (ak [114,111,119,115]) (fun _ _=>rfl)) (bY _))))))))),fun H1 H2 D0 o x i ps ws sh day tr rws bs ws' s1 N1 ps0 hps a1 es J B ho htr hrw lr hw L=>?_⟩
  have S1:=S.same s1 N1;have hh1:=s1 _ _ hh;have lB:=B.len;have lO:=S.ok.ll;walk_at "rq";obtain⟨q,t,fq,hq,ht,J2,kp,N2⟩:=L;have kt:Kt H1 H2:=fun t l e=>kp _ _ e (J.tup e);have nM:∀p∈mad W,p∉[W.b,W.u]:=fun p mp q=>S.ap.sm p (by
   rcases zZ.mp q with q|q
   ·rw[q];exact .tail _ (.tail _ (.head _))
   ·rw[zq.mp q];exact .tail _ (.tail _ (.tail _ (.head _)))) mp
  have M2:=S1.mn.keep kp kt nM;have ho2:=kt _ _ ho;refine Bp ?_;walk_at "rq";refine⟨_,_,.inr (SqT.of ho2),av (j:=3) rfl,tr,rfl,⟨rws,SqT.of (kt _ _ htr)⟩,C8 (S:=RwAt) RwAt.mv tr rws x.rs (RwAt H2) (fun _=>true) (fun r=>⟨r.pa,r.cu,0-r.am⟩) (kt _ _ htr) N2 (hrw.imp fun v r _ _ h=>RwAt.mv _ _ v r kt h) (by have:=hrw.len;lia) (fun v r mr rr G zs M1 M0 sG nG hz n1 n0=>?_) fun D ws3 G3 hD sG nG gD aG=>?_⟩
  ·obtain⟨q,rfl,hq⟩:=rr
   have hq:=sG _ _ hq;obtain⟨z1,z2,z3,rfl⟩:=ex3 hz;walk_at "rq";refine⟨_,_,rfl,SqT.of hq,rfl,_,_,rfl,_,_,rfl,_,_,rfl,rfl,?_⟩;walk_at "rq";exact⟨⟨[_,_,_],rfl,rfl⟩,by walk_at "om",fun p1 hp1=>n1 rfl _ _ (ah _ hp1) (aq nG rfl) ⟨p1,rfl,ad⟩⟩
  rw[Zm.mpr (fun _ _=>rfl),show(fun r:Row=>(⟨r.pa,r.cu,0-r.am⟩:Row))=fun r=>⟨r.pa,r.cu,-r.am⟩ from funext fun r=>by rw[Int.zero_sub]]at aG;change A2 (RwAt G3) ws3 (trn x.rs) at aG;walk_at "rq";refine⟨ws3,.inl ⟨SqL.of gD,fun t3 ht3=>?_⟩⟩;generalize e4:upd _ _ (HO.tup ws3)=G4;obtain⟨s4,h4,N4⟩:=br e4 ht3 nG rfl;have s24:=sG.trans s4;have M4:=M2.keep (Keep.same s24) (Kt.same s24) cq (S:=[]);obtain⟨bs2,hmr,B2⟩:=M4.hr;have lB2:=B2.len;refine⟨W.md,.ref W.mr,rfl,M4.rows,.inl ⟨rfl,_,SqL.of hmr⟩,W.md,.ref W.mr,rfl,M4.rows,?_⟩;walk_at "rq";refine⟨_,.inl (SqL.of hmr),_,_,.inr (SqT.of (s24 _ _ ho2)),av (j:=0) rfl,by walk_at "om",fun p hp=>⟨W.mr,bs2,_,rfl,rfl,(ah _ hp) _ _ hmr,by lia,wQ _,fun p1 hp1=>?_⟩⟩;have np:p≠W.mr:=Ne.symm (az hmr hp);generalize e5:upd (upd G4 p _) W.mr _=G5 at hp1 |-
  have kp5:Keep [W.mr] G4 G5:=by rw[<- e5];exact(Keep.refl.new hp).put (.head _)
  have hp5:G5 p=some (HO.tup [V.int bs2.length,V.int day,L2.T [],V.ref t3,V.int i]):=by rw[<- e5];exact(ag np).trans ad
  have mr5:G5 W.mr=some (HO.lst (bs2++[V.ref p])):=by rw[<- e5];exact ad
  have N5:NoT G5:=by rw[<- e5];exact aq (aq N4 rfl) rfl
  generalize e6:upd _ _ (HO.lst [])=G6;obtain⟨s6,h6,N6⟩:=br e6 hp1 N5 rfl;have n5:∀ {c:Addr} {o:HO},G4 c=some o->c≠W.mr->G6 c=some o:=fun e n=>s6 _ _ (kp5 _ _ e fun q=>n (zq.mp q));have lv:=S.live;have ps2:H2 ps=some (.lst ws):=kp _ _ hps fun q=>by
   rcases zZ.mp q with q|q
   ·exact lv ps (by rw[q];exact zd _ (.tail _ (.tail _ (.head _)))) ps0
   ·exact lv ps (by rw[zq.mp q];exact zd _ (.tail _ (.tail _ (.tail _ (.head _))))) ps0
  have ps6:=n5 (s24 _ _ ps2) fun q=>lv ps (by rw[q];exact zd _ (zd _ (.tail _ (.head _)))) ps0;have kt46:Kt G4 G6:=fun c l e=>n5 e fun q=>by rw[q,hmr]at e;cases e
  have kt26:Kt H2 G6:=fun c l e=>kt46 _ _ (s24 _ _ e);have M6:Mn G6 W ⟨v.o,v.bx++[⟨v.bx.length,day,[],trn x.rs,some (i:Int)⟩],v.se⟩:=by
   obtain⟨ss,hs,Ds⟩:=M4.hs;refine⟨n5 M4.hm fun q=>?_,⟨_,s6 _ _ mr5,(B2.imp fun _ _ _ _ z=>z.mv kt46).snoc ⟨p,t3,ws3,rfl,?_,kt46 _ _ h4,(bt s4 aG).imp fun v r _ _ h=>RwAt.mv _ _ v r kt46 h⟩⟩,⟨ss,n5 hs (Ne.symm M4.ne),Ds.imp fun _ _ _ _ z=>z.mv kt46⟩,M4.ne⟩
   ·have e:=M4.hm
    rw[q,hmr]at e;cases e
   ·rw[<- lB2];exact s6 _ _ hp5
  obtain⟨bs6,hm6,B6⟩:=M6.hr;have sm:∀ {c:Addr},c∈sad W->c≠W.mr:=fun mc q=>S.ap.sm _ mc (by rw[q];exact .tail _ (.head _));have J6:JAt a.aQ G6 W.j W.b W.u (bs++[.ref q]) (dB [] (.inl (i:Int)) (.int bs.length)):=⟨by
   obtain⟨dj,hj⟩:=J2.ob;exact⟨dj,n5 (s24 _ _ hj) (sm (.head _))⟩,n5 (s24 _ _ J2.ls) (sm (.tail _ (.tail _ (.head _)))),n5 (s24 _ _ J2.dc) (sm (.tail _ (.tail _ (.tail _ (.head _)))))⟩
  have B7:A2 (BxAt G6) (bs++[.ref q]) (v.bx++[⟨v.bx.length,day,[],trn x.rs,some (i:Int)⟩]):=(B.imp fun _ _ _ _ z=>(z.mv kt).mv kt26).snoc ⟨q,t,ws',rfl,by rw[<- lB];exact kt26 _ _ hq,kt26 _ _ ht,hw.imp fun v r _ _ h=>RwAt.mv _ _ v r kt26 h⟩;have hh6:G6 hd=some (.lst [.ref W.ch,.ref W.g,.ref W.j,.ref W.sl]):=n5 (s24 _ _ (kp _ _ hh1 fun q=>nh (by
   rcases zZ.mp q with q|q
   ·rw[q];exact zd _ (.tail _ (.tail _ (.head _)))
   ·rw[zq.mp q];exact zd _ (.tail _ (.tail _ (.tail _ (.head _))))))) fun q=>nh (by rw[q];exact zd _ (zd _ (.tail _ (.head _))))
  have k06:Keep [W.b,W.u,W.mr] H G6:=fun c o e nc=>n5 (s24 _ _ (kp _ _ (s1 _ _ e) fun q=>nc (by
   rcases zZ.mp q with q|q
   ·rw[q];exact .head _
   ·rw[zq.mp q];exact .tail _ (.head _)))) fun q=>nc (by rw[q];exact .tail _ (.tail _ (.head _)))
  refine⟨_,zK (SqL.of ps6) (SqL.of h6),?_⟩;rw[(wJ a1).trans es];refine itp rfl ⟨W.md,.ref W.mr,rfl,M6.rows,?_⟩;walk_at "rq";have l6:=B6.len;rw[zi,Zw]at l6;obtain⟨dj,hj⟩:=J6.ob;refine⟨_,.inl (SqL.of hm6),itp (by lia) ⟨_,_,.inl (SqL.of hh6),av (j:=2) rfl,?_⟩⟩;walk_at "rq";refine⟨dj,_,hj,f_ _ _,N6,W.b,W.u,_,_,J6,fun q7 hq7=>?_⟩;have s7:=ah (HO.lst (bs++[.ref q])) hq7;have M7:=M6.keep (Keep.same s7) (Kt.same s7) cq (S:=[]);exact⟨W.md,.ref W.mr,rfl,M7.rows,true,ua ad (s7 _ _ hm6) (B7.imp fun _ _ _ _ z=>z.mv (Kt.same s7)) (B6.imp fun _ _ _ _ z=>z.mv (Kt.same s7)),kQ _ (k06.trans (Keep.same s7)) (aq N6 rfl)⟩
 obtain⟨u6,hu6,c6⟩:=c6;have c5:∃u,PSs (bV (XE P w) P w K mg base ["_law_held","_law_accounts_here","_law_mine","_law_cell","_law_carries","_law_old","_law_day_here","_law_shut","_law_found","_law_e","_law_rows"] "_law_carry_undone" (au (top 89)) fA cdv A outer s H E) (Zn 5 (aZ (top 89))) u/\∀H1 D0 o x (i:Nat) z ps ws (sh:List Row) day,Same H H1->NoT H1->H ps=none->v.bx[i]? = some x->v.o=some z->BxAt H1 (.ref o) x->H1 ps=some (.lst ws)->A2 (RwAt H1) ws sh->sh.isEmpty=x.rs.all (opR W.cs day)->x.d<=fO z->FD (z+1)<=day->day<=146096->u { nx:=fun _ H'=>Q .non H',rt:=Q } [some (.ref hd),some (.ref W.d),some (.ref W.md),some (.int cell),some (.ref D0),some (.ref o),some (.int day),some (.ref ps),none,none,none] H1:=by
  refine⟨_,(ae (Cl (i:=9) ND rfl rfl rfl T.k7 rfl rfl rfl (fun pn Ee Ex PX=>(af (aO 8 ND (aH (DE T) hr PX (fa6 (aB K (fv 0) aa) (aB K (fv 0) aa) (aB K (fv 0) aa) (aB K (fv 5) aa) (fv 6) (ak [])))))) (fun e=>(af (aC (cj (bP (cE K HU) (fv 7) (bz (FA.pa ce)) (bY _)) (cj (bP (bF K HU) (Fa (j6 T) (Room.toC hr (by decide)) kF (fa1 (fv 9))) (ak [111,112,101,110]) (bY _)) (cF (bP (bF K HU) (FK (aB K (fv 0) aa) T.a7 (lI T) (Room.toC hr (by decide)) kF) (aL (Zz HU) (fv 2) (ak [114,111,119,115]) (fun _ _=>rfl)) (bY _)))))))))
   hu6),fun H1 D0 o x i z ps ws sh day s1 N1 ps0 hx eo hb hps a1 es xd d0 d1=>?_⟩
  have S1:=S.same s1 N1;have hh1:=s1 _ _ hh;obtain⟨bs,J,B⟩:=S1.sd.ja;obtain⟨vi,hvi,bi⟩:∃vi,bs[i]? = some vi/\BxAt H1 vi x:=by
   exact Gs B hx
  obtain⟨q0,tq,vs,rfl,hq0,htq,hvs⟩:=bi;obtain⟨o',tr,rws,e,ho,htr,hrw⟩:=hb;cases e;obtain⟨xk,xu⟩:=S.ok.nk i x hx;rw[xk,xu]at hq0 ho;have lB:=B.len;have lO:=S.ok.ll;have lr:x.rs.length<=60:=S.ok.bo.l2 _ (wR (f:=Bx.bk) (ww hx));have dn:0<=day:=by have:=Jz (show 0<=z+1 by have:=S.ok.oo z eo;lia);lia
  have lz:z<MO day:=by
   have a1:=E8 dn d1;by_cases h:z<MO day
   ·exact h
   ·have:=iY (show MO day+1<=z+1 by lia)
    have:=a1.2.2.2;lia
  walk_at "rq";refine⟨_,_,.inl (SqL.of hh1),av (j:=0) rfl,_,_,.inl (SqL.of hh1),av (j:=1) rfl,_,_,.inl (SqL.of hh1),av (j:=2) rfl,_,_,.inr (SqT.of ho),av (j:=0) rfl,N1,?_⟩;walk_at "rq";refine⟨rfl,⟨W.cd,W.cs,W.gx,v.o,W.b,W.u,bs,[],i,q0,x.d,L2.T x.nt,tq,vs,x.rs⟩,⟨S1.cp.ca,S1.sd.ga,J,show bs.length<=100 by lia,wQ _,rfl,hvi,hq0,htq,hvs,lr,fun r mr=>?_,rfl,⟨dn,d1⟩,by have:x.d<=FD (z+1)-1:=xd;show x.d<=day;lia,by rw[eo];exact lz⟩,fun al ws' H2 hw L=>?_,fun al=>⟨_,rfl,T.d7,fun e he=>?_⟩⟩
  ·obtain⟨y,my,ey⟩:=yS.mp (S.ok.bo.mem _ (wR (f:=Bx.bk) (ww hx)) r mr).1
   obtain⟨c,mc,rc⟩:=An S.cp.cf my;exact⟨c,mc,rc.pa.trans ey⟩
  ·exact c6 H1 H2 D0 o x i ps ws sh day tr rws bs ws' s1 N1 ps0 hps a1 (es.trans al) J B ho htr hrw lr hw L
  ·rw[al]at es
   refine⟨wQ _,fun p hp=>?_⟩;have m1:=ah (gZ (yW a.a9) e) he;have m2:=ah (HO.lst []) hp;refine⟨_,zK (SqL.of (m2 _ _ (m1 _ _ hps))) (SqL.of ad),?_⟩;rw[(wJ a1).trans es];refine itp rfl ⟨aq (aq N1 rfl) rfl,5,by decide,by decide,m2 _ _ ad,fun H2 s2 N2=>itp rfl ?_⟩;have s02:=(s1.trans m1).trans (m2.trans s2);have S2:=S.same s02 N2;obtain⟨bs2,J2,B2⟩:=S2.sd.ja;obtain⟨dj,hj⟩:=J2.ob;refine⟨_,_,.inl (SqL.of (s02 _ _ hh)),av (j:=2) rfl,?_⟩;walk_at "rq";refine⟨dj,_,hj,f_ _ _,N2,W.b,W.u,bs2,[],J2,fun q hq=>?_⟩;have s3:=ah (HO.lst bs2) hq;have M3:=S2.mn.keep (Keep.same s3) (Kt.same s3) cq (S:=[]);obtain⟨bs3,hmr,B3⟩:=M3.hr;exact⟨W.md,.ref W.mr,rfl,M3.rows,true,ua ad hmr (B2.imp fun _ _ _ _ z=>z.mv (Kt.same s3)) B3,kQ _ (Keep.same (s02.trans s3)) (aq N2 rfl)⟩
 obtain⟨u5,hu5,c5⟩:=c5;refine⟨_,(ae (fY (i0:=4) ND rfl (Or.inl rfl) rfl (cl:=_) (x:="_law_booking") (xs:=["_law_booking"]) (fr:=[]) (ks:=[]) (by walk_at "cq") rfl (bM K (aL (Zz HU) (fv 2) (ak [114,111,119,115]) (fun _ _=>rfl))) (fun _ _ _ _ _=>(aK (i:=0) (bX (l:=["_law_booking"]) (by decide)) rfl (Or.inl rfl))) (fun _ _ _ _ _=>(cN (aN (bF K HU) (aB K (fv 0) aa) (ak [99,97,114,114,121])))) (fun _ _ _ _ _=>(fv 0)))
  (ae (a6 (iU (L2.PW.pt (kj (aN (bF K HU) (fv 4) (bz (FA.pa ce))) (gB (aN kq (aL (Zz HU) (fv 2) (ak [99,108,111,115,101,100]) (fun _ _=>rfl)) aa))))) (af (aC g8)) aJ)
  (ae (aO 5 ND (aB K (fv 4) (aj aW (fv 3) (aD (bQ K) rfl T.cZ ci (fa1 (fv 4))))))
  (ae (aO 6 ND (aj aE (aj aE (aB K (aH (cD T) hr aA (fa1 (aL (Zz HU) (fv 2) (ak [99,108,111,115,101,100]) (fun _ _=>rfl)))) aa) aa) (aj aW (aj aX (fv 3) aa) aa)))
  (ae (fY (i0:=7) ND rfl (Or.inl rfl) rfl (cl:=_) (x:="_law_row") (xs:=["_law_row"]) (fr:=["_law_accounts_here","_law_day_here"]) (ks:=[1,6]) (by walk_at "cq") rfl (iV K (aB K (fv 5) aa)) (fun _ _ _ _ _=>(aK (i:=0) (bX (l:=["_law_row","_law_accounts_here","_law_day_here"]) (by decide)) rfl (Or.inl rfl))) (fun _ _ _ _ _=>(cN (bR (bL (aH (eh T) hr kF (fa3 (fv 1) (aB K (fv 0) aa) (fv 2))))))) (fun _ _ _ _ _=>(fv 0)))
  hu5))))),?_⟩
 walk_at "rq";refine gU ?_;walk_at "rq";obtain⟨bs,hmr,B⟩:=S.mn.hr;have lB:=B.len;have lO:=S.ok.ll;refine⟨W.md,.ref W.mr,rfl,S.mn.rows,W.mr,rfl,⟨_,SqL.of hmr⟩,ceA (S:=BxAt) (fun G G' v c k h=>h.mv k) W.mr bs v.bx (BxAt H) (fun b=>decide (b.nt=wl)) id hmr hN B (by lia) (fun u b mb rb G zs M1 M0 sG nG hz n1 n0=>?_) fun D ws G hD sG nG gD aG=>?_⟩
 ·obtain⟨q,t,vs,rfl,hq,ht,hrs⟩:=rb
  have hq:=sG _ _ hq;obtain⟨z1,rfl⟩:=ex1 hz;have n1:=fun h=>n1 h _ _ (Same.refl _) nG ⟨q,t,vs,rfl,hq,sG _ _ ht,bt sG hrs⟩;have n0:=fun h=>n0 h _ (Same.refl _) nG;walk_at "rq";refine⟨⟨[_],rfl,rfl⟩,_,_,.inr (SqT.of hq),av (j:=2) rfl,?_⟩;walk_at "rq";by_cases hd:b.nt=wl
  ·exact itp hd (n1 (decide_eq_true hd))
  ·exact itn hd (n0 (decide_eq_false hd))
 rw[YR]at aG;walk_at "rq";refine⟨nG,wQ _,fun p hp=>⟨_,zK (SqL.of ((ag (az gD hp)).trans gD)) (SqL.of ad),?_⟩⟩;cases ew:ws with
 |nil=>exact itp rfl ⟨G,Gc.none (ah _ hp),kQ G (Keep.same sG) nG⟩
 |cons w0 wr=>
 rw[<- ew];have lw:0<ws.length:=by rw[ew];exact Nat.zero_lt_succ _
 obtain⟨x0,mx0,_⟩:=AR aG (show w0∈ws by rw[ew];exact .head _);obtain⟨mx0,nx0⟩:=ZV.mp mx0;obtain⟨z,eo,_⟩:=S.ok.cr x0 mx0 (of_decide_eq_true nx0);obtain⟨z0,z1⟩:=S.ok.oo z eo;have SG:=S.same sG nG;have ck:=(SG.mn.keep (Keep.same (ah (HO.lst []) hp)) (Kt.same (ah _ hp)) cq (S:=[])).clsd;have ckG:=SG.mn.clsd;rw[eo]at ck ckG;refine itn (by rw[ew];intro q;cases q) ⟨W.md,_,rfl,ck,?_⟩;show gI (fun i j=>V.bl (decide (j<i))) (.int z) (.int 4790) _ _;walk_at "rq";refine⟨G,Gc.none (ah _ hp),?_⟩;by_cases hz:4790<z
 ·exact itp hz (kQ G (Keep.same sG) nG)
 obtain⟨vv,mv,ea⟩:=sB ws cell lw;refine itn hz ⟨_,.inl (SqL.of gD),by lia,_,vv,.inl (SqL.of gD),ea,W.md,_,rfl,ckG,nG,?_⟩;obtain⟨x,mx,bx⟩:=AR aG mv;obtain⟨mx,nx⟩:=ZV.mp mx;obtain⟨i,ex⟩:=List.getElem?_of_mem mx;obtain⟨o,tr,rws,rfl,ho,htr,hrw⟩:=bx;show asI (.int z) _;walk_at "rq";intro q H2 s2 N2 hq;refine⟨_,_,.inr (SqT.of hq),av (j:=1) rfl,?_⟩;walk_at "rq";have s02:=sG.trans s2;have S2:=S.same s02 N2;have ho2:=s2 _ _ ho;have htr2:=s2 _ _ htr;have hrw2:=bt s2 hrw;have lr:=S.ok.bo.l2 _ (wR (f:=Bx.bk) mx);have lr:x.rs.length<=60:=lr;have lw2:=hrw.len;have day0:FD (z+1)<=FD (z+1)-1+1+cell / 2 % 60:=by lia
 have day1:FD (z+1)-1+1+cell / 2 % 60<=146096:=by
  have:=iY (show z+1<=4791 by lia);have:FD 4791=145822:=by decide
  lia
 generalize FD (z+1)-1+1+cell / 2 % 60=day at day0 day1 |-
 refine Bp ?_;walk_at "rq";refine⟨_,_,.inr (SqT.of ho2),av (j:=3) rfl,tr,rfl,⟨rws,SqT.of htr2⟩,C8 (S:=RwAt) RwAt.mv tr rws x.rs (RwAt H2) (fun r=>!opR W.cs day r) id htr2 N2 hrw2 (by lia) (fun u r mr rr G3 zs M1 M0 sG3 nG3 hz3 n1 n0=>?_) fun D3 ws3 G3 hD3 sG3 nG3 gD3 aG3=>?_⟩
 ·obtain⟨q1,rfl,hq1⟩:=rr
  have hq1:=sG3 _ _ hq1;obtain⟨z1,rfl⟩:=ex1 hz3;have n1:=fun h=>n1 h _ _ (Same.refl _) nG3 ⟨q1,rfl,hq1⟩;have n0:=fun h=>n0 h _ (Same.refl _) nG3;obtain⟨y,my,ey⟩:=yS.mp (S.ok.bo.mem _ (wR (f:=Bx.bk) mx) r mr).1;rw[Hd S.cp.ca S.cp.cf my ey]at n1 n0;walk_at "rq";refine⟨⟨[_],rfl,rfl⟩,_,_,.inr (SqT.of hq1),av (j:=0) rfl,nG3,?_⟩;walk_at "rq";refine⟨W.as,y,(S2.cp.ac).same sG3,nd,my,ey,?_⟩;cases eb:opn y.fi y.un day with
  |true=>rw[eb]at n0;exact itn (by decide) (n0 rfl)
  |false=>rw[eb]at n1;exact itp rfl (n1 rfl)
 ·rw[YR]at aG3
  exact c5 G3 D o x i z D3 ws3 _ day (s02.trans sG3) nG3 (s02.free hD3) ex eo ⟨o,tr,rws,rfl,sG3 _ _ ho2,sG3 _ _ htr2,bt sG3 hrw2⟩ gD3 aG3 (yO _ _) (by obtain⟨z',e',l'⟩:=S.ok.cr x mx (of_decide_eq_true nx);rw[eo]at e';cases e';exact l') day0 day1
def ShOk(H:Hp)(S:List Addr)(v:V):Prop:=∃t p q xs ys,v = .ref t/\H t=some (.tup [.ref p,.ref q])/\H p=some (.lst xs)/\H q=some (.lst ys)/\p∉S/\q∉S/\((∃zs,A2 (BxAt H) xs zs/\A2 (BxAt H) ys zs)\/∃zs,A2 (SeV H) xs zs/\A2 (SeV H) ys zs)
theorem ShOk.mv{H H':Hp}{S S':List Addr}{v:V}(h:ShOk H S v)(k:Keep S H H')(kt:Kt H H')(sub:∀p∈S',p∈S\/H p=none):ShOk H' S' v:=by
 obtain⟨t,p,q,xs,ys,e,ht,hp,hq,np,nq,r⟩:=h;have no:∀ {c:Addr} {o:HO},H c=some o->c∉S->c∉S':=fun e n m=>(sub _ m).elim n fun z=>by rw[z]at e;cases e
 refine⟨t,p,q,xs,ys,e,kt _ _ ht,k _ _ hp np,k _ _ hq nq,no hp np,no hq nq,?_⟩;rcases r with ⟨zs,a1,a2⟩|⟨zs,a1,a2⟩
 ·exact .inl ⟨zs,a1.imp fun _ _ _ _ z=>z.mv kt,a2.imp fun _ _ _ _ z=>z.mv kt⟩
 ·exact .inr ⟨zs,a1.imp fun _ _ _ _ z=>z.mv kt,a2.imp fun _ _ _ _ z=>z.mv kt⟩
structure LI(a:Adr)(cy:List (List Nat))(m n:Nat)(H0 H:Hp)(W:Wd)(v:Vr)(hd ps:Addr)(ts:List V):Prop where
 ls:LS a cy m n H W v
 s0:Same H0 H
 fr:∀p∈ps::own W,H0 p=none
 hh:H hd=some (.lst [.ref W.ch,.ref W.g,.ref W.j,.ref W.sl])
 hp:H ps=some (.lst ts)
 sh:∀t∈ts,ShOk H (ps::own W) t
 n1:hd∉ps::own W
 n3:ps∉own W
section
variable{cy:List (List Nat)}{m n m' n':Nat}{H0 H H':Hp}{W W':Wd}{v v':Vr}{hd ps:Addr}{ts:List V}(L:LI a cy m n H0 H W v hd ps ts)
include L
theorem LI.has{p:Addr}(hp:H p=none):p∉ps::own W:=fun q=>by
 rcases zZ.mp q with q|q
 ·rw[q,L.hp]at hp;cases hp
 ·exact L.ls.live p q hp
theorem LI.go(ls:LS a cy m' n' H' W' v')(kp:Keep (own W) H H')(sub:∀p∈own W',p∈own W\/H p=none)(e:(W'.ch=W.ch/\W'.g=W.g)/\W'.j=W.j/\W'.sl=W.sl):LI a cy m' n' H0 H' W' v' hd ps ts:=by
 have nin:∀ {p:Addr} {o:HO},H p=some o->p∉own W->p∉own W':=fun e n q=>(sub _ q).elim n fun z=>by rw[z]at e;cases e
 have sub2:∀p∈ps::own W',p∈ps::own W\/H p=none:=fun p q=>by
  rcases zZ.mp q with q|q
  ·exact .inl (q ▸ .head _)
  ·exact(sub p q).imp (.tail _) id
 refine⟨ls,fun p o e=>kp _ _ (L.s0 _ _ e) (fun q=>by rw[L.fr p (.tail _ q)]at e;cases e),fun p q=>?_,by rw[e.1.1,e.1.2,e.2.1,e.2.2];exact kp _ _ L.hh fun z=>L.n1 (.tail _ z),kp _ _ L.hp L.n3,fun t mt=>(L.sh t mt).mv (kp.mono fun _ q=>.tail _ q) (fun t l e=>kp _ _ e (L.ls.tup e)) sub2,fun q=>(sub2 _ q).elim L.n1 (fun z=>by rw[L.hh]at z;cases z),nin L.hp L.n3⟩;exact(sub2 p q).elim (L.fr p) fun z=>L.s0.free z
theorem LI.same(s:Same H H')(n':NoT H'):LI a cy m n H0 H' W v hd ps ts:=L.go (L.ls.same s n') (Keep.same s) (fun _ q=>.inl q) ⟨⟨rfl,rfl⟩,rfl,rfl⟩
theorem LI.app{x:V}(h:ShOk H (ps::own W) x):LI a cy m n H0 (upd H ps (.lst (ts++[x]))) W v hd ps (ts++[x]):=by
 have k:Keep [ps] H (upd H ps (.lst (ts++[x]))):=Keep.refl.put (.head _);have kt:Kt H (upd H ps (.lst (ts++[x]))):=fun t l e=>k _ _ e fun q=>by rw[zq.mp q,L.hp]at e;cases e
 have k2:Keep (ps::own W) H (upd H ps (.lst (ts++[x]))):=k.mono fun p q=>by rw[zq.mp q];exact .head _
 have no:∀p∈own W,p∉[ps]:=fun p q r=>L.n3 (by rw[<- zq.mp r];exact q);refine⟨⟨L.ls.cp.keep k fun p q=>no p (wW _ q),L.ls.sd.keep k kt fun p q=>no p (zd _ (wW _ q)),L.ls.mn.keep k kt fun p q=>no p (zd _ (zd _ q)),L.ls.ok,L.ls.ap,aq L.ls.nT rfl⟩,fun p o e=>(ag fun z=>by rw[z,L.fr ps (.head _)]at e;cases e).trans (L.s0 _ _ e),L.fr,(ag fun z=>L.n1 (by rw[z];exact .head _)).trans L.hh,ad,fun t mt=>?_,L.n1,L.n3⟩;rcases z7.mp mt with mt|mt
 ·exact(L.sh t mt).mv k2 kt fun _ q=>.inl q
 ·rw[zq.mp mt];exact h.mv k2 kt fun _ q=>.inl q
theorem LI.shown{p q t:Addr}{xs ys:List V}(hp:H p=some (.lst xs))(hq:H q=some (.lst ys))(np:p∉ps::own W)(nq:q∉ps::own W)(h:(∃zs,A2 (BxAt H) xs zs/\A2 (BxAt H) ys zs)\/∃zs,A2 (SeV H) xs zs/\A2 (SeV H) ys zs)(ht:H t=none):LI a cy m n H0 (upd (upd H t (.tup [.ref p,.ref q])) ps (.lst (ts++[.ref t]))) W v hd ps (ts++[.ref t]):=by
 have s:=ah (HO.tup [.ref p,.ref q]) ht;refine(L.same s (aq L.ls.nT rfl)).app ⟨t,p,q,xs,ys,rfl,ad,s _ _ hp,s _ _ hq,np,nq,?_⟩;rcases h with ⟨zs,a1,a2⟩|⟨zs,a1,a2⟩
 ·exact .inl ⟨zs,a1.imp fun _ _ _ _ z=>z.mv (Kt.same s),a2.imp fun _ _ _ _ z=>z.mv (Kt.same s)⟩
 ·exact .inr ⟨zs,a1.imp fun _ _ _ _ z=>z.mv (Kt.same s),a2.imp fun _ _ _ _ z=>z.mv (Kt.same s)⟩
end
theorem l9(x:V):wO (zf "every") [(zf "told_seals",x)]=none:=by rw[aU (by decide +kernel)];rfl
theorem y6(x:V):wO (zf "closed") [(zf "last_closed",x)]=none:=by rw[aU (by decide +kernel)];rfl
noncomputable abbrev A9:List Stmt:=Ii ((aZ c_).getD 7 (.Pass ⟨0,0,0,0⟩))
abbrev sgL(sc d pc hd:Addr)(x4 x5:Option V)(md ps:Addr)(x8:Option V):St:=[some (.ref sc),some (.ref d),some (.ref pc),some (.ref hd),x4,x5,some (.ref md),some (.ref ps),x8]
theorem Bg{Pl:List V->Prop}{xs:List V}{H H1:Hp}{Q:VK}{i:Int}(h0:0<=i)(h1:i<xs.length)(h:∀x∈xs,∃q l,x = .ref q/\H q=none/\H1 q=some (.tup l)/\Pl l)(k:∀q l,H q=none->Pl l->Q (.ref q) (upd H q (.tup l))):fH xs H H1 Q (.int i):=by
 obtain⟨j,rfl⟩:∃j:Nat,i=j:=⟨i.toNat,by lia⟩;have hj:j<xs.length:=by lia
 obtain⟨q,l,e,f,g,p⟩:=h _ (Yh hj);exact AM (by rw[<- e];exact av (List.getElem?_eq_getElem hj)) f g rfl (k q l f p)
theorem E9{c:TT}{t rest:TS}{D:eA}{σ:St}{H:Hp}{I:Hp->Prop}(h:∀R:Bool->Hp->Prop,(∀G,I G->R false G)->c σ H R)(k:∀G,I G->rest D σ G):EI (EH c t yt) rest D σ H:=h _ fun G i=>k G i
theorem Jp{c:TT}{t:TS}{D:eA}{σ:St}{H:Hp}{I:Hp->Prop}(h:∀R:Bool->Hp->Prop,(∀G,I G->R false G)->c σ H R)(k:∀G,I G->D.nx σ G):EH c t yt D σ H:=h _ fun G i=>k G i
theorem b2(T:Txt K mg a){cdv:Value}{A:Around}{outer:List Env}{s:Shared}{H:Hp}{E:XK}(hr:Room 13 (A.deeper (Yj "law" (au c_) s.heap.objs.size a.eZ cdv))):∃u,PSs (bV (XE P w) P w K mg base nC "law" (au c_) a.eZ cdv A outer s H E) (Zn 2 A9) u /\
 ∀(D:eA) sc pc hd (k:Int) x5 ps x8 (ns:List Int) cy m n H0 G W v ts,SqL K H0 sc (ns.map V.int)->0<=k->LI a cy m n H0 G W v hd ps ts->(∀G' x8,LI a cy m n H0 G' W v hd ps ts->D.nx (sgL sc W.d pc hd (some (.int k)) x5 W.md ps x8) G') ->
  u D (sgL sc W.d pc hd (some (.int k)) x5 W.md ps x8) G:=by
 have sz:=szl;have ND:=qm.nd;have HU:=c8 hr;refine⟨_,(af (cX (by passes_own) rfl (iV K (d6 (fa4 (bd (fa3 aa aa aa)) (bd (fa3 aa aa aa)) (bd (fa3 aa aa aa)) (bd (fa3 aa aa aa))) (aj aW (aj aX (aH (aT T) hr aA (fa2 (fv 0) (aj aE aa (aj cW aa (fv 4))))) aa) aa) (fun _ _=>rfl))) (aK (i:=8) ND rfl (Or.inl rfl)) (ae (a6 (L2.PW.pt (dJ (aN (bF K HU) (fv 8) aa) (cU (aN (cE K HU) (gA (aB K (fv 3) aa) T.a7 (cw T) (hr.mono (by decide)) aA) (aL (Zz HU) (fv 6) (ak [114,111,119,115]) (fun _ _=>rfl)))))) (af (aC g8)) aJ)
  (ae (a6 (L2.PW.pt (dJ (aN (bF K HU) (fv 8) aa) (cU (aN (cE K HU) (gA (aB K (fv 3) aa) T.e_ (eT T) (hr.mono (by decide)) aA) (aL (Zz HU) (fv 6) (ak [115,101,97,108,115]) (fun _ _=>rfl)))))) (af (aC g8)) aJ)
  (af (a6 (L2.PW.pt (dJ (aN (bF K HU) (fv 8) aa) (cU (aN (cE K HU) (gA (aB K (fv 3) aa) T.cV (qa T) (hr.mono (by decide)) aA) (aL (Zz HU) (fv 6) (ak [99,108,111,115,101,100]) (fun _ _=>rfl)))))) (af (aC g8)) aJ)))))),fun D sc pc hd k x5 ps x8 ns cy m n H0 G W v ts hS k0 L kk=>?_⟩
 have hSG:=hS.same L.s0;refine pP ?_;walk_at "rq";refine⟨L.ls.nT,by walk_at "om",fun p0 h0=>?_⟩;generalize e0:upd _ _ (HO.tup [V.int 0,V.int 1,V.int 2])=G0;obtain⟨s0,t0,N0⟩:=br e0 h0 L.ls.nT rfl;refine⟨by walk_at "om",fun p1 h1=>?_⟩;generalize e1:upd _ _ (HO.tup [V.int 2,V.int 1,V.int 0])=G1;obtain⟨s1,t1,N1⟩:=br e1 h1 N0 rfl;refine⟨by walk_at "om",fun p2 h2=>?_⟩;generalize e2:upd _ _ (HO.tup [V.int 1,V.int 0,V.int 2])=G2;obtain⟨s2,t2,N2⟩:=br e2 h2 N1 rfl;refine⟨by walk_at "om",fun p3 h3=>?_⟩;generalize e3:upd _ _ (HO.tup [V.int 2,V.int 0,V.int 1])=G3;obtain⟨s3,t3,N3⟩:=br e3 h3 N2 rfl;have sG:=s0.trans (s1.trans (s2.trans s3));refine⟨sG,by walk_at "om",fun pl hl=>⟨ns,(hSG.same sG).same (ah _ hl),by lia,fun i _=>?_⟩⟩;refine Bg (Pl:=fun l=>∀x∈l,x = .int 0\/x = .int 1\/x = .int 2) (by lia) (by show i / 3 % 4<4;lia) (fun x mx=>?_) fun q l hq hl=>?_
 ·simp only[zZ,zY,or_false]at mx
  rcases mx with rfl|rfl|rfl|rfl
  ·exact⟨_,_,rfl,h0,s3 _ _ (s2 _ _ (s1 _ _ t0)),by simp⟩
  ·exact⟨_,_,rfl,s0.free h1,s3 _ _ (s2 _ _ t1),by simp⟩
  ·exact⟨_,_,rfl,(s0.trans s1).free h2,s3 _ _ t2,by simp⟩
  ·exact⟨_,_,rfl,(s0.trans (s1.trans s2)).free h3,t3,by simp⟩
 have L':=L.same (ah (HO.tup l) hq) (aq L.ls.nT rfl);refine qh (SqT.of ad) (tU (xs:=l) (fun i σ' G'=>LI a cy m n H0 G' W v hd ps ts/\G' q=some (.tup l)/\∃x8,σ'=sgL sc W.d pc hd (some (.int k)) x5 W.md ps x8) ⟨L',ad,_,rfl⟩ (fun i σ' G' _ h=>SqT.of h.2.1) ?_ ?_)
 rotate_left 1
 ·rintro σ' G' ⟨LG,_,x8,rfl⟩
  exact kk G' x8 LG
 rintro i x σ' G' hx ⟨LG,hq',x8,rfl⟩;have nG:=LG.ls.nT;obtain⟨j,rfl⟩:∃j:Int,x = .int j:=by
  rcases hl x (ww hx) with rfl|rfl|rfl <;> exact⟨_,rfl⟩
 clear hx hl;have I0:LI a cy m n H0 G' W v hd ps ts/\G' q=some (.tup l):=⟨LG,hq'⟩;clear LG hq' nG kk;refine E9 (I:=fun G=>LI a cy m n H0 G W v hd ps ts/\G q=some (.tup l)) (fun R hR=>?_) fun G1 I1=>E9 (I:=fun G=>LI a cy m n H0 G W v hd ps ts/\G q=some (.tup l)) (fun R hR=>?_) fun G2 I2=>Jp (I:=fun G=>LI a cy m n H0 G W v hd ps ts/\G q=some (.tup l)) (fun R hR=>?_) fun G3 I3=>⟨I3.1,I3.2,_,rfl⟩
 ·obtain⟨LG,hq'⟩:=I0
  obtain⟨bs,J,B⟩:=LG.ls.sd.ja;obtain⟨dj,hj⟩:=J.ob;walk_at "rq";by_cases h0:j=0
  rotate_left 1
  ·exact itn h0 (hR _ ⟨LG,hq'⟩)
  refine itp h0 ⟨_,.ref W.j,.inl (SqL.of LG.hh),av (j:=2) rfl,?_⟩;walk_at "rq";refine⟨dj,_,hj,f_ _ _,LG.ls.nT,W.b,W.u,bs,[],J,fun q1 hq1=>?_⟩;have sq:=ah (HO.lst bs) hq1;have Lq:=LG.same sq (aq LG.ls.nT rfl);obtain⟨bs2,hm,B2⟩:=Lq.ls.mn.hr;exact⟨W.md,.ref W.mr,rfl,Lq.ls.mn.rows,true,ua ad hm (B.imp fun _ _ _ _ z=>z.mv (Kt.same sq)) B2,hR _ ⟨Lq,sq _ _ hq'⟩⟩
 ·obtain⟨LG,hq'⟩:=I1
  obtain⟨ss,J,B⟩:=LG.ls.sd.sa;obtain⟨dj,hj⟩:=J.ob;walk_at "rq";by_cases h0:j=1
  rotate_left 1
  ·exact itn h0 (hR _ ⟨LG,hq'⟩)
  refine itp h0 ⟨_,.ref W.sl,.inl (SqL.of LG.hh),av (j:=3) rfl,?_⟩;walk_at "rq";refine⟨dj,_,hj,l9 _,LG.ls.nT,W.sb,ss,J,fun q1 hq1=>?_⟩;have sq:=ah (HO.lst ss) hq1;have Lq:=LG.same sq (aq LG.ls.nT rfl);obtain⟨ss2,hm,B2⟩:=Lq.ls.mn.hs;exact⟨W.md,.ref W.ml,rfl,Lq.ls.mn.seals,true,xr ad hm (B.imp fun _ _ _ _ z=>z.mv (Kt.same sq)) B2,hR _ ⟨Lq,sq _ _ hq'⟩⟩
 ·obtain⟨LG,hq'⟩:=I2
  walk_at "rq";by_cases h0:j=2
  rotate_left 1
  ·exact itn h0 (hR _ ⟨LG,hq'⟩)
  refine itp h0 ⟨_,.ref W.g,.inl (SqL.of LG.hh),av (j:=1) rfl,?_⟩;walk_at "rq";have ck:=LG.ls.mn.clsd;refine⟨W.gx,_,LG.ls.sd.ga,y6 _,LG.ls.nT,W.gx,_,LG.ls.sd.ga,W.md,_,rfl,ck,?_⟩;cases v.o with
  |none=>
   show io K true .non .non G2 _;walk_at "rq";exact hR _ ⟨LG,hq'⟩
  |some z=>
   show io K true (.int z) (.int z) G2 _;walk_at "rq";exact hR _ ⟨LG,hq'⟩
theorem b1(T:Txt K mg a){cdv:Value}{A:Around}{outer:List Env}{s:Shared}{H:Hp}{E:XK}(hr:Room 13 (A.deeper (Yj "law" (au c_) s.heap.objs.size a.eZ cdv))):∃u,PSs (bV (XE P w) P w K mg base nC "law" (au c_) a.eZ cdv A outer s H E) (Zn 1 A9) u /\
 ∀(D:eA) sc pc hd (k:Int) x5 ps x8 (ns:List Int) cy m n H0 G W v ts,SqL K H0 sc (ns.map V.int)->0<=k->LI a cy m n H0 G W v hd ps ts->m<18->n<36->cy.length=3->(∀G' as cs v' x8,LI a cy (m+1) (n+4) H0 G' { W with as:=as,cs:=cs } v' hd ps ts->D.nx (sgL sc W.d pc hd (some (.int k)) x5 W.md ps x8) G') ->
  u D (sgL sc W.d pc hd (some (.int k)) x5 W.md ps x8) G:=by
 have sz:=szl;have ND:=qm.nd;have HU:=c8 hr;obtain⟨u2,hu2,c2⟩:=@b2 P w K mg base a T (cdv:=cdv) (A:=A) (outer:=outer) (s:=s) (H:=H) (E:=E) hr;refine⟨_,(ae (a6 (bR (bL (aH (tY T) hr aA (fa5 (fv 3) (fv 1) (fv 6) (aH (aT T) hr aA (fa2 (fv 0) (aj aE aa (aj cW aa (fv 4))))) (aH (aT T) hr aA (fa2 (fv 0) (aj aE aa (aj cW aa (fv 4))))))))) (af (aC g8)) aJ)
  hu2),fun D sc pc hd k x5 ps x8 ns cy m n H0 G W v ts hS k0 L m18 n36 lc kk=>?_⟩
 have hSG:=hS.same L.s0;dsimp only[mV,rdI,sgL,List.getElem?_cons_zero,List.getElem?_cons_succ];walk_at "rq";refine⟨ns,hSG,by lia,fun c1 _=>⟨ns,hSG,by lia,fun c2' _=>⟨cy,m,n,W,v,L.ls,L.hh,fun q=>L.n1 (.tail _ q),m18,n36,lc,rfl,rfl,fun H' as cs v' S' k' sub=>?_⟩⟩⟩;exact c2 D sc pc hd k x5 ps x8 ns cy (m+1) (n+4) H0 H' { W with as:=as,cs:=cs } v' ts hS k0 (L.go S' k' sub ⟨⟨rfl,rfl⟩,rfl,rfl⟩) fun G2 x8 L2=>kk G2 as cs v' x8 L2
theorem b0(T:Txt K mg a){cdv:Value}{A:Around}{outer:List Env}{s:Shared}{H:Hp}{E:XK}(hr:Room 13 (A.deeper (Yj "law" (au c_) s.heap.objs.size a.eZ cdv))):∃u,PSs (bV (XE P w) P w K mg base nC "law" (au c_) a.eZ cdv A outer s H E) A9 u /\
 ∀(D:eA) sc pc hd (k:Int) x5 ps x8 (ns:List Int) cy m n H0 G W v ts,SqL K H0 sc (ns.map V.int)->0<=k->LI a cy m n H0 G W v hd ps ts->m<18->n<36->cy.length=3->ts.length<=20->(∀G' as cs v' ts' x8,LI a cy (m+1) (n+4) H0 G' { W with as:=as,cs:=cs } v' hd ps ts'->ts'.length<=ts.length+2->D.nx (sgL sc W.d pc hd (some (.int k)) x5 W.md ps x8) G') ->
  u D (sgL sc W.d pc hd (some (.int k)) x5 W.md ps x8) G:=by
 have sz:=szl;have ND:=qm.nd;have HU:=c8 hr;obtain⟨u1,hu1,c1⟩:=@b1 P w K mg base a T (cdv:=cdv) (A:=A) (outer:=outer) (s:=s) (H:=H) (E:=E) hr;refine⟨_,(ae (cX (by passes_own) rfl (iV K (d6 (fa2 (bd (fa2 aa aa)) (bd (fa2 aa aa))) (aj aW (aj aX (aH (aT T) hr aA (fa2 (fv 0) (aj aE aa (aj cW aa (fv 4))))) aa) aa) (fun _ _=>rfl))) (aK (i:=8) ND rfl (Or.inl rfl)) (af (bB (cK K pN Zx Zy cn (fv 7) (fa1 (bd (fa2 (Hh (gA (aB K (fv 3) (fv 8)) T.a7 (cw T) (hr.mono (by decide)) aA) (gA (aB K (fv 3) (fv 8)) T.e_ (eT T) (hr.mono (by decide)) aA)) (bh (kX K) rfl T.mH i5 (fa1 (aL (Zz HU) (fv 6) (d6 (fa2 (ak [114,111,119,115]) (ak [115,101,97,108,115])) (aj cJ (fv 8) aa) (fun _ _=>rfl)) (fun _ _=>rfl)))))))))))
  hu1),fun D sc pc hd k x5 ps x8 ns cy m n H0 G W v ts hS k0 L m18 n36 lc lt kk=>?_⟩
 have hSG:=hS.same L.s0;refine pP ?_;walk_at "rq";refine⟨L.ls.nT,by walk_at "om",fun p0 h0=>?_⟩;generalize e0:upd _ _ (HO.tup [V.int 2,V.int 3])=G0;obtain⟨s0,t0,N0⟩:=br e0 h0 L.ls.nT rfl;refine⟨by walk_at "om",fun p1 h1=>?_⟩;generalize e1:upd _ _ (HO.tup [V.int 3,V.int 2])=G1;obtain⟨s1,t1,N1⟩:=br e1 h1 N0 rfl;have sG:=s0.trans s1;refine⟨sG,by walk_at "om",fun pl hl=>⟨ns,(hSG.same sG).same (ah _ hl),by lia,fun i _=>?_⟩⟩;refine Bg (Pl:=fun l=>l.length=2/\∀x∈l,x = .int 2\/x = .int 3) (by lia) (by show i / 5 % 2<2;lia) (fun x mx=>?_) fun q l hq hl=>?_
 ·simp only[zZ,zY,or_false]at mx
  rcases mx with rfl|rfl
  ·exact⟨_,_,rfl,h0,s1 _ _ t0,by simp⟩
  ·exact⟨_,_,rfl,s0.free h1,t1,by simp⟩
 obtain⟨ll,hl⟩:=hl;have L':=L.same (ah (HO.tup l) hq) (aq L.ls.nT rfl);refine qh (SqT.of ad) (tU (xs:=l) (fun i σ' G'=>G' q=some (.tup l)/\∃ts' x8,LI a cy m n H0 G' W v hd ps ts'/\ts'.length<=ts.length+i/\σ'=sgL sc W.d pc hd (some (.int k)) x5 W.md ps x8) ⟨ad,ts,_,L',zL _,rfl⟩ (fun i σ' G' _ h=>SqT.of h.1) ?_ ?_)
 rotate_left 1
 ·rintro σ' G' ⟨_,ts',x8,LG,lt',rfl⟩
  rw[ll]at lt';exact c1 D sc pc hd k x5 ps x8 ns cy m n H0 G' W v ts' hS k0 LG m18 n36 lc fun G2 as cs v2 x8 L2=>kk G2 as cs v2 ts' x8 L2 lt'
 rintro i x σ' G' hx ⟨hq',ts',x8,LG,lt',rfl⟩;have nG:=LG.ls.nT;have hi:i<2:=by rw[<- ll];exact(List.getElem?_eq_some_iff.mp hx).1
 rcases hl x (ww hx) with rfl|rfl
 ·obtain⟨bs,J,B⟩:=LG.ls.sd.ja
  obtain⟨dj,hj⟩:=J.ob;walk_at "rq";refine⟨.inl ⟨_,SqL.of LG.hp⟩,.inl ?_⟩;walk_at "rq";refine⟨_,.ref W.j,.inl (SqL.of LG.hh),av (j:=2) rfl,?_⟩;walk_at "rq";refine⟨dj,_,hj,f_ _ _,nG,W.b,W.u,bs,[],J,fun q1 hq1=>?_⟩;generalize f1:upd _ _ (HO.lst bs)=F1;obtain⟨s1,u1,N1⟩:=br f1 hq1 nG rfl;refine⟨N1,by walk_at "om",fun p2 hp2=>?_⟩;have L1:=LG.same s1 N1;obtain⟨bs2,hm,B2⟩:=L1.ls.mn.hr;refine⟨W.md,_,rfl,L1.ls.mn.rows,?_⟩;show xY K _ F1 _;walk_at "rq";refine⟨bs2,.inl (SqL.of hm),fun q2 hq2=>?_⟩;generalize f2:upd _ _ (HO.lst bs2)=F2;obtain⟨s2,u2,N2⟩:=br f2 hq2 N1 rfl;have L2:=L1.same s2 N2;refine⟨by walk_at "om",fun t3 ht3=>⟨ps,ts',_,rfl,rfl,(ah _ ht3) _ _ L2.hp,by lia,?_⟩⟩;have s12:=s1.trans s2;have fin:=L2.shown (s2 _ _ u1) u2 (LG.has hq1) (L1.has hq2) (.inl ⟨_,B.imp fun _ _ _ _ z=>z.mv (Kt.same s12),B2.imp fun _ _ _ _ z=>z.mv (Kt.same s2)⟩) ht3;refine⟨?_,_,_,fin,by rw[zi];show ts'.length+1<=_;lia,rfl⟩;have g:=s12 _ _ hq';rw[ag (bD ((ah (HO.tup [V.ref q1,V.ref q2]) ht3) _ _ g) ((ah _ ht3) _ _ L2.hp))];exact(ah _ ht3) _ _ g
 ·obtain⟨ss,J,B⟩:=LG.ls.sd.sa
  obtain⟨dj,hj⟩:=J.ob;walk_at "rq";refine⟨.inl ⟨_,SqL.of LG.hp⟩,.inr ?_⟩;walk_at "rq";refine⟨_,.ref W.sl,.inl (SqL.of LG.hh),av (j:=3) rfl,?_⟩;walk_at "rq";refine⟨dj,_,hj,l9 _,nG,W.sb,ss,J,fun q1 hq1=>?_⟩;generalize f1:upd _ _ (HO.lst ss)=F1;obtain⟨s1,u1,N1⟩:=br f1 hq1 nG rfl;refine⟨N1,by walk_at "om",fun p2 hp2=>?_⟩;have L1:=LG.same s1 N1;obtain⟨bs2,hm,B2⟩:=L1.ls.mn.hs;refine⟨W.md,_,rfl,L1.ls.mn.seals,?_⟩;show xY K _ F1 _;walk_at "rq";refine⟨bs2,.inl (SqL.of hm),fun q2 hq2=>?_⟩;generalize f2:upd _ _ (HO.lst bs2)=F2;obtain⟨s2,u2,N2⟩:=br f2 hq2 N1 rfl;have L2:=L1.same s2 N2;refine⟨by walk_at "om",fun t3 ht3=>⟨ps,ts',_,rfl,rfl,(ah _ ht3) _ _ L2.hp,by lia,?_⟩⟩;have s12:=s1.trans s2;have fin:=L2.shown (s2 _ _ u1) u2 (LG.has hq1) (L1.has hq2) (.inr ⟨_,B.imp fun _ _ _ _ z=>z.mv (Kt.same s12),B2.imp fun _ _ _ _ z=>z.mv (Kt.same s2)⟩) ht3;refine⟨?_,_,_,fin,by rw[zi];show ts'.length+1<=_;lia,rfl⟩;have g:=s12 _ _ hq';rw[ag (bD ((ah (HO.tup [V.ref q1,V.ref q2]) ht3) _ _ g) ((ah _ ht3) _ _ L2.hp))];exact(ah _ ht3) _ _ g
structure LP(a:Adr)(cy:List (List Nat))(n:Nat)(H0 G:Hp)(W:Wd)(bx:List Bx)(hd pc:Addr):Prop where
 cp:ChP a 8 G W
 sd:Sd a G W ⟨none,bx,[]⟩
 ok:VOk W.as cy n ⟨none,bx,[]⟩
 cs:∀p∈cad W,p∉sad W
 nT:NoT G
 s0:Same H0 G
 fr:∀p∈cad W++sad W,H0 p=none
 hh:G hd=some (.lst [.ref W.ch,.ref W.g,.ref W.j,.ref W.sl])
 hc:G pc=some (.lst (cy.map L2.T))
 n1:hd∉cad W++sad W
 n2:pc∉sad W
theorem LP.same{cy:List (List Nat)}{n:Nat}{H0 G G':Hp}{W:Wd}{bx:List Bx}{hd pc:Addr}(L:LP a cy n H0 G W bx hd pc)(s:Same G G')(nT:NoT G'):LP a cy n H0 G' W bx hd pc:=
 { L with cp:=L.cp.keep (Keep.same s) cq (S:=[]),sd:=L.sd.keep (Keep.same s) (Kt.same s) cq (S:=[]),nT:=nT,s0:=L.s0.trans s,hh:=s _ _ L.hh,hc:=s _ _ L.hc }
theorem dh{H:Hp}{p:Addr}{o:HO}(e:H p=some o):H p≠none:=by rw[e];intro z;cases z
theorem LP.live{cy:List (List Nat)}{n:Nat}{H0 G:Hp}{W:Wd}{bx:List Bx}{hd pc:Addr}(L:LP a cy n H0 G W bx hd pc):∀p∈cad W++sad W,G p≠none:=fun p q e=>by
 obtain⟨dc,hc⟩:=L.cp.ca.ob;obtain⟨bs,J,_⟩:=L.sd.ja;obtain⟨ss,M,_⟩:=L.sd.sa;obtain⟨dj,hj⟩:=J.ob;obtain⟨ds,hs⟩:=M.ob;simp only[cad,sad,zZ,z7,yS,zY,or_false]at q;rcases q with (q|q|q|(⟨c,mc,q⟩|⟨c,mc,q⟩)|⟨x,mx,q⟩)|q|q|q|q|q|q
 ·rw[q,hc]at e;cases e
 ·rw[q,L.cp.dd]at e;cases e
 ·rw[q,L.cp.ca.dc]at e;cases e
 ·rw[<- q,(L.cp.ca.ac c mc).ls]at e;cases e
 ·obtain⟨dx,ho⟩:=(L.cp.ca.ac c mc).ob
  rw[<- q,ho]at e;cases e
 ·rw[<- q,L.cp.ls x mx]at e;cases e
 ·rw[q,hj]at e;cases e
 ·rw[q,hs]at e;cases e
 ·rw[q,J.ls]at e;cases e
 ·rw[q,J.dc]at e;cases e
 ·rw[q,M.ls]at e;cases e
 ·rw[q,L.sd.ga]at e;cases e
theorem LP.put{cy:List (List Nat)}{n:Nat}{H0 G G':Hp}{W:Wd}{bx:List Bx}{hd pc:Addr}(L:LP a cy n H0 G W bx hd pc){bs:List V}(J:JAt a.aQ G W.j W.b W.u bs [])(B:A2 (BxAt G) bs bx){day:Int}{t q:Addr}{vs:List V}{rs:List Row}(hv:A2 (RwAt G) vs rs)(l4:rs.length<=4)(hrs:∀r∈rs,r.pa∈W.as.map (·.pa)/\r.cu∈cy)(n10:n<10)
 (ht:G' t=some (.tup vs)) (hq:G' q=some (.tup [.int bs.length,.int day,L2.T [],.ref t,.non])) (J':JAt a.aQ G' W.j W.b W.u (bs++[.ref q]) []) (kp:Keep [W.b,W.u] G G') (nT:NoT G') :
 LP a cy (n+1) H0 G' W (bx++[⟨bx.length,day,[],rs,none⟩]) hd pc:=by
 have kt:Kt G G':=fun t l e=>kp _ _ e (J.tup e);have sub:∀p∈[W.b,W.u],p∈sad W:=fun p q=>by
  rcases zZ.mp q with q|q
  ·rw[q];exact .tail _ (.tail _ (.head _))
  ·rw[zq.mp q];exact .tail _ (.tail _ (.tail _ (.head _)))
 obtain⟨ss,M,D⟩:=L.sd.sa;obtain⟨dl,hl⟩:=M.ob;have nb:∀ {p:Addr} {o:HO},G p=some o->p≠W.b->(∀kv,o ≠ .dK kv)->p∉[W.b,W.u]:=fun {p o} e nb nd mm=>by
  rcases zZ.mp mm with z|z
  ·exact nb z
  ·rw[zq.mp z,J.dc]at e;cases e;exact nd _ rfl
 have ni:∀ {p:Addr} {C dx:Addr} {fs:List (Str × V)},G p=some (.ins C dx fs)->p∉[W.b,W.u]:=fun {p C dx fs} e=>nb e (bD e J.ls) fun _ z=>nomatch z;have lb:=B.len;have l1:=L.ok.ll;have l1:bx.length<=n:=l1;rw[lb]at hq;refine⟨L.cp.keep kp fun p q r=>L.cs p q (sub p r),⟨kp _ _ L.sd.ga (ni L.sd.ga),⟨_,J',(B.imp fun _ _ _ _ z=>z.mv kt).snoc ⟨q,t,vs,rfl,hq,ht,hv.imp fun v r _ _ h=>RwAt.mv _ _ v r kt h⟩⟩,⟨ss,M.keep kp (ni hl) (nb M.ls (Ne.symm L.sd.ne) fun _ z=>nomatch z),D.imp fun _ _ _ _ z=>z.mv kt⟩,L.sd.ne⟩,⟨⟨?_,fun b mb=>?_,fun b mb=>?_⟩,fun i x e=>?_,fun x mx e=>?_,(fun z e=>nomatch e),?_,wQ _⟩,L.cs,nT,fun p o e=>kp _ _ (L.s0 _ _ e) fun r=>?_,L.fr,kp _ _ L.hh fun r=>L.n1 (zd _ (sub _ r)),kp _ _ L.hc fun r=>L.n2 (sub _ r),L.n1,L.n2⟩
 ·rw[zg,zi];show bx.length+1<=40;lia
 ·obtain⟨x,mx,rfl⟩:=yS.mp mb
  rcases z7.mp mx with mx|mx
  ·exact L.ok.bo.l2 _ (wR mx)
  ·rw[zq.mp mx];show rs.length<=60;lia
 ·obtain⟨x,mx,rfl⟩:=yS.mp mb
  rcases z7.mp mx with mx|mx
  ·exact L.ok.bo.mem _ (wR mx)
  ·rw[zq.mp mx];exact hrs
 ·have e:(bx++[_])[i]? = some x:=e
  rcases Nat.lt_trichotomy i bx.length with l|l|l
  ·rw[List.getElem?_append_left l]at e;exact L.ok.nk i x e
  ·subst l
   rw[List.getElem?_append_right (zL _),Nat.sub_self]at e;cases e;exact⟨rfl,rfl⟩
  ·rw[List.getElem?_append_right (by lia),show i-bx.length=(i-bx.length-1)+1 by lia]at e
   cases e
 ·rcases z7.mp mx with mx|mx
  ·exact L.ok.cr x mx e
  ·rw[zq.mp mx]at e;cases e
 ·show(bx++[_]).length<=n+1
  rw[zi];exact Yy l1
 ·rw[L.fr p (zd _ (sub _ r))]at e;cases e
theorem xR{α:Type}{Pt:α->Prop}:∀ts:List α,(∀t∈ts,Pt t)->A2 (fun v b=>v=b/\Pt b) ts ts
 | [],_=>.nil
 |t::ts,h=>.cons ⟨rfl,h t (.head _)⟩ (xR ts fun u m=>h u (.tail _ m))
def sp_law(K:W.Frag):Sp:=sp1 fun x H Q _=>asR x fun p=>NoT H/\∃ns:List Int,SqL K H p (ns.map V.int)/\ns.length<=63/\∀H',Q (.bl true) H'
theorem Fw(T:Txt K mg a){fd:FuncData}(FL:Fun K "law" "law" c_ a.eZ fd):h_ P w K mg base (XE P w) 14 a.eZ fd ["_law_script"] (sp_law K):=by
 refine FL.okX qm (fun vs H Q E h=>sp1.len h) (fun cdv A outer s H vs Q E hr h=>?_);obtain⟨x0,rfl,h⟩:=sp1.inv h
 try dsimp only[sp_law,sp1]at h
 have ND:=qm.nd;have HU:=c8 hr;obtain⟨sc,rfl,hN,ns,hS,hl,k⟩:=asR.inv h;have sz:=szl;obtain⟨ub,hub,cb⟩:=@b0 P w K mg base a T (cdv:=cdv) (A:=A) (outer:=outer) (s:=s) (H:=H) (E:=E) hr;have c9:∃u,PSs (bV (XE P w) P w K mg base nC "law" (au c_) a.eZ cdv A outer s H E) (Zn 9 (aZ c_)) u/\∀pc hd x4 x5 ps x8 cy m n G G' W v ts,LI a cy m n H G W v hd ps ts->ts.length<=20->Keep [W.b,W.u,W.mr] G G'->NoT G'->u { nx:=fun _ H'=>Q .non H',rt:=Q } (sgL sc W.d pc hd x4 x5 W.md ps x8) G':=by
  refine⟨_,(af (aC (cj (bP (bF K HU) (gA (aB K (fv 3) aa) T.e_ (eT T) (hr.mono (by decide)) aA) (aL (Zz HU) (fv 6) (ak [115,101,97,108,115]) (fun _ _=>rfl)) (bY _)) (cF (bP (bF K HU) (bN rfl (cl:=_) (x:="_law_one") (xs:=["_law_one","_law_copy"]) (fr:=[]) (ks:=[]) (by walk_at "cq") rfl (bM K (fv 7)) (fun _ _ _ _ _=>(fJ K (n:=2) rfl (bf (aK (i:=0) (bX (l:=["_law_one","_law_copy"]) (by decide)) rfl (Or.inl rfl)) (bf (aK (i:=1) (bX (l:=["_law_one","_law_copy"]) (by decide)) rfl (Or.inl rfl)) dS)))) (fun _ _ _ _ _=>(cN (aN (cE K HU) (fv 0) (fv 1)))) (fun _ _ _ _ _=>aa)) (bz (FA.pa ce)) (bY _)))))),fun pc hd x4 x5 ps x8 cy m n G G' W v ts L lt kp N'=>?_⟩;dsimp only[mV,rdI,sgL,List.getElem?_cons_zero,List.getElem?_cons_succ];walk_at "rq";have S:=L.ls;obtain⟨bs,J,_⟩:=S.sd.ja;obtain⟨ss,M,D⟩:=S.sd.sa;obtain⟨ss2,hs,D2⟩:=S.mn.hs;obtain⟨b2,hr2,_⟩:=S.mn.hr;obtain⟨dl,hl⟩:=M.ob;have sub:∀p∈[W.b,W.u,W.mr],p∈own W:=fun p q=>by
   simp only[zZ,zY,or_false]at q;rcases q with q|q|q <;> rw[q]
   ·exact zd _ (.tail _ (.tail _ (.head _)))
   ·exact zd _ (.tail _ (.tail _ (.tail _ (.head _))))
   ·exact zd _ (zd _ (.tail _ (.head _)))
  have no:∀ {p:Addr} {o:HO},G p=some o->p≠W.b->p≠W.mr->(o ≠ .dK []\/p∈mad W)->G' p=some o:=fun {p o} e n1 n2 n3=>kp _ _ e fun q=>by
   simp only[zZ,zY,or_false]at q;rcases q with q|q|q
   ·exact n1 q
   ·rcases n3 with n3|n3
    ·rw[q,J.dc]at e;cases e;exact n3 rfl
    ·exact S.ap.sm p (by rw[q];exact .tail _ (.tail _ (.tail _ (.head _)))) n3
   ·exact n2 q
  have kt:Kt G G':=fun t l e=>kp _ _ e fun q=>S.tup e (sub _ q);have bm:∀ {p:Addr},p∈mad W->p≠W.b:=fun mp q=>S.ap.sm W.b (.tail _ (.tail _ (.head _))) (by rw[<- q];exact mp);have sm:∀ {p:Addr},p∈sad W->p≠W.mr:=fun mp q=>S.ap.sm _ mp (by rw[q];exact .tail _ (.head _));have hl':=no hl (bD hl J.ls) (sm (.tail _ (.head _))) (.inl (by intro z;cases z));have sb':=no M.ls (Ne.symm S.sd.ne) (sm (.tail _ (.tail _ (.tail _ (.tail _ (.head _)))))) (.inl (by intro z;cases z));have hs':=no hs (bm (.tail _ (.tail _ (.head _)))) (Ne.symm S.mn.ne) (.inl (by intro z;cases z));have hm':=no S.mn.hm (bm (.head _)) (bD S.mn.hm hr2) (.inr (.head _));have hh':=kp _ _ L.hh fun q=>L.n1 (.tail _ (sub _ q));have hp':=kp _ _ L.hp fun q=>L.n3 (sub _ q);refine⟨_,.ref W.sl,.inl (SqL.of hh'),av (j:=3) rfl,?_⟩;walk_at "rq";refine⟨dl,_,hl',l9 _,N',W.sb,ss,⟨⟨dl,hl'⟩,sb'⟩,fun q hq=>?_⟩;generalize f1:upd _ _ (HO.lst ss)=F;obtain⟨s1,u1,N1⟩:=br f1 hq N' rfl;have ktF:Kt G F:=fun t l e=>s1 _ _ (kt _ _ e);have sh:∀t∈ts,ShOk F (ps::own W) t:=fun t mt=>(L.sh t mt).mv (fun c o e n=>s1 _ _ (kp _ _ e fun q=>n (.tail _ (sub _ q)))) ktF fun _ q=>.inl q;refine⟨W.md,.ref W.ml,rfl,.inl ⟨_,kyS,.inl (s1 _ _ hm'),rfl,(mX W v.o).2.1.symm⟩,true,xr u1 (s1 _ _ hs') (D.imp fun _ _ _ _ z=>z.mv ktF) (D2.imp fun _ _ _ _ z=>z.mv ktF),?_⟩;rw[show(false ^^ true)=true from rfl];walk_at "rq";refine gU ?_;walk_at "rq";refine⟨⟨_,SqL.of (s1 _ _ hp')⟩,ceA (S:=fun _ _ _=>True) (fun _ _ _ _ _ h=>h) ps ts ts (fun v b=>v=b/\ShOk F (ps::own W) b) (fun _=>false) (fun _=>()) (s1 _ _ hp') N1 (xR ts sh) (by lia) (fun u b mb rb G3 zs M1 M0 sG nG hz n1 n0=>?_) fun D3 ws G3 hD sG nG gD aG=>?_⟩
  ·obtain⟨rfl,t,p,q,xs,ys,rfl,ht,hp,hq,_,_,r⟩:=rb
   obtain⟨z1,z2,rfl⟩:=ex2 hz;have n0:=n0 rfl _ (Same.refl _) nG;walk_at "rq";refine⟨_,_,rfl,SqT.of (sG _ _ ht),rfl,_,_,rfl,_,_,rfl,rfl,⟨[_,_],rfl,rfl⟩,true,?_,?_⟩
   ·rcases r with ⟨zs,a1,a2⟩|⟨zs,a1,a2⟩
    ·exact ua (sG _ _ hp) (sG _ _ hq) (a1.imp fun _ _ _ _ z=>z.mv (Kt.same sG)) (a2.imp fun _ _ _ _ z=>z.mv (Kt.same sG))
    ·exact xr (sG _ _ hp) (sG _ _ hq) (a1.imp fun _ _ _ _ z=>z.mv (Kt.same sG)) (a2.imp fun _ _ _ _ z=>z.mv (Kt.same sG))
   ·rw[show(true ^^ true)=false from rfl]
    walk_at "rq";exact n0
  ·walk_at "rq"
   rw[List.filter_eq_nil_iff.mpr fun _ _=>by decide]at aG;cases aG;exact⟨wQ _,fun p hp=>⟨_,zK (SqL.of ((ag (az gD hp)).trans gD)) (SqL.of ad),k _⟩⟩
 obtain⟨u9,hu9,c9⟩:=c9;have c7:∃u,PSs (bV (XE P w) P w K mg base nC "law" (au c_) a.eZ cdv A outer s H E) (Zn 7 (aZ c_)) u/\∀pc hd x4 x5 ps x8 cy G W v,LI a cy 8 10 H G W v hd ps []->cy.length=3->u { nx:=fun _ H'=>Q .non H',rt:=Q } (sgL sc W.d pc hd x4 x5 W.md ps x8) G:=by
  refine⟨_,(ae (cX (by passes_own) rfl (eO rfl T.gG (fa1 aa)) (aK (i:=4) ND rfl (Or.inl rfl)) hub)
   (ae (a6 (bR (bL (aH (iH T) hr aA (fa4 (fv 3) (fv 1) (fv 6) (aH (aT T) hr aA (fa2 (fv 0) aa)))))) (af (aC g8)) aJ)
   hu9)),fun pc hd x4 x5 ps x8 cy G W v L lc=>?_⟩
  walk_at "rq";refine fX ?_;walk_at "rq";refine eN (lo:=0) (n:=5) (fun i σ' G'=>∃as cs v' ts' x4 x8,LI a cy (8+i) (10+4*i) H G' { W with as:=as,cs:=cs } v' hd ps ts'/\ts'.length<=2*i/\σ'=sgL sc W.d pc hd x4 x5 W.md ps x8) ⟨W.as,W.cs,v,[],_,_,L,wQ _,rfl⟩ ?_ ?_
  ·rintro i σ' G' hi ⟨as,cs,v',ts',x4,x8,L',lt,rfl⟩
   walk_at "rq";exact cb _ sc pc hd (0+(i:Int)) x5 ps x8 ns cy (8+i) (10+4*i) H G' { W with as:=as,cs:=cs } v' ts' hS (by lia) L' (by lia) (by lia) lc (by lia) fun G2 as2 cs2 v2 ts2 x8 L2 lt2=>⟨as2,cs2,v2,ts2,_,_,{ L2 with ls:=L2.ls.le (by lia) (by lia) },by lia,rfl⟩
  ·rintro σ' G' ⟨as,cs,v',ts',x4,x8,L',lt,rfl⟩
   have hSG:=hS.same L'.s0;dsimp only[mV,rdI,sgL,List.getElem?_cons_zero,List.getElem?_cons_succ];walk_at "rq";exact⟨ns,hSG,fun c _=>⟨cy,8+5,10+4*5,{ W with as:=as,cs:=cs },v',L'.ls,L'.hh,fun q=>L'.n1 (.tail _ q),by decide,by decide,rfl,rfl,fun H' kp N'=>c9 pc hd x4 x5 ps x8 cy _ _ G' H' { W with as:=as,cs:=cs } v' ts' L' (by lia) kp N'⟩⟩
 obtain⟨u7,hu7,c7⟩:=c7;clear hu9 c9 hub cb;have c5:∃u,PSs (bV (XE P w) P w K mg base nC "law" (au c_) a.eZ cdv A outer s H E) (Zn 5 (aZ c_)) u/\∀pc hd x4 x5 cy G W v,LS a cy 8 10 G W v->v.o=none->0<=W.f->W.f<=4799->Same H G->(∀p∈own W,H p=none)->G hd=some (.lst [.ref W.ch,.ref W.g,.ref W.j,.ref W.sl])->hd∉own W->cy.length=3->u { nx:=fun _ H'=>Q .non H',rt:=Q } [some (.ref sc),some (.ref W.d),some (.ref pc),some (.ref hd),x4,x5,some (.ref W.md),none,none] G:=by
  refine⟨_,(ae (a6 (aN (bF K HU) (aj aW (aH (aT T) hr aA (fa2 (fv 0) aa)) aa) aa) (ae (dL (Zz HU) (fv 6) (ak [99,108,111,115,101,100]) (aD (o7 rfl) rfl T.v0 qj (fa2 aa (aj aE (aj cJ (aL (Zz HU) (fv 6) (ak [102,105,114,115,116]) (fun _ _=>rfl)) aa) (aj aW (aj aX (aH (aT T) hr aA (fa2 (fv 0) aa)) aa) aa)))) rfl)
   (af (bB (b7 (aB K (fv 3) aa) T.cV (kW T) (hr.mono (by decide)) aA (fa1 (aL (Zz HU) (fv 6) (ak [99,108,111,115,101,100]) (fun _ _=>rfl))))))) aJ)
   (ae (aO 7 ND (bz (FA.pa ce)))
   hu7)),fun pc hd x4 x5 cy G W v S eo f0 f1 s0 fr hh nh lc=>?_⟩
  walk_at "rq";have fin:∀G1 v1,LS a cy 8 10 G1 W v1->Same H G1->G1 hd=some (.lst [.ref W.ch,.ref W.g,.ref W.j,.ref W.sl])->0<=sizeLine/\∀p,G1 p=none->u7 { nx:=fun _ H'=>Q .non H',rt:=Q } [some (.ref sc),some (.ref W.d),some (.ref pc),some (.ref hd),x4,x5,some (.ref W.md),some (.ref p),none] (upd G1 p (.lst [])):=fun G1 v1 S1 s1 h1=>⟨wQ _,fun p hp=>by
   have s2:=ah (HO.lst []) hp;have np:=fun q=>S1.live p q hp;refine c7 pc hd x4 x5 p none cy _ W v1 ⟨S1.same s2 (aq S1.nT rfl),s1.trans s2,fun c q=>?_,s2 _ _ h1,ad,(fun _ q=>nomatch q),fun q=>?_,np⟩ lc
   ·rcases zZ.mp q with q|q
    ·rw[q];exact s1.free hp
    ·exact fr c q
   ·rcases zZ.mp q with q|q
    ·rw[q,hp]at h1;cases h1
    ·exact nh q⟩
  refine⟨ns,hS.same s0,fun i _=>?_⟩;by_cases h4:i % 4=1
  rotate_left 1
  ·exact itn h4 (fin G v S s0 hh)
  refine itp h4 ⟨W.md,_,rfl,S.mn.first,?_⟩;walk_at "rq";refine⟨ns,hS.same s0,fun i2 _=>?_⟩;obtain⟨M,eM,M0,M1⟩:∃M:Int,(if W.f-2+i2 / 4 % 3 > 0 then W.f-2+i2 / 4 % 3 else 0)=M/\0<=M/\M<=4799:=⟨_,rfl,by split <;> lia,by split <;> lia⟩;rw[eM];have dp:=DPut.k (k:=kyC) (v:=.int M) S.mn.hm (by show 4<sizeLine;lia);refine⟨W.md,_,rfl,dp,?_⟩;rw[show HO.dK (dB [(kyR,V.ref W.mr),(kyS,V.ref W.ml),(kyC,cl v.o),(kyF,V.int W.f)] kyC (V.int M))=mnD W (some M) from rfl];have k4:Keep [W.md] G (upd G W.md (mnD W (some M))):=Keep.refl.put (.head _);have hm4:upd G W.md (mnD W (some M)) W.md=some (mnD W (some M)):=ad;have N4:NoT (upd G W.md (mnD W (some M))):=aq S.nT rfl;generalize upd G W.md (mnD W (some M))=H4 at k4 hm4 N4 |-
  have nm:∀ {p:Addr},p∈sad W->p≠W.md:=fun mp q=>S.ap.sm _ mp (by rw[q];exact .head _);have mg:W.g∈sad W:=.tail _ (.tail _ (.tail _ (.tail _ (.tail _ (.head _)))));have n4:∀ {p:Addr} {o:HO},G p=some o->p≠W.md->H4 p=some o:=fun e n=>k4 _ _ e fun q=>n (zq.mp q);have ga4:=n4 S.sd.ga (nm mg);rw[eo]at ga4;have hh4:=n4 hh fun q=>nh (by rw[q];exact zd _ (zd _ (.head _)));refine⟨_,.ref W.g,.inl (SqL.of hh4),av (j:=1) rfl,?_⟩;walk_at "rq";refine⟨W.gx,_,ga4,vA _,W.md,.int M,rfl,.inl ⟨_,kyC,.inl hm4,rfl,(mX W (some M)).2.2.1.symm⟩,N4,?_⟩;walk_at "rq";refine⟨W.gx,none,ga4,⟨M0,M1⟩,.inl rfl,?_⟩;have n5:∀ {p:Addr} {o:HO},G p=some o->p≠W.md->p≠W.g->upd H4 W.g (cR a.a_ W.gx (.int M)) p=some o:=fun e n1 n2=>(ag n2).trans (n4 e n1);have k5:Keep [W.md,W.g] G (upd H4 W.g (cR a.a_ W.gx (.int M))):=fun c o e n=>n5 e (fun q=>n (q ▸ .head _)) fun q=>n (q ▸ .tail _ (.head _));have ng:∀ {p:Addr} {o:HO},G p=some o->o≠cR a.a_ W.gx (cl v.o)->p≠W.g:=fun e n=>bD e S.sd.ga n;have kt:Kt G (upd H4 W.g (cR a.a_ W.gx (.int M))):=fun t l e=>n5 e (bD e S.mn.hm) (ng e (by intro z;cases z));obtain⟨bs,J,B⟩:=S.sd.ja;obtain⟨ss,L,D⟩:=S.sd.sa;obtain⟨dj,hj⟩:=J.ob;obtain⟨dl,hl⟩:=L.ob;obtain⟨b2,hr2,B2⟩:=S.mn.hr;obtain⟨s2,hs2,D2⟩:=S.mn.hs;have mG:∀ {p:Addr},p∈mad W->p≠W.g:=fun mp q=>S.ap.sm W.g mg (by rw[<- q];exact mp);refine fin _ ⟨some M,v.bx,v.se⟩ ⟨S.cp.keep k5 fun p q r=>?_,⟨ad,⟨bs,⟨⟨dj,n5 hj (nm (.head _)) (ng hj (by intro z;injection z with _ _ z;injection z with _ z;cases z))⟩,n5 J.ls (nm (.tail _ (.tail _ (.head _)))) (ng J.ls (by intro z;cases z)),n5 J.dc (nm (.tail _ (.tail _ (.tail _ (.head _))))) (ng J.dc (by intro z;cases z))⟩,B.imp fun _ _ _ _ z=>z.mv kt⟩,⟨ss,⟨⟨dl,n5 hl (nm (.tail _ (.head _))) (ng hl fun z=>?_)⟩,n5 L.ls (nm (.tail _ (.tail _ (.tail _ (.tail _ (.head _)))))) (ng L.ls (by intro z;cases z))⟩,D.imp fun _ _ _ _ z=>z.mv kt⟩,S.sd.ne⟩,⟨(ag (Ne.symm (nm mg))).trans hm4,⟨b2,n5 hr2 (bD hr2 S.mn.hm) (mG (.tail _ (.head _))),B2.imp fun _ _ _ _ z=>z.mv kt⟩,⟨s2,n5 hs2 (bD hs2 S.mn.hm) (mG (.tail _ (.tail _ (.head _)))),D2.imp fun _ _ _ _ z=>z.mv kt⟩,S.mn.ne⟩,{ S.ok with cr:=fun x mx e=>?_,oo:=fun z e=>by cases e;exact⟨M0,M1⟩ },S.ap,aq N4 rfl⟩ (fun p o e=>n5 (s0 _ _ e) (fun q=>?_) fun q=>?_) (n5 hh (fun q=>nh (by rw[q];exact zd _ (zd _ (.head _)))) fun q=>nh (by rw[q];exact zd _ (wW _ mg)))
  ·rcases zZ.mp r with r|r
   ·exact S.ap.cm p q (by rw[r];exact .head _)
   ·exact S.ap.cs p q (by rw[zq.mp r];exact mg)
  ·injection z with _ _ z;injection z with z;injection z with z
   exact absurd z (by decide +kernel)
  ·obtain⟨z,ez,_⟩:=S.ok.cr x mx e
   rw[eo]at ez;cases ez
  ·rw[q,fr W.md (zd _ (zd _ (.head _)))]at e;cases e
  ·rw[q,fr W.g (zd _ (wW _ mg))]at e;cases e
 obtain⟨u5,hu5,c5⟩:=c5;clear hu7 c7;have c4:∃u,PSs (bV (XE P w) P w K mg base nC "law" (au c_) a.eZ cdv A outer s H E) (Zn 4 (aZ c_)) u/\∀pc hd x4 x5 cy G W bx,LP a cy 10 H G W bx hd pc->cy.length=3->u { nx:=fun _ H'=>Q .non H',rt:=Q } [some (.ref sc),some (.ref W.d),some (.ref pc),some (.ref hd),x4,x5,none,none,none] G:=by
  refine⟨_,(ae (aO 6 ND (EB (lT (ak [114,111,119,115]) (gA (aB K (fv 3) aa) T.a7 (cw T) (hr.mono (by decide)) aA) (lT (ak [115,101,97,108,115]) (bz (FA.pa ce)) (lT (ak [99,108,111,115,101,100]) cG (lT (ak [102,105,114,115,116]) (aH (jz T) hr aA (fa1 (aH (gK T) hr aA (fa1 (fv 0))))) Ey)))) rfl rfl (by simp) (by decide)))
   hu5),fun pc hd x4 x5 cy G W bx L lc=>?_⟩
  walk_at "rq";intro p hp;simp only[rX];walk_at "rq";generalize f0:upd _ _ (HO.dK [])=F0;obtain⟨s0,u0,N0⟩:=br f0 hp L.nT rfl;have L0:=L.same s0 N0;obtain⟨bs,J,B⟩:=L0.sd.ja;obtain⟨dj,hj⟩:=J.ob;refine⟨_,.ref W.j,.inl (SqL.of L0.hh),av (j:=2) rfl,?_⟩;walk_at "rq";refine⟨dj,_,hj,f_ _ _,N0,W.b,W.u,bs,[],J,fun q hq=>⟨wQ _,fun q2 hq2=>?_⟩⟩;generalize f1:upd _ _ (HO.lst bs)=F1 at hq2 |-
  obtain⟨s1,u1,N1⟩:=br f1 hq N0 rfl;generalize f2:upd _ _ (HO.lst [])=F2;obtain⟨s2,u2,N2⟩:=br f2 hq2 N1 rfl;have s12:=s1.trans s2;refine⟨ns,((hS.same L0.s0).same s12),fun i i0 i1=>⟨N2,⟨by lia,by lia⟩,fun H3 s3 N3=>⟨s3 _ _ (s12 _ _ u0),[(kyR,.ref q),(kyS,.ref q2),(kyC,.non),(kyF,.int (MO i))],rfl,by show 4<=15;decide,?_⟩⟩⟩;have MI:=E8 (show 0<=i by lia) (show i<=146096 by lia);have qp:q≠p:=fun z=>by rw[z,u0]at hq;cases hq
  have q2p:q2≠p:=fun z=>by rw[z,s1 _ _ u0]at hq2;cases hq2
  have qq:q≠q2:=fun z=>by rw[<- z,u1]at hq2;cases hq2
  have gq:G q=none:=s0.free hq;have gq2:G q2=none:=(s0.trans s1).free hq2;have sF:Same G (upd H3 p (mnD { W with md:=p,mr:=q,ml:=q2,f:=MO i } none)):=fun c o e=>(ag (az e hp)).trans (s3 _ _ (s12 _ _ (s0 _ _ e)));have s0F:Same F0 H3:=s12.trans s3;have C:=L.cp.keep (Keep.same sF) cq (S:=[]);have D:=L.sd.keep (Keep.same sF) (Kt.same sF) cq (S:=[]);have ktF:Kt F0 (upd H3 p (mnD { W with md:=p,mr:=q,ml:=q2,f:=MO i } none)):=fun t l e=>(ag fun z=>by rw[z,u0]at e;cases e).trans (s0F _ _ e);have nfr:∀c∈mad { W with md:=p,mr:=q,ml:=q2,f:=MO i },G c=none:=fun c mc=>by
   simp only[mad,zZ,zY,or_false]at mc;rcases mc with rfl|rfl|rfl
   ·exact hp
   ·exact gq
   ·exact gq2
  have lv:∀c∈cad W++sad W,G c≠none:=L.live;refine c5 pc hd x4 x5 cy (upd H3 p (mnD { W with md:=p,mr:=q,ml:=q2,f:=MO i } none)) { W with md:=p,mr:=q,ml:=q2,f:=MO i } ⟨none,bx,[]⟩ ⟨⟨C.ca,C.cf,C.bl,C.dd,C.ls,C.ai,C.ne⟩,⟨D.ga,D.ja,D.sa,D.ne⟩,⟨ad,⟨bs,(ag qp).trans (s3 _ _ (s2 _ _ u1)),B.imp fun _ _ _ _ z=>z.mv ktF⟩,⟨[],(ag q2p).trans (s3 _ _ u2),.nil⟩,qq⟩,L.ok,⟨L.cs,fun c mc r=>lv c (wW _ mc) (nfr c r),fun c mc r=>lv c (zd _ mc) (nfr c r)⟩,aq N3 rfl⟩ rfl MI.1 MI.2.1 (L.s0.trans sF) (fun c mc=>?_) (sF _ _ L.hh) (fun mc=>?_) lc
  ·rcases z7.mp mc with mc|mc
   ·exact L.fr c (wW _ mc)
   ·rcases z7.mp mc with mc|mc
    ·exact L.fr c (zd _ mc)
    ·exact L.s0.free (nfr c mc)
  ·rcases z7.mp mc with mc|mc
   ·exact L.n1 (wW _ mc)
   ·rcases z7.mp mc with mc|mc
    ·exact L.n1 (zd _ mc)
    ·have e:=nfr _ mc
     rw[L.hh]at e;cases e
 obtain⟨u4,hu4,c4⟩:=c4;clear hu5 c5;have c3:∃u,PSs (bV (XE P w) P w K mg base nC "law" (au c_) a.eZ cdv A outer s H E) (Zn 3 (aZ c_)) u/\∀pc hd cy G W,LP a cy 0 H G W [] hd pc->cy.length=3->u { nx:=fun _ H'=>Q .non H',rt:=Q } [some (.ref sc),some (.ref W.d),some (.ref pc),some (.ref hd),none,none,none,none,none] G:=by
  refine⟨_,(ae (cX (by passes_own) rfl (eO rfl T.gG (fa1 (aj aW (aH (aT T) hr aA (fa2 (fv 0) aa)) aa))) (aK (i:=4) ND rfl (Or.inl rfl)) (ae (aO 5 ND (aH (uW T) hr aA (fa2 (fv 0) (aj aE aa (fv 4)))))
   (af (bB (b7 (aB K (fv 3) aa) T.a7 (eQ T) (hr.mono (by decide)) aA (fa4 (fv 5) (ak []) (aH (nR T) hr aA (fa4 (aH (aT T) hr aA (fa2 (fv 0) (aj aE aa (fv 4)))) (fv 1) (fv 5) (fv 2))) cG))))))
   hu4),fun pc hd cy G W L lc=>?_⟩
  walk_at "rq";refine fX ?_;walk_at "rq";refine⟨ns,hS.same L.s0,fun i _=>⟨by lia,by lia,eN (lo:=0) (n:=(i % 11).toNat) (fun j σ' G'=>∃bx x4 x5,LP a cy j H G' W bx hd pc/\σ'=[some (.ref sc),some (.ref W.d),some (.ref pc),some (.ref hd),x4,x5,none,none,none]) ⟨[],_,_,L,rfl⟩ ?_ ?_⟩⟩
  rotate_left 1
  ·rintro σ' G' ⟨bx,x4,x5,L',rfl⟩
   have lj:(i % 11).toNat<=10:=by lia
   exact c4 pc hd x4 x5 cy G' W bx { L' with ok:={ L'.ok with ll:=wn L'.ok.ll lj,sn:=wQ _ } } lc
  rintro j σ' G' hj ⟨bx,x4,x5,L',rfl⟩;clear L;have j10:j<10:=by lia
  have hSG:=hS.same L'.s0;obtain⟨bs,J,B⟩:=L'.sd.ja;obtain⟨dj,hjo⟩:=J.ob;have lb:=B.len;have lo:=L'.ok.ll;have lo:bx.length<=j:=lo;walk_at "rq";refine⟨ns,hSG,by lia,fun day d0 d1=>⟨_,.ref W.j,.inl (SqL.of L'.hh),av (j:=2) rfl,?_⟩⟩;walk_at "rq";refine⟨dj,_,hjo,wZ _ _,ns,hSG,by lia,fun c _=>⟨L'.nT,d0,W.as,8,cy,L'.cp.dd,L'.cp.ac,L'.cp.ai,by decide,L'.hc,lc,fun q vs rs H1 fq hq ha r2 r4 hrs s1 N1=>⟨N1,?_⟩⟩⟩;have L1:=L'.same s1 N1;have J1:=J.keep (S:=[]) (Keep.same s1) zY zY zY;refine⟨W.b,W.u,bs,[],vs,J1,by lia,by decide,.inl (SqL.of hq),fun t q2 H2 g1 g2 g3 g4 g5 g6 g7=>?_⟩;refine⟨_,_,_,L1.put J1 (B.imp fun _ _ _ _ z=>z.mv (Kt.same s1)) ha r4 (fun r mr=>?_) j10 g2 g4 g5 g6 g7,rfl,rfl⟩;obtain⟨⟨z,mz,ez⟩,hc,_⟩:=hrs r mr;exact⟨yS.mpr ⟨z,mz,ez⟩,hc⟩
 obtain⟨u3,hu3,c3⟩:=c3;clear hu4 c4;refine⟨_,(ae (aO 1 ND (aH (mI T) hr aA (fa1 (fv 0))))
  (ae (aO 2 ND (aH (fj T) hr aA (fa1 (aH (aT T) hr aA (fa2 (fv 0) aa)))))
  (ae (aO 3 ND (bz (fa4 (aH (qx T) hr aA (fa1 (fv 1))) (tH T.DN (mD T) (hr.mono (by decide)) rfl T.GV aA) (tH T.wT (jh T) (hr.mono (by decide)) rfl T.zl aA) (tH T.Bb (lP T) (hr.mono (by decide)) rfl T.Du aA))))
  hu3))),?_⟩
 walk_at "rq";refine⟨hN,ns,hS,fun d as H1 s1 N1 fd hd1 AC A8 nlA=>⟨ns,hS.same s1,fun _ _=>⟨N1,fun pc H2 cy s2 N2 fpc hpc lc ccy _=>?_⟩⟩⟩;have hd2:=s2 _ _ hd1;have AC2:AcAt H2 d as:=⟨.inl hd2,fun x mx=>s2 _ _ (AC.ls x mx)⟩;refine⟨N2,as,hd2,AC2,A8,fun ch cd cs H3 ca cf fc fch fcd s3 N3 g gx hg hgx ne=>?_⟩;refine⟨gx,ad,?_⟩;have k4:Keep [] H3 (upd (upd (upd H3 gx (HO.own g)) g (HO.ins a.a_ gx [])) g (cR a.a_ gx V.non)):=eP hg hgx (o:=HO.own g) (o':=HO.ins a.a_ gx []) (Keep.refl.put (.head _));have N4:NoT (upd (upd (upd H3 gx (HO.own g)) g (HO.ins a.a_ gx [])) g (cR a.a_ gx V.non)):=aq (aq (aq N3 rfl) rfl) rfl;have gg:upd (upd (upd H3 gx (HO.own g)) g (HO.ins a.a_ gx [])) g (cR a.a_ gx V.non) g=some (cR a.a_ gx V.non):=ad;generalize upd (upd (upd H3 gx (HO.own g)) g (HO.ins a.a_ gx [])) g _=H4 at k4 N4 gg |-
 intro y dy hy hdy ny;refine⟨aq (aq N4 rfl) rfl,dy,ad,fun b u H5 fb fu J5 kp5 N5=>?_⟩;have k5:=eP hy hdy kp5;intro sl ds hsl hds nsl;refine⟨aq (aq N5 rfl) rfl,ds,ad,fun sb H6 fs J6 kp6 N6=>⟨by walk_at "om",fun hd hhd=>?_⟩⟩;have k6:=eP hsl hds kp6;have s34:Same H3 H4:=fun p o e=>k4 _ _ e zY;have s45:Same H4 H5:=fun p o e=>k5 _ _ e zY;have s56:Same H5 H6:=fun p o e=>k6 _ _ e zY;have s36:=s34.trans (s45.trans s56);have fs5:H5 sb=none:=dE fs;have fb3:H3 b=none:=s34.free (dE fb);have fu3:H3 u=none:=s34.free (dE fu);have fs3:H3 sb=none:=(s34.trans s45).free fs5;have fr3:∀ {p:Addr},H3 p=none->H p=none:=fun e=>(s1.trans (s2.trans s3)).free e;have s06:=(s1.trans (s2.trans s3)).trans s36;have hc6:=s36 _ _ (s3 _ _ hpc);have f1:=ah (HO.lst [V.ref ch,V.ref g,V.ref y,V.ref sl]) hhd;have c3L:∀p∈cad ⟨ch,cd,g,gx,y,b,u,d,sl,sb,sc,sc,sc,as,cs,0⟩,H3 p≠none/\H p=none:=fun p q=>by
  obtain⟨dc,hc⟩:=ca.ob;simp only[cad,zZ,z7,yS]at q;rcases q with q|q|q|(⟨c,mc,q⟩|⟨c,mc,q⟩)|⟨x,mx,q⟩
  ·rw[q];exact⟨dh (hc),(s1.trans s2).free fch⟩
  ·rw[q];exact⟨dh (s3 _ _ hd2),fd⟩
  ·rw[q];exact⟨dh (ca.dc),(s1.trans s2).free fcd⟩
  ·rw[<- q];exact⟨dh ((ca.ac c mc).ls),(s1.trans s2).free (fc c mc).2.1⟩
  ·obtain⟨dx,ho⟩:=(ca.ac c mc).ob
   rw[<- q];exact⟨dh (ho),(s1.trans s2).free (fc c mc).1⟩
  ·rw[<- q];exact⟨dh (s3 _ _ (AC2.ls x mx)),nlA.2 x mx⟩
 have s3N:∀p∈sad ⟨ch,cd,g,gx,y,b,u,d,sl,sb,sc,sc,sc,as,cs,0⟩,H3 p=none/\H6 p≠none:=fun p q=>by
  obtain⟨dj,hj⟩:=J5.ob;obtain⟨dl,hl⟩:=J6.ob;simp only[sad,zZ,zY,or_false]at q;rcases q with q|q|q|q|q|q <;> rw[q]
  ·exact⟨s34.free hy,dh (s56 _ _ hj)⟩
  ·exact⟨(s34.trans s45).free hsl,dh (hl)⟩
  ·exact⟨fb3,dh (s56 _ _ J5.ls)⟩
  ·exact⟨fu3,dh (s56 _ _ J5.dc)⟩
  ·exact⟨fs3,dh (J6.ls)⟩
  ·exact⟨hg,dh (s56 _ _ (s45 _ _ gg))⟩
 have s37:=s36.trans f1;refine c3 pc hd cy _ ⟨ch,cd,g,gx,y,b,u,d,sl,sb,sc,sc,sc,as,cs,0⟩ ⟨⟨ca.same s37,cf,fun c mc=>(fc c mc).2.2,s37 _ _ (s3 _ _ hd2),fun x mx=>s37 _ _ (s3 _ _ (AC2.ls x mx)),A8.I,Ne.symm (az hd2 fcd)⟩,⟨(s45.trans (s56.trans f1)) _ _ gg,⟨[],J5.keep (S:=[]) (Keep.same (s56.trans f1)) zY zY zY,.nil⟩,⟨[],J6.keep (S:=[]) (Keep.same f1) zY zY,.nil⟩,az J5.ls fs5⟩,⟨⟨wQ _,(fun _ q=>nomatch q),fun _ q=>nomatch q⟩,(fun i x e=>by simp at e),(fun _ q=>nomatch q),(fun z e=>nomatch e),wQ _,wQ _⟩,fun p q r=>(c3L p q).1 (s3N p r).1,aq N6 rfl,s06.trans f1,fun p q=>?_,ad,f1 _ _ hc6,fun q=>?_,fun q=>?_⟩ lc
 ·rcases z7.mp q with q|q
  ·exact(c3L p q).2
  ·exact fr3 (s3N p q).1
 ·rcases z7.mp q with q|q
  ·exact(c3L _ q).1 (s36.free hhd)
  ·exact(s3N _ q).2 hhd
 ·have e:=(s3N _ q).1
  rw[s3 _ _ hpc]at e;cases e
theorem law_starts{H:Hp}{p:Addr}{ns:List Int}(hO:yT H)(hS:SqL K H p (ns.map V.int))(hl:ns.length<=63):sp_law K [.ref p] H (fun v _=>v = .bl true) fun _ _ _=>False:=⟨AU hO,ns,hS,hl,fun _=>rfl⟩
end
noncomputable abbrev IG(x q:Str)(s:Stmt)(kV dc pm:Value)(an:Option Addr)(cd ct:Value):FuncData:=ZE x q (gv s) (aZ s) (au s) .none kV dc pm an cd ct
section
variable{K:W.Frag}{h:Heap}{mg:Str->Option Value}{x qual:Str}{st:Stmt}{f g C:Addr}{oc:Value}{od an:Option Addr}{osl:Array (Option Value)}{kV doc pm cdv ct:Value}{cl:ClassData}
theorem nf_of(X:K.In h)(G:h.Ns Za mg)(a:PySem.W.nsIn K Za x=some (some (.ref f)))(l:K.lookup f=some ⟨oc,od,.func (IG x x st kV doc pm an cdv ct),osl⟩)(c:YQ K cdv x=true)(k:ZP K (.ref f)=true):DfN K mg x st:=⟨_,_,PySem.W.mg_of X G a,wA l c k⟩
theorem mf_of(a:Zl K (.ref C) x=some (some (.ref f)))(i:PySem.W.isFn K (.ref f)=true)(l:K.lookup f=some ⟨oc,od,.func (IG x qual st kV doc pm an cdv ct),osl⟩)(c:YQ K cdv qual=true)(k:ZP K (.ref f)=true):DfM K C x qual st:=⟨_,_,⟨a,i,k⟩,wA l c k⟩
theorem exc_of(u:Zl K (.ref C) "__getattribute__" = some (some (.builtin "BaseException.__getattribute__")))(w:Zl K (.ref C) "__getattr__" = some none)(y:Zl K (.ref C) "__class__" = some (some (.builtin "object.__class__")))(o:PySem.W.clsIn K C=some cl)(g:Z8 K C (.type "object")=some true)(b:Z8 K C (.type "BaseException")=some true):cL K C:=⟨u,w,y,(by rw[o];rfl),g,b⟩
theorem cst_of{its:Array Value}{n:Nat}{vs:List V}{d:Option Addr}{sl:Array (Option Value)}(l:K.lookup f=some ⟨.type "tuple",d,.seq its n,sl⟩)(z:its.size<=sizeLine)(v:Vals vs its.toList):∃(o:Obj) (its:Array Value) (n:Nat),K.lookup f=some o/\o.cls = .type "tuple" /\ o.data = .seq its n/\its.size<=sizeLine/\Vals vs its.toList:=⟨_,_,_,l,rfl,rfl,z,v⟩
theorem fin_of{l:PySem.W.OpenLaw}{w:World}{fa:Addr}{a:Adr}(hfa:mg "law" = some (.ref fa))(T:Txt K mg a)(e:mg "law" = some (.ref a.eZ)):∃fd:FuncData,(∀(s:Shared) (v:Value),BindsTo s fd ⟨[v],[]⟩ [("_law_script",v)])/\∀base:Heap,K.In base->base.Ns Za mg->h_ l.prog w K mg base (XE l.prog w) 14 fa fd ["_law_script"] (sp_law K):=by
 cases hfa.symm.trans e;obtain⟨fd,F⟩:=T.Jo;refine⟨fd,fun s v=>?_,fun base _ _=>Fw T F⟩;obtain⟨oc,od,kV,doc,pm,an,cdv,ct,osl,e,lk,hcd⟩:=F.ex;rw[e];exact .of_eq rfl
end
end K23
open PySem PySem.W PyProof.Rows
theorem PySem.Challenge.cw_evenhall_k23_months_closed_holds : PySem.Challenge.rw_evenhall_k23_months_closed.Holds := by
 w_on
 refine PySem.W.holds_law K23.ws fun said=>?_;refine PySem.W.holds_open (q:=K23.vw) (loose:=[]) (Xt:=fun s=>PySem.W.xlAt K23.vw [] s&&PySem.W.recOk (PySem.W.RowW.records (PySem.W.OpenRow.toRowW (PySem.W.OpenLaw.row vz))) s) (XP:=PySem.W.XL K23.vw []) (Yf:=PySem.W.Hook.obs (Yb K23.frag K23.adrs K23.adrs_eq)) (Ya:=PySem.W.Hook.val (Yb K23.frag K23.adrs K23.adrs_eq)) (YP:=PySem.W.Hook.says (Yb K23.frag K23.adrs K23.adrs_eq)) (N:=15488) K23.left (PySem.W.Hook.of (Yb K23.frag K23.adrs K23.adrs_eq)) (PySem.W.Hook.keeps (Yb K23.frag K23.adrs K23.adrs_eq))
  (fun s e=>PySem.W.xl_of s (Bool.and_eq_true_iff.mp e).1) PySem.W.XL.keeps (by rfl) (by rfl) (by rfl) (fun s e=>PySem.W.recFacts_of (Bool.and_eq_true_iff.mp e).2) (by rfl) (by assumption) (by decide +kernel) ⟨rfl,rfl,rfl,rfl,rfl,by decide +kernel⟩ ?hw ?hc
 (case hw=>w_witness2)
 k_fill
 refine L2.CS (l:=vz) (n:=63) (k:=14) (x:="_law_script") (sp:=K23.sp_law) rfl (by decide) rfl ⟨rfl,by decide,by decide⟩ (fun w h Y=>PySem.W.kIn_of Y) ?F ?S
 case F=>
  intro w mg fa h KX G hmg;refine' K23.fin_of (a:=⟨942,31,51,70,89,108,127,146,165,184,203,222,241,260,279,298,317,336,512,579,675,736,792,389,548⟩) hmg ?T (PySem.W.mg_of KX G (by k_is))
  case T=>
  constructor
  all_goals try dsimp only
  all_goals first|exact PySem.W.mg_of KX G (by k_is)|exact PySem.W.mg_none_of KX G (by k_is)|exact K23.nf_of KX G (by k_is) (by k_is) (by k_is) (by k_is)|exact K23.mf_of (by k_is) (by k_is) (by k_is) (by k_is) (by k_is)|exact⟨_,L2.wA (by k_is) (by k_is) (by k_is)⟩|exact⟨by k_is,by k_is,by k_is,by k_is⟩|(unfold L2.NoAttr;k_is)|exact⟨by k_is,by k_is⟩|(unfold K23.zzX;k_exc)|exact K23.exc_of (by k_is) (by k_is) (by k_is) (by k_is) (by k_is) (by k_is)|exact L2.yU (by k_is) (by k_is) (by k_is) (by k_is)|exact L2.zI (by k_is)|exact L2.zQ (by k_is) (by k_is) (by k_is) (by k_is)|exact K23.cst_of (by k_is) (by show _<=sizeLine;decide) (by repeat first|exact .nil|refine .cons ⟨_,rfl⟩ ?_)
 case S=>exact fun K H a ns hl hO hS=>K23.law_starts hO hS hl
