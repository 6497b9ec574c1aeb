import PyProof.Rows.All
import KE.KUnpack
import PyProof.DictTruth
import PyProof.DictWalks
import PyProof.Rows.SortKeyStr
import KE.KItem
import KE.KTupSum
import KE.KEqDict
import KE.KFromBytes
import KE.KIntText
import KE.KRevIter
import KE.KDictOf
import KE.LcSums
import KE.KDictSum
import KE.KTryMore
import OpenK.KLine
import OpenK.KOwn
import Wide.Line
import Wide.FinOn
import PyProof.MaxThree
import KE.KSortTup
import KE.KPairComp
import KE.KListMore
import PyProof.ZipIter
import Lean
import PySem.Challenge.RW_evenhall_k20_whole_values
set_option genInjectivity false
set_option genSizeOf false
set_option Elab.async false
set_option linter.all false
set_option maxRecDepth 100000
set_option maxHeartbeats 0
open PySem.Challenge renaming pw_evenhall_k20_whole_values -> qj, rw_evenhall_k20_whole_values -> jw
open PyProof.Rows renaming wpS_bind -> Ww, wpS_pure -> Wv, wpS_get -> Wu
open PySem.W renaming Frag -> Ws
open PySem.Heap renaming get?_push_of_some -> Wr, get?_push_size -> Wq, get?_update_other -> Wp, get?_update_self -> Wo
open Or renaming inl -> Wb, inr -> Wa
open Ne renaming symm -> Wc
open Array renaming getElem?_eq_getElem -> Wh, getElem?_eq_some_iff -> Wg, getElem?_toList -> We
open List renaming getElem?_eq_some_iff -> Wn, getElem?_map -> Wm, getElem?_eq_getElem -> Wl, getElem?_append_left -> Wj, find?_eq_none -> Wi
open PySem renaming wpAny -> WB, model -> WA, Heap -> Wz, starEach -> Wy, backTo -> Wx
open And renaming intro -> yO
open Array renaming length_toList -> ZN, perm_iff_toList_perm -> YM, mem_toList_iff -> XZ
open Bool renaming false_ne_true -> xl, false_eq_true -> ZV, and_eq_true -> ZR, eq_iff_iff -> Xn
open False renaming elim -> YR
open Int renaming emod_lt_of_pos -> Zu, emod_nonneg -> Zt, eq_ofNat_of_zero_le -> Zi, toNat_natCast -> ZJ, le_refl -> ZA, add_assoc -> Y1, zero_add -> Y9, ofNat -> XX, add_zero -> XW, toNat -> XF
open List renaming mem_singleton -> zh, length_map -> zV, length_append -> zA, mem_cons -> z9, mem_append -> yy, mem_of_getElem? -> yo, size_toArray -> yX, not_mem_nil -> yW, mem_map -> yR, map_cons -> yH, map_append -> yE, mem_append_right -> wq, length_cons -> vZ, mem_append_left -> vS, map_map -> vN, length_singleton -> v6, mem_map_of_mem -> uO, lookup -> qW, mem_cons_of_mem -> Zy, range -> Zw, length_take -> Zv, map_congr_left -> Zq, take_length -> Zp, mem_filter -> Zn, all_eq_true -> Zk, nodup_cons -> Zj, length_filter_le -> Zb, append_nil -> Za, filter_append -> ZW, filter_cons_of_pos -> ZU, filter_cons_of_neg -> ZT, nodup_nil -> ZQ, take_of_length_le -> ZP, mem_of_mem_take -> ZI, drop -> ZE, filter_eq_self -> Z5, nodup_append -> Z8, any_eq_true -> Yw, mem_cons_self -> Yo, length -> Yl, flatMap_cons -> Ye, filter_nil -> Yc, length_drop -> YT, cons_append -> YS, take_zero -> YO, take_succ -> YN, pairwise_iff_getElem -> YK, map_nil -> YB, append_assoc -> Y0, length_pos_iff -> Y4, lt_irrefl -> Y6, pairwise_cons -> Xx, length_nil -> Xo, sum_cons -> Xk, pairwise_map -> Xi, replicate -> Xc, mem_flatMap -> XU, filter_map -> XM, map_singleton -> XG
open List.Pairwise renaming imp_of_mem -> XQ
open Nat renaming le_refl -> zK, le_trans -> wG, lt_of_lt_of_le -> tS, zero_le -> tB, ne_of_lt -> Zx, lt_of_le_of_lt -> ZZ, le_of_lt -> ZO, le_succ_of_le -> ZK, lt_irrefl -> Yu, succ_le_succ -> YU, le_antisymm -> YF, lt_or_ge -> YC, min_eq_left -> Xp, min_le_right -> XV
open Option renaming map_eq_some_iff -> sx, isSome_map -> YA
open Option.some renaming inj -> Zs
open Prod.mk renaming inj -> ZC
open PyProof.Rows renaming callWith_type1 -> Yv, envOfC -> YZ
open PySem renaming Value -> WI, Addr -> WH, Shared -> WG, Program -> WF, World -> WE, Around -> WD, sizeLine -> WC, wpAny_bind -> zd, wpAny_pure -> zJ, sizeLine_eq -> ue, wpAny_mono -> Zf, compareOp -> Zd, wpAny_newObj_type -> Zc, bootBuiltins -> ZY, wpAny_call_entry -> ZS, wpAny_truthy_bool -> ZL, sysModules -> ZH, mainGlobals -> ZB, mem_of_lookup -> Yr, tupleKind_room_in1 -> Yp, wpAny_typeNameOfWhole_itemiter -> Ym, wpAny_typeNameOfWhole_keyiter -> Yj, wpAny_dictEntries -> Yh, foldedSetIterable -> Yg, wpAny_holding -> YX, behindInMarks -> YW, wpAny_fieldsOf -> YQ, wpAny_typeNameOf_itemiter -> YL, DictEntry -> YI, wpAny_passesOwn -> YG, wpAny_field -> YE, wpAny_typeNameOf_keyiter -> Y2, wpAny_getItem_str_slice -> Y7, wpAny_setField_rec -> Xz, wpAny_Call_Name_kw -> Xy, wpAny_isOneOf_itemiter -> Xw, wpAny_execs_nil -> Xr, wpAny_dictEpoch -> Xq, firstArgMember -> Xe, dictSetDefault -> Xd, wpAny_attempt -> XS, attributeBase -> XR, letOwnedTupleGo -> XN, assignEach -> XJ, IsItemIter -> XI, keywordEach -> XC
open PySem.Builtin.Dict renaming showsAll -> Xj
open PySem.Builtin.Dict_items renaming ownsTuple -> Yy
open PySem.Builtin.List renaming listTooLong -> XO
open PySem.Builtin.Slice renaming slicePlaces -> YJ, sliceAdjust -> XT
open PySem.Builtin.Str renaming strKind -> YY, strSliceIndices -> Xh
open PySem.Builtin.Tuple renaming tupleExact -> Y3
open PySem.Calls renaming spliced_cons -> Yn, callWith_builtin -> Xs, evalArgs_plain -> Xa
open PySem.Const renaming int -> Y5
open PySem.Data renaming func -> YH, dict -> XD, fields -> XB
open PySem.Expr renaming Name -> Zl, Constant -> ZD, Attribute -> Yt, Call -> Ys
open PySem.F renaming plainAttrs_list -> Zm, type_list_append -> Zh, slot_list_append -> Zg, plainAttrs_str -> ZG, slot_dict_itemiterator_next -> Yi, slot_dict_keyiterator_next -> Yb, type_str_split -> Xv, slot_str_split -> Xu, plainAttrs_dict -> XA
open PySem.FuncBody renaming stmts -> Z0
open PySem.Heap renaming lt_size -> wu, SameBut -> Yz
open PySem.Heap.SameBut renaming update -> Z6
open PySem.NameKind renaming globalImplicit -> Zr
open PySem.Obj renaming isFreed_of_fields -> Yq, mapSeq -> Xf, data_mapDictKeys -> Xb, data_mapFields -> XH
open PySem.Paired renaming length -> Xl
open PySem.ScopeKind renaming function -> ZX
open PySem.Str renaming ofString -> zR, length -> Y8
open PySem.Value renaming ref -> yJ, none -> Ze, type -> Xg, str -> XY
open PySem.W renaming kitOne -> Zo, findIn -> ZM, kia_one -> Z4, emptyDict -> Z7, exmOne -> Z9, keepIn -> Yk, instObj -> Yd, mroIn -> YV, fnOf -> YD, kHook -> Xm
open True renaming intro -> Yx
def WZ{p:Prop}(h:False):p:=h.elim
def VZ{c:Prop}[h:Decidable c](hc:¬c){α:Sort u}{t e:α}:ite c t e=e:=_root_.if_neg hc
def VY{c:Prop}[h:Decidable c](hc:c){α:Sort u}{t e:α}:ite c t e=t:=_root_.if_pos hc
def VX{p:Prop}[h:Decidable p](x:p):decide p=true:=_root_.decide_eq_true x
def VW{p:Prop}[h:Decidable p](x:¬p):decide p=false:=_root_.decide_eq_false x
def VU{α:Sort u}{β:Sort v}{a b:α}(f:α→β)(h:a=b):f a=f b:=_root_.congrArg f h
def VT{a b:Prop}(h:a)(k:¬a):b:=(k h).elim
namespace L2
def Zz{n k c:Nat}(h:n+100<c)(d:k<=100:=by decide):n+k<c:=ZZ (Nat.add_le_add_left d _) h
open PySem
noncomputable def bT(s:Stmt)(j:Nat):Stmt:=match s with
 | .ClassDef _ _ _ body _ _ _ _ _ _ _=>body.getD j (.Pass ⟨0,0,0,0⟩)
 |_=>.Pass ⟨0,0,0,0⟩
noncomputable def hG(s:Stmt):Arguments:=match s with
 | .FunctionDef _ a _ _ _ _ _ _ _ _=>a
 |_=>{ posonlyargs:=[],args:=[],vararg:=none,kwonlyargs:=[],kw_defaults:=[],kwarg:=none,defaults:=[] }
noncomputable def bh(s:Stmt):List Stmt:=match s with
 | .FunctionDef _ _ b _ _ _ _ _ _ _=>b
 |_=>[]
noncomputable def ak(s:Stmt):Scope:=match s with
 | .FunctionDef _ _ _ _ _ _ sc _ _ _=>sc
 |_=>{ kind:=.function,names:=[],isGenerator:=false,isCoroutine:=false }
end L2
namespace K20
open PySem L2
noncomputable def top(i:Nat):Stmt:=qj.main.body.getD i (.Pass ⟨0,0,0,0⟩)
noncomputable abbrev cO:Stmt:=top 71
noncomputable abbrev bw:Stmt:=top 73
noncomputable abbrev cF:Stmt:=top 74
noncomputable abbrev c9:Stmt:=top 75
noncomputable abbrev fQ:Stmt:=bT (top 50) 2
noncomputable abbrev eO:Stmt:=bT (top 55) 2
noncomputable abbrev dM:Stmt:=bT (top 55) 4
end K20
namespace TR
open PySem PySem.W PyProof PyProof.Rows
noncomputable def go(p:WF)(w:WE)(lo:Nat)(an:Option WI):Nat->SharedT->Thread->Option SharedT
 |0,_,_=>none
 |k+1,x,th=>match through th with
  |true=>some x
  |false=>match stepOk lo an th with
   |false=>none
   |true=>match stepT (denote treeTable) p w x th with
    |none=>none
    |some y=>go p w lo an k y.1 y.2
def oB{p:WF}{w:WE}{lo:Nat}{an:Option WI}(k:Nat):∀ {x y:SharedT} {th:Thread},go p w lo an k x th=some y->topRun treeTable p w lo an k x.abs th=some y.abs:=by
 induction k with
 |zero=>intro x y th e;cases e
 |succ k ih=>
  intro x y th e;unfold go at e;unfold topRun
  revert e
  cases through th with
  |true=>intro e;cases e;rfl
  |false=>
   cases stepOk lo an th with
   |false=>intro e;cases e
   |true=>
    dsimp only;cases z:stepT (denote treeTable) p w x th with
    |none=>intro e;cases e
    |some v=>
     intro e;obtain⟨v1,v2⟩:=v;rw[stepT_spec z];exact ih e
noncomputable def lookB(p:WF)(b:Wz)(s:WG):Bool:=staticsOk (importedModules p.main.body) b s.heap&&namesBound p s.heap&&gensDone s&&laidKept b s.heap
noncomputable def look(p:WF)(P:Params)(s:WG):Bool:=lookB p (boot_heap P) s
def left{p q:WF}{ls:List Str}{Xt:WG->Bool}{β:Type}{Yf:WG->β}{Ya:WE->β}{N lo:Nat}{an:Option WI}{tr:Params->BT}
 (ho:∀w:WE,(fencedOpening treeTable p w N).map (fun s=>(s.heap,s.gens,s.drawn,s.toks))=some (boot_heap w.params,Array.mk [],boot_drawn,boot_toks))
 (hz:∀P:Params,((boot_heap P).isNs ZB,(boot_heap P).objs.size,(boot_heap P).nsMap ZB "__annotations__")=(true,lo,an))
 (ht:∀P:Params,absHeap (tr P) lo (boot_heap P).life=boot_heap P)
 (hr:∀w:WE,(fun os=>(go p w lo an N ⟨tr w.params,lo,(boot_heap w.params).life,Array.mk [],boot_drawn,boot_toks,os⟩ (topStub p)).map fun x=>(look p w.params x.abs,openSeen q ls (importedModules p.main.body) Xt true x.abs,Yf x.abs))=fun _=>some (true,openGood q ls,Ya w)) :
 LeftO p q ls Xt Yf Ya N:=by
 intro w;obtain⟨⟨h,g,d,k,os⟩,e1,e2⟩:=sx.mp (ho w);simp only[Prod.mk.injEq]at e2;obtain⟨rfl,rfl,rfl,rfl⟩:=e2;have z:=hz w.params;simp only[Prod.mk.injEq]at z;obtain⟨z1,z2,z3⟩:=z;obtain⟨x,r1,r2⟩:=sx.mp (congrFun (hr w) os);simp only[Prod.mk.injEq]at r2;obtain⟨l1,l2,l3⟩:=r2;have t:=oB _ r1;have ab:SharedT.abs ⟨tr w.params,lo,(boot_heap w.params).life,Array.mk [],boot_drawn,boot_toks,os⟩=⟨boot_heap w.params,Array.mk [],boot_drawn,boot_toks,os⟩:=by
  show Shared.mk (absHeap (tr w.params) lo (boot_heap w.params).life) _ _ _ _=_;rw[ht]
 rw[ab]at t;have f:topFrom treeTable p w N ⟨boot_heap w.params,Array.mk [],boot_drawn,boot_toks,os⟩=some x.abs:=by
  unfold topFrom;dsimp only;rw[z1,z2,z3,t];show(match look p w.params x.abs with|true=>some x.abs|false=>none)=_;rw[l1]
 unfold openEnds;rw[e1];show(topFrom treeTable p w N _).map _=_;rw[f];show some (_,_)=_;rw[l2,l3]
noncomputable def s1(q:WF)(s:WG):=seen ((recsOf q).map (·.name)) (ownsOf q) [] { s with gens:=#[] }
noncomputable def s2(p q:WF)(c:WRecords)(s:WG):=(s.heap.bltView,s.heap.keysOk (looseW q []) ((recsOf q).map (·.name)) ((litsOf q).map (·.1)) ((clssOf q (looseW q [])).map (·.name))&&s.heap.accountedOkI (importedModules p.main.body)&&s.heap.isNs ZB&&s.heap.isNs builtinsNs&&tablesOk q s.heap&&(xlAt q [] s&&recOk c s)&&(s.gens.size==0),tabsOk q s)
noncomputable def s3(q:WF)(s:WG):=(pinSeenD q (drecsOf q) s,plainSeenE q (looseW q []) s,plainSeenD q [] s,wideSeen q s,clsSeenW q [] s)
noncomputable def d3(q:WF):=(pinGoodD (drecsOf q),plainGoodE q (looseW q []),plainGoodD q [],wideGood q,clsGoodW q [])
def seen3{p q:WF}{c:WRecords}{o:Option SharedT}(e1:o.map (fun x=>s1 q x.abs)=some (expectedOf q))(e2:o.map (fun x=>s2 p q c x.abs)=some (bltViewBooted,true,true))(e3:o.map (fun x=>s3 q x.abs)=some (d3 q)):o.map (fun x=>openSeen q [] (importedModules p.main.body) (fun s=>xlAt q [] s&&recOk c s) true x.abs)=some (openGood q []):=by
 cases o with
 |none=>cases e1
 |some x=>
  have f1:s1 q x.abs=_:=Zs e1;have f2:s2 p q c x.abs=_:=Zs e2;have f3:s3 q x.abs=_:=Zs e3;show some (s1 q x.abs,(s2 p q c x.abs).1,(s2 p q c x.abs).2.1,(s2 p q c x.abs).2.2,s3 q x.abs)=_;rw[f1,f2,f3];rfl
def three{α β γ δ:Type}{o:Option α}{f:α->β}{g:α->γ}{h:α->δ}{a:β}{b:γ}{c:δ}(e1:o.map f=some a)(e2:o.map g=some b)(e3:o.map h=some c):o.map (fun x=>(f x,g x,h x))=some (a,b,c):=by
 cases o with
 |none=>cases e1
 |some x=>cases e1;cases e2;cases e3;rfl
noncomputable def atT(x:SharedT)(a:Nat):Option Obj:=match Nat.blt a x.n with
 |true=>match x.tree.get a with
  |some o=>alive o
  |none=>none
 |false=>none
def Hh{x:SharedT}{a:Nat}{o:Obj}(h:atT x a=some o):x.abs.heap.get? a=some o:=by
 revert h;unfold atT
 cases b:Nat.blt a x.n with
 |false=>intro h;cases h
 |true=>
  dsimp only;cases g:x.tree.get a with
  |none=>intro h;cases h
  |some o'=>intro h;exact(abs_get (Nat.le_of_ble_eq_true b) g).trans h
def atTs{β:Type}{o:Option SharedT}{l:List Nat}{fr:List (β × Obj)}(e:o.map (fun x=>l.map (atT x))=some (fr.map fun p=>some p.2)):o.map (fun x=>l.map x.abs.heap.get?)=some (fr.map fun p=>some p.2):=by
 cases o with
 |none=>cases e
 |some x=>
  have f:l.map (atT x)=_:=Zs e;refine VU some (?_:l.map x.abs.heap.get? = _);clear e
  induction l generalizing fr with
  |nil=>cases fr with
   |nil=>rfl
   |cons y ys=>cases f
  |cons a l ih=>cases fr with
   |nil=>cases f
   |cons y ys=>
    injection f with f1 f2
    exact(VU (· :: _) (Hh f1)).trans (VU (_ :: ·) (ih f2))
end TR
namespace K20
open PySem L2
noncomputable abbrev kS(s:String):Str:=zR s
noncomputable abbrev kR(a:WH):WI:=.ref a
noncomputable abbrev kY(s:String):WI:=.type s
noncomputable abbrev kB(s:String):WI:=.builtin s
noncomputable abbrev kZ(s:Str)(t:Tok):WI:=.str s t
noncomputable abbrev kN:WI:=.none
noncomputable abbrev kD(h:Int)(k v:WI):YI:=⟨h,k,v⟩
noncomputable abbrev kO(c:WI)(d:Option WH)(t:Data)(s:Array (Option WI)):Obj:=⟨c,d,t,s⟩
noncomputable abbrev keyHash:=PyData.keyHash
noncomputable abbrev kE(P:Params)(s:String)(t:Tok)(v:WI):YI:=⟨keyHash P (kS s),kZ (kS s) t,v⟩
noncomputable abbrev kI(i:Int)(t:Tok):WI:=.int i t
noncomputable abbrev kz(s:String)(t:Tok):WI:=kZ (kS s) t
noncomputable abbrev kC(t:Tok):WI:=kz "/claim/cut.py" t
noncomputable abbrev kT(x:Array WI):Obj:=kO (kY "tuple") none (.seq x 0) #[]
noncomputable abbrev kU:WI:=.bool true
noncomputable def frP:Nat->List Str->List WI
 |_,[]=>[]
 |t,s::r=>kZ s t::frP (t+1) r
noncomputable def frL(s:Stmt):List Str:=(ak s).names.filterMap fun p=>match p.2 with | .local=>some p.1|_=>none
noncomputable def frM(P:Params):List (String × Nat × Nat)->List YI->List YI
 | [],r=>r
 |(s,t,a)::l,r=>kE P s t (kR a)::frM P l r
noncomputable abbrev frQ(n q:String)(t l g a m:Nat):Obj:=kO (kY "code") none (XB #[kz n t,kz q (t+1),kC (t+2),kI (XX l) 0,kI (XX g) 0,kI 0 0,kI 0 0,kI 3 0,kR a,kU,kI 181 0,kR (a+1),kN,kR (a+2),kR (a+3),kR (a+4),kI (XX m) 0,kI (XX l) 0,kC (m+1)]) #[]
noncomputable abbrev frG(n q:String)(t l g a:Nat):Obj:=kO (kY "code") none (XB #[kz n t,kz q (t+1),kC (t+2),kI (XX l) 0,kI (XX g) 0,kI 0 0,kI 0 0,kI 3 0,kR a,kU,kI 181 0,kR (a+1),kN,kN,kN,kR (a+2),kI (XX (t+3)) 0,kI (XX l) 0,kC (t+4)]) #[]
noncomputable abbrev frZ(m:String)(k:Nat)(n q:String)(s:Stmt)(r:Nat):Obj:=kO (kY "function") none (YH (YD (kS n) (kS q) (hG s) (bh s) (ak s) kN kN kN (kz m k) none (kR r) kN)) #[]
noncomputable def frA(a:Nat)(n q:String)(t l g h:Nat)(ps:List Str)(o:Obj)(r:Ws):Ws:=(a,kT #[])::(a+2,kT (frP (t+3) ps).toArray)::(a+3,kT #[])::(a+5,frQ n q t l g a (t+h+3))::(a+6,o)::r
noncomputable def frB(Z:String->String->Stmt->Nat->Obj)(a:Nat)(n q:String)(s:Stmt)(t l g h:Nat)(r:Ws):Ws:=frA a n q t l g h (frL s) (Z n q s (a+5)) r
noncomputable def frC(Z:String->String->Stmt->Nat->Obj)(a:Nat)(n:String)(s:Stmt)(t l g h:Nat)(r:Ws):Ws:=frB Z a n n s t l g h r
noncomputable def frD(Z:String->String->Stmt->Nat->Obj)(a:Nat)(n q:String)(s:Stmt)(t l g:Nat)(r:Ws):Ws:=(a,kT #[])::(a+3,frG n q t l g a)::(a+4,Z n q s (a+3))::r
noncomputable abbrev frW(q:String)(l m i c r:Nat):Obj:=kO (kY "function") none (YH (FuncData.mk (kS "small_words") (kS q) (Arguments.mk [] [(Arg.mk (kS "self") none (Pos.mk l 20 l 24))] none [] [] none []) (Z0 [(Stmt.Expr (Ys (Zl (kS "_wall") (Pos.mk m 8 m 13)) [(ZD (Y5 (XX i)) 0 (Pos.mk m 14 m c))] [] (Pos.mk m 8 m (c+1))) (Pos.mk m 8 m (c+1)))]) (Scope.mk ZX [((kS "self"),NameKind.local),((kS "_wall"),Zr)] false false []) 3 [] kN kN kN (kz "evenhall.errors" 194) none (kR r) kN 0)) #[]
noncomputable abbrev frE(P:Params)(e l f g:Nat):Obj:=kO (kY "dict") none (XD #[kE P "__module__" (e+7) (kz "evenhall.errors" 194),kE P "__firstlineno__" (e+11) (kI (XX l) (e+10)),kE P "small_words" (e+18) (kR f),kE P "__static_attributes__" (e+19) (kR g),kE P "__doc__" (e+20) kN] 2) #[]
noncomputable abbrev frT(x:String)(b c d e:Nat):Obj:=kO (kY "type") none (Data.cls (ClassData.mk (kS x) [kR 31] [kR b,kR 31,kY "ValueError",kY "Exception",kY "BaseException",kY "object"] c (kS x) true [] [] false none false)) #[some (kR d),none,some (kz x e),some (kz x (e+8)),some (kB "ValueError.__new__"),some kU]
noncomputable def frX(P:Params)(a:Nat)(x q:String)(e l i c:Nat)(r:Ws):Ws:=(a,kT #[kR 31])::frA (a+7) "small_words" q (e+12) (l+2) 1 1 [kS "self"] (frW q (l+2) (l+3) i c (a+12)) ((a+14,kT #[])::(a+15,frE P e l (a+13) (a+14))::(a+16,frT x (a+16) (a+15) a e)::r)
noncomputable abbrev EL:=frZ "evenhall.words" 490
noncomputable abbrev Kc:=frZ "evenhall.days" 521
noncomputable abbrev Kg:=frZ "evenhall.money" 530
noncomputable abbrev JZ:=frZ "evenhall.shares" 539
noncomputable abbrev z_:=frZ "evenhall.chains" 551
noncomputable abbrev Ev:=frZ "evenhall.paths" 611
noncomputable abbrev Kt:=frZ "evenhall.bookings" 639
noncomputable abbrev F4:=frZ "evenhall.reports" 647
noncomputable abbrev HC:=frZ "evenhall.views" 673
noncomputable abbrev pj:=frZ "evenhall.chart" 707
noncomputable abbrev Ao:=frZ "evenhall.journal" 884
noncomputable abbrev nV:=frZ "evenhall.rates" 957
noncomputable abbrev dL:=frZ "law_evenhall_k20_whole_values" 1059
noncomputable abbrev q0(a:String)(b:Nat)(c:Nat)(d:Nat)(e:Nat):Obj:=(kO (kY "type") none (Data.cls (ClassData.mk (kS a) [(kY "object")] [(kR b),(kY "object")] c (kS a) true [] [] false none false)) #[none,none,(some (kz a d)),(some (kz a e)),(some (kB "object.__new__")),(some kU)])
noncomputable abbrev q1(a:Nat)(b:Nat):Obj:=(kO (kY "getset_descriptor") none (XB #[(kz "__weakref__" a),(kR b),(kB "ExceptionGroup.__weakref__"),kN]) #[])
noncomputable abbrev q2(a:Nat)(b:Nat):Obj:=(kO (kY "getset_descriptor") none (XB #[(kz "__dict__" a),(kR b),(kB "function.__dict__"),(kB "function.__dict__#set")]) #[])
noncomputable def E7(P:Params):Ws:=
(2,(kO kN none (XD #[] 0) #[]))::
(3,(kO (kY "dict") none (XD ((kE P "__name__" 165 (kz "law_evenhall_k20_whole_values" 1059))::(kE P "__doc__" 166 kN)::(kE P "__package__" 167 kN)::(kE P "__loader__" 168 (kB "__main__.__loader__#opaque"))::(kE P "__spec__" 169 kN)::(kE P "__annotations__" 170 (kR 6))::(kE P "__builtins__" 171 (kR 4))::(kE P "__file__" 173 (kC 172))::(kE P "__cached__" 174 kN)::frM P [("_wall",193,21),("HouseError",213,31),("BadName",236,51),("BadDay",259,70),("BadCurrency",282,89),("BadPath",305,108),("BadKind",328,127),("NoAccount",351,146),("Twice",374,165),("NotOpen",397,184),("HasBelow",420,203),("BadRate",443,222),("NoRate",466,241),("NoBooking",489,260),("is_whole",498,269),("is_among",507,276),("signs_lie",513,281),("is_name",520,288),("is_day",529,295),("is_currency",538,302),("rounded",550,309),("steps_to",566,316),("chain",572,321),("common_measure",581,328),("rate",598,335),("converted",610,342),("are_names",618,347),("is_path",625,354),("names_of",632,361),("above",638,366),("sums_of",646,371),("rows_of",657,378),("bookings_up_to",663,383),("balances",672,390),("own_values",689,397),("values_within",700,404),("valued",706,409),("KINDS",714,410),("Account",765,441),("Chart",883,537),("Journal",956,593),("is_coin_count",965,604),("Rates",1058,666),("_law_cell_at",1068,677),("_law_mixed",1076,684),("_law_whole",1083,691),("_law_names",1089,696),("_law_paths",1103,703),("_law_chart",1113,710),("_law_currencies",1119,715),("_law_first",1130,722),("_law_day",1138,729),("_law_coins",1146,736),("_law_amount",1154,743),("_law_rates",1170,750),("_law_rows",1183,757),("_law_near",1192,764),("_law_owns",1211,771),("_law_word",1217,776),("_law_told",1223,781),("_law_ends",1235,788),("law",1241,793)] ([])).toArray 71) #[]))::
frA 15 "_wall" "_wall" 187 1 1 1 [kS "k"] (kO (kY "function") none (YH (FuncData.mk (kS "_wall") (kS "_wall") (Arguments.mk [] [(Arg.mk (kS "k") none (Pos.mk 1 10 1 11))] none [] [] none []) (Z0 [(Stmt.While (ZD (Const.bool true) 0 (Pos.mk 2 10 2 14)) [(Stmt.Pass (Pos.mk 3 8 3 12))] [] (Pos.mk 2 4 3 12))]) (Scope.mk ZX [((kS "k"),NameKind.local)] false false []) 3 [] kN kN kN (kz "__main__" 164) none (kR 20) kN 0)) #[]) (
(22,(kT #[(kY "ValueError")]))::
(29,(kT #[]))::
(30,(kO (kY "dict") none (XD ((kE P "__module__" 203 (kz "evenhall.errors" 194))::(kE P "__firstlineno__" 207 (kI 5 206))::(kE P "__static_attributes__" 208 (kR 29))::(kE P "__weakref__" 210 (kR 32))::(kE P "__doc__" 211 kN)::[]).toArray 3) #[]))::
(31,(kO (kY "type") none (Data.cls (ClassData.mk (kS "HouseError") [(kY "ValueError")] [(kR 31),(kY "ValueError"),(kY "Exception"),(kY "BaseException"),(kY "object")] 30 (kS "HouseError") true [] [(kR 51),(kR 70),(kR 89),(kR 108),(kR 127),(kR 146),(kR 165),(kR 184),(kR 203),(kR 222),(kR 241),(kR 260)] false none false)) #[(some (kR 22)),none,(some (kz "HouseError" 196)),(some (kz "HouseError" 204)),(some (kB "ValueError.__new__")),(some kU)]))::
(32,(q1 209 31))::
frX P 35 "BadName" "BadName.small_words" 214 7 0 15 (
frX P 54 "BadDay" "BadDay.small_words" 237 11 1 15 (
frX P 73 "BadCurrency" "BadCurrency.small_words" 260 15 2 15 (
frX P 92 "BadPath" "BadPath.small_words" 283 19 3 15 (
frX P 111 "BadKind" "BadKind.small_words" 306 23 4 15 (
frX P 130 "NoAccount" "NoAccount.small_words" 329 27 5 15 (
frX P 149 "Twice" "Twice.small_words" 352 31 6 15 (
frX P 168 "NotOpen" "NotOpen.small_words" 375 35 7 15 (
frX P 187 "HasBelow" "HasBelow.small_words" 398 39 8 15 (
frX P 206 "BadRate" "BadRate.small_words" 421 43 9 15 (
frX P 225 "NoRate" "NoRate.small_words" 444 47 10 16 (
frX P 244 "NoBooking" "NoBooking.small_words" 467 51 11 16 (
frC EL 263 "is_whole" (top 16) 492 56 1 1 (
frC EL 270 "is_among" (top 17) 499 58 3 3 (
frD EL 277 "signs_lie" "signs_lie" (top 18) 508 60 3 (
frC EL 282 "is_name" (top 19) 514 62 1 1 (
frC Kc 289 "is_day" (top 21) 523 65 1 1 (
frC Kg 296 "is_currency" (top 23) 532 68 1 1 (
frC JZ 303 "rounded" (top 25) 541 71 2 4 (
frC z_ 310 "steps_to" (top 27) 553 78 3 8 (
frD z_ 317 "chain" "chain" (top 28) 567 90 4 (
frC z_ 322 "common_measure" (top 29) 573 104 2 3 (
frC z_ 329 "rate" (top 30) 582 110 4 11 (
frC z_ 336 "converted" (top 31) 599 120 5 6 (
frD Ev 343 "are_names" "are_names" (top 33) 613 124 1 (
frC Ev 348 "is_path" (top 34) 619 126 1 1 (
frC Ev 355 "names_of" (top 35) 626 128 1 1 (
frD Ev 362 "above" "above" (top 36) 633 132 1 (
frD Kt 367 "sums_of" "sums_of" (top 38) 641 136 1 (
frC F4 372 "rows_of" (top 40) 649 142 1 3 (
frD F4 379 "bookings_up_to" "bookings_up_to" (top 41) 658 147 2 (
frC F4 384 "balances" (top 42) 664 149 3 3 (
frC HC 391 "own_values" (top 44) 675 152 5 9 (
frC HC 398 "values_within" (top 45) 690 157 1 5 (
frD HC 405 "valued" "valued" (top 46) 701 163 5 (
(410,(kT #[(kz "have" 709),(kz "owe" 710),(kz "own" 711),(kz "gain" 712),(kz "cost" 713)]))::
frB pj 418 "__init__" "Account.__init__" (bT (top 49) 0) 727 175 4 4 (
frB pj 425 "stands_on" "Account.stands_on" (bT (top 49) 1) 737 182 2 2 (
frB pj 432 "stands_later" "Account.stands_later" (bT (top 49) 2) 745 185 2 2 (
(439,(kT #[(kz "below" 753),(kz "currency" 754),(kz "first" 755),(kz "kind" 756),(kz "until" 757)]))::
(440,(kO (kY "dict") none (XD ((kE P "__module__" 722 (kz "evenhall.chart" 707))::(kE P "__firstlineno__" 726 (kI 173 725))::frM P [("__init__",736,424),("stands_on",744,431),("stands_later",752,438),("__static_attributes__",758,439),("__dict__",760,442),("__weakref__",762,443)] ((kE P "__doc__" 763 kN)::[])).toArray 4) #[]))::
(441,(q0 "Account" 441 440 715 723))::
(442,(q2 759 441))::
(443,(q1 761 441))::
frB pj 453 "__init__" "Chart.__init__" (bT (top 50) 0) 778 189 1 1 (
frB pj 460 "add_top" "Chart.add_top" (bT (top 50) 1) 785 192 3 3 (
frB pj 467 "add" "Chart.add" fQ 794 201 4 5 (
frD pj 474 "shut" "Chart.shut" (bT (top 50) 3) 805 216 3 (
frB pj 479 "has" "Chart.has" (bT (top 50) 4) 811 228 2 2 (
frB pj 486 "account" "Chart.account" (bT (top 50) 5) 819 231 2 2 (
frA 493 "kind_of" "Chart.kind_of" 827 236 2 2 [kS "self",kS "path"] (kO (kY "function") none (YH (FuncData.mk (kS "kind_of") (kS "Chart.kind_of") (Arguments.mk [] [(Arg.mk (kS "self") none (Pos.mk 236 16 236 20)),(Arg.mk (kS "path") none (Pos.mk 236 22 236 26))] none [] [] none []) (Z0 [(Stmt.Expr (Ys (Zl (kS "_wall") (Pos.mk 237 8 237 13)) [(ZD (Y5 12) 0 (Pos.mk 237 14 237 16))] [] (Pos.mk 237 8 237 17)) (Pos.mk 237 8 237 17))]) (Scope.mk ZX [((kS "self"),NameKind.local),((kS "path"),NameKind.local),((kS "_wall"),Zr)] false false []) 3 [] kN kN kN (kz "evenhall.chart" 707) none (kR 498) kN 0)) #[]) (
frA 500 "currency_of" "Chart.currency_of" 835 239 2 2 [kS "self",kS "path"] (kO (kY "function") none (YH (FuncData.mk (kS "currency_of") (kS "Chart.currency_of") (Arguments.mk [] [(Arg.mk (kS "self") none (Pos.mk 239 20 239 24)),(Arg.mk (kS "path") none (Pos.mk 239 26 239 30))] none [] [] none []) (Z0 [(Stmt.Expr (Ys (Zl (kS "_wall") (Pos.mk 240 8 240 13)) [(ZD (Y5 13) 0 (Pos.mk 240 14 240 16))] [] (Pos.mk 240 8 240 17)) (Pos.mk 240 8 240 17))]) (Scope.mk ZX [((kS "self"),NameKind.local),((kS "path"),NameKind.local),((kS "_wall"),Zr)] false false []) 3 [] kN kN kN (kz "evenhall.chart" 707) none (kR 505) kN 0)) #[]) (
frA 507 "span_of" "Chart.span_of" 843 242 2 2 [kS "self",kS "path"] (kO (kY "function") none (YH (FuncData.mk (kS "span_of") (kS "Chart.span_of") (Arguments.mk [] [(Arg.mk (kS "self") none (Pos.mk 242 16 242 20)),(Arg.mk (kS "path") none (Pos.mk 242 22 242 26))] none [] [] none []) (Z0 [(Stmt.Expr (Ys (Zl (kS "_wall") (Pos.mk 243 8 243 13)) [(ZD (Y5 14) 0 (Pos.mk 243 14 243 16))] [] (Pos.mk 243 8 243 17)) (Pos.mk 243 8 243 17))]) (Scope.mk ZX [((kS "self"),NameKind.local),((kS "path"),NameKind.local),((kS "_wall"),Zr)] false false []) 3 [] kN kN kN (kz "evenhall.chart" 707) none (kR 512) kN 0)) #[]) (
frA 514 "is_open" "Chart.is_open" 851 245 3 3 [kS "self",kS "path",kS "day"] (kO (kY "function") none (YH (FuncData.mk (kS "is_open") (kS "Chart.is_open") (Arguments.mk [] [(Arg.mk (kS "self") none (Pos.mk 245 16 245 20)),(Arg.mk (kS "path") none (Pos.mk 245 22 245 26)),(Arg.mk (kS "day") none (Pos.mk 245 28 245 31))] none [] [] none []) (Z0 [(Stmt.Expr (Ys (Zl (kS "_wall") (Pos.mk 246 8 246 13)) [(ZD (Y5 15) 0 (Pos.mk 246 14 246 16))] [] (Pos.mk 246 8 246 17)) (Pos.mk 246 8 246 17))]) (Scope.mk ZX [((kS "self"),NameKind.local),((kS "path"),NameKind.local),((kS "day"),NameKind.local),((kS "_wall"),Zr)] false false []) 3 [] kN kN kN (kz "evenhall.chart" 707) none (kR 519) kN 0)) #[]) (
frA 521 "beneath" "Chart.beneath" 860 248 2 2 [kS "self",kS "path"] (kO (kY "function") none (YH (FuncData.mk (kS "beneath") (kS "Chart.beneath") (Arguments.mk [] [(Arg.mk (kS "self") none (Pos.mk 248 16 248 20)),(Arg.mk (kS "path") none (Pos.mk 248 22 248 26))] none [] [] none []) (Z0 [(Stmt.Return (some (Ys (Zl (kS "sorted") (Pos.mk 249 15 249 21)) [(Yt (Ys (Yt (Zl (kS "self") (Pos.mk 249 22 249 26)) (kS "account") (Pos.mk 249 22 249 34)) [(Zl (kS "path") (Pos.mk 249 35 249 39))] [] (Pos.mk 249 22 249 40)) (kS "below") (Pos.mk 249 22 249 46))] [] (Pos.mk 249 15 249 47))) (Pos.mk 249 8 249 47))]) (Scope.mk ZX [((kS "self"),NameKind.local),((kS "path"),NameKind.local),((kS "sorted"),Zr)] false false []) 3 [] kN kN kN (kz "evenhall.chart" 707) none (kR 526) kN 0)) #[]) (
frB pj 528 "accounts" "Chart.accounts" (bT (top 50) 11) 868 251 1 1 (
(535,(kT #[(kz "by_path" 875)]))::
(536,(kO (kY "dict") none (XD ((kE P "__module__" 773 (kz "evenhall.chart" 707))::(kE P "__firstlineno__" 777 (kI 187 776))::frM P [("__init__",784,459),("add_top",793,466),("add",804,473),("shut",810,478),("has",818,485),("account",826,492),("kind_of",834,499),("currency_of",842,506),("span_of",850,513),("is_open",859,520),("beneath",867,527),("accounts",874,534),("__static_attributes__",876,535),("__dict__",878,538),("__weakref__",880,539)] ((kE P "__doc__" 881 kN)::[])).toArray 4) #[]))::
(537,(q0 "Chart" 537 536 766 774))::
(538,(q2 877 537))::
(539,(q1 879 537))::
frB Ao 549 "__init__" "Journal.__init__" (bT (top 52) 0) 898 256 1 1 (
frB Ao 556 "put" "Journal.put" (bT (top 52) 1) 905 260 5 6 (
frA 563 "many" "Journal.many" 917 267 1 1 [kS "self"] (kO (kY "function") none (YH (FuncData.mk (kS "many") (kS "Journal.many") (Arguments.mk [] [(Arg.mk (kS "self") none (Pos.mk 267 13 267 17))] none [] [] none []) (Z0 [(Stmt.Return (some (Ys (Zl (kS "len") (Pos.mk 268 15 268 18)) [(Yt (Zl (kS "self") (Pos.mk 268 19 268 23)) (kS "bookings") (Pos.mk 268 19 268 32))] [] (Pos.mk 268 15 268 33))) (Pos.mk 268 8 268 33))]) (Scope.mk ZX [((kS "self"),NameKind.local),((kS "len"),Zr)] false false []) 3 [] kN kN kN (kz "evenhall.journal" 884) none (kR 568) kN 0)) #[]) (
frA 570 "booking" "Journal.booking" 924 270 2 2 [kS "self",kS "number"] (kO (kY "function") none (YH (FuncData.mk (kS "booking") (kS "Journal.booking") (Arguments.mk [] [(Arg.mk (kS "self") none (Pos.mk 270 16 270 20)),(Arg.mk (kS "number") none (Pos.mk 270 22 270 28))] none [] [] none []) (Z0 [(Stmt.If (Expr.UnaryOp UnaryOp.Not (Ys (Zl (kS "is_among") (Pos.mk 271 15 271 23)) [(Zl (kS "number") (Pos.mk 271 24 271 30)),(ZD (Y5 0) 0 (Pos.mk 271 32 271 33)),(Expr.BinOp (Ys (Zl (kS "len") (Pos.mk 271 35 271 38)) [(Yt (Zl (kS "self") (Pos.mk 271 39 271 43)) (kS "bookings") (Pos.mk 271 39 271 52))] [] (Pos.mk 271 35 271 53)) Operator.Sub (ZD (Y5 1) 0 (Pos.mk 271 56 271 57)) (Pos.mk 271 35 271 57))] [] (Pos.mk 271 15 271 58)) (Pos.mk 271 11 271 58)) [(Stmt.Raise (some (Ys (Zl (kS "NoBooking") (Pos.mk 272 18 272 27)) [(ZD (Const.str (kS "there is no such booking")) 0 (Pos.mk 272 28 272 54))] [] (Pos.mk 272 18 272 55))) none (Pos.mk 272 12 272 55))] [] (Pos.mk 271 8 272 55)),(Stmt.Return (some (Expr.Subscript (Yt (Zl (kS "self") (Pos.mk 273 15 273 19)) (kS "bookings") (Pos.mk 273 15 273 28)) (Zl (kS "number") (Pos.mk 273 29 273 35)) (Pos.mk 273 15 273 36))) (Pos.mk 273 8 273 36))]) (Scope.mk ZX [((kS "self"),NameKind.local),((kS "number"),NameKind.local),((kS "is_among"),Zr),((kS "len"),Zr),((kS "NoBooking"),Zr)] false false []) 3 [] kN kN kN (kz "evenhall.journal" 884) none (kR 575) kN 0)) #[]) (
frB Ao 577 "every" "Journal.every" (bT (top 52) 4) 932 275 1 1 (
frA 584 "undone_by" "Journal.undone_by" 939 278 2 2 [kS "self",kS "number"] (kO (kY "function") none (YH (FuncData.mk (kS "undone_by") (kS "Journal.undone_by") (Arguments.mk [] [(Arg.mk (kS "self") none (Pos.mk 278 18 278 22)),(Arg.mk (kS "number") none (Pos.mk 278 24 278 30))] none [] [] none []) (Z0 [(Stmt.Expr (Ys (Zl (kS "_wall") (Pos.mk 279 8 279 13)) [(ZD (Y5 16) 0 (Pos.mk 279 14 279 16))] [] (Pos.mk 279 8 279 17)) (Pos.mk 279 8 279 17))]) (Scope.mk ZX [((kS "self"),NameKind.local),((kS "number"),NameKind.local),((kS "_wall"),Zr)] false false []) 3 [] kN kN kN (kz "evenhall.journal" 884) none (kR 589) kN 0)) #[]) (
(591,(kT #[(kz "bookings" 947),(kz "undoings" 948)]))::
(592,(kO (kY "dict") none (XD ((kE P "__module__" 893 (kz "evenhall.journal" 884))::(kE P "__firstlineno__" 897 (kI 254 896))::frM P [("__init__",904,555),("put",916,562),("many",923,569),("booking",931,576),("every",938,583),("undone_by",946,590),("__static_attributes__",949,591),("__dict__",951,594),("__weakref__",953,595)] ((kE P "__doc__" 954 kN)::[])).toArray 4) #[]))::
(593,(q0 "Journal" 593 592 886 894))::
(594,(q2 950 593))::
(595,(q1 952 593))::
frC nV 598 "is_coin_count" (top 54) 959 281 1 1 (
frB nV 612 "__init__" "Rates.__init__" (bT (top 55) 0) 978 285 1 1 (
frB nV 619 "quote" "Rates.quote" (bT (top 55) 1) 985 289 6 6 (
frB nV 626 "keep" "Rates.keep" eO 997 301 4 5 (
frB nV 633 "link" "Rates.link" (bT (top 55) 3) 1008 307 3 4 (
frD nV 640 "newest" "Rates.newest" dM 1018 311 4 (
frD nV 645 "neighbours" "Rates.neighbours" (bT (top 55) 5) 1024 321 3 (
frA 650 "currencies" "Rates.currencies" 1030 325 1 1 [kS "self"] (kO (kY "function") none (YH (FuncData.mk (kS "currencies") (kS "Rates.currencies") (Arguments.mk [] [(Arg.mk (kS "self") none (Pos.mk 325 19 325 23))] none [] [] none []) (Z0 [(Stmt.Return (some (Ys (Zl (kS "sorted") (Pos.mk 326 15 326 21)) [(Yt (Zl (kS "self") (Pos.mk 326 22 326 26)) (kS "beside") (Pos.mk 326 22 326 33))] [] (Pos.mk 326 15 326 34))) (Pos.mk 326 8 326 34))]) (Scope.mk ZX [((kS "self"),NameKind.local),((kS "sorted"),Zr)] false false []) 3 [] kN kN kN (kz "evenhall.rates" 957) none (kR 655) kN 0)) #[]) (
frA 657 "quotes" "Rates.quotes" 1037 328 1 6 [kS "self",kS "told",kS "pair",kS "by_day",kS "day",kS "worth"] (kO (kY "function") none (YH (FuncData.mk (kS "quotes") (kS "Rates.quotes") (Arguments.mk [] [(Arg.mk (kS "self") none (Pos.mk 328 15 328 19))] none [] [] none []) (Z0 [(Stmt.Assign [(Zl (kS "told") (Pos.mk 329 8 329 12))] (Expr.List [] (Pos.mk 329 15 329 17)) (Pos.mk 329 8 329 17)),(Stmt.For (Expr.Tuple [(Zl (kS "pair") (Pos.mk 330 12 330 16)),(Zl (kS "by_day") (Pos.mk 330 18 330 24))] 0 (Pos.mk 330 12 330 24)) (Ys (Yt (Yt (Zl (kS "self") (Pos.mk 330 28 330 32)) (kS "by_pair") (Pos.mk 330 28 330 40)) (kS "items") (Pos.mk 330 28 330 46)) [] [] (Pos.mk 330 28 330 48)) [(Stmt.For (Expr.Tuple [(Zl (kS "day") (Pos.mk 331 16 331 19)),(Zl (kS "worth") (Pos.mk 331 21 331 26))] 0 (Pos.mk 331 16 331 26)) (Ys (Yt (Zl (kS "by_day") (Pos.mk 331 30 331 36)) (kS "items") (Pos.mk 331 30 331 42)) [] [] (Pos.mk 331 30 331 44)) [(Stmt.Expr (Ys (Yt (Zl (kS "told") (Pos.mk 332 16 332 20)) (kS "append") (Pos.mk 332 16 332 27)) [(Expr.Tuple [(Zl (kS "day") (Pos.mk 332 29 332 32)),(Expr.Subscript (Zl (kS "pair") (Pos.mk 332 34 332 38)) (ZD (Y5 0) 0 (Pos.mk 332 39 332 40)) (Pos.mk 332 34 332 41)),(Expr.Subscript (Zl (kS "worth") (Pos.mk 332 43 332 48)) (ZD (Y5 0) 0 (Pos.mk 332 49 332 50)) (Pos.mk 332 43 332 51)),(Expr.Subscript (Zl (kS "pair") (Pos.mk 332 53 332 57)) (ZD (Y5 1) 0 (Pos.mk 332 58 332 59)) (Pos.mk 332 53 332 60)),(Expr.Subscript (Zl (kS "worth") (Pos.mk 332 62 332 67)) (ZD (Y5 1) 0 (Pos.mk 332 68 332 69)) (Pos.mk 332 62 332 70))] 0 (Pos.mk 332 28 332 71))] [] (Pos.mk 332 16 332 72)) (Pos.mk 332 16 332 72))] [] (Pos.mk 331 12 332 72))] [] (Pos.mk 330 8 332 72)),(Stmt.Return (some (Ys (Zl (kS "sorted") (Pos.mk 333 15 333 21)) [(Zl (kS "told") (Pos.mk 333 22 333 26))] [] (Pos.mk 333 15 333 27))) (Pos.mk 333 8 333 27))]) (Scope.mk ZX [((kS "self"),NameKind.local),((kS "told"),NameKind.local),((kS "pair"),NameKind.local),((kS "by_day"),NameKind.local),((kS "day"),NameKind.local),((kS "worth"),NameKind.local),((kS "sorted"),Zr)] false false []) 3 [] kN kN kN (kz "evenhall.rates" 957) none (kR 662) kN 0)) #[]) (
(664,(kT #[(kz "beside" 1049),(kz "by_pair" 1050)]))::
(665,(kO (kY "dict") none (XD ((kE P "__module__" 973 (kz "evenhall.rates" 957))::(kE P "__firstlineno__" 977 (kI 283 976))::frM P [("__init__",984,618),("quote",996,625),("keep",1007,632),("link",1017,639),("newest",1023,644),("neighbours",1029,649),("currencies",1036,656),("quotes",1048,663),("__static_attributes__",1051,664),("__dict__",1053,667),("__weakref__",1055,668)] ((kE P "__doc__" 1056 kN)::[])).toArray 4) #[]))::
(666,(q0 "Rates" 666 665 966 974))::
(667,(q2 1052 666))::
(668,(q1 1054 666))::
frC dL 671 "_law_cell_at" (top 57) 1061 335 2 2 (
frC dL 678 "_law_mixed" (top 58) 1069 339 2 2 (
frC dL 685 "_law_whole" (top 59) 1077 341 1 1 (
frD dL 692 "_law_names" "_law_names" (top 60) 1084 343 1 (
frC dL 697 "_law_paths" (top 61) 1090 354 2 8 (
frC dL 704 "_law_chart" (top 62) 1104 364 1 4 (
frD dL 711 "_law_currencies" "_law_currencies" (top 63) 1114 372 1 (
frC dL 716 "_law_first" (top 64) 1120 377 1 5 (
frC dL 723 "_law_day" (top 65) 1131 384 2 2 (
frC dL 730 "_law_coins" (top 66) 1139 390 1 2 (
frC dL 737 "_law_amount" (top 67) 1147 397 1 2 (
frC dL 744 "_law_rates" (top 68) 1155 404 3 10 (
frC dL 751 "_law_rows" (top 69) 1171 414 3 7 (
frC dL 758 "_law_near" (top 70) 1184 421 2 3 (
frC dL 765 "_law_owns" cO 1193 426 4 13 (
frD dL 772 "_law_word" "_law_word" (top 72) 1212 444 5 (
frD dL 777 "_law_told" "_law_told" bw 1218 452 3 (
frC dL 782 "_law_ends" cF 1224 474 3 6 (
frD dL 789 "law" "law" c9 1236 486 1 ( [])))))))))))))))))))))))))))))))))))))))))))))))))))))))))))))))))))))))))))))))))))))
noncomputable def frag(P:Params):Ws:=by
 refine(fun(x:Ws) (_:x=E7 P)=>x) ?l ?h
 case h=>
  dsimp only[E7,frB,frC,frD,frA,frX,frP,frM,Nat.reduceAdd];dsimp only[OfNat.ofNat,instOfNatNat];exact rfl
noncomputable def adrs:List WH:=(frag { strHash:=fun _=>0,shareClass:=fun _=>0,mergeTok:=id,idOf:=fun _=>0,idOfShared:=fun _ _=>0,followText:=fun _=>true,idOfImm:=fun _=>0 }).map (·.1)
def adrs_eq(P:Params):adrs=(frag P).map (·.1):=by kernel_rfl
noncomputable def vw:WF:=PySem.W.view qj [0,2,3,4,5,6,7,8,9,10,11,12,13,14,16,17,18,19,21,23,25,27,28,29,30,31,33,34,35,36,38,40,41,42,44,45,46,48,49,50,52,54,55,57,58,59,60,61,62,63,64,65,66,67,68,69,70,71,72,73,74,75]
open PySem.W in
noncomputable def tree0(P:Params):BT:=(.node (boot_o_0 P) (.node (boot_o_1 P) (.node (boot_o_3 P) (.node (boot_o_7 P) .nil .nil) .nil) (.node (boot_o_5 P) (.node (boot_o_9 P) .nil .nil) .nil)) (.node (boot_o_2 P) (.node (boot_o_4 P) (.node (boot_o_8 P) .nil .nil) .nil) (.node (boot_o_6 P) (.node (boot_o_10 P) .nil .nil) .nil)))
open PySem.W PyProof.Rows in
noncomputable def ran(p:WF)(t:BT)(b:Wz)(w:WE)(os:OsState):Option SharedT:=TR.go p w 11 (some (.ref 6)) 12686 ⟨t,11,b.life,Array.mk [],boot_drawn,boot_toks,os⟩ (topStub p)
def CN{α β γ:Type}{o:Option α}{f:α->β}{g:α->γ}{a:β}{b:γ}(e:o.map (fun x=>(f x,g x))=some (a,b)):o.map f=some a:=by
 cases o with
 |none=>cases e
 |some x=>cases e;rfl
def Bx{α β γ:Type}{o:Option α}{f:α->β}{g:α->γ}{a:β}{b:γ}(e:o.map (fun x=>(f x,g x))=some (a,b)):o.map g=some b:=by
 cases o with
 |none=>cases e
 |some x=>cases e;rfl
noncomputable def runP(p v:WF)(t:PySem.W.BT)(b:Wz)(l:List WH)(w:WE)(os:OsState):=(ran p t b w os).map fun x=>(TR.lookB p b x.abs,((TR.s1 v x.abs,TR.s3 v x.abs),l.map (TR.atT x)))
noncomputable def runQ(p v:WF)(c:PySem.W.WRecords)(t:PySem.W.BT)(b:Wz)(w:WE)(os:OsState):=(ran p t b w os).map fun x=>TR.s2 p v c x.abs
open PyProof PyProof.Rows PySem.W in
noncomputable def goodP(v:WF)(r:List (Option Obj))(_:OsState):=some (true,((expectedOf v,TR.d3 v),r))
lay_quick K20.runP
lay_quick K20.runQ
lay_quick K20.goodP
def gP(w:WE):PySem.W.Fast.tw5650979003085667823 qj vw (tree0 w.params) (PySem.W.boot_heap w.params) adrs w=PySem.W.Fast.tw5626592250252666769 vw ((frag w.params).map fun p=>some p.2):=by kernel_rfl
open PyProof PyProof.Rows in
def gQ(w:WE):PySem.W.Fast.tw1861132057423841780 qj vw (PySem.W.RowW.records (PySem.W.OpenRow.toRowW (PySem.W.OpenLaw.row jw))) (tree0 w.params) (PySem.W.boot_heap w.params) w=fun _=>some (PySem.bltViewBooted,true,true):=by kernel_rfl
def left:PySem.W.LeftO qj vw [] (fun s=>PySem.W.xlAt vw [] s&&PySem.W.recOk (PySem.W.RowW.records (PySem.W.OpenRow.toRowW (PySem.W.OpenLaw.row jw))) s) (Xm frag adrs adrs_eq).obs (Xm frag adrs adrs_eq).val 12686:=
 TR.left (lo:=11) (an:=some (.ref 6)) (tr:=tree0) (PySem.W.boot_open (by kernel_rfl) (by decide) (fun s=>by kernel_rfl)) (fun P=>by kernel_rfl) (fun P=>by kernel_rfl) fun w=>funext fun os=>
  have a:=congrFun ((congrFun (congrFun (congrFun (congrFun (congrFun (congrFun PySem.W.Fast.te5650979003085667823 _) _) _) _) _) w).trans ((gP w).trans (congrFun (congrFun PySem.W.Fast.te5626592250252666769 _) _).symm)) os;have b:=congrFun ((congrFun (congrFun (congrFun (congrFun (congrFun (congrFun PySem.W.Fast.te1861132057423841780 _) _) _) _) _) w).trans (gQ w)) os
  TR.three (CN a) (TR.seen3 (CN (CN (Bx a))) b (Bx (CN (Bx a)))) (TR.atTs (Bx (Bx a)))
noncomputable def wsaid(l:PySem.W.OpenLaw):Bool:=PySem.W.OpenLaw.wellSaid l
lay_quick K20.wsaid
def ws:wsaid jw=true:=(congrFun PySem.W.Fast.te3911158621253576785 _).trans (by kernel_rfl)
end K20
namespace L2
open PySem PySem.Spec PyProof.Rows
abbrev Key:=Sum Int Str
noncomputable def pW:Key->WI->Bool
 | .inl k,v=>Value.isInt k v
 | .inr x,v=>Value.isStrOf x v
noncomputable def Kw(w:WE):Key->Int
 | .inl k=>hashInt k
 | .inr x=>hashStr w x
theorem ck:∀ {k:Key} {v:WI},pW k v=true->(∃i t,k=Sum.inl i/\v=Value.int i t)\/(∃x t,k=Sum.inr x/\v=XY x t)
 | .inl i,v,h=>by
  obtain⟨t,e⟩:=Value.isInt_shape (k:=i) (v:=v) h;exact .inl ⟨i,t,rfl,e⟩
 | .inr x,v,h=>by
  obtain⟨t,e⟩:=Value.isStrOf_shape (x:=x) (v:=v) h;exact .inr ⟨x,t,rfl,e⟩
def yN(i:Int)(t:Tok):pW (.inl i) (.int i t)=true:=by simp[pW,Value.isInt]
def yF(x:Str)(t:Tok):pW (.inr x) (.str x t)=true:=by simp[pW,Value.isStrOf]
def GL(a b:Int):decide ((Sum.inl a:Key)=Sum.inl b)=(a==b):=by
 by_cases e:a=b
 .subst e;simp
 .have h:¬ (Sum.inl a:Key)=Sum.inl b:=fun q=>e (Sum.inl.inj q)
  rw[VW h];exact(beq_eq_false_iff_ne.mpr e).symm
def Gg(a b:Str):decide ((Sum.inr a:Key)=Sum.inr b)=decide (a=b):=by
 by_cases e:a=b
 .subst e;simp
 .have h:¬ (Sum.inr a:Key)=Sum.inr b:=fun q=>e (Sum.inr.inj q)
  rw[VW h,VW e]
def FH(a:Int)(b:Str):decide ((Sum.inl a:Key)=Sum.inr b)=false:=VW (fun q=>nomatch q)
def Gk(a:Str)(b:Int):decide ((Sum.inr a:Key)=Sum.inl b)=false:=VW (fun q=>nomatch q)
noncomputable def bJ(prog:WF)(w:WE):PySem.KeyKind prog w Key where
 is:=pW
 hash:=Kw w
 inj:=fun v a b ha hb=>by
  obtain⟨i,t,rfl,rfl⟩|⟨x,t,rfl,rfl⟩:=ck ha
  .obtain⟨j,u,rfl,e⟩|⟨y,u,rfl,e⟩:=ck hb
   .injection e with e1 _;rw[e1]
   .exact nomatch e
  .obtain⟨j,u,rfl,e⟩|⟨y,u,rfl,e⟩:=ck hb
   .exact nomatch e
   .injection e with e1 _;rw[e1]
 byValue:=fun k v h=>by
  obtain⟨i,t,rfl,rfl⟩|⟨x,t,rfl,rfl⟩:=ck h <;> rfl
 pyHash:=fun hv h=>by
  obtain⟨i,t,rfl,rfl⟩|⟨x,t,rfl,rfl⟩:=ck hv
  .exact wpAny_pyHash_int h
  .exact wpAny_pyHash_str h
 eqBool:=fun hu hv h=>by
  obtain⟨i,t,rfl,rfl⟩|⟨x,t,rfl,rfl⟩:=ck hu
  .obtain⟨j,u,rfl,rfl⟩|⟨y,u,rfl,rfl⟩:=ck hv
   .rw[GL]at h;exact wpAny_eqBool_int h
   .rw[FH]at h;exact SeqAt.EqAt.int_str i t y u _ _ _ _ h
  .obtain⟨j,u,rfl,rfl⟩|⟨y,u,rfl,rfl⟩:=ck hv
   .rw[Gk]at h;exact SeqAt.EqAt.str_int x t j u _ _ _ _ h
   .rw[Gg]at h;exact wpAny_eqBool_str h
 «strs»:=fun k x t v h=>by
  obtain⟨i,u,rfl,e⟩|⟨y,u,rfl,e⟩:=ck h
  .exact nomatch e
  .injection e with e1 _
   subst e1;cases v <;> rfl
def uz(prog:WF)(w:WE)(i:Int)(t:Tok):(bJ prog w).is (.inl i) (.int i t)=true:=yN i t
def um(prog:WF)(w:WE)(x:Str)(t:Tok):(bJ prog w).is (.inr x) (.str x t)=true:=yF x t
set_option genInjectivity true in
inductive V where
 |non|bl (b:Bool)|int (i:Int)|str (x:Str)|byt (b:Array UInt8)|flt (b:UInt64)|ref (a:WH)|ty (n:String)
 deriving DecidableEq
def WQ:V->WI->Prop
 | .non,u=>u=Ze
 | .bl b,u=>u=Value.bool b
 | .int i,u=>∃t,u=Value.int i t
 | .str x,u=>∃t,u=XY x t
 | .byt b,u=>∃t,u=Value.bytes b t
 | .flt b,u=>∃t,u=Value.float b t
 | .ref a,u=>u=yJ a
 | .ty n,u=>u=Xg n
abbrev WP:List V->List WI->Prop:=Paired WQ
def WP.length{xs:List V}{us:List WI}(r:WP xs us):xs.length=us.length:=Xl r
theorem WP.get:∀ {xs:List V} {us:List WI} {i:Nat} {x:V},WP xs us->xs[i]? = some x->∃u,us[i]? = some u/\WQ x u
 |_,_,_,_,.nil,e=>by simp at e
 |_,_,0,_,.cons r _,e=>by simp at e;subst e;exact⟨_,rfl,r⟩
 |_,_,i+1,x,.cons _ t,e=>by
  obtain⟨u,h1,h2⟩:=WP.get (i:=i) (x:=x) t (by simpa using e);exact⟨u,by simpa using h1,h2⟩
theorem WP.append:∀ {xs ys:List V} {us ws:List WI},WP xs us->WP ys ws->WP (xs++ys) (us++ws)
 |_,_,_,_,.nil,s=>s
 |_,_,_,_,.cons r t,s=>.cons r (WP.append t s)
theorem WP.take:∀ {xs:List V} {us:List WI} (n:Nat),WP xs us->WP (xs.take n) (us.take n)
 |_,_,0,_=>.nil
 |_,_,_+1,.nil=>.nil
 |_,_,n+1,.cons r t=>.cons r (WP.take n t)
theorem WP.drop:∀ {xs:List V} {us:List WI} (n:Nat),WP xs us->WP (xs.drop n) (us.drop n)
 |_,_,0,r=>r
 |_,_,_+1,.nil=>.nil
 |_,_,n+1,.cons _ t=>WP.drop n t
def RelO:Option V->Option WI->Prop
 |some v,some u=>WQ v u
 |none,none=>True
 |_,_=>False
def KV{κ:Type}:List (κ × V)->List (κ × WI)->Prop:=Paired fun(p:κ × V) (q:κ × WI)=>p.1=q.1/\WQ p.2 q.2
noncomputable def kV:Key->V
 | .inl i=>.int i
 | .inr x=>.str x
set_option genInjectivity true in
inductive HO where
 |lst (xs:List V)
 |tup (xs:List V)
 |dK (WU:List (Key × V))|dT (WU:List (List Key × V))
 |set (S:Int->Bool) (n:Nat)
 |ins (C dx:WH) (fs:List (Str × V))
 |own (x:WH)
 |xd (fs:List (Str × V))
 |met (f x:WH)
 |rng (lo hi:Int)
 |frz (o:Obj) (u:HO)
 |tbl (ps:Array WI)
 |ext (φ:Wz->Prop)
abbrev Hp:=WH->Option HO
noncomputable def upd(H:Hp)(a:WH)(o:HO):Hp:=fun b=>if b=a then some o else H b
def aa:upd H a o a=some o:=by unfold upd;rw[VY rfl]
def ag(h:b≠a):upd H a o b=H b:=by unfold upd;rw[VZ h]
def i6:upd (upd H a o) a u=upd H a u:=by
 funext b;unfold upd;split <;> rfl
def gL{H:Hp}{a b:WH}{o u:HO}(h:H a=some o)(h':H b=some u)(d:o≠u):a≠b:=by
 intro e;subst e;rw[h]at h';exact d (Zs h')
def aq{H:Hp}{a b:WH}{o:HO}(h:H a=some o)(h':H b=none):a≠b:=by
 intro e;subst e;rw[h]at h';cases h'
section
variable(P:WF)(w:WE)
def WO(H:Hp)(h:Wz)(a:WH):HO->Prop
 | .lst xs=>xs.length<=WC/\∃(WV:List WI) (n:Nat),WP xs WV/\h.get? a=some { cls:=.type "list",data:=.seq WV.toArray n }
 | .tup xs=>xs.length<=WC/\∃WV:List WI,WP xs WV/\IsTup h a WV.toArray
 | .dK WU=>WU.length<=WC/\(a==ZH)=false/\∃vs,KV WU vs/\h.DictOf (bJ P w) a vs
 | .dT WU=>WU.length<=WC/\(a==ZH)=false/\∃xs:List (List Key × WH × WI),
  Paired (fun(p:List Key × V) (q:List Key × WH × WI)=>p.1=q.1/\H q.2.1=some (.tup (p.1.map kV))/\WQ p.2 q.2.2) WU xs /\
  ∃o es ep,h.get? a=some o/\o.ExactDict/\o.data = .dict es ep/\es.toList=xs.map (entryOfKey (tupleKind (bJ P w)))/\(xs.map (·.1)).Nodup
 | .set S n=>h.SetOf (intKind P w) a S n
 | .ins C dx fs=>H dx=some (.own a)/\fs.length<=1000/\dx≠a/\h.get? a=some (Yd C dx) /\
  ∃mA,h.Ns1 dx mA/\(∀f,RelO (fs.lookup f) (mA f))/\PySem.Within mA (fs.map (·.1))
 | .own _=>∃o,h.get? a=some o
 | .xd fs=>∃mA,h.Ns1 a mA/\∀f,RelO (fs.lookup f) (mA f)
 | .rng lo hi=>∃t u v,h.get? a=some { cls:=.type "range",data:=.fields #[.int lo t,.int hi u,.int 1 v] }
 | .frz o u=>h.get? a=some o/\WO H h a u
 | .tbl ps=>h.get? a=some { cls:=.none,data:=.fields ps }
 | .met f x=>h.get? a=some (PySem.W.methodObj (.ref f) (.ref x))
 | .ext φ=>φ h/\(∃o,h.get? a=some o)/\∀h1 h2:Wz,φ h1->(∀o,h1.get? a=some o->h2.get? a=some o)->φ h2
def HOk(H:Hp)(h:Wz):Prop:=∀a o,H a=some o->WO P w H h a o
end
section
variable{P:WF}{w:WE}{H H':Hp}{h h':Wz}{a:WH}{o:HO}
def WO.lt(x:WO P w H h a o):a<h.objs.size:=by
 cases o with
 |lst xs=>obtain⟨_,_,_,_,e⟩:=x;exact wu e
 |tup xs=>obtain⟨_,_,_,p⟩:=x;exact p.lt
 |dK WU=>obtain⟨_,_,_,_,o,_,_,e,_⟩:=x;exact wu e
 |dT WU=>obtain⟨_,_,_,_,o,_,_,e,_⟩:=x;exact wu e
 |set S n=>obtain⟨o,_,_,_,e,_⟩:=x;exact wu e
 |ins C dx fs=>obtain⟨_,_,_,e,_⟩:=x;exact wu e
 |own y=>obtain⟨_,e⟩:=x;exact wu e
 |xd fs=>obtain⟨_,⟨_,_,_,e,_⟩,_⟩:=x;exact wu e
 |rng lo hi=>obtain⟨_,_,_,e⟩:=x;exact wu e
 |frz ob u=>obtain⟨e,_⟩:=x;exact wu e
 |tbl ps=>exact wu (show h.get? a=some _ from x)
 |met f y=>exact wu (show h.get? a=some _ from x)
 |ext φ=>obtain⟨_,⟨_,e⟩,_⟩:=x;exact wu e
theorem Paired.mapP{α β:Type}{F G:α->β->Prop}:∀ {l₁:List α} {l₂:List β},Paired F l₁ l₂->(∀a b,F a b->G a b)->Paired G l₁ l₂
 |_,_,.nil,_=>.nil
 |_,_,.cons r t,f=>.cons (f _ _ r) (Paired.mapP t f)
def WO.stay(x:WO P w H h a o)(k:∀b u,(b=a\/H b=some (.own a))->h.get? b=some u->h'.get? b=some u)
 (ho:∀b,H b=some (.own a)->H' b=some (.own a)) (ht:∀b xs,H b=some (.tup xs)->H' b=some (.tup xs)):WO P w H' h' a o:=by
 induction o with
 |lst xs=>obtain⟨z,WV,n,r,e⟩:=x;exact⟨z,WV,n,r,k _ _ (.inl rfl) e⟩
 |tup xs=>obtain⟨z,WV,r,ob,e,c⟩:=x;exact⟨z,WV,r,ob,k _ _ (.inl rfl) e,c⟩
 |dK WU=>obtain⟨z,y,vs,r,ob,es,ep,e,c⟩:=x;exact⟨z,y,vs,r,ob,es,ep,k _ _ (.inl rfl) e,c⟩
 |dT WU=>
  obtain⟨z,y,xs,r,ob,es,ep,e,c⟩:=x;exact⟨z,y,xs,Paired.mapP r fun p q z=>⟨z.1,ht _ _ z.2.1,z.2.2⟩,ob,es,ep,k _ _ (.inl rfl) e,c⟩
 |set S n=>obtain⟨ob,es,ep,t,e,c⟩:=x;exact⟨ob,es,ep,t,k _ _ (.inl rfl) e,c⟩
 |ins C dx fs=>
  obtain⟨d,z,ne,e,mA,⟨od,es,ep,e2,c⟩,r⟩:=x;exact⟨ho _ d,z,ne,k _ _ (.inl rfl) e,mA,⟨od,es,ep,k _ _ (.inr d) e2,c⟩,r⟩
 |own y=>obtain⟨ob,e⟩:=x;exact⟨ob,k _ _ (.inl rfl) e⟩
 |xd fs=>obtain⟨mA,⟨od,es,ep,e,c⟩,r⟩:=x;exact⟨mA,⟨od,es,ep,k _ _ (.inl rfl) e,c⟩,r⟩
 |rng lo hi=>obtain⟨t,u,v,e⟩:=x;exact⟨t,u,v,k _ _ (.inl rfl) e⟩
 |frz ob u ih=>obtain⟨e,q⟩:=x;exact⟨k _ _ (.inl rfl) e,ih q⟩
 |tbl ps=>
  have e:h.get? a=some { cls:=.none,data:=.fields ps }:=x;show h'.get? a=some { cls:=.none,data:=.fields ps };exact k a _ (.inl rfl) e
 |met f y=>
  have e:h.get? a=some (PySem.W.methodObj (.ref f) (.ref y)):=x;show h'.get? a=some (PySem.W.methodObj (.ref f) (.ref y));exact k a _ (.inl rfl) e
 |ext φ=>obtain⟨p,⟨o,e⟩,st⟩:=x;exact⟨st _ _ p fun o q=>k _ _ (.inl rfl) q,⟨o,k _ _ (.inl rfl) e⟩,st⟩
def HOk.lt(x:HOk P w H h)(e:H a=some o):a<h.objs.size:=(x a o e).lt
def HOk.fresh(x:HOk P w H h)(e:h.objs.size<=a):H a=none:=by
 cases q:H a with
 |none=>rfl
 |some u=>exact VT (tS (x.lt q) e) (Yu _)
def HOk.kept(x:HOk P w H h)(k:∀b u,h.get? b=some u->h'.get? b=some u):HOk P w H h':=fun a o e=>
 (x a o e).stay (fun b u _ q=>k b u q) (fun _ q=>q) fun _ _ q=>q
def HOk.laid(x:HOk P w H h)(k:∀b u,h.get? b=some u->h'.get? b=some u)(hp:h.objs.size<=a)(new:WO P w (upd H a o) h' a o):HOk P w (upd H a o) h':=fun b u e=>by
 have hn:=x.fresh hp;by_cases hb:b=a
 .subst hb;rw[aa]at e;cases e;exact new
 .rw[ag hb]at e
  exact(x b u e).stay (fun c v _ q=>k c v q) (fun c q=>by rw[ag (aq q hn)];exact q) fun c xs q=>by rw[ag (aq q hn)];exact q
end
def Rd(H:Hp)(a:WH)(u:HO):Prop:=H a=some u\/∃o,H a=some (.frz o u)
def Rd.ok{P:WF}{w:WE}{H:Hp}{h:Wz}{a:WH}{u:HO}(r:Rd H a u)(x:HOk P w H h):WO P w H h a u:=by
 obtain r|⟨o,r⟩:=r
 .exact x a u r
 .obtain⟨_,q⟩:=x a _ r
  exact q
def Mut:Option HO->Prop
 |some (.lst _)=>True
 |some (.dK _)=>True
 |some (.dT _)=>True
 |some (.set _ _)=>True
 |some (.ins _ _ _)=>True
 |some (.ext _)=>True
 |_=>False
section
variable{P:WF}{w:WE}{H:Hp}{h h':Wz}{x e:WH}{o':HO}
def HOk.write(ok:HOk P w H h)(mu:Mut (H x))(he:e=x\/H e=some (.own x))(k:∀b u,b≠e->h.get? b=some u->h'.get? b=some u)(heo:∃u,h'.get? e=some u)
 (new:WO P w (upd H x o') h' x o'):HOk P w (upd H x o') h':=fun b u q=>by
 have nown:∀c y,H c=some (.own y)->c≠x:=fun c y r z=>by subst z;rw[r]at mu;exact mu
 have ntup:∀c xs,H c=some (.tup xs)->c≠x:=fun c xs r z=>by subst z;rw[r]at mu;exact mu
 by_cases hb:b=x
 .subst hb;rw[aa]at q;cases q;exact new
 .rw[ag hb]at q
  by_cases hbe:b=e
  .have q':H b=some (.own x):=by
    obtain z|z:=he
    .exact VT (hbe.trans z) hb
    .rw[hbe];exact z
   rw[q]at q';cases q';obtain⟨v,hv⟩:=heo;exact⟨v,by rw[hbe];exact hv⟩
  .refine(ok b u q).stay (fun c v hc r=>k c v ?_ r) (fun c r=>by rw[ag (nown c b r)];exact r) fun c xs r=>by rw[ag (ntup c xs r)];exact r
   obtain rfl|hc:=hc
   .exact hbe
   .rintro rfl
    obtain z|z:=he
    .exact nown c b hc z
    .rw[hc]at z;cases z;exact hb rfl
end
structure Un(fs ex:List WH)(H H':Hp)(h h':Wz):Prop where
 keep:∀b o,h.get? b=some o->H b=none->b∉fs->b∉ex->h'.get? b=some o
 slot:∀b o,h.get? b=some o->H b=none->b∈fs->b∉ex->∃sl,h'.get? b=some { o with slots:=sl }
 free:∀b o,h.get? b=some o->H b=none->b∉ex->H' b=none
 there:∀b o,h.get? b=some o->b∉ex->∃o',h'.get? b=some o'
 tups:∀b xs,H b=some (.tup xs)->H' b=some (.tup xs)
 frzs:∀b o u,H b=some (.frz o u)->H' b=some (.frz o u)
 tbls:∀b ps,H b=some (.tbl ps)->∃more,H' b=some (.tbl (ps++more))
section
variable{fs fs' ex ex':List WH}{H H1 H2:Hp}{h h1 h2 h':Wz}{a x e:WH}{o:HO}
def Un.any(u:Un fs ex H H1 h h1){b:WH}{ob:Obj}(q:h.get? b=some ob)(n:H b=none)(hx:b∉ex):∃sl,h1.get? b=some { ob with slots:=sl }:=by
 by_cases hb:b∈fs
 .exact u.slot b ob q n hb hx
 .exact⟨ob.slots,u.keep b ob q n hb hx⟩
def Un.kept(k:∀b u,h.get? b=some u->h'.get? b=some u):Un fs ex H H h h':=
 ⟨fun b ob q _ _ _=>k b ob q,fun b ob q _ _ _=>⟨ob.slots,k b ob q⟩,fun _ _ _ n _=>n,fun b ob q _=>⟨ob,k b ob q⟩,fun _ _ q=>q,fun _ _ _ q=>q,fun _ ps q=>⟨#[],by rw[q];simp⟩⟩
def Un.refl:Un fs ex H H h h:=Un.kept fun _ _ q=>q
def Un.laid(k:∀b u,h.get? b=some u->h'.get? b=some u)(hp:h.objs.size<=a)(hn:H a=none):Un fs ex H (upd H a o) h h' where
 keep:=fun b u q _ _ _=>k b u q
 slot:=fun b u q _ _ _=>⟨u.slots,k b u q⟩
 free:=fun b u q n _=>by rw[ag (Zx (tS (wu q) hp))];exact n
 there:=fun b u q _=>⟨u,k b u q⟩
 tups:=fun b xs q=>by rw[ag (aq q hn)];exact q
 frzs:=fun b u xs q=>by rw[ag (aq q hn)];exact q
 tbls:=fun b ps q=>⟨#[],by rw[ag (aq q hn),q];simp⟩
def Un.write(mu:Mut (H x))(he:e=x\/H e=some (.own x))(k:∀b u,b≠e->h.get? b=some u->h'.get? b=some u)(heo:∃u,h'.get? e=some u):Un fs ex H (upd H x o) h h':=by
 have hx:∀b,H b=none->b≠x:=fun b n z=>by subst z;rw[n]at mu;exact mu
 have hb:∀b,H b=none->b≠e:=fun b n z=>by
  subst z;obtain r|r:=he
  .exact hx b n r
  .rw[n]at r;cases r
 have hm:∀b u,H b=some u -> ¬ Mut (some u)->b≠x:=fun b u q nm z=>by subst z;rw[q]at mu;exact nm mu
 refine⟨fun b u q n _ _=>k b u (hb b n) q,fun b u q n _ _=>⟨u.slots,k b u (hb b n) q⟩,fun b u q n _=>by rw[ag (hx b n)];exact n,fun b u q _=>?_,
  fun b xs q=>by rw[ag (hm b _ q fun z=>z)];exact q,fun b u xs q=>by rw[ag (hm b _ q fun z=>z)];exact q,fun b ps q=>⟨#[],by rw[ag (hm b _ q fun z=>z),q];simp⟩⟩
 by_cases hbe:b=e
 .subst hbe;exact heo
 .exact⟨u,k b u hbe q⟩
end
noncomputable def trk(h:Wz)(H:Hp):List WH:=(Zw h.objs.size).filter fun a=>(H a).isSome
noncomputable def si(h:Wz)(H:Hp):Wz:=PySem.W.hideAll h (trk h H)
def yb(h:Wz)(H:Hp):(si h H).objs.size=h.objs.size:=PySem.W.hideAll_size _ _
def At{h:Wz}(e:h.get? b=some o)(n:H b=none):(si h H).get? b=some o:=
 PySem.W.hideAll_get _ e fun hm=>by
  have q:(H b).isSome=true:=(Zn.mp hm).2;rw[n]at q;simp at q
def Dw{h:Wz}(e:(si h H).get? b=some o):h.get? b=some o/\H b=none:=by
 have e':h.get? b=some o:=PySem.W.of_hideAll (trk h H) e;refine⟨e',?_⟩;cases q:H b with
 |none=>rfl
 |some x=>
  have hm:b∈trk h H:=Zn.mpr ⟨List.mem_range.mpr (wu e'),by simp[q]⟩;have z:(si h H).get? b=none:=PySem.W.hideAll_none (trk h H) hm;rw[z]at e;cases e
noncomputable def CM(g h:Wz)(L:WH):List (WH × Obj):=(Zw h.objs.size).filterMap fun a=>if a=L\/(g.get? a).isSome=true then none else (h.get? a).map fun o=>(a,o)
noncomputable def rest(g h:Wz)(L d:WH):List (WH × Obj):=(CM g h L).filter fun p=>decide (p.1≠d)
structure Mod(K:Ws)(mg:Str->Option WI)(base:Wz):Prop where
 kin:K.In base
 glob:base.Ns ZB mg
 blt:∃mb,base.Ns builtinsNs mb/\∀x:Str,x ≠ "__name__" -> mb x=ZY x
 nolimit:base.NoLimit
structure Cx where
 prog:WF
 w:WE
 K:Ws
 mg:Str->Option WI
 base:Wz
 A:WD
 N:List Str
 s₀:WG
 H₀:Hp
 env:Env
 WX:List Env
 stack:List Env
 ex:List WH
 fn:Str->Bool
 calm:Bool
 pn:List (WH × Obj)
 xe:WI->WG->Prop
noncomputable def frs(l:List Env):List WH:=l.filterMap (·.frame)
noncomputable abbrev Cx.fs(X:Cx):List WH:=frs X.WX
def Vis(sc:Scope)(x:Str):Prop:=sc.names.lookup x=some .local\/sc.names.lookup x=some .cell\/sc.names.lookup x=some .free
def Loc(sc:Scope)(x:Str):Prop:=sc.names.lookup x=some .local\/sc.names.lookup x=some .cell
def Ke(env:Env)(h:Wz)(m:Str->Option WI)(x:Str)(u:WI):Prop:=
 (env.kindOf x=some .local/\m x=some u)\/((env.kindOf x=some .cell\/env.kindOf x=some .free)/\∃c,env.cells.lookup x=some c/\h.IsCell c (some u))
structure Cx.Ok(X:Cx):Prop where
 mod:Mod X.K X.mg X.base
 kind:X.env.scope.kind = .function
 glob:X.env.globals=ZB
 blt:X.env.builtins=builtinsNs
 above:X.s₀.heap.objs.size<=X.env.locals
 inj:∀x y c,X.env.cells.lookup x=some c->X.env.cells.lookup y=some c->x=y
 has:∀x,(X.env.kindOf x=some .cell\/X.env.kindOf x=some .free)->∃c,X.env.cells.lookup x=some c
 cab:∀x c,X.fn x=true->X.env.cells.lookup x=some c->X.s₀.heap.objs.size<=c
 hd:X.calm=true->X.A.handled=none
 frames:X.A.frames=some X.stack
 stk:X.stack=X.WX\/(X.stack=X.env::X.WX/\X.env.frame=some X.env.locals)
 exf:∀b∈X.ex,b≠X.env.locals/\∀x c,X.env.cells.lookup x=some c->c≠b
 bs:∀b o,X.base.get? b=some o->X.s₀.heap.get? b=some o/\X.H₀ b=none
 bsz:X.base.objs.size<=X.s₀.heap.objs.size
 noex:∀b o,X.base.get? b=some o->b∉X.ex
 exfs:∀b∈X.ex,b∉X.fs
 funs:X.s₀.heap.FunFrames X.base X.WX
 frf:∀b∈X.fs,X.H₀ b=none
structure WL(X:Cx)(WY:List (WH × Obj))(σ:List (Option V))(H:Hp)(s:WG):Prop where
 ok:X.Ok
 os:s.os=X.s₀.os
 bare:AllBare s.gens
 base:Un X.fs X.ex X.H₀ H X.s₀.heap s.heap
 loc:∃m,s.heap.Ns X.env.locals m/\∀(i:Nat) (x:Str) (v:V),X.N[i]? = some x->σ[i]? = some (some v)->Vis X.env.scope x->∃u,WQ v u/\Ke X.env s.heap m x u
 cell:∀x c,X.env.cells.lookup x=some c->∃v,s.heap.IsCell c v
 free:H X.env.locals=none
 freeC:∀x c,X.env.cells.lookup x=some c->H c=none
 pin:∀p∈X.pn++WY,s.heap.get? p.1=some p.2/\H p.1=none/\p.1≠X.env.locals/\p.1∉X.fs/\∀v,p.2.data ≠ .cell v
 hok:HOk X.prog X.w H s.heap
 len:σ.length=X.N.length
section
variable{X:Cx}{WY:List (WH × Obj)}{σ:List (Option V)}{H H':Hp}{s:WG}{h':Wz}
def Cx.Ok.nofr(ok:X.Ok)(e:X.base.get? b=some o):b∉X.fs:=fun hb=>by
 have:=(ok.funs.mem hb).1;rw[e]at this;cases this
def WL.bs(I:WL X WY σ H s):∀b o,X.base.get? b=some o->s.heap.get? b=some o/\H b=none:=fun b o e=>
 ⟨I.base.keep b o (I.ok.bs b o e).1 (I.ok.bs b o e).2 (I.ok.nofr e) (I.ok.noex b o e),I.base.free b o (I.ok.bs b o e).1 (I.ok.bs b o e).2 (I.ok.noex b o e)⟩
def WL.bk(I:WL X WY σ H s):∀b o,X.base.get? b=some o->s.heap.get? b=some o:=fun b o e=>(I.bs b o e).1
def WL.mod(I:WL X WY σ H s):Mod X.K X.mg X.base:=I.ok.mod
def WL.kIn(I:WL X WY σ H s):X.K.In s.heap:=I.ok.mod.kin.keeps I.bk
def WL.lt(I:WL X WY σ H s):X.env.locals<s.heap.objs.size:=let ⟨_,hn,_⟩:=I.loc;hn.lt
def WL.sz(I:WL X WY σ H s):X.s₀.heap.objs.size<=s.heap.objs.size:=wG I.ok.above (ZO I.lt)
def WL.nofs(I:WL X WY σ H s)(h:s.heap.objs.size<=a):a∉X.fs:=fun hb=>by
 obtain⟨_,o,ho,_⟩:=I.ok.funs.mem hb;exact VT (tS (wu ho) (wG I.sz h)) (Yu _)
def WL.cne(I:WL X WY σ H s):∀x c,X.env.cells.lookup x=some c->c≠X.env.locals:=fun x c e z=>by
 obtain⟨v,o,ho,hd⟩:=I.cell x c e;obtain⟨m,⟨o',es,ep,ho',hd',_⟩,_⟩:=I.loc;rw[z,ho']at ho;cases ho;rw[hd']at hd;cases hd
def WL.funs(I:WL X WY σ H s):s.heap.FunFrames X.base X.WX:=by
 have all:∀(l:List Env),(∀b∈frs l,b∈X.fs)->X.s₀.heap.FunFrames X.base l->s.heap.FunFrames X.base l:=by
  intro l
  induction l with
  |nil=>intro _ _;trivial
  |cons env r ih=>
   intro hs hl;obtain⟨hk,⟨L,o,hf,hn,ho,hd⟩,hr⟩:=hl;have hL:L∈X.fs:=hs L (by unfold frs;rw[List.filterMap_cons,hf];exact Yo);obtain⟨sl,e⟩:=I.base.slot L o ho (I.ok.frf L hL) hL fun z=>I.ok.exfs L z hL;exact⟨hk,⟨L,_,hf,hn,e,hd⟩,ih (fun b hb=>hs b (by unfold frs;rw[List.filterMap_cons,hf];exact Zy _ hb)) hr⟩
 exact all X.WX (fun _ hb=>hb) I.ok.funs
def WL.stack(I:WL X WY σ H s):s.heap.FunFrames X.base X.stack:=by
 obtain e|⟨e,hf⟩:=I.ok.stk
 .rw[e];exact I.funs
 .rw[e]
  obtain⟨m,hn,_⟩:=I.loc;refine .cons (by rw[I.ok.kind];decide) hf hn ?_ I.funs;exact Heap.get?_none_of_le (wG I.ok.bsz I.ok.above)
def WL.stkSub(I:WL X WY σ H s):∀b∈frs X.stack,b∈X.env.locals::X.fs:=fun b hb=>by
 obtain e|⟨e,hf⟩:=I.ok.stk
 .rw[e]at hb;exact Zy _ hb
 .rw[e]at hb
  unfold frs at hb;rw[List.filterMap_cons,hf]at hb;exact hb
def WL.stkFree(I:WL X WY σ H s):∀b∈frs X.stack,H b=none:=fun b hb=>by
 obtain e|hb:=z9.mp (I.stkSub b hb)
 .rw[e];exact I.free
 .obtain⟨_,o,ho,_⟩:=I.ok.funs.mem hb
  exact I.base.free b o ho (I.ok.frf b hb) fun z=>I.ok.exfs b z hb
def WL.step{g':Array GenState}{t':Nat}{d':Drawn}{ch:List WH}(I:WL X WY σ H s)
 (hch:∀b∈ch,(b∈X.ex\/X.s₀.heap.objs.size<=b)/\b≠X.env.locals/\(∀x c,X.env.cells.lookup x=some c->c≠b)/\∀p∈X.pn++WY,p.1≠b)
 (keep:∀b o,b≠X.env.locals->b∉X.fs->b∉ch->s.heap.get? b=some o->H b=none->h'.get? b=some o)
 (slot:∀b o,b≠X.env.locals->b∈X.fs->b∉ch->s.heap.get? b=some o->H b=none->∃sl,h'.get? b=some { o with slots:=sl }) (free:∀b o,b∉ch->s.heap.get? b=some o->H b=none->H' b=none)
 (there:∀b o,b∉ch->s.heap.get? b=some o->∃o',h'.get? b=some o')
 (tups:∀b xs,H b=some (.tup xs)->H' b=some (.tup xs)) (frzs:∀b o u,H b=some (.frz o u)->H' b=some (.frz o u)) (tbls:∀b ps,H b=some (.tbl ps)->∃more,H' b=some (.tbl (ps++more)))
 (ns:∀m,s.heap.Ns X.env.locals m->h'.Ns X.env.locals m) (hok:HOk X.prog X.w H' h') (hg:AllBare g') :
 WL X WY σ H' { s with heap:=h',gens:=g',drawn:=d',toks:=t' }:=by
 have neL:∀b o,X.s₀.heap.get? b=some o->b≠X.env.locals:=fun b o e=>Zx (tS (wu e) I.ok.above);have neC:∀b o,X.s₀.heap.get? b=some o->b∉X.ex->b∉ch:=fun b o e hx hb=>by
  rcases(hch b hb).1 with z|z
  .exact hx z
  .exact VT (tS (wu e) z) (Yu _)
 have cellK:∀x c,X.env.cells.lookup x=some c->∀v,s.heap.IsCell c v->h'.IsCell c v:=fun x c e v hq_=>by
  obtain⟨o,ho,hd⟩:=hq_;have nch:c∉ch:=fun z=>(hch c z).2.2.1 x c e rfl;by_cases hc:c∈X.fs
  .obtain⟨sl,q⟩:=slot c o (I.cne x c e) hc nch ho (I.freeC x c e)
   exact⟨_,q,hd⟩
  .exact⟨o,keep c o (I.cne x c e) hc nch ho (I.freeC x c e),hd⟩
 refine⟨I.ok,I.os,hg,⟨fun b o e n hb hx=>?_,fun b o e n hb hx=>?_,fun b o e n hx=>?_,fun b o e hx=>?_,fun b xs e=>tups b xs (I.base.tups b xs e),fun b o xs e=>frzs b o xs (I.base.frzs b o xs e),fun b ps e=>?_⟩,?_,fun x c e=>?_,?_,fun x c e=>?_,fun p hp=>?_,hok,I.len⟩
 .exact keep b o (neL b o e) hb (neC b o e hx) (I.base.keep b o e n hb hx) (I.base.free b o e n hx)
 .obtain⟨sl,e1⟩:=I.base.slot b o e n hb hx
  obtain⟨sl',e2⟩:=slot b _ (neL b o e) hb (neC b o e hx) e1 (I.base.free b o e n hx);exact⟨sl',e2⟩
 .obtain⟨o',e1⟩:=I.base.there b o e hx
  exact free b o' (neC b o e hx) e1 (I.base.free b o e n hx)
 .obtain⟨o',e1⟩:=I.base.there b o e hx
  exact there b o' (neC b o e hx) e1
 .obtain⟨m1,e1⟩:=I.base.tbls b ps e
  obtain⟨m2,e2⟩:=tbls b _ e1;exact⟨m1++m2,by rw[e2,Array.append_assoc]⟩
 .obtain⟨m,hn,hl⟩:=I.loc
  refine⟨m,ns m hn,fun i x v e1 e2 e3=>?_⟩;obtain⟨u,r,l⟩:=hl i x v e1 e2 e3;refine⟨u,r,?_⟩;obtain l|⟨k,c,e,z⟩:=l
  .exact .inl l
  .exact .inr ⟨k,c,e,cellK x c e _ z⟩
 .obtain⟨v,z⟩:=I.cell x c e
  exact⟨v,cellK x c e v z⟩
 .obtain⟨m,⟨o,_,_,ho,_⟩,_⟩:=I.loc
  exact free _ o (fun z=>(hch _ z).2.1 rfl) ho I.free
 .obtain⟨v,o,ho,hd⟩:=I.cell x c e
  exact free c o (fun z=>(hch c z).2.2.1 x c e rfl) ho (I.freeC x c e)
 .obtain⟨e,n,ne,nf,d⟩:=I.pin p hp
  have nch:p.1∉ch:=fun z=>(hch p.1 z).2.2.2 p hp rfl;exact⟨keep p.1 p.2 ne nf nch e n,free p.1 p.2 nch e n,ne,nf,d⟩
def WL.un{t':Nat}(I:WL X WY σ H s)(u:Un X.fs [] H H' s.heap h')(hok:HOk X.prog X.w H' h'):WL X WY σ H' { s with heap:=h',toks:=t' }:=by
 obtain⟨m,⟨o,es,ep,ho,r⟩,_⟩:=id I.loc;obtain⟨sl,hL⟩:=u.any ho I.free (by simp);exact I.step (g':=s.gens) (d':=s.drawn) (ch:=[]) (fun _ z=>nomatch z) (fun b o _ hb _ e n=>u.keep b o e n hb (by simp)) (fun b o _ hb _ e n=>u.slot b o e n hb (by simp)) (fun b o _ e n=>u.free b o e n (by simp)) (fun b o _ e=>u.there b o e (by simp)) u.tups u.frzs u.tbls (fun m' hm=>by
  obtain⟨o',es',ep',ho',r'⟩:=hm;rw[ho]at ho';cases ho';exact⟨_,es',ep',hL,r'⟩) hok I.bare
def WL.call{g':Array GenState}{t':Nat}{d':Drawn}{ch:List WH}(I:WL X WY σ H s)(u:Un (frs X.stack) ch H H' s.heap h')(hok:HOk X.prog X.w H' h')(hg:AllBare g')
 (hch:∀b∈ch,(b∈X.ex\/X.s₀.heap.objs.size<=b)/\b≠X.env.locals/\(∀x c,X.env.cells.lookup x=some c->c≠b)/\∀p∈X.pn++WY,p.1≠b) :
 WL X WY σ H' { s with heap:=h',gens:=g',drawn:=d',toks:=t' }:=by
 obtain⟨m,⟨o,es,ep,ho,r⟩,_⟩:=id I.loc;obtain⟨sl,hL⟩:=u.any ho I.free fun z=>(hch _ z).2.1 rfl;exact I.step (ch:=ch) hch (fun b o hL hb hc e n=>u.keep b o e n (fun z=>(z9.mp (I.stkSub b z)).elim hL hb) hc) (fun b o _ _ hc e n=>u.any e n hc) (fun b o hc e n=>u.free b o e n hc) (fun b o hc e=>u.there b o e hc) u.tups u.frzs u.tbls (fun m' hm=>by
  obtain⟨o',es',ep',ho',r'⟩:=hm;rw[ho]at ho';cases ho';exact⟨_,es',ep',hL,r'⟩) hok hg
def WL.turned{t':Nat}{it:WH}(I:WL X WY σ H s)(k:∀b o,b≠it->s.heap.get? b=some o->h'.get? b=some o)(hn:H it=none)(hL:it≠X.env.locals)
 (h1:it∈X.ex\/X.s₀.heap.objs.size<=it) (h2:∀x c,X.env.cells.lookup x=some c->c≠it) (h3:∀p∈X.pn++WY,p.1≠it):WL X WY σ H { s with heap:=h',toks:=t' }:=by
 have nit:∀b u,H b=some u->b≠it:=fun b u e z=>by rw[z,hn]at e;cases e
 refine I.step (g':=s.gens) (d':=s.drawn) (ch:=[it]) (fun b hb=>?_) (fun b o _ _ hc e _=>k b o (fun z=>hc (by simp[z])) e) (fun b o _ _ hc e _=>⟨o.slots,k b o (fun z=>hc (by simp[z])) e⟩) (fun _ _ _ _ n=>n)
  (fun b o hc e=>⟨o,k b o (fun z=>hc (by simp[z])) e⟩) (fun _ _ e=>e) (fun _ _ _ e=>e) (fun b ps e=>⟨#[],by rw[e];simp⟩) (fun m hm=>?_) (fun b u e=>?_) I.bare
 .have e:b=it:=by simpa using hb
  subst e;exact⟨h1,hL,h2,h3⟩
 .obtain⟨o,es,ep,ho,r⟩:=hm
  exact⟨o,es,ep,k _ o (Wc hL) ho,r⟩
 .refine(I.hok b u e).stay (fun c v hc q=>k c v ?_ q) (fun _ q=>q) fun _ _ q=>q
  obtain z|z:=hc
  .rw[z];exact nit b u e
  .exact nit c _ z
def WL.tok(I:WL X WY σ H s)(t:Nat):WL X WY σ H { s with toks:=t }:=I.un (h':=s.heap) (t':=t) Un.refl I.hok
def WL.kept{t':Nat}(I:WL X WY σ H s)(k:∀b u,s.heap.get? b=some u->h'.get? b=some u):WL X WY σ H { s with heap:=h',toks:=t' }:=I.un (Un.kept k) (I.hok.kept k)
def WL.laid{a:WH}{o:HO}{t':Nat}(I:WL X WY σ H s)(k:∀b u,s.heap.get? b=some u->h'.get? b=some u)(hp:s.heap.objs.size<=a)(new:WO X.prog X.w (upd H a o) h' a o) :
 WL X WY σ (upd H a o) { s with heap:=h',toks:=t' }:=I.un (Un.laid k hp (I.hok.fresh hp)) (I.hok.laid k hp new)
def WL.write(I:WL X WY σ H s)(mu:Mut (H x))(he:e=x\/H e=some (.own x))(k:∀b u,b≠e->s.heap.get? b=some u->h'.get? b=some u)(heo:∃u,h'.get? e=some u)
 (new:WO X.prog X.w (upd H x o) h' x o):WL X WY σ (upd H x o) { s with heap:=h',toks:=t' }:=I.un (Un.write mu he k heo) (I.hok.write mu he k heo new)
def WL.pins_of(I:WL X WY σ H s)(h:∀p∈pins',s.heap.get? p.1=some p.2/\H p.1=none/\p.1≠X.env.locals/\p.1∉X.fs/\∀v,p.2.data ≠ .cell v):WL X pins' σ H s:=
 ⟨I.ok,I.os,I.bare,I.base,I.loc,I.cell,I.free,I.freeC,fun p hp=>(yy.mp hp).elim (fun z=>I.pin p (vS _ z)) (h p),I.hok,I.len⟩
def oE{N:List Str}(hN:N.Nodup){i j:Nat}{x:Str}(a:N[i]? = some x)(b:N[j]? = some x):i=j:=by
 obtain⟨h1,e1⟩:=Wn.mp a;obtain⟨h2,e2⟩:=Wn.mp b;exact(List.getElem_inj hN).mp (e1.trans e2.symm)
def qe{M:Model}{A:WD}{E:WI->WG->Prop}{i:Nat}{x:Str}{v:V}{u:WI}{Q:Unit->WG->Prop}(I:WL X WY σ H s)(hN:X.N.Nodup)(hi:X.N[i]? = some x)(hx:Loc X.env.scope x)(r:WQ v u)
 (h:∀s',WL X WY (σ.set i (some v)) H s'->(∃a,Yz a s.heap s'.heap/\(a=X.env.locals\/X.env.cells.lookup x=some a))->Q () s') (hf:X.fn x=true\/X.env.scope.names.lookup x=some .local:=by first|exact .inl rfl|exact .inr rfl|assumption):WB M A (storeName X.env x u) Q E s:=by
 obtain⟨m,hn,hl⟩:=id I.loc;have hcls:(X.env.scope.kind == .class || (X.env.scope.kind == .module&&X.env.locals != X.env.globals))=false:=by rw[I.ok.kind];rfl
 have hiσ:i<σ.length:=by rw[I.len];exact(Wn.mp hi).1
 have cne:=I.cne;have tracked:∀ {a:WH} {h':Wz},(∃o,s.heap.get? a=some o/\H a=none)->Yz a s.heap h'->HOk X.prog X.w H h':=fun {a h'} ha hs b ob e=>by
  obtain⟨_,_,hfree⟩:=ha;refine(I.hok b ob e).stay (fun c w' hc q=>(hs.2 c ?_).trans q) (fun _ q=>q) fun _ _ q=>q;rintro rfl;obtain rfl|hc:=hc
  .rw[hfree]at e;cases e
  .rw[hfree]at hc;cases hc
 obtain hk|hk:=hx
 .refine wpAny_storeName_local hk hn (fun h' hn' hs=>?_) hcls
  obtain⟨oL,_,_,hoL,_⟩:=id hn;refine h _ ⟨I.ok,I.os,I.bare,⟨fun b o e n hb hx=>?_,fun b o e n hb hx=>?_,I.base.free,fun b o e hx=>?_,I.base.tups,I.base.frzs,I.base.tbls⟩,⟨_,hn',fun j y v' e1 e2 e3=>?_⟩,fun y c e=>?_,I.free,I.freeC,fun p hp=>?_,tracked ⟨oL,hoL,I.free⟩ hs,by simpa using I.len⟩ ⟨_,hs,.inl rfl⟩
  .exact(hs.2 b (Zx (tS (wu e) I.ok.above))).trans (I.base.keep b o e n hb hx)
  .obtain⟨sl,e1⟩:=I.base.slot b o e n hb hx
   exact⟨sl,(hs.2 b (Zx (tS (wu e) I.ok.above))).trans e1⟩
  .obtain⟨o',e1⟩:=I.base.there b o e hx
   exact⟨o',(hs.2 b (Zx (tS (wu e) I.ok.above))).trans e1⟩
  .by_cases hj:j=i
   .subst hj
    rw[hi]at e1;cases e1;rw[List.getElem?_set_self hiσ]at e2;cases e2;exact⟨u,r,.inl ⟨hk,by simp⟩⟩
   .rw[List.getElem?_set_ne (Wc hj)]at e2
    obtain⟨u',r',q⟩:=hl j y v' e1 e2 e3;refine⟨u',r',?_⟩;obtain⟨k,e⟩|⟨k,c,e,z⟩:=q
    .refine .inl ⟨k,?_⟩
     have:y≠x:=fun e=>hj (oE hN e1 (e ▸ hi));simp[this,e]
    .exact .inr ⟨k,c,e,z.sameBut hs (cne y c e)⟩
  .obtain⟨w',z⟩:=I.cell y c e
   exact⟨w',z.sameBut hs (cne y c e)⟩
  .obtain⟨e,n,ne,nf,d⟩:=I.pin p hp
   exact⟨(hs.2 p.1 ne).trans e,n,ne,nf,d⟩
 .have hfn:X.fn x=true:=by
   obtain z|z:=hf
   .exact z
   .rw[z]at hk;cases hk
  obtain⟨c,hc⟩:=I.ok.has x (.inl hk);obtain⟨w',z⟩:=I.cell x c hc;refine wpAny_storeName_cell I.ok.kind hk hc z (fun h' hc' hs=>?_);obtain⟨oc,hoc,hocd⟩:=id z;refine h { s with heap:=h' } ⟨I.ok,I.os,I.bare,⟨fun b o e n hb hx=>?_,fun b o e n hb hx=>?_,I.base.free,fun b o e hx=>?_,I.base.tups,I.base.frzs,I.base.tbls⟩,⟨m,hn.sameBut hs (Wc (cne x c hc)),fun j y v' e1 e2 e3=>?_⟩,fun y c' e=>?_,I.free,I.freeC,fun p hp=>?_,tracked ⟨oc,hoc,I.freeC x c hc⟩ hs,by simpa using I.len⟩ ⟨c,hs,.inr hc⟩
  .exact(hs.2 b (Zx (tS (wu e) (I.ok.cab x c hfn hc)))).trans (I.base.keep b o e n hb hx)
  .obtain⟨sl,e1⟩:=I.base.slot b o e n hb hx
   exact⟨sl,(hs.2 b (Zx (tS (wu e) (I.ok.cab x c hfn hc)))).trans e1⟩
  .obtain⟨o',e1⟩:=I.base.there b o e hx
   exact⟨o',(hs.2 b (Zx (tS (wu e) (I.ok.cab x c hfn hc)))).trans e1⟩
  .by_cases hj:j=i
   .subst hj
    rw[hi]at e1;cases e1;rw[List.getElem?_set_self hiσ]at e2;cases e2;exact⟨u,r,.inr ⟨.inl hk,c,hc,hc'⟩⟩
   .rw[List.getElem?_set_ne (Wc hj)]at e2
    obtain⟨u',r',q⟩:=hl j y v' e1 e2 e3;refine⟨u',r',?_⟩;obtain q|⟨k,c',e,z'⟩:=q
    .exact .inl q
    .refine .inr ⟨k,c',e,z'.sameBut hs ?_⟩
     rintro rfl;exact hj (oE hN e1 (I.ok.inj _ _ _ e hc ▸ hi))
  .by_cases hcc:c'=c
   .subst hcc;exact⟨_,hc'⟩
   .obtain⟨w2,z2⟩:=I.cell y c' e
    exact⟨w2,z2.sameBut hs hcc⟩
  .obtain⟨e,n,ne,nf,d⟩:=I.pin p hp
   refine⟨(hs.2 p.1 ?_).trans e,n,ne,nf,d⟩;intro q;rw[q,hoc]at e;have q':oc=p.2:=Zs e;exact d w' (by rw[<- q'];exact hocd)
def o0{M:Model}{A:WD}{E:WI->WG->Prop}{i:Nat}{x:Str}{v:V}{u:WI}{Q:Unit->WG->Prop}(I:WL X WY σ H s)(hN:X.N.Nodup)(hi:X.N[i]? = some x)(hx:Loc X.env.scope x)(r:WQ v u)
 (h:∀s',WL X WY (σ.set i (some v)) H s'->Q () s') (hf:X.fn x=true\/X.env.scope.names.lookup x=some .local:=by first|exact .inl rfl|exact .inr rfl|assumption):WB M A (storeName X.env x u) Q E s:=
 qe I hN hi hx r (fun s' I' _=>h s' I') hf
def WL.call'{s':WG}(I:WL X WY σ H s)(ho:s'.os=s.os)(u:Un (frs X.stack) ch H H' s.heap s'.heap)(hok:HOk X.prog X.w H' s'.heap)(hg:AllBare s'.gens)
 (hch:∀b∈ch,(b∈X.ex\/X.s₀.heap.objs.size<=b)/\b≠X.env.locals/\(∀x c,X.env.cells.lookup x=some c->c≠b)/\∀p∈X.pn++WY,p.1≠b):WL X WY σ H' s':=by
 obtain⟨h',g',d',t',o'⟩:=s';have e:o'=s.os:=ho;subst e;exact I.call (g':=g') (t':=t') (d':=d') u hok hg hch
end
abbrev XK:=WI->Option WH->Hp->Prop
abbrev St:=List (Option V)
abbrev VK:=V->Hp->Prop
abbrev TE:=St->Hp->VK->Prop
abbrev TT:=St->Hp->(Bool->Hp->Prop)->Prop
abbrev TA:=St->Hp->(List V->Hp->Prop)->Prop
structure fo where
 nx:St->Hp->Prop
 rt:VK
 bk:St->Hp->Prop:=fun _ _=>False
 ct:St->Hp->Prop:=fun _ _=>False
abbrev TS:=fo->St->Hp->Prop
def EP(X:Cx)(WY:List (WH × Obj))(σ:St)(Q:VK)(u:WI)(s':WG):Prop:=∃v H',WL X WY σ H' s'/\WQ v u/\Q v H'
def TP(X:Cx)(WY:List (WH × Obj))(σ:St)(Q:Bool->Hp->Prop)(b:Bool)(s':WG):Prop:=∃H',WL X WY σ H' s'/\Q b H'
def AP(X:Cx)(WY:List (WH × Obj))(σ:St)(Q:List V->Hp->Prop)(us:List WI)(s':WG):Prop:=∃vs H',WL X WY σ H' s'/\WP vs us/\Q vs H'
def SP(X:Cx)(WY:List (WH × Obj))(D:fo)(f:Flow)(s':WG):Prop:=
 match f with
 | .next=>∃σ' H',WL X WY σ' H' s'/\D.nx σ' H'
 | .brk=>∃σ' H',WL X WY σ' H' s'/\D.bk σ' H'
 | .cont=>∃σ' H',WL X WY σ' H' s'/\D.ct σ' H'
 | .ret u=>∃v σ' H',WL X WY σ' H' s'/\WQ v u/\D.rt v H'
def PE(X:Cx)(e:Expr)(t:TE):Prop:=
 ∀(WY:List (WH × Obj)) (s:WG) (σ:St) (H:Hp) (Q:VK),WL X WY σ H s->t σ H Q->WB (WA X.prog X.w) X.A (eval e X.env) (EP X WY σ Q) X.xe s
def PT(X:Cx)(e:Expr)(t:TT):Prop:=
 ∀(WY:List (WH × Obj)) (s:WG) (σ:St) (H:Hp) (Q:Bool->Hp->Prop),WL X WY σ H s->t σ H Q->WB (WA X.prog X.w) X.A (isTrue e X.env (eval e X.env)) (TP X WY σ Q) X.xe s
def PW(X:Cx)(e:Expr)(t:TT):Prop:=
 ∀(whole:Sem WI) (WY:List (WH × Obj)) (s:WG) (σ:St) (H:Hp) (Q:Bool->Hp->Prop),WL X WY σ H s->t σ H Q->WB (WA X.prog X.w) X.A (isTrue e X.env whole) (TP X WY σ Q) X.xe s
def PW.pt{X:Cx}{e:Expr}{t:TT}(h:PW X e t):PT X e t:=h _
def PA(X:Cx)(es:List Expr)(t:TA):Prop:=
 ∀(pos:Pos) (WY:List (WH × Obj)) (s:WG) (σ:St) (H:Hp) (Q:List V->Hp->Prop),WL X WY σ H s->t σ H Q->WB (WA X.prog X.w) X.A (spliced (Wx pos (Wy es X.env))) (AP X WY σ Q) X.xe s
def PS(X:Cx)(st:Stmt)(t:TS):Prop:=
 ∀(WY:List (WH × Obj)) (s:WG) (σ:St) (H:Hp) (D:fo),WL X WY σ H s->t D σ H->WB (WA X.prog X.w) X.A (exec st X.env) (SP X WY D) X.xe s
def PSs(X:Cx)(st:List Stmt)(t:TS):Prop:=
 ∀(WY:List (WH × Obj)) (s:WG) (σ:St) (H:Hp) (D:fo),WL X WY σ H s->t D σ H->WB (WA X.prog X.w) X.A (execs st X.env) (SP X WY D) X.xe s
def thn{α:Type}{t:Sem α}{Q Q':α->WG->Prop}{M:Model}{A:WD}{E:WI->WG->Prop}{s:WG}(h:WB M A t Q E s)(hQ:∀a s,Q a s->Q' a s):WB M A t Q' E s:=Zf h hQ fun _ _ x=>x
section
variable{X:Cx}
def Ku(i:Nat):TE:=fun σ H Q=>∃v,σ[i]? = some (some v)/\Q v H
def tC(v:V):TE:=fun _ H Q=>Q v H
def GV(hN:X.N[i]? = some x)(hv:Vis X.env.scope x)(hd:(x==("__debug__":Str))=false:=by decide)(hcd:(x==("__classdict__":Str))=false:=by decide):PE X (.Name x pos) (Ku i):=by
 intro WY s σ H Q I h;obtain⟨v,e,h⟩:=h;obtain⟨m,hn,hl⟩:=I.loc;obtain⟨u,r,l⟩:=hl i x v hN e hv;have fin:EP X WY σ Q u s:=⟨v,H,I,r,h⟩;obtain⟨hk,hm⟩|⟨hk,c,hc,hcell⟩:=l
 .exact wpAny_Name (wpAny_loadName_local I.ok.kind hk hn hm fin) hd
 .obtain hk|hk:=hk
  .exact wpAny_Name (wpAny_loadName_cell I.ok.kind hk hc hcell fin) hd
  .exact wpAny_Name (wpAny_loadName_free I.ok.kind hk hc hcell fin hcd) hd
def ae{i j pos}:PE X (.Constant (.int i) j pos) (tC (.int i)):=fun _ _ _ H _ I h=>wpAny_Constant_int ⟨.int i,H,I.tok _,⟨_,rfl⟩,h⟩
def iE{b j pos}:PE X (.Constant (.bool b) j pos) (tC (.bl b)):=fun _ _ _ H _ I h=>Constant_bool ⟨.bl b,H,I,rfl,h⟩
def eC{j pos}:PE X (.Constant .none j pos) (tC .non):=fun _ _ _ H _ I h=>Constant_none ⟨.non,H,I,rfl,h⟩
def Af{x j pos}:PE X (.Constant (.str x) j pos) (tC (.str x)):=fun _ _ _ H _ I h=>Calls.Constant_str ⟨.str x,H,I.tok _,⟨_,rfl⟩,h⟩
def Gl(X:Cx)(x:Str):Prop:=X.env.kindOf x=some .globalImplicit
def g_{E:WI->WG->Prop}{WY:List (WH × Obj)}{s:WG}{σ:St}{H:Hp}{x:Str}{u:WI}{pos:Pos}{Q:WI->WG->Prop}(I:WL X WY σ H s)(hg:Gl X x)(hm:X.mg x=some u)(h:Q u s)
 (hd:(x==("__debug__":Str))=false:=by decide):WB (WA X.prog X.w) X.A (eval (.Name x pos) X.env) Q E s:=
 Calls.Name_function_global I.ok.kind hg (Calls.loadGlobal_global (by rw[I.ok.glob];exact I.mod.glob.keeps I.bk) hm h) hd
def jD{E:WI->WG->Prop}{WY:List (WH × Obj)}{s:WG}{σ:St}{H:Hp}{x:Str}{u:WI}{pos:Pos}{Q:WI->WG->Prop}(I:WL X WY σ H s)(hg:Gl X x)(hm:X.mg x=none)(hv:ZY x=some u)(h:Q u s)
 (hn:x ≠ "__name__":=by decide) (hd:(x==("__debug__":Str))=false:=by decide):WB (WA X.prog X.w) X.A (eval (.Name x pos) X.env) Q E s:=by
 obtain⟨mb,h1,h2⟩:=I.mod.blt;exact Calls.Name_function_global I.ok.kind hg (Calls.loadGlobal_builtin (by rw[I.ok.glob];exact I.mod.glob.keeps I.bk) hm (by rw[I.ok.blt];exact h1.keeps I.bk) ((h2 x hn).trans hv) h) hd
def ja(hg:Gl X x)(hm:X.mg x=some u)(r:WQ v u)(hd:(x==("__debug__":Str))=false:=by decide):PE X (.Name x pos) (tC v):=
 fun _ _ _ H _ I h=>g_ I hg hm ⟨v,H,I,r,h⟩ hd
def dN(hg:Gl X x)(hm:X.mg x=none)(hv:ZY x=some u)(r:WQ v u)(hn:x ≠ "__name__":=by decide)(hd:(x==("__debug__":Str))=false:=by decide):PE X (.Name x pos) (tC v):=
 fun _ _ _ H _ I h=>jD I hg hm hv ⟨v,H,I,r,h⟩ hn hd
variable{a b:Expr}{ta tb:TE}{pos:Pos}
def PC(X:Cx)(op:CmpOp)(a b:Expr)(t:TE):Prop:=
 ∀(WY:List (WH × Obj)) (s:WG) (σ:St) (H:Hp) (Q:VK),WL X WY σ H s->t σ H Q ->
  WB (WA X.prog X.w) X.A (eval a X.env) (fun v s₁=>WB (WA X.prog X.w) X.A (eval b X.env) (fun u s₂=>WB (WA X.prog X.w) X.A (Zd op v u) (EP X WY σ Q) X.xe s₂) X.xe s₁) X.xe s
def tf(b:Expr){op:CmpOp}(h:op ≠ .In)(h2:op ≠ .NotIn):YW op b=false:=by
 have e1:(op==CmpOp.In)=false:=by cases op <;> first|rfl|exact VT rfl h
 have e2:(op==CmpOp.NotIn)=false:=by cases op <;> first|rfl|exact VT rfl h2
 cases b <;> simp[YW,e1,e2]
def JD(ta:TE):TE:=fun σ H Q=>ta σ H fun x H1=>Q (.bl (decide (x = .non))) H1
def E0(ta:TE):TE:=fun σ H Q=>ta σ H fun x H1=>Q (.bl (!decide (x = .non))) H1
def WQ.none_iff{x:V}{v:WI}(r:WQ x v):(v==Ze)=decide (x = .non):=by
 cases x with
 |non=>cases r;rfl
 |bl _=>cases r;rfl
 |int _=>obtain⟨t,rfl⟩:=r;rfl
 |str _=>obtain⟨t,rfl⟩:=r;rfl
 |byt _=>obtain⟨t,rfl⟩:=r;rfl
 |flt _=>obtain⟨t,rfl⟩:=r;rfl
 |ref _=>cases r;rfl
 |ty _=>cases r;rfl
def sH{j pos'}(ha:PE X a ta):PC X .Is a (.Constant .none j pos') (JD ta):=by
 intro WY s σ H Q I h;refine thn (ha WY s σ H _ I h) fun v s1 hq_=>?_;obtain⟨x,H1,I1,r1,q1⟩:=hq_;exact Constant_none (is_none_gen ⟨.bl _,H1,I1,by rw[r1.none_iff];rfl,q1⟩)
def kg{j pos'}(ha:PE X a ta):PC X .IsNot a (.Constant .none j pos') (E0 ta):=by
 intro WY s σ H Q I h;refine thn (ha WY s σ H _ I h) fun v s1 hq_=>?_;obtain⟨x,H1,I1,r1,q1⟩:=hq_;exact Constant_none (isnot_none_gen ⟨.bl _,H1,I1,by rw[r1.none_iff];rfl,q1⟩)
def BM(h:PC X op a b t)(h1:YW op b=false:=by first|exact tf _ (by decide) (by decide)|rfl):PE X (.Compare a [op] [b] pos) t:=fun WY s σ H Q I hw=>wpAny_Compare1 (h WY s σ H Q I hw) h1
variable{tA tB':TT}{rest:List Expr}
def JS(t u:TT):TT:=fun σ H Q=>t σ H fun c H1=>if c=true then u σ H1 Q else Q false H1
def tOr(t u:TT):TT:=fun σ H Q=>t σ H fun c H1=>if c=true then Q true H1 else u σ H1 Q
def Jd(t:TT):TT:=fun σ H Q=>t σ H fun c H1=>Q (!c) H1
def nA(ha:PT X a tA):PW X (.BoolOp .And [a] pos) tA:=by
 intro wh WY s σ H Q I h;refine isTrue_and (thn (ha WY s σ H Q I h) fun c s1 e=>?_);cases c with
 |true=>exact isTrue_and_nil e
 |false=>exact e
def f8(ha:PT X a tA):PW X (.BoolOp .Or [a] pos) tA:=by
 intro wh WY s σ H Q I h;refine isTrue_or (thn (ha WY s σ H Q I h) fun c s1 e=>?_);cases c with
 |false=>exact isTrue_or_nil e
 |true=>exact e
def rl(ha:PT X a tA)(hb:PW X (.BoolOp .And (b::rest) pos) tB'):PW X (.BoolOp .And (a::b::rest) pos) (JS tA tB'):=by
 intro wh WY s σ H Q I h;refine isTrue_and (thn (ha WY s σ H _ I h) fun c s1 hq_=>?_);obtain⟨H1,I1,q1⟩:=hq_;cases c with
 |true=>exact hb wh WY s1 σ H1 Q I1 q1
 |false=>exact⟨H1,I1,q1⟩
def gm(ha:PT X a tA)(hb:PW X (.BoolOp .Or (b::rest) pos) tB'):PW X (.BoolOp .Or (a::b::rest) pos) (tOr tA tB'):=by
 intro wh WY s σ H Q I h;refine isTrue_or (thn (ha WY s σ H _ I h) fun c s1 hq_=>?_);obtain⟨H1,I1,q1⟩:=hq_;cases c with
 |true=>exact⟨H1,I1,q1⟩
 |false=>exact hb wh WY s1 σ H1 Q I1 q1
def bP(ha:PT X a tA):PT X (.UnaryOp .Not a pos) (Jd tA):=by
 intro WY s σ H Q I h;exact isTrue_not (ha WY s σ H (fun c H1=>Q (!c) H1) I h)
def dO{op}(h:PE X a t):PE X (.BoolOp op [a] pos) t:=fun WY s σ H Q I hw=>BoolOp_one (h WY s σ H Q I hw)
def tIf(t:TT)(ta tb:TE):TE:=fun σ H Q=>t σ H fun c H1=>if c=true then ta σ H1 Q else tb σ H1 Q
def t7{c:Expr}(hc:PT X c tA)(ha:PE X a ta)(hb:PE X b tb):PE X (.IfExp c a b pos) (tIf tA ta tb):=by
 intro WY s σ H Q I h;refine wpAny_IfExp (thn (hc WY s σ H _ I h) fun d s1 hq_=>?_);obtain⟨H1,I1,q1⟩:=hq_;cases d with
 |true=>exact ha WY s1 σ H1 Q I1 q1
 |false=>exact hb WY s1 σ H1 Q I1 q1
end
def SqL(K:Ws)(H:Hp)(a:WH)(xs:List V):Prop:=
 Rd H a (.lst xs) \/
  ∃(o:Obj) (WV:Array WI) (n:Nat),K.lookup a=some o/\o.cls = .type "list" /\ o.dict=none/\o.data = .seq WV n/\WV.size<=WC/\WP xs WV.toList
def SqT(K:Ws)(H:Hp)(a:WH)(xs:List V):Prop:=
 Rd H a (.tup xs) \/
  ∃(o:Obj) (WV:Array WI) (n:Nat),K.lookup a=some o/\o.cls = .type "tuple" /\ o.data = .seq WV n/\WV.size<=WC/\WP xs WV.toList
noncomputable def J8:WI->Option V
 | .none=>some .non
 | .bool b=>some (.bl b)
 | .int i _=>some (.int i)
 | .str x _=>some (.str x)
 | .bytes b _=>some (.byt b)
 | .float b _=>some (.flt b)
 | .ref a=>some (.ref a)
 | .type n=>some (.ty n)
 |_=>none
def WQ.abs(r:WQ x u):J8 u=some x:=by
 cases x with
 |non=>cases r;rfl
 |bl _=>cases r;rfl
 |int _=>obtain⟨t,rfl⟩:=r;rfl
 |str _=>obtain⟨t,rfl⟩:=r;rfl
 |byt _=>obtain⟨t,rfl⟩:=r;rfl
 |flt _=>obtain⟨t,rfl⟩:=r;rfl
 |ref _=>cases r;rfl
 |ty _=>cases r;rfl
def WQ.inj(r:WQ x u)(q:WQ y u):x=y:=Zs (r.abs.symm.trans q.abs)
theorem WP.inj:∀ {xs ys:List V} {us:List WI},WP xs us->WP ys us->xs=ys
 |_,_,_,.nil,.nil=>rfl
 |_,_,_,.cons r t,.cons r' t'=>by rw[r.inj r',WP.inj t t']
section
variable{X:Cx}{WY:List (WH × Obj)}{σ:St}{H:Hp}{s:WG}{a:WH}{xs ys:List V}
def az{K:Ws}(h:H a=some (.lst xs)):SqL K H a xs:=.inl (.inl h)
def bF{K:Ws}(h:H a=some (.tup xs)):SqT K H a xs:=.inl (.inl h)
def WL.list(I:WL X WY σ H s)(h:SqL X.K H a xs):∃WV:List WI,WP xs WV/\PlainL s.heap a WV.toArray/\xs.length<=WC:=by
 obtain h|⟨o,WV,n,hk,hc,hd,hs,hz,r⟩:=h
 .obtain⟨z,WV,n,r,e⟩:=h.ok I.hok
  exact⟨WV,r,⟨_,n,e,rfl,rfl,rfl⟩,z⟩
 .refine⟨WV.toList,r,⟨o,n,I.kIn a o hk,hc,hd,by simpa using hs⟩,?_⟩
  have e:=r.length;simp only[ZN]at e;lia
def WL.tuple(I:WL X WY σ H s)(h:SqT X.K H a xs):∃WV:List WI,WP xs WV/\IsTup s.heap a WV.toArray/\xs.length<=WC:=by
 obtain h|⟨o,WV,n,hk,hc,hs,hz,r⟩:=h
 .obtain⟨z,WV,r,p⟩:=h.ok I.hok
  exact⟨WV,r,p,z⟩
 .refine⟨WV.toList,r,⟨o,I.kIn a o hk,hc,n,by simpa using hs⟩,?_⟩
  have e:=r.length;simp only[ZN]at e;lia
def WL.list_inj(I:WL X WY σ H s)(h:SqL X.K H a xs)(h':SqL X.K H a ys):xs=ys:=by
 obtain⟨WV,r,⟨o,n,e,_,_,d⟩,_⟩:=I.list h;obtain⟨its',r',⟨o',n',e',_,_,d'⟩,_⟩:=I.list h';rw[e]at e';cases e';rw[d]at d';injection d' with d1 _
 have:WV=its':=by simpa using VU Array.toList d1
 subst this;exact r.inj r'
end
noncomputable abbrev Cx.wish(X:Cx)(E:WI->WG->Prop):Cx:={ X with xe:=E }
noncomputable abbrev Cx.nox(X:Cx):Cx:=X.wish fun _ _=>False
section
variable{X:Cx}{st:Stmt}{rest:List Stmt}{t u:TS}{e:Expr}{te:TE}{pos:Pos}
def E8:TS:=fun D σ H=>D.nx σ H
def Iv(t u:TS):TS:=fun D σ H=>t { D with nx:=u D } σ H
def aL:PSs X [] E8:=fun _ _ σ H _ I h=>Xr ⟨σ,H,I,h⟩
def af(h1:PS X st t)(h2:PSs X rest u):PSs X (st::rest) (Iv t u):=by
 intro WY s σ H D I h;refine wpAny_execs_cons (thn (h1 WY s σ H { D with nx:=u D } I h) fun f s1 q=>?_);cases f with
 |next=>
  obtain⟨σ',H',I',q⟩:=q;exact h2 WY s1 σ' H' D I' q
 |ret v=>exact q
 |brk=>exact q
 |cont=>exact q
def ah(h1:PS X st t):PSs X [st] t:=by
 intro WY s σ H D I h;refine wpAny_execs_cons (thn (h1 WY s σ H D I h) fun f s1 q=>?_);cases f with
 |next=>exact Xr q
 |ret v=>exact q
 |brk=>exact q
 |cont=>exact q
def WL.quiet{WY:List (WH × Obj)}{σ:St}{H:Hp}{s:WG}(I:WL X WY σ H s):interactive X.env=false:=by simp[interactive,I.ok.kind]
def E1(te:TE):TS:=fun D σ H=>te σ H fun _ H1=>D.nx σ H1
def bH(he:PE X e te)(hs:swapsWith e none pos.line X.env=pure false:=by rfl):PS X (.Expr e pos) (E1 te):=by
 intro WY s σ H D I h;exact wpAny_Expr_any (thn (he WY s σ H _ I h) fun v s1 hq_=>(by obtain⟨x,H1,I1,r1,q1⟩:=hq_;exact⟨σ,H1,I1,q1⟩)) I.quiet hs
def JN(te:TE):TS:=fun D σ H=>te σ H D.rt
def aB(he:PE X e te):PS X (.Return (some e) pos) (JN te):=by
 intro WY s σ H D I h;exact wpAny_Return_some (thn (he WY s σ H _ I h) fun v s1 hq_=>(by obtain⟨x,H1,I1,r1,q1⟩:=hq_;exact⟨x,σ,H1,I1,r1,q1⟩))
def Iw(c:TT)(t u:TS):TS:=fun D σ H=>c σ H fun b H1=>if b=true then t D σ H1 else u D σ H1
def bi{c:Expr}{a b:List Stmt}{tc:TT}(hc:PT X c tc)(ha:PSs X a t)(hb:PSs X b u):PS X (.If c a b pos) (Iw tc t u):=by
 intro WY s σ H D I h;refine wpAny_If (thn (hc WY s σ H _ I h) fun d s1 hq_=>?_);obtain⟨H1,I1,q1⟩:=hq_;cases d with
 |true=>exact ha WY s1 σ H1 D I1 q1
 |false=>exact hb WY s1 σ H1 D I1 q1
end
abbrev TG:=V->St->Hp->(St->Hp->Prop)->Prop
abbrev TGs:=List V->St->Hp->(St->Hp->Prop)->Prop
def PG(X:Cx)(target:Expr)(t:TG):Prop:=
 ∀(WY:List (WH × Obj)) (s:WG) (σ:St) (H:Hp) (v:V) (u:WI) (Q:St->Hp->Prop),WL X WY σ H s->WQ v u->t v σ H Q ->
  WB (WA X.prog X.w) X.A (assign target X.env u) (fun _ s'=>∃σ' H',WL X WY σ' H' s'/\Q σ' H') X.xe s
def PGs(X:Cx)(ts:List Expr)(t:TGs):Prop:=
 ∀(WY:List (WH × Obj)) (s:WG) (σ:St) (H:Hp) (vs:List V) (us:List WI) (Q:St->Hp->Prop),WL X WY σ H s->WP vs us->t vs σ H Q ->
  WB (WA X.prog X.w) X.A (assignInOrder ((XJ ts X.env).map (·.2)) us) (fun _ s'=>∃σ' H',WL X WY σ' H' s'/\Q σ' H') X.xe s
section
variable{X:Cx}{pos:Pos}
def eY(i:Nat):TG:=fun v σ H Q=>Q (σ.set i (some v)) H
def aK(hN:X.N.Nodup)(hi:X.N[i]? = some x)(hx:Loc X.env.scope x)(hf:X.fn x=true\/X.env.scope.names.lookup x=some .local:=by first|exact .inl rfl|exact .inr rfl|assumption):PG X (.Name x pos) (eY i):=by
 intro WY s σ H v u Q I r h;exact wpAny_assign_Name (o0 I hN hi hx r (fun s' I'=>⟨_,H,I',h⟩) hf)
def IO:TGs:=fun vs σ H Q=>vs=[]/\Q σ H
def Ff(t:TG)(u:TGs):TGs:=fun vs σ H Q=>∃v r,vs=v::r/\t v σ H fun σ' H'=>u r σ' H' Q
def eU:PGs X [] IO:=by
 intro WY s σ H vs us Q I r h;obtain⟨e,h⟩:=h;subst e;cases r;exact assignInOrder_nil ⟨σ,H,I,h⟩
def bz{e:Expr}{es:List Expr}{t:TG}{u:TGs}(h1:PG X e t)(h2:PGs X es u)
 (hs:(XJ (e::es) X.env).map (·.2)=assign e X.env::(XJ es X.env).map (·.2):=by rfl):PGs X (e::es) (Ff t u):=by
 intro WY s σ H vs us Q I r h;obtain⟨v,vr,e1,h⟩:=h;subst e1;cases r with
 |cons r rr=>
  rw[hs];refine assignInOrder_cons (thn (h1 WY s σ H _ _ _ I r h) fun _ s1 hq_=>?_);obtain⟨σ1,H1,I1,q1⟩:=hq_;exact h2 WY s1 σ1 H1 _ _ Q I1 rr q1
def Ha(K:Ws)(n:Nat)(t:TGs):TG:=fun v σ H Q=>∃a xs,v = .ref a/\SqT K H a xs/\xs.length=n/\t xs σ H Q
def Gh(hc:X.calm=true)(h:PGs X es t)
 (hn:(XJ es X.env).length=n:=by rfl) (hst:(XJ es X.env).findIdx? (·.1)=none:=by rfl):PG X (.Tuple es k pos) (Ha X.K n t):=by
 intro WY s σ H v u Q I r hw;obtain⟨a,xs,e1,hq,hl,hw⟩:=hw;subst e1;cases r;obtain⟨WV,rv,ht,hz⟩:=I.tuple hq;refine assign_Tuple_tuple (I.ok.hd hc) ht (by simp[hn,<- hl,rv.length]) hst fun h' hx=>?_;have I1:WL X WY σ H { s with heap:=h' }:=I.kept (t':=s.toks) fun b o e=>hx b o (Zx (wu e)) e;exact h WY _ σ H xs _ Q I1 (by simpa using rv) hw
def vD(te:TE)(g:TG):TS:=fun D σ H=>te σ H fun x H1=>g x σ H1 D.nx
def HP{tg e:Expr}{te:TE}{g:TG}(he:PE X e te)(hg:PG X tg g)(hs:swapsWithSole [tg] e pos.line X.env=pure false:=by rfl)(hw:swappedStores [tg] e X.env=pure none:=by rfl)
 (h1:(XJ [tg] X.env).map (·.2)=[assign tg X.env]:=by rfl):PS X (.Assign [tg] e pos) (vD te g):=by
 intro WY s σ H D I h;refine wpAny_Assign_stores (thn (he WY s σ H _ I h) fun v s1 hq_=>?_) hs hw;obtain⟨x,H1,I1,r1,q1⟩:=hq_;rw[h1];exact thn (hg WY s1 σ H1 x v _ I1 r1 q1) fun _ s2 q=>q
def FG{i:Nat}{x:Str}{e:Expr}{te:TE}{pos':Pos}(hN:X.N.Nodup)(hi:X.N[i]? = some x)(hx:Loc X.env.scope x)(he:PE X e te)(hs:swapsWith e (some (.Name x pos')) pos.line X.env=pure false:=by rfl)(hf:X.fn x=true\/X.env.scope.names.lookup x=some .local:=by first|exact .inl rfl|exact .inr rfl|assumption) :
 PS X (.Assign [.Name x pos'] e pos) (vD te (eY i)):=by
 intro WY s σ H D I h;refine wpAny_Assign_Name (thn (he WY s σ H _ I h) fun v s1 hq_=>?_) hs;obtain⟨y,H1,I1,r1,q1⟩:=hq_;exact o0 I1 hN hi hx r1 (fun s2 I2=>⟨_,H1,I2,q1⟩) hf
def GG(c:TT)(tb:TS):TS:=fun D σ H=>∃W:Nat->St->Hp->Prop,(∃m,W m σ H)/\∀m σ H,W m σ H ->
 c σ H fun b H1=>if b=true then ∃N:St->Hp->Prop,(∀σ' H',N σ' H'->∃m',m'<m/\W m' σ' H')/\tb { D with nx:=N,ct:=N,bk:=D.nx } σ H1 else D.nx σ H1
def oW{c:Expr}{body:List Stmt}{tc:TT}{tb:TS}(hp:PassesOwn (WA X.prog X.w) X.A X.env X.xe)(hc:PT X c tc)(hb:PSs X body tb):PS X (.While c body [] pos) (GG tc tb):=by
 intro WY s σ H D I h;obtain⟨W,⟨m0,w0⟩,turn⟩:=h;refine wpAny_While (codeAny_whileLoop (fun n s'=>∃σ' H',WL X WY σ' H' s'/\W n σ' H') ?_ m0 ⟨σ,H,I,w0⟩);rintro n s1 ⟨σ1,H1,I1,w1⟩;refine YG hp (thn (hc WY s1 σ1 H1 _ I1 (turn n σ1 H1 w1)) fun b s2 hq_=>?_);obtain⟨H2,I2,q2⟩:=hq_;cases b with
 |true=>
  obtain⟨N,hN,q2⟩:=q2;rw[VY rfl];refine YG hp (thn (hb WY s2 σ1 H2 _ I2 q2) fun f s3 q3=>?_);cases f with
  |next=>
   obtain⟨σ3,H3,I3,n3⟩:=q3;obtain⟨m',hm,w3⟩:=hN σ3 H3 n3;exact⟨m',hm,σ3,H3,I3,w3⟩
  |cont=>
   obtain⟨σ3,H3,I3,n3⟩:=q3;obtain⟨m',hm,w3⟩:=hN σ3 H3 n3;exact⟨m',hm,σ3,H3,I3,w3⟩
  |brk=>exact q3
  |ret v=>exact q3
 |false=>
  rw[VZ xl];exact Xr ⟨σ1,H2,I2,q2⟩
end
structure It where
 go:Nat->Hp->Prop
 yld:Nat->Hp->V->Hp->Prop
 stop:Nat->Hp->Prop
def iN(X:Cx)(WY:List (WH × Obj))(H:Hp)(b:WH):Prop:=
 H b=none/\b≠X.env.locals/\b∉X.fs/\(b∈X.ex\/X.s₀.heap.objs.size<=b)/\(∀x c,X.env.cells.lookup x=some c->c≠b)/\∀p∈X.pn++WY,p.1≠b
def WL.fpOk{X:Cx}{WY:List (WH × Obj)}{σ:St}{H H':Hp}{s:WG}{b:WH}(I:WL X WY σ H s)(hb:s.heap.objs.size<=b)(hn:H' b=none):iN X WY H' b:=by
 refine⟨hn,Nat.ne_of_gt (tS I.lt hb),I.nofs hb,.inr (wG I.sz hb),fun x c e z=>?_,fun p hp z=>?_⟩
 .obtain⟨v,q⟩:=I.cell x c e
  exact VT (tS q.lt (by rw[z];exact hb)) (Yu _)
 .exact VT (tS (wu (I.pin p hp).1) (by rw[z];exact hb)) (Yu _)
structure tE(P:WF)(w:WE)(K:Ws)(tg:Expr)(J:It)(fp:List WH)(it:WH)(tn:Nat->Wz->Prop):Prop where
 mem:it∈fp
 obj:∀i h,tn i h->∀b∈fp,∃o,h.get? b=some o/\∀v,o.data ≠ .cell v
 keep:∀i h h',tn i h->(∀b∈fp,∀o,h.get? b=some o->h'.get? b=some o)->tn i h'
 item:∀(X:Cx),X.prog=P->X.w=w->X.K=K->X.calm=true->∀(i:Nat) (WY:List (WH × Obj)) (s:WG) (σ:St) (H:Hp) (E:WI->WG->Prop),WL X WY σ H s->(∀b∈fp,iN X WY H b)->tn i s.heap->J.go i H ->
  WB (WA P w) X.A (pyNext (.ref it)) (fun r s1=>∃u,r=some u /\
   WB (WA P w) X.A (XN tg (.ref it) u) (fun _ s2=>∃x H',WL X WY σ H' s2/\WQ x u/\J.yld i H x H'/\tn (i+1) s2.heap/\∀b∈fp,H' b=none) E s1) E s
 done:∀(X:Cx),X.prog=P->X.w=w->X.K=K->X.calm=true->∀(i:Nat) (WY:List (WH × Obj)) (s:WG) (σ:St) (H:Hp) (E:WI->WG->Prop),WL X WY σ H s->(∀b∈fp,iN X WY H b)->tn i s.heap->J.stop i H ->
  WB (WA P w) X.A (pyNext (.ref it)) (fun r s1=>r=none/\WL X WY σ H s1) E s
 self:∀(A:WD) (i:Nat) (s:WG) (Q:WI->WG->Prop) (E:WI->WG->Prop),tn i s.heap->Q (.ref it) s->WB (WA P w) A (pyIter (.ref it)) Q E s
abbrev TI:=St->Hp->(It->Hp->Prop)->Prop
def PIE(X:Cx)(WY:List (WH × Obj))(σ:St)(tg:Expr)(R:It->Hp->Prop)(itv:WI)(s2:WG):Prop:=
 ∃(it:WH) (fp:List WH) (tn:Nat->Wz->Prop) (J:It) (H':Hp),itv = .ref it/\WL X WY σ H' s2/\tE X.prog X.w X.K tg J fp it tn/\tn 0 s2.heap/\(∀b∈fp,iN X WY H' b)/\R J H'
def PI(X:Cx)(tg iter:Expr)(wi:TI):Prop:=
 ∀(WY:List (WH × Obj)) (s:WG) (σ:St) (H:Hp) (R:It->Hp->Prop),WL X WY σ H s->wi σ H R ->
  WB (WA X.prog X.w) X.A (eval iter X.env) (fun v s1=>WB (WA X.prog X.w) X.A (pyIter v) (PIE X WY σ tg R) X.xe s1) X.xe s
def oB{s:WG}{o:Obj}(ho:s.heap.get? it=some o)(hc:o.cls = .type n)(hd:o.data = .fields vs)
 (hn:["enumerate","zip","dict_itemiterator","dict_reverseitemiterator","odict_iterator","itertools.zip_longest","itertools.pairwise"].contains n=false) (hQ:Q () s):WB M A (XN tg (.ref it) u) Q E s:=by
 unfold XN;cases tg <;> first
  |exact zJ hQ
  |(cases u <;> first
   |exact zJ hQ
   |(refine zd (wpAny_load ho ?_);rw[hc,hd];show WB M A (if (["enumerate","zip","dict_itemiterator","dict_reverseitemiterator","odict_iterator","itertools.zip_longest","itertools.pairwise"].contains n&&vs[0]? == some (rawInt _))=true then _ else _) Q E s;rw[VZ (by intro h;rw[hn,Bool.false_and]at h;cases h)];exact zJ hQ))
noncomputable def Itl(K:Ws)(a:WH):It:=
 ⟨fun i H=>∃xs x,SqL K H a xs/\xs[i]? = some x,fun i H x H'=>H'=H/\∀xs,SqL K H a xs->xs[i]? = some x,fun i H=>∃xs,SqL K H a xs/\xs.length<=i⟩
noncomputable def Itr(lo:Int)(n:Nat):It:=⟨fun i _=>i<n,fun i H x H'=>H'=H/\x = .int (lo+i),fun i _=>n<=i⟩
def lX{P:WF}{w:WE}{K:Ws}{tg:Expr}(a it:WH):tE P w K tg (Itl K a) [it] it (fun i h=>h.IsListIter it a i) where
 mem:=by simp
 obj:=fun i h st b hb=>by
  have e:b=it:=by simpa using hb
  subst e;obtain⟨o,e,c,d⟩:=st;exact⟨o,e,fun v z=>by rw[d]at z;cases z⟩
 keep:=fun i h h' st k=>st.at fun o e=>k it (by simp) o e
 item:=by
  intro X hP hw hK hc i WY s σ H E I hf st hg;subst hP hw hK;obtain⟨xs,x,hq,hx⟩:=hg;obtain⟨WV,rv,p,hz⟩:=I.list hq;obtain⟨u,hu,ru⟩:=rv.get hx;obtain⟨f0,f1,f2,f3,f4,f5⟩:=hf it (by simp);refine wpAny_pyNext_list_item st p.isList (x:=u) (by simpa using hu) fun h' st' sb=>?_;have I1:WL X WY σ H { s with heap:=h' }:=I.turned (t':=s.toks) (fun b o hb e=>(sb.2 b hb).trans e) f0 f1 f3 f4 f5;obtain⟨o,e,c,d⟩:=id st';exact⟨u,rfl,oB (s:={ s with heap:=h' }) e c d (by decide) ⟨x,H,I1,ru,⟨rfl,fun ys hy=>by rw[I.list_inj hy hq];exact hx⟩,st',fun b hb=>(hf b hb).1⟩⟩
 done:=by
  intro X hP hw hK hc i WY s σ H E I hf st hg;subst hP hw hK;obtain⟨xs,hq,hx⟩:=hg;obtain⟨WV,rv,p,hz⟩:=I.list hq;obtain⟨f0,f1,f2,f3,f4,f5⟩:=hf it (by simp);have hl:=rv.length;exact wpAny_pyNext_list_end (I.ok.hd hc) st p.isList (by simp;lia) fun h' eb=>⟨rfl,I.turned (t':=s.toks) (fun b o hb e=>eb b o hb e) f0 f1 f3 f4 f5⟩
 self:=fun _ _ _ _ _ st h=>wpAny_pyIter_listiter st h
def v9{P:WF}{w:WE}{K:Ws}{tg:Expr}(it:WH)(lo:Int)(n:Nat):tE P w K tg (Itr lo n) [it] it (fun i h=>IsRangeIter h it (lo+(i:Nat)*1) ((n:Int)-(i:Nat)) 1) where
 mem:=by simp
 obj:=fun i h st b hb=>by
  have e:b=it:=by simpa using hb
  subst e;exact⟨_,st,fun v z=>by
   have z':XB _=Data.cell v:=z;cases z'⟩
 keep:=fun i h h' st k=>k it (by simp) _ st
 item:=by
  intro X hP hw hK hc i WY s σ H E I hf st hg;subst hP hw hK;obtain⟨f0,f1,f2,f3,f4,f5⟩:=hf it (by simp);have W:=Walks.range (prog:=X.prog) (w:=X.w) (I.ok.hd hc) it lo 1 n;refine W.item i s _ _ hg st fun v h' tk hv st' kk=>?_;obtain⟨t,rfl⟩:=hv;have I1:WL X WY σ H { s with heap:=h',toks:=tk }:=I.turned (fun b o hb e=>kk b o (by simpa using hb) e) f0 f1 f3 f4 f5;refine⟨_,rfl,oB (s:={ s with heap:=h',toks:=tk }) (n:="range_iterator") st' rfl rfl (by decide) ⟨.int (lo+i),H,I1,⟨t,?_⟩,⟨rfl,rfl⟩,st',fun b hb=>(hf b hb).1⟩⟩;rw[Int.mul_one]
 done:=by
  intro X hP hw hK hc i WY s σ H E I hf st hg;subst hP hw hK;obtain⟨f0,f1,f2,f3,f4,f5⟩:=hf it (by simp);exact wpAny_pyNext_range_end (I.ok.hd hc) st (by have:n<=i:=hg;lia) fun h' eb=>⟨rfl,I.turned (t':=s.toks) (fun b o hb e=>eb b o hb e) f0 f1 f3 f4 f5⟩
 self:=fun _ _ _ _ _ st h=>wpAny_pyIter_rangeiter st h
section
variable{X:Cx}{tg:Expr}
def mR(K:Ws)(tl:TE):TI:=fun σ H R=>tl σ H fun x H1=>∃a,x = .ref a/\(∃xs,SqL K H1 a xs)/\R (Itl K a) H1
def Dx{l:Expr}{tl:TE}(hl:PE X l tl):PI X tg l (mR X.K tl):=by
 intro WY s σ H R I h;refine thn (hl WY s σ H _ I h) fun v s1 hq_=>?_;obtain⟨x,H1,I1,r1,q1⟩:=hq_;obtain⟨a,e,⟨xs,hq⟩,q⟩:=q1;subst e;cases r1;obtain⟨WV,rv,p,hz⟩:=I1.list hq;refine wpAny_pyIter_list p.isList ?_;refine⟨s1.heap.objs.size,[s1.heap.objs.size],_,_,H1,rfl,I1.kept (t':=s1.toks) fun b o e=>Wr _ e,lX a _,⟨_,Wq _ rfl,rfl,rfl⟩,fun b hb=>?_,q⟩;have e:b=s1.heap.objs.size:=by simpa using hb
 subst e;exact I1.fpOk (zK _) (I1.hok.fresh (zK _))
def ut{WY:List (WH × Obj)}{σ:St}{H:Hp}{s:WG}{R:It->Hp->Prop}{E:WI->WG->Prop}{lo hi:Int}{t u v:Tok}{tk:Nat}(I:WL X WY σ H s)(h1:-(2 ^ 62)<=lo)(h2:lo<2 ^ 62)(h3:-(2 ^ 62)<=hi)(h4:hi<2 ^ 62)
 (q:R (Itr lo (hi-lo).toNat) H):WB (WA X.prog X.w) X.A (pyIter (.ref s.heap.objs.size)) (PIE X WY σ tg R) E { s with heap:=s.heap.push { cls:=.type "range",data:=.fields #[.int lo t,.int hi u,.int 1 v] },toks:=tk }:=by
 refine wpAny_pyIter_range (IsRange.new ..) (small_one h1 h2 h3 h4) ?_;have I1:WL X WY σ H { s with heap:=s.heap.push { cls:=.type "range",data:=.fields #[.int lo t,.int hi u,.int 1 v] },toks:=tk }:=I.kept fun b o e=>Wr _ e;refine⟨(s.heap.push { cls:=.type "range",data:=.fields #[.int lo t,.int hi u,.int 1 v] }).objs.size,[(s.heap.push { cls:=.type "range",data:=.fields #[.int lo t,.int hi u,.int 1 v] }).objs.size],_,_,H,rfl,
  I1.kept (t':=tk) fun b o e=>Wr _ e,v9 _ lo (hi-lo).toNat,?_,fun b hb=>?_,q⟩
 .have e1:lo+((0:Nat):Int)*1=lo:=by simp
  have e2:(((hi-lo).toNat:Nat):Int)-((0:Nat):Int)=Builtin.Range.rangeSize lo hi 1:=by rw[rangeSize_one];split <;> lia
  show IsRangeIter _ _ (lo+((0:Nat):Int)*1) ((((hi-lo).toNat:Nat):Int)-((0:Nat):Int)) 1;rw[e1,e2];exact Wq _ rfl
 .have e:b=(s.heap.push { cls:=.type "range",data:=.fields #[.int lo t,.int hi u,.int 1 v] }).objs.size:=by simpa using hb
  subst e;exact I1.fpOk (zK _) (I1.hok.fresh (zK _))
def Cj(ta:TA):TI:=fun σ H R=>ta σ H fun vs H1=>∃j:Int,vs=[.int j] /\ -(2 ^ 62)<=j/\j<2 ^ 62/\R (Itr 0 j.toNat) H1
def BL(ta:TA):TI:=fun σ H R=>ta σ H fun vs H1=>∃i j:Int,vs=[.int i,.int j]/\(-(2 ^ 62)<=i/\i<2 ^ 62 /\ -(2 ^ 62)<=j/\j<2 ^ 62)/\R (Itr i (j-i).toNat) H1
def dC{a:Expr}{ta:TA}{p pos:Pos}(hg:Gl X "range")(hm:X.mg "range" = none)(ha:PA X [a] ta)(hs:Wy [a] X.env=[(false,eval a X.env)]:=by rfl):PI X tg (.Call (.Name "range" p) [a] [] pos) (Cj ta):=by
 intro WY s σ H R I h;refine Call_ (jD I hg hm boot_range (Yv (thn (ha pos WY s σ H _ I h) fun us s1 hq_=>?_) hs rfl));obtain⟨vs,H1,I1,r1,q1⟩:=hq_;obtain⟨j,e,q1,q2,q⟩:=q1;subst e;cases r1 with
 |cons r rr=>
  cases rr;obtain⟨t,rfl⟩:=r;exact call_range_1 (ut I1 (by lia) (by lia) q1 q2 (by simpa using q))
def qB{a b:Expr}{ta:TA}{p pos:Pos}(hg:Gl X "range")(hm:X.mg "range" = none)(ha:PA X [a,b] ta)(hs:Wy [a,b] X.env=[(false,eval a X.env),(false,eval b X.env)]:=by rfl)(hs2:Wy [b] X.env=[(false,eval b X.env)]:=by rfl) :
 PI X tg (.Call (.Name "range" p) [a,b] [] pos) (BL ta):=by
 intro WY s σ H R I h;refine Call_ (jD I hg hm boot_range (Yv (thn (ha pos WY s σ H _ I h) fun us s1 ⟨vs,H1,I1,r1,q1⟩=>?_) (by rw[hs,hs2]) (by rw[hs2];rfl)));obtain⟨i,j,e,⟨q1,q2,q3,q4⟩,q⟩:=q1;subst e;cases r1 with
 |cons r rr=>
  cases rr with
  |cons r' rr=>
   cases rr;obtain⟨t,rfl⟩:=r;obtain⟨t',rfl⟩:=r';exact call_range_2 (ut I1 q1 q2 q3 q4 q)
def pI(wi:TI)(g:TG)(tb:TS):TS:=fun D σ H=>wi σ H fun J H1=>∃W:Nat->Nat->St->Hp->Prop,(∃m,W 0 m σ H1)/\∀i m σ H,W i m σ H ->
 (J.stop i H/\D.nx σ H)\/(J.go i H/\∃N:St->Hp->Prop,(∀σ' H',N σ' H'->∃m',m'<m/\W (i+1) m' σ' H')/\∀x H',J.yld i H x H'->g x σ H' fun σ2 H2=>tb { D with nx:=N,ct:=N,bk:=D.nx } σ2 H2)
noncomputable def oq(fp:List WH)(h:Wz):List (WH × Obj):=fp.filterMap fun b=>(h.get? b).map fun o=>(b,o)
def h_{fp:List WH}{h:Wz}{b:WH}{o:Obj}(hb:b∈fp)(e:h.get? b=some o):(b,o)∈oq fp h:=List.mem_filterMap.mpr ⟨b,hb,by rw[e];rfl⟩
def yx{h:Wz}(hp:p∈oq fp h):p.1∈fp/\h.get? p.1=some p.2:=by
 obtain⟨b,hb,e⟩:=List.mem_filterMap.mp hp;cases q:h.get? b with
 |none=>rw[q]at e;cases e
 |some o=>
  rw[q]at e;have e':(b,o)=p:=Zs e;subst e';exact⟨hb,q⟩
def WL.pinned{WY:List (WH × Obj)}{σ:St}{H:Hp}{s:WG}{fp:List WH}(I:WL X WY σ H s)(hf:∀b∈fp,iN X WY H b)(ho:∀b∈fp,∃o,s.heap.get? b=some o/\∀v,o.data ≠ .cell v):WL X (WY++oq fp s.heap) σ H s:=
 I.pins_of fun p hp=>(yy.mp hp).elim (fun z=>I.pin p (wq _ z)) fun z=>by
  obtain⟨hb,e⟩:=yx z;obtain⟨f0,f1,f2,_⟩:=hf p.1 hb;obtain⟨o,e',d⟩:=ho p.1 hb;rw[e]at e';cases e';exact⟨e,f0,f1,f2,d⟩
def WL.unpinned{WY pl:List (WH × Obj)}{σ:St}{H:Hp}{s:WG}(I:WL X (WY++pl) σ H s):WL X WY σ H s:=I.pins_of fun p hp=>I.pin p (wq _ (vS _ hp))
def bY{iter:Expr}{body:List Stmt}{wi:TI}{g:TG}{tb:TS}{pos:Pos}(hp:PassesOwn (WA X.prog X.w) X.A X.env X.xe)(hc:X.calm=true)(hi:PI X tg iter wi)(hg:PG X tg g)(hb:PSs X body tb)
 (hs:∀x,Yg iter X.env x=pure x:=by intro _;rfl):PS X (.For tg iter body [] pos) (pI wi g tb):=by
 intro WY s σ H D I h;refine wpAny_For (thn (hi WY s σ H _ I h) fun v s1 h1=>thn h1 fun itv s2 h2=>?_) hs;obtain⟨it,fp,tn,J,H2,e,I2,T,st2,f2,W,⟨m0,w0⟩,turn⟩:=h2;subst e;have stat:∀ {H':Hp},(∀b∈fp,H' b=none)->∀b∈fp,iN X WY H' b:=fun hn b hb=>⟨hn b hb,(f2 b hb).2⟩;refine codeAny_forLoop_any (fun n s'=>∃i σ' H',WL X WY σ' H' s'/\tn i s'.heap/\(∀b∈fp,H' b=none)/\W i n σ' H') ?_ m0 ⟨0,σ,H2,I2,st2,fun b hb=>(f2 b hb).1,w0⟩;rintro n s3 ⟨i,σ3,H3,I3,st3,fr3,w3⟩;obtain⟨stop,qn⟩|⟨go,N,hN,step⟩:=turn i n σ3 H3 w3
 .refine YG hp (thn (T.done X rfl rfl rfl hc i WY s3 σ3 H3 X.xe I3 (stat fr3) st3 stop) fun r s4 hq_=>?_)
  obtain⟨hr,I4⟩:=hq_;subst hr;exact Xr ⟨σ3,H3,I4,qn⟩
 .refine YG hp (thn (T.item X rfl rfl rfl hc i WY s3 σ3 H3 X.xe I3 (stat fr3) st3 go) fun r s4 hq_=>?_)
  obtain⟨u,hr,h4⟩:=hq_;subst hr;refine YG hp (thn h4 fun _ s5 hq_=>?_);obtain⟨x,H5,I5,r5,y5,st5,fr5⟩:=hq_;have I5':=I5.pinned (stat fr5) (T.obj _ _ st5);refine YG hp (thn (hg _ s5 σ3 H5 x u _ I5' r5 (step x H5 y5)) fun _ s6 hq_=>?_);obtain⟨σ6,H6,I6,q6⟩:=hq_;refine YG hp (thn (hb _ s6 σ6 H6 _ I6 q6) fun f s7 q7=>?_);have again:∀ {σ7:St} {H7:Hp},WL X (WY++oq fp s5.heap) σ7 H7 s7->N σ7 H7->∃m,m<n/\∃i σ' H',WL X WY σ' H' s7/\tn i s7.heap/\(∀b∈fp,H' b=none)/\W i m σ' H':=fun {σ7 H7} I7 n7=>by
   obtain⟨m',hm,w7⟩:=hN σ7 H7 n7;refine⟨m',hm,i+1,σ7,H7,I7.unpinned,T.keep _ _ _ st5 fun b hb o e=>(I7.pin (b,o) (wq _ (wq _ (h_ hb e)))).1,fun b hb=>?_,w7⟩;obtain⟨o,e,d⟩:=T.obj _ _ st5 b hb;exact(I7.pin (b,o) (wq _ (wq _ (h_ hb e)))).2.1
  cases f with
  |next=>obtain⟨σ7,H7,I7,n7⟩:=q7;exact again I7 n7
  |cont=>obtain⟨σ7,H7,I7,n7⟩:=q7;exact again I7 n7
  |brk=>obtain⟨σ7,H7,I7,q7⟩:=q7;exact⟨σ7,H7,I7.unpinned,q7⟩
  |ret v=>obtain⟨x7,σ7,H7,I7,r7,q7⟩:=q7;exact⟨x7,σ7,H7,I7.unpinned,r7,q7⟩
end
def cM{K:Ws}{a:WH}{xs:List V}{g:TG}{tb:TS}{D:fo}{σ:St}{H:Hp}(Pv:Nat->St->Hp->Prop)(h0:Pv 0 σ H)(hl:∀i σ H,i<=xs.length->Pv i σ H->SqL K H a xs)
 (hs:∀i x σ H,xs[i]? = some x->Pv i σ H->g x σ H fun σ2 H2=>tb { D with nx:=Pv (i+1),ct:=Pv (i+1),bk:=D.nx } σ2 H2) (hd:∀σ H,Pv xs.length σ H->D.nx σ H) :
 ∃W:Nat->Nat->St->Hp->Prop,(∃m,W 0 m σ H)/\∀i m σ H,W i m σ H ->
  ((Itl K a).stop i H/\D.nx σ H)\/((Itl K a).go i H/\∃N:St->Hp->Prop,(∀σ' H',N σ' H'->∃m',m'<m/\W (i+1) m' σ' H')/\∀x H',(Itl K a).yld i H x H'->g x σ H' fun σ2 H2=>tb { D with nx:=N,ct:=N,bk:=D.nx } σ2 H2):=by
 refine⟨fun i m σ H=>m=xs.length-i/\i<=xs.length/\Pv i σ H,⟨xs.length,by simp,tB _,h0⟩,?_⟩;rintro i m σ H ⟨rfl,hi,p⟩;have q:=hl i σ H hi p;by_cases hlt:i<xs.length
 .refine .inr ⟨⟨xs,xs[i],q,by simp[hlt]⟩,Pv (i+1),fun σ' H' p'=>⟨xs.length-(i+1),by lia,rfl,hlt,p'⟩,fun x H' y=>?_⟩
  obtain⟨e,y⟩:=y;subst e;exact hs i x σ _ (y xs q) p
 .have e:i=xs.length:=by lia
  subst e;exact .inl ⟨⟨xs,q,zK _⟩,hd σ H p⟩
def dZ{lo:Int}{n:Nat}{g:TG}{tb:TS}{D:fo}{σ:St}{H:Hp}(Pv:Nat->St->Hp->Prop)(h0:Pv 0 σ H)
 (hs:∀i σ H,i<n->Pv i σ H->g (.int (lo+i)) σ H fun σ2 H2=>tb { D with nx:=Pv (i+1),ct:=Pv (i+1),bk:=D.nx } σ2 H2) (hd:∀σ H,Pv n σ H->D.nx σ H) :
 ∃W:Nat->Nat->St->Hp->Prop,(∃m,W 0 m σ H)/\∀i m σ H,W i m σ H ->
  ((Itr lo n).stop i H/\D.nx σ H)\/((Itr lo n).go i H/\∃N:St->Hp->Prop,(∀σ' H',N σ' H'->∃m',m'<m/\W (i+1) m' σ' H')/\∀x H',(Itr lo n).yld i H x H'->g x σ H' fun σ2 H2=>tb { D with nx:=N,ct:=N,bk:=D.nx } σ2 H2):=by
 refine⟨fun i m σ H=>m=n-i/\i<=n/\Pv i σ H,⟨n,by simp,tB _,h0⟩,?_⟩;rintro i m σ H ⟨rfl,hi,p⟩;by_cases hlt:i<n
 .refine .inr ⟨hlt,Pv (i+1),fun σ' H' p'=>⟨n-(i+1),by lia,rfl,hlt,p'⟩,fun x H' y=>?_⟩
  obtain⟨e,y⟩:=y;subst e y;exact hs i σ _ hlt p
 .have e:i=n:=by lia
  subst e;exact .inl ⟨zK _,hd σ H p⟩
abbrev R2:=V->V->Hp->VK->Prop
def OpR(X:Cx)(f:WI->WI->Sem WI)(r:R2):Prop:=
 ∀(WY:List (WH × Obj)) (s:WG) (σ:St) (H:Hp) (x y:V) (v u:WI) (Q:VK),WL X WY σ H s->WQ x v->WQ y u->r x y H Q ->
  WB (WA X.prog X.w) X.A (f v u) (EP X WY σ Q) X.xe s
def UnR(X:Cx)(f:WI->Sem WI)(r:V->Hp->VK->Prop):Prop:=
 ∀(WY:List (WH × Obj)) (s:WG) (σ:St) (H:Hp) (x:V) (v:WI) (Q:VK),WL X WY σ H s->WQ x v->r x H Q ->
  WB (WA X.prog X.w) X.A (f v) (EP X WY σ Q) X.xe s
def WN(X:Cx)(f:WI)(r:List V->Hp->VK->Prop):Prop:=
 ∀(WY:List (WH × Obj)) (s:WG) (σ:St) (H:Hp) (xs:List V) (us:List WI) (Q:VK),WL X WY σ H s->WP xs us->r xs H Q ->
  WB (WA X.prog X.w) X.A (call f us) (EP X WY σ Q) X.xe s
def Ki(X:Cx)(r:V->Hp->(Bool->Hp->Prop)->Prop):Prop:=
 ∀(WY:List (WH × Obj)) (s:WG) (σ:St) (H:Hp) (x:V) (v:WI) (Q:Bool->Hp->Prop),WL X WY σ H s->WQ x v->r x H Q ->
  WB (WA X.prog X.w) X.A (truthy v) (TP X WY σ Q) X.xe s
def tOp(r:R2)(ta tb:TE):TE:=fun σ H Q=>ta σ H fun x H1=>tb σ H1 fun y H2=>r x y H2 Q
def tUn(r:V->Hp->VK->Prop)(ta:TE):TE:=fun σ H Q=>ta σ H fun x H1=>r x H1 Q
def rI(C:Int->Int->Prop)(g:Int->Int->V):R2:=fun x y H Q=>∃i j,x = .int i/\y = .int j/\C i j/\Q (g i j) H
def rI0(g:Int->Int->V):R2:=fun x y H Q=>∃i j,x = .int i/\y = .int j/\Q (g i j) H
def rU(g:Int->V):V->Hp->VK->Prop:=fun x H Q=>∃i,x = .int i/\Q (g i) H
section
variable{X:Cx}{a b c:Expr}{ta tb tc:TE}{pos:Pos}
def HQ(ha:PE X a ta)(hb:PE X b tb){WY:List (WH × Obj)}{s:WG}{σ:St}{H:Hp}{R:V->V->Hp->Prop}(I:WL X WY σ H s)
 (h:ta σ H fun x H1=>tb σ H1 fun y H2=>R x y H2) {Q:WI->WG->Prop} {f:WI->WI->Sem WI}
 (hf:∀v u s2 x y H2,WL X WY σ H2 s2->WQ x v->WQ y u->R x y H2->WB (WA X.prog X.w) X.A (f v u) Q X.xe s2) :
 WB (WA X.prog X.w) X.A (eval a X.env) (fun v s₁=>WB (WA X.prog X.w) X.A (eval b X.env) (fun u s₂=>WB (WA X.prog X.w) X.A (f v u) Q X.xe s₂) X.xe s₁) X.xe s:=by
 refine thn (ha WY s σ H _ I h) fun v s1 hq_=>?_;obtain⟨x,H1,I1,r1,q1⟩:=hq_;refine thn (hb WY s1 σ H1 _ I1 q1) fun u s2 hq_=>?_;obtain⟨y,H2,I2,r2,q2⟩:=hq_;exact hf v u s2 x y H2 I2 r1 r2 q2
def ai{op:Operator}{r:R2}(ho:OpR X (binaryOp op) r)(ha:PE X a ta)(hb:PE X b tb):PE X (.BinOp a op b pos) (tOp r ta tb):=by
 intro WY s σ H Q I h;exact wpAny_BinOp (HQ ha hb I h fun v u s2 x y H2 I2 rx ry q=>ho WY s2 σ H2 x y v u Q I2 rx ry q)
def oQ{op:UnaryOp}{r:V->Hp->VK->Prop}(ho:UnR X (unaryOp op) r)(ha:PE X a ta):PE X (.UnaryOp op a pos) (tUn r ta):=by
 intro WY s σ H Q I h;exact UnaryOp_ (thn (ha WY s σ H _ I h) fun v s1 hq_=>(by obtain⟨x,H1,I1,r1,q1⟩:=hq_;exact ho WY s1 σ H1 x v Q I1 r1 q1))
def opI{f:WI->WI->Sem WI}{C:Int->Int->Prop}{g:Int->Int->Int}
 (rule:∀(i j:Int) (t u:Tok) (s:WG) (Q:WI->WG->Prop) (E:WI->WG->Prop),C i j->Q (.int (g i j) s.toks) { s with toks:=s.toks+1 }->WB (WA X.prog X.w) X.A (f (.int i t) (.int j u)) Q E s) :
 OpR X f (rI C fun i j=>.int (g i j)):=by
 intro WY s σ H x y v u Q I rx ry h;obtain⟨i,j,rfl,rfl,hc,q⟩:=h;obtain⟨t,rfl⟩:=rx;obtain⟨t',rfl⟩:=ry;exact rule i j t t' s _ _ hc ⟨.int (g i j),H,I.tok _,⟨_,rfl⟩,q⟩
def IV{f:WI->WI->Sem WI}{g:Int->Int->Int}
 (rule:∀(i j:Int) (t u:Tok) (s:WG) (Q:WI->WG->Prop) (E:WI->WG->Prop),Q (.int (g i j) s.toks) { s with toks:=s.toks+1 }->WB (WA X.prog X.w) X.A (f (.int i t) (.int j u)) Q E s) :
 OpR X f (rI0 fun i j=>.int (g i j)):=by
 intro WY s σ H x y v u Q I rx ry h;obtain⟨i,j,rfl,rfl,q⟩:=h;obtain⟨t,rfl⟩:=rx;obtain⟨t',rfl⟩:=ry;exact rule i j t t' s _ _ ⟨.int (g i j),H,I.tok _,⟨_,rfl⟩,q⟩
def FO{f:WI->WI->Sem WI}{g:Int->Int->Bool}
 (rule:∀(i j:Int) (t u:Tok) (s:WG) (Q:WI->WG->Prop) (E:WI->WG->Prop),Q (.bool (g i j)) s->WB (WA X.prog X.w) X.A (f (.int i t) (.int j u)) Q E s) :
 OpR X f (rI0 fun i j=>.bl (g i j)):=by
 intro WY s σ H x y v u Q I rx ry h;obtain⟨i,j,rfl,rfl,q⟩:=h;obtain⟨t,rfl⟩:=rx;obtain⟨t',rfl⟩:=ry;exact rule i j t t' s _ _ ⟨.bl (g i j),H,I,rfl,q⟩
def Fq(i j:Int):Prop:=0<j/\j<1073741824
def FJ(i j:Int):Prop:=0<=j/\j<=1000000/\i.natAbs<2 ^ 64
def CMul(i j:Int):Prop:=(-(2 ^ 64)<i/\i<2 ^ 64)\/(-(2 ^ 64)<j/\j<2 ^ 64)
def CMul.ok{i j:Int}(h:CMul i j):IntMulOk i j:=by
 obtain⟨h1,h2⟩|⟨h1,h2⟩:=h
 .exact .of_left (intBits_le_64 h1 h2)
 .exact .of_right (intBits_le_64 h1 h2)
def Hk:OpR X (binaryOp .Add) (rI0 fun i j=>.int (i+j)):=IV fun _ _ _ _ _ _ _ q=>add_int q
def Fy:OpR X (binaryOp .Sub) (rI0 fun i j=>.int (i-j)):=IV fun _ _ _ _ _ _ _ q=>sub_int q
def GO:OpR X (binaryOp .Mult) (rI CMul fun i j=>.int (i*j)):=opI fun _ _ _ _ _ _ _ hc q=>mul_int q hc.ok
def Di:OpR X (binaryOp .FloorDiv) (rI Fq fun i j=>.int (i / j)):=opI fun i j _ _ _ _ _ hc q=>by
 have h1:(0:Int)<j:=hc.1;have h2:j<1073741824:=hc.2;exact floordiv_int (by lia) (by rw[Int.fdiv_eq_ediv_of_nonneg i (by lia)];exact q) (.inl (PyProof.noPylong_small (by lia)))
def HL:OpR X (binaryOp .Mod) (rI (fun _ j=>0<j) fun i j=>.int (i % j)):=opI fun i j _ _ _ _ _ hc q=>by
 have h1:(0:Int)<j:=hc;exact mod_int' (by lia) (by rw[Int.fmod_eq_emod_of_nonneg i (by lia)];exact q)
def GH:OpR X (binaryOp .Pow) (rI FJ fun i j=>.int (i ^ j.toNat)):=opI fun _ _ _ _ _ _ _ hc q=>pow_int_small hc.1 hc.2.1 hc.2.2 q
def unI{f:WI->Sem WI}{g:Int->Int}
 (rule:∀(i:Int) (t:Tok) (s:WG) (Q:WI->WG->Prop) (E:WI->WG->Prop),Q (.int (g i) s.toks) { s with toks:=s.toks+1 }->WB (WA X.prog X.w) X.A (f (.int i t)) Q E s) :
 UnR X f (rU fun i=>.int (g i)):=by
 intro WY s σ H x v Q I rx h;obtain⟨i,rfl,q⟩:=h;obtain⟨t,rfl⟩:=rx;exact rule i t s _ _ ⟨.int (g i),H,I.tok _,⟨_,rfl⟩,q⟩
def GB:UnR X (unaryOp .USub) (rU fun i=>.int (-i)):=unI fun _ _ _ _ _ q=>neg_int q
end
noncomputable def GR:V->V->Bool
 | .non,.non=>true | .non,.int _=>true | .int _,.non=>true | .non,.bl _=>true | .bl _,.non=>true | .non,.str _=>true | .str _,.non=>true
 | .int _,.int _=>true | .bl _,.bl _=>true | .str _,.str _=>true | .byt _,.byt _=>true
 | .int _,.str _=>true | .str _,.int _=>true | .bl _,.str _=>true | .str _,.bl _=>true
 |_,_=>false
def rEq:R2:=fun x y H Q=>GR x y=true/\Q (.bl (decide (x=y))) H
def rNe:R2:=fun x y H Q=>GR x y=true/\Q (.bl (!decide (x=y))) H
def wU:decide (V.int i=V.int j)=(i==j):=by
 rw[Xn];simp
def Aq:decide (V.bl i=V.bl j)=(i==j):=by
 rw[Xn];simp
def xc:decide (V.str i=V.str j)=(i==j):=by
 rw[Xn];simp
def xr{i j:Array UInt8}:decide (V.byt i=V.byt j)=(i.toList==j.toList):=by
 rw[Xn];cases i;cases j;simp
section
variable{X:Cx}{a b c:Expr}{ta tb tc:TE}{pos:Pos}
def bB(I:WL X WY σ H s)(q:Q (.bl k) H)(e:k=k'):EP X WY σ Q (.bool k') s:=by
 subst e;exact⟨.bl k,H,I,rfl,q⟩
def Jf:OpR X (Zd .Eq) rEq:=by
 intro WY s σ H x y v u Q I rx ry h;obtain⟨hs,q⟩:=h;cases x with
 |non=>
  cases rx;cases y with
  |non=>cases ry;exact PySem.EqNone.eq_none_none (bB I q (by simp))
  |bl j=>cases ry;exact PySem.EqNone.eq_none_bool (bB I q (by simp))
  |int j=>obtain⟨t',rfl⟩:=ry;exact PySem.EqNone.eq_none_int (bB I q (by simp))
  |str j=>obtain⟨t',rfl⟩:=ry;exact PySem.EqNone.eq_none_str (bB I q (by simp))
  |_=>exact VT (show false=true from hs) xl
 |bl i=>
  cases rx;cases y with
  |non=>cases ry;exact PySem.EqNone.eq_bool_none (bB I q (by simp))
  |bl j=>cases ry;exact eq_bool (bB I q Aq)
  |str j=>obtain⟨t',rfl⟩:=ry;exact PySem.EqMixed.eq_bool_str (bB I q (by simp))
  |_=>exact VT (show false=true from hs) xl
 |int i=>
  obtain⟨t,rfl⟩:=rx;cases y with
  |non=>cases ry;exact PySem.EqNone.eq_int_none (bB I q (by simp))
  |int j=>obtain⟨t',rfl⟩:=ry;exact eq_int (bB I q wU)
  |str j=>obtain⟨t',rfl⟩:=ry;exact PySem.EqMixed.eq_int_str (bB I q (by simp))
  |_=>exact VT (show false=true from hs) xl
 |str i=>
  obtain⟨t,rfl⟩:=rx;cases y with
  |non=>cases ry;exact PySem.EqNone.eq_str_none (bB I q (by simp))
  |bl j=>cases ry;exact PySem.EqMixed.eq_str_bool (bB I q (by simp))
  |int j=>obtain⟨t',rfl⟩:=ry;exact PySem.EqMixed.eq_str_int (bB I q (by simp))
  |str j=>obtain⟨t',rfl⟩:=ry;exact eq_str (bB I q xc)
  |_=>exact VT (show false=true from hs) xl
 |byt i=>
  obtain⟨t,rfl⟩:=rx;cases y with
  |byt j=>obtain⟨t',rfl⟩:=ry;exact PySem.W.eq_bytes (bB I q xr)
  |_=>exact VT (show false=true from hs) xl
 |_=>cases y <;> exact VT (show false=true from hs) xl
def IL:OpR X (Zd .NotEq) rNe:=by
 intro WY s σ H x y v u Q I rx ry h;obtain⟨hs,q⟩:=h;cases x with
 |non=>
  cases rx;cases y with
  |non=>cases ry;exact PySem.EqNone.ne_none_none (bB I q (by simp))
  |bl j=>cases ry;exact PySem.EqNone.ne_none_bool (bB I q (by simp))
  |int j=>obtain⟨t',rfl⟩:=ry;exact PySem.EqNone.ne_none_int (bB I q (by simp))
  |str j=>obtain⟨t',rfl⟩:=ry;exact PySem.EqNone.ne_none_str (bB I q (by simp))
  |_=>exact VT (show false=true from hs) xl
 |bl i=>
  cases rx;cases y with
  |non=>cases ry;exact PySem.EqNone.ne_bool_none (bB I q (by simp))
  |bl j=>cases ry;exact ne_bool (bB I q (VU not Aq))
  |str j=>obtain⟨t',rfl⟩:=ry;exact PySem.EqMixed.ne_bool_str (bB I q (by simp))
  |_=>exact VT (show false=true from hs) xl
 |int i=>
  obtain⟨t,rfl⟩:=rx;cases y with
  |non=>cases ry;exact PySem.EqNone.ne_int_none (bB I q (by simp))
  |int j=>obtain⟨t',rfl⟩:=ry;exact ne_int (bB I q (VU not wU))
  |str j=>obtain⟨t',rfl⟩:=ry;exact PySem.EqMixed.ne_int_str (bB I q (by simp))
  |_=>exact VT (show false=true from hs) xl
 |str i=>
  obtain⟨t,rfl⟩:=rx;cases y with
  |non=>cases ry;exact PySem.EqNone.ne_str_none (bB I q (by simp))
  |bl j=>cases ry;exact PySem.EqMixed.ne_str_bool (bB I q (by simp))
  |int j=>obtain⟨t',rfl⟩:=ry;exact PySem.EqMixed.ne_str_int (bB I q (by simp))
  |str j=>obtain⟨t',rfl⟩:=ry;exact ne_str (bB I q (VU not xc))
  |_=>exact VT (show false=true from hs) xl
 |byt i=>
  obtain⟨t,rfl⟩:=rx;cases y with
  |byt j=>obtain⟨t',rfl⟩:=ry;exact PySem.W.ne_bytes (bB I q (VU not xr))
  |_=>exact VT (show false=true from hs) xl
 |_=>cases y <;> exact VT (show false=true from hs) xl
def Jj:OpR X (Zd .Lt) (rI0 fun i j=>.bl (decide (i<j))):=FO fun _ _ _ _ _ _ _ q=>lt_int q
def IZ:OpR X (Zd .LtE) (rI0 fun i j=>.bl (decide (i<=j))):=FO fun _ _ _ _ _ _ _ q=>le_int q
def Ii:OpR X (Zd .Gt) (rI0 fun i j=>.bl (decide (j<i))):=FO fun _ _ _ _ _ _ _ q=>gt_int q
def yg:OpR X (Zd .Lt) (fun x y H Q=>∃i j,x = .str i/\y = .str j/\Q (.bl (decide (i.cps.toList<j.cps.toList))) H):=by
 intro WY s σ H x y v u Q I rx ry h;obtain⟨i,j,rfl,rfl,q⟩:=h;obtain⟨t,rfl⟩:=rx;obtain⟨t',rfl⟩:=ry;exact lt_str (bB I q rfl)
def yB:OpR X (Zd .In) (fun x y H Q=>∃i j,x = .str i/\y = .str j/\Q (.bl (!(Builtin.Str.occurrences j i 0 j.length 1).isEmpty)) H):=by
 intro WY s σ H x y v u Q I rx ry h;obtain⟨i,j,rfl,rfl,q⟩:=h;obtain⟨t,rfl⟩:=rx;obtain⟨t',rfl⟩:=ry;exact in_str (bB I q rfl)
def OpR.or{f:WI->WI->Sem WI}{r r':R2}(h:OpR X f r)(h':OpR X f r'):OpR X f (fun x y H Q=>r x y H Q\/r' x y H Q):=by
 intro WY s σ H x y v u Q I rx ry q;obtain q|q:=q
 .exact h WY s σ H x y v u Q I rx ry q
 .exact h' WY s σ H x y v u Q I rx ry q
def dY(b:Expr)(h:op ≠ .In:=by decide)(h2:op ≠ .NotIn:=by decide):YW op b=false:=by
 have e1:(op==CmpOp.In)=false:=by cases op <;> first|rfl|exact VT rfl h
 have e2:(op==CmpOp.NotIn)=false:=by cases op <;> first|rfl|exact VT rfl h2
 cases b <;> simp[YW,e1,e2]
def dl{op:CmpOp}{r:R2}(ho:OpR X (Zd op) r)(ha:PE X a ta)(hb:PE X b tb)(hm:YW op b=false):PE X (.Compare a [op] [b] pos) (tOp r ta tb):=by
 intro WY s σ H Q I h;exact wpAny_Compare1 (HQ ha hb I h fun v u s2 x y H2 I2 rx ry q=>ho WY s2 σ H2 x y v u Q I2 rx ry q) hm
def Kq(K:Ws)(x:V)(H:Hp)(k:Bool):Prop:=
 match x with
 | .non=>k=false
 | .bl b=>k=b
 | .int i=>k=(i != 0)
 | .str y=>y.length<=WC/\k=((y.length:Int) != 0)
 | .byt y=>y.size<=WC/\k=((y.size:Int) != 0)
 | .ref p=>(∃xs,SqL K H p xs/\k = !xs.isEmpty)\/(∃xs,SqT K H p xs/\k = !xs.isEmpty)\/∃WU,H p=some (.dK WU)/\k = !WU.isEmpty
 |_=>False
def wz{κ:Type}{WU:List (κ × V)}{vs:List (κ × WI)}(r:KV WU vs):(!vs.isEmpty) = !WU.isEmpty:=by
 cases r <;> rfl
def oP{xs:List V}{WV:List WI}(r:WP xs WV):(!WV.toArray.isEmpty) = !xs.isEmpty:=by
 cases r <;> simp
def og:(WC:Nat)<2 ^ 63:=by rw[ue];decide
def Ko:Ki X (fun x H Q=>∃k,Kq X.K x H k/\Q k H):=by
 intro WY s σ H x v Q I rx h;obtain⟨k,e,q⟩:=h;have hl:=og;have hs:WC=16777216:=ue;cases x with
 |non=>
  cases rx;have e':k=false:=e;subst e';exact truthy_none ⟨H,I,q⟩
 |bl b=>
  cases rx;have e':k=b:=e;subst e';exact ZL ⟨H,I,q⟩
 |int i=>
  obtain⟨t,rfl⟩:=rx;have e':k=(i != 0):=e;subst e';exact PySem.P.truthy_int ⟨H,I,q⟩
 |str y=>
  obtain⟨t,rfl⟩:=rx;obtain⟨hy,e'⟩:y.length<=WC/\k=((y.length:Int) != 0):=e;subst e';exact PySem.P.truthy_str (by lia) ⟨H,I.tok _,q⟩
 |byt y=>
  obtain⟨t,rfl⟩:=rx;obtain⟨hy,e'⟩:y.size<=WC/\k=((y.size:Int) != 0):=e;subst e';exact PySem.W.truthy_bytes (by lia) ⟨H,I.tok _,q⟩
 |ref p=>
  cases rx;have e':(∃xs,SqL X.K H p xs/\k = !xs.isEmpty)\/(∃xs,SqT X.K H p xs/\k = !xs.isEmpty)\/∃WU,H p=some (.dK WU)/\k = !WU.isEmpty:=e;obtain⟨xs,hx,e'⟩|⟨xs,hx,e'⟩|⟨WU,hx,e'⟩:=e'
  .subst e'
   obtain⟨WV,r,pl,hz⟩:=I.list hx;have hlen:=r.length;exact wpAny_truthy_list pl.isList (by simp only[yX];lia) ⟨H,I.tok _,by rw[oP r];exact q⟩
  .subst e'
   obtain⟨WV,r,pl,hz⟩:=I.tuple hx;have hlen:=r.length;exact truthy_tuple pl (by simp only[yX];lia) ⟨H,I.tok _,by rw[oP r];exact q⟩
  .subst e'
   obtain⟨hz,hS,vs,r,m⟩:WU.length<=WC/\(p==ZH)=false/\∃vs,KV WU vs/\s.heap.DictOf (bJ X.prog X.w) p vs:=I.hok p _ hx;have hlen:WU.length=vs.length:=Xl r;exact wpAny_truthy_dict hS m (by lia) ⟨H,I.tok _,by rw[wz r];exact q⟩
 |_=>exact(show False from e).elim
def vT:OpR X (binaryOp .Add) (fun x y H Q=>∃i j,x = .str i/\y = .str j/\i.length+j.length<=WC/\Q (.str (i++j)) H):=by
 intro WY s σ H x y v u Q I rx ry h;obtain⟨i,j,rfl,rfl,hz,q⟩:=h;obtain⟨t,rfl⟩:=rx;obtain⟨t',rfl⟩:=ry;exact add_str (fun t' tk=>⟨.str (i++j),H,I.tok _,⟨_,rfl⟩,q⟩) hz
def d8(r:WP [x] us):∃u,us=[u]/\WQ x u:=by
 cases r with
 |cons r1 r2=>cases r2;exact⟨_,rfl,r1⟩
def w8(r:WP [x,y] us):∃u w',us=[u,w']/\WQ x u/\WQ y w':=by
 cases r with
 |cons r1 r2=>
  cases r2 with
  |cons r3 r4=>cases r4;exact⟨_,_,rfl,r1,r3⟩
def zi(hc:X.calm=true):WN X (.builtin "max") (fun xs H Q=>∃i j,xs=[.int i,.int j]/\Q (.int (if j > i then j else i)) H):=by
 intro WY s σ H xs us Q I r h;obtain⟨i,j,rfl,q⟩:=h;obtain⟨u,w',rfl,⟨t,rfl⟩,⟨t',rfl⟩⟩:=w8 r;refine max_two_ints (I.ok.hd hc) fun h' tk k=>⟨_,H,I.kept k,?_,q⟩;by_cases hj:j > i
 .rw[VY hj,VY hj];exact⟨_,rfl⟩
 .rw[VZ hj,VZ hj];exact⟨_,rfl⟩
def zw(hc:X.calm=true):WN X (.builtin "min") (fun xs H Q=>∃i j,xs=[.int i,.int j]/\Q (.int (if j<i then j else i)) H):=by
 intro WY s σ H xs us Q I r h;obtain⟨i,j,rfl,q⟩:=h;obtain⟨u,w',rfl,⟨t,rfl⟩,⟨t',rfl⟩⟩:=w8 r;refine min_two_ints (I.ok.hd hc) fun h' tk k=>⟨_,H,I.kept k,?_,q⟩;by_cases hj:j<i
 .rw[VY hj,VY hj];exact⟨_,rfl⟩
 .rw[VZ hj,VZ hj];exact⟨_,rfl⟩
def yG:WN X (.type "int") (fun xs H Q=>(∃i,xs=[.int i]/\Q (.int i) H)\/∃k,xs=[.bl k]/\Q (.int (if k then 1 else 0)) H):=by
 intro WY s σ H xs us Q I r h;obtain⟨i,rfl,q⟩|⟨k,rfl,q⟩:=h
 .obtain⟨u,rfl,t,rfl⟩:=d8 r
  exact call_int_int ⟨.int i,H,I,⟨_,rfl⟩,q⟩
 .obtain⟨u,rfl,r1⟩:=d8 r
  cases r1;exact call_int_bool ⟨.int (if k then 1 else 0),H,I.tok _,⟨_,rfl⟩,q⟩
def Ka(K:Ws)(x:V)(H:Hp)(n:Nat):Prop:=
 match x with
 | .str y=>y.length<=WC/\n=y.length
 | .byt y=>y.size<=WC/\n=y.size
 | .ref p=>(∃xs,SqL K H p xs/\n=xs.length)\/∃xs,SqT K H p xs/\n=xs.length
 |_=>False
def A0:WN X (.builtin "len") (fun xs H Q=>∃x n,xs=[x]/\Ka X.K x H n/\Q (.int n) H):=by
 intro WY s σ H xs us Q I r h;obtain⟨x,n,rfl,e,q⟩:=h;obtain⟨u,rfl,rx⟩:=d8 r;have hl:=og;have hs:WC=16777216:=ue;cases x with
 |str y=>
  obtain⟨t,rfl⟩:=rx;obtain⟨hy,e'⟩:y.length<=WC/\n=y.length:=e;subst e';exact len_str (by lia) ⟨.int _,H,I.tok _,⟨_,rfl⟩,q⟩
 |byt y=>
  obtain⟨t,rfl⟩:=rx;obtain⟨hy,e'⟩:y.size<=WC/\n=y.size:=e;subst e';exact PySem.W.len_bytes (by lia) ⟨.int _,H,I.tok _,⟨_,rfl⟩,q⟩
 |ref p=>
  cases rx;have e':(∃xs,SqL X.K H p xs/\n=xs.length)\/∃xs,SqT X.K H p xs/\n=xs.length:=e;obtain⟨xs,hx,e'⟩|⟨xs,hx,e'⟩:=e'
  .subst e'
   obtain⟨WV,r',pl,hz⟩:=I.list hx;have hlen:=r'.length;exact Calls.call_len_list pl.isList (by simp only[yX];lia) ⟨.int xs.length,H,I.tok _,⟨_,by simp only[yX];rw[hlen]⟩,q⟩
  .subst e'
   obtain⟨WV,r',pl,hz⟩:=I.tuple hx;have hlen:=r'.length;exact len_tuple pl (by simp only[yX];lia) ⟨.int xs.length,H,I.tok _,⟨_,by simp only[yX];rw[hlen]⟩,q⟩
 |_=>exact(show False from e).elim
end
structure ObjM(h:Wz)(x dx C:WH)(mA:Str->Option WI):Prop where
 obj:h.get? x=some (Yd C dx)
 ns:h.Ns1 dx mA
 ne:dx≠x
def zf{h:Wz}(n:h.Ns1 dx mA):∃od,h.get? dx=some od/\∀name,PySem.W.lookIn name od=some (mA name):=by
 obtain⟨o,es,ep,ho,hd,hk,_,hm⟩:=n;refine⟨o,ho,fun name=>?_⟩;have e:=hm name;unfold nsFind findBy at e;rw[<- Array.find?_toList]at e;unfold PySem.W.lookIn;rw[hd];dsimp only;split
 .rename_i y q
  rw[q]at e;exact VU some e
 .rename_i q
  rw[q]at e;have a:es.toList.any (·.refKey)=false:=by
   rw[List.any_eq_false];intro y hy;obtain⟨z,t,hkey⟩:=hk y (XZ.mp hy);simp[YI.refKey,hkey]
  have a':¬ es.toList.any (·.refKey)=true:=by rw[a];exact xl
  rw[VZ a'];exact VU some e
def ObjM.look(I:ObjM h x dx C mA):∃od,PySem.W.InstAt h x (Yd C dx) C (some od)/\∀name,PySem.W.lookIn name od=some (mA name):=
 let ⟨od,ho,hl⟩:=zf I.ns
 ⟨od,⟨I.obj,rfl,rfl,ho⟩,hl⟩
section
variable{prog:WF}{w:WE}{A:WD}{E:WI->WG->Prop}{s:WG}{K:Ws}{x dx C f:WH}{mA:Str->Option WI}{name:Str}{v:WI}
def EC(X:K.In s.heap)(I:ObjM s.heap x dx C mA)(hg:PySem.W.plainGet K C name=true)(hh:PySem.W.hasDictIn K C=true)
 (ha:ZM K (.ref C) name=some none) (hv:mA name=some v) (hv':PySem.W.handedIn v=true) (h:Q v { s with toks:=s.toks+1 }) :
 WB (WA prog w) A (getAttr (.ref x) name expr) Q E s:=by
 obtain⟨od,J,hl⟩:=I.look;exact PySem.W.get_value X J (PySem.W.plainGet_of hg).1 (PySem.W.findObj_own hh ha rfl (by rw[hl,hv])) hv' h
def Au{Q:WI × List WI->WG->Prop}(X:K.In s.heap)(I:ObjM s.heap x dx C mA)(hg:PySem.W.plainGet K C name=true)
 (hf:ZM K (.ref C) name=some (some (.ref f))) (ht:PySem.W.isFn K (.ref f)=true) (hv:mA name=none) (h:Q (.ref f,[.ref x]) s) :
 WB (WA prog w) A (getMethod (.ref x) name pl) Q E s:=by
 obtain⟨od,J,hl⟩:=I.look;exact PySem.W.method_fn X J (PySem.W.plainGet_of hg).1 (PySem.W.plainGet_of hg).2 hf (beq_iff_eq.mp ht) (by show(PySem.W.lookIn name od).map (·.isSome)=some false;rw[hl,hv];rfl) h
def DF{ns:List Str}(X:K.In s.heap)(I:ObjM s.heap x dx C mA)
 (hs:ZM K (.ref C) "__setattr__" = some (some (.builtin "object.__setattr__"))) (hp:PySem.W.plainOver K C=true) (ht:PySem.W.takerIn K C name=some none) (hh:PySem.W.hasDictIn K C=true)
 (hw:PySem.Within mA ns) (hsz:ns.length<=WC)
 (h:∀h',ObjM h' x dx C (fun y=>if y=name then some v else mA y)->Yz dx s.heap h'->Q () { s with heap:=h',toks:=s.toks+2 }) :
 WB (WA prog w) A (setAttr (.ref x) name v) Q E s:=by
 obtain⟨od,J,hl⟩:=I.look;refine PySem.W.set_plain X J hs (PySem.W.osa_open (s:={ s with toks:=s.toks+1 }) (r:=none) X J hp ht fun b=>?_);obtain⟨cd,hc,hd'⟩:=PySem.W.any_some hh;have hx:s.heap.get? x=some ⟨.ref C,some dx,.plain,#[]⟩:=I.obj;refine zd (zJ (zd (zd (wpAny_loadPart hx (zd (PySem.W.Looks.here (s:={ s with toks:=s.toks+1 }) (PySem.W.looks_clsIn X hc) ?_))))));rw[hd'];refine zJ (a:=some dx) (zd (zJ (zd ?_)));refine wpAny_nsSet1 (s:={ s with toks:=s.toks+1 }) I.ns fun h' hn2 hs2=>?_;obtain⟨oD,esD,epD,hoD,hdD,hcD⟩:=hn2.count (PySem.Within.cons name v hw);refine zd (wpAny_lookBehind hoD (by rw[hdD];exact pastItsLine_dict (wG hcD (by rw[vZ];lia))) ?_);exact zJ (h _ ⟨(hs2.2 _ (Wc I.ne)).trans I.obj,hn2,I.ne⟩ hs2)
def AI(X:K.In s.heap)(hm:PySem.W.makesIn K C=true)
 (hi:ZM K (.ref C) "__init__" = some (some (.ref f))) (hf:PySem.W.typeIn K (.ref f)=some (.type "function"))
 (h:codeAny (WA prog w) (A.under (.builtin "type.__call__" ⟨.ref C::vs,kw⟩)) (.call (.ref f) ⟨.ref (s.heap.objs.size+1)::vs,kw⟩) (PySem.W.InitBack (s.heap.objs.size+1) R)
  { s with heap:=(s.heap.push Z7).push (Yd C s.heap.objs.size) }) :
 codeAny (WA prog w) A (.call (.ref C) ⟨vs,kw⟩) R s:=by
 obtain⟨hh,g,d,t,os⟩:=s;exact PySem.W.make_core (PySem.W.makes_of X hm) (PySem.W.looks_findIn X hi) (fun self=>PySem.W.bind_fn X self hf) (.inl rfl) h
end
noncomputable def cW(f:Str)(v:V):List (Str × V)->List (Str × V)
 | []=>[(f,v)]
 |(g,x)::r=>if g=f then (g,v)::r else (g,x)::cW f v r
theorem mI(f g:Str)(v:V):∀fs:List (Str × V),(cW f v fs).lookup g=if g=f then some v else fs.lookup g
 | []=>by
  show qW g [(f,v)]=_;by_cases h:g=f
  .have hb:(g==f)=true:=beq_iff_eq.mpr h
   simp only[qW,hb,VY h]
  .have hb:(g==f)=false:=beq_eq_false_iff_ne.mpr h
   simp only[qW,hb,VZ h]
 |(k,x)::r=>by
  have ih:=mI f g v r;rw[show cW f v ((k,x)::r)=(if k=f then (k,v)::r else (k,x)::cW f v r) from rfl];by_cases hk:k=f
  .rw[VY hk]
   by_cases h:g=k
   .have hb:(g==k)=true:=beq_iff_eq.mpr h
    simp only[qW,hb,VY (h.trans hk)]
   .have hb:(g==k)=false:=beq_eq_false_iff_ne.mpr h
    simp only[qW,hb,VZ (fun e:g=f=>h (e.trans hk.symm))]
  .rw[VZ hk]
   by_cases h:g=k
   .have hb:(g==k)=true:=beq_iff_eq.mpr h
    simp only[qW,hb,VZ (fun e:g=f=>hk (h.symm.trans e))]
   .have hb:(g==k)=false:=beq_eq_false_iff_ne.mpr h
    simp only[qW,hb];exact ih
theorem lE(f:Str)(v:V):∀fs:List (Str × V),f∈(cW f v fs).map (·.1)/\∀g,g∈fs.map (·.1)->g∈(cW f v fs).map (·.1)
 | []=>⟨by simp[cW],fun g h=>by simp at h⟩
 |(k,x)::r=>by
  obtain⟨i1,i2⟩:=lE f v r;rw[show cW f v ((k,x)::r)=(if k=f then (k,v)::r else (k,x)::cW f v r) from rfl];by_cases hk:k=f
  .rw[VY hk]
   subst hk;exact⟨by simp,fun g h=>by simpa using h⟩
  .rw[VZ hk]
   refine⟨?_,fun g h=>?_⟩
   .rw[yH]
    exact Zy _ i1
   .rw[yH]at h |-
    obtain e|e:=z9.mp h
    .exact z9.mpr (.inl e)
    .exact Zy _ (i2 g e)
theorem mO(f:Str)(v:V):∀fs:List (Str × V),(cW f v fs).length<=fs.length+1
 | []=>by simp[cW]
 |(k,x)::r=>by
  have ih:=mO f v r;rw[show cW f v ((k,x)::r)=(if k=f then (k,v)::r else (k,x)::cW f v r) from rfl];by_cases hk:k=f
  .rw[VY hk,vZ,vZ];lia
  .rw[VZ hk,vZ,vZ];lia
def RelO.some_of(r:RelO (some v) o):∃u,o=some u/\WQ v u:=by
 cases o with
 |none=>exact(show False from r).elim
 |some u=>exact⟨u,rfl,r⟩
def RelO.none_of(r:RelO none o):o=none:=by
 cases o with
 |none=>rfl
 |some u=>exact(show False from r).elim
def yk(r:WQ v u):PySem.W.handedIn u=true:=by
 cases v with
 |non=>cases (show u=Ze from r);rfl
 |bl b=>cases (show u=Value.bool b from r);rfl
 |int i=>obtain⟨t,e⟩:=(show ∃t,u=Value.int i t from r);cases e;rfl
 |str x=>obtain⟨t,e⟩:=(show ∃t,u=XY x t from r);cases e;rfl
 |byt b=>obtain⟨t,e⟩:=(show ∃t,u=Value.bytes b t from r);cases e;rfl
 |flt b=>obtain⟨t,e⟩:=(show ∃t,u=Value.float b t from r);cases e;rfl
 |ref a=>cases (show u=yJ a from r);rfl
 |ty n=>cases (show u=Xg n from r);rfl
section
variable{P:WF}{w:WE}{H H':Hp}{h h':Wz}{a C dx:WH}{fs fs':List (Str × V)}
def nK(hok:HOk P w H h)(e:H a=some (.ins C dx fs)):∃mA,ObjM h a dx C mA/\(∀f,RelO (fs.lookup f) (mA f))/\PySem.Within mA (fs.map (·.1))/\fs.length<=1000/\H dx=some (.own a):=by
 obtain⟨d,z,ne,ob,mA,n,r,q⟩:=(show WO P w H h a (.ins C dx fs) from hok a _ e);exact⟨mA,⟨ob,n,ne⟩,r,q,z,d⟩
end
structure Cls(K:Ws)(C:WH):Prop where
 pg:PySem.W.plainGet K C Str.empty=true
 hd:PySem.W.hasDictIn K C=true
 po:PySem.W.plainOver K C=true
 sa:ZM K (.ref C) "__setattr__" = some (some (.builtin "object.__setattr__"))
def Cls.get{K:Ws}{C:WH}(c:Cls K C)(f:Str):PySem.W.plainGet K C f=true:=c.pg
def NoAttr(K:Ws)(C:WH)(f:Str):Prop:=ZM K (.ref C) f=some none
def NoAttr.taker{K:Ws}{C:WH}{f:Str}(n:NoAttr K C f):PySem.W.takerIn K C f=some none:=by
 unfold PySem.W.takerIn;rw[show ZM K (.ref C) f=some none from n]
 rfl
structure Bm(K:Ws)(C:WH)(m:Str)(f:WH):Prop where
 at_:ZM K (.ref C) m=some (some (.ref f))
 fn:PySem.W.isFn K (.ref f)=true
 kp:Yk K (.ref f)=true
section
variable{X:Cx}{WY:List (WH × Obj)}{σ:St}{H:Hp}{s:WG}{a C dx:WH}{fs:List (Str × V)}{f:Str}{v:V}{A:WD}{E:WI->WG->Prop}
def wk{b:Bool}{Q:WI->WG->Prop}(I:WL X WY σ H s)(e:H a=some (.ins C dx fs))(c:Cls X.K C)(n:NoAttr X.K C f)(l:fs.lookup f=some v)
 (h:∀u s',WL X WY σ H s'->WQ v u->Q u s'):WB (WA X.prog X.w) A (getAttr (.ref a) f b) Q E s:=by
 obtain⟨mA,O,r,_,_,_⟩:=nK I.hok e;obtain⟨u,hu,ru⟩:=RelO.some_of (v:=v) (o:=mA f) (by rw[<- l];exact r f);exact EC I.kIn O (c.get f) c.hd n hu (yk ru) (h u _ (I.tok _) ru)
def nW{m:Str}{g:WH}{pl:Sem Bool}{Q:WI × List WI->WG->Prop}(I:WL X WY σ H s)(e:H a=some (.ins C dx fs))(c:Cls X.K C)(k:Bm X.K C m g)(l:fs.lookup m=none)
 (h:Q (.ref g,[.ref a]) s):WB (WA X.prog X.w) A (getMethod (.ref a) m pl) Q E s:=by
 obtain⟨mA,O,r,_,_,_⟩:=nK I.hok e;have hn:mA m=none:=RelO.none_of (by rw[<- l];exact r m);exact Au I.kIn O (c.get m) k.at_ k.fn hn h
def wc{y:V}{u:WI}{Q:Unit->WG->Prop}(I:WL X WY σ H s)(e:H a=some (.ins C dx fs))(c:Cls X.K C)(n:NoAttr X.K C f)(hl:fs.length<1000)(ry:WQ y u)
 (h:∀s',WL X WY σ (upd H a (.ins C dx (cW f y fs))) s'->Q () s'):WB (WA X.prog X.w) A (setAttr (.ref a) f u) Q E s:=by
 obtain⟨mA,O,r,wi,_,ho⟩:=nK I.hok e;have hz:(fs.map (·.1)).length<=WC:=by rw[zV,ue];lia
 refine DF I.kIn O c.sa c.po n.taker c.hd wi hz fun h' O' sb=>h _ ?_;have hd:∃o,h'.get? dx=some o:=let ⟨o,_,_,e',_⟩:=O'.ns;⟨o,e'⟩;refine I.write (x:=a) (e:=dx) (by rw[e];exact Yx) (.inr ho) (fun b q hb z=>(sb.2 b hb).trans z) hd ?_;refine⟨by rw[ag O.ne];exact ho,?_,O.ne,O'.obj,_,O'.ns,fun g=>?_,fun g hg=>?_⟩
 .have:=mO f y fs;lia
 .show RelO ((cW f y fs).lookup g) (if g=f then some u else mA g)
  rw[mI];by_cases q:g=f
  .rw[VY q,VY q];exact ry
  .rw[VZ q,VZ q];exact r g
 .by_cases q:g=f
  .rw[q];exact(lE f y fs).1
  .refine(lE f y fs).2 g (wi g fun z=>hg ?_)
   show(if g=f then some u else mA g)=none;rw[VZ q];exact z
def WL.made(I:WL X WY σ H s):WL X WY σ (upd (upd H s.heap.objs.size (.own (s.heap.objs.size+1))) (s.heap.objs.size+1) (.ins C s.heap.objs.size []))
 { s with heap:=(s.heap.push Z7).push (Yd C s.heap.objs.size) }:=by
 have e1:(s.heap.push Z7).get? s.heap.objs.size=some Z7:=Wq s.heap rfl;have e2:((s.heap.push Z7).push (Yd C s.heap.objs.size)).get? (s.heap.objs.size+1)=some (Yd C s.heap.objs.size):=by
  have:=Wq (s.heap.push Z7) (o:=Yd C s.heap.objs.size) rfl
  rwa [Heap.size_push]at this
 have e3:(s.heap.push Z7).Ns s.heap.objs.size (fun _=>none):=⟨Z7,#[],_,e1,rfl,(fun e he=>VT he (by simp)),fun _=>rfl⟩;have I1:=I.laid (a:=s.heap.objs.size) (o:=.own (s.heap.objs.size+1)) (h':=s.heap.push Z7) (t':=s.toks) (fun b u q=>Wr _ q) (zK _) ⟨_,e1⟩;refine I1.laid (a:=s.heap.objs.size+1) (o:=.ins C s.heap.objs.size []) (t':=s.toks) (fun b u q=>Wr _ q) (Nat.le_of_eq (Heap.size_push _ _)) ?_;have ne:s.heap.objs.size≠s.heap.objs.size+1:=Zx (Nat.lt_succ_self _);refine⟨by rw[ag ne,aa],tB _,ne,e2,fun _=>none,(Heap.Ns1.of_empty e3).at fun o q=>Wr _ q,fun _=>Yx,fun y hy=>VT rfl hy⟩
def Dd{prog:WF}{w:WE}{env:Env}{e:Expr}{f:Str}{pos:Pos}{s:WG}{Q:WI->WG->Prop}(hb:XR e f env (eval e env)=eval e env)
 (h:WB (WA prog w) A (eval e env) (fun o s₁=>WB (WA prog w) A (getAttr o f true) Q E s₁) E s):WB (WA prog w) A (eval (.Attribute e f pos) env) Q E s:=
 Attribute_any_ h (by rw[arm_eval_Attribute,hb])
end
section
variable{X:Cx}{WY:List (WH × Obj)}{σ:St}{H:Hp}{s:WG}{A:WD}{E:WI->WG->Prop}{Q:WI->WG->Prop}{c:WI}{b:Bool}
inductive jF (K:Ws) (H:Hp):V->WI->Prop where
 |non:jF K H .non (.type "NoneType")
 |bl (x:Bool):jF K H (.bl x) (.type "bool")
 |int (i:Int):jF K H (.int i) (.type "int")
 |str (x:Str):jF K H (.str x) (.type "str")
 |flt (x:UInt64):jF K H (.flt x) (.type "float")
 |lst {a:WH} {xs:List V} (e:H a=some (.lst xs)):jF K H (.ref a) (.type "list")
 |frz {a:WH} {o:Obj} {xs:List V} (e:H a=some (.frz o (.lst xs))):jF K H (.ref a) (.type "list")
 |tup {a:WH} {xs:List V} (e:H a=some (.tup xs)):jF K H (.ref a) (.type "tuple")
 |dK {a:WH} {WU:List (Key × V)} (e:H a=some (.dK WU)):jF K H (.ref a) (.type "dict")
 |dT {a:WH} {WU:List (List Key × V)} (e:H a=some (.dT WU)):jF K H (.ref a) (.type "dict")
 |ins {a C dx:WH} {fs:List (Str × V)} (e:H a=some (.ins C dx fs)) (cl:Cls K C) (ha:ZM K (.ref C) "__class__" = some (some (.builtin "object.__class__")))
  (hn:PySem.W.specialIn K (.builtin "object.__class__") "__get__" = some (some (.builtin "getset_descriptor.__get__"))) (htk:PySem.W.takesIn K (.builtin "object.__class__")=some true)
  (hm:YV K C (.type "object")=some true):jF K H (.ref a) (.ref C)
def zy(I:WL X WY σ H s)(rx:WQ x u)(ty:jF X.K H x t)(e:Zo X.K t c=some b)(h:∀tk,Q (.bool b) { s with toks:=tk }) :
 WB (WA X.prog X.w) A (call (.builtin "isinstance") [u,c]) Q E s:=by
 cases ty with
 |non=>cases (show u=Ze from rx);exact Z4 PySem.W.kitx_none I.kIn Yx e (fun z=>nomatch z) h
 |bl y=>cases (show u=Value.bool y from rx);exact Z4 PySem.W.kitx_bool I.kIn Yx e (fun z=>nomatch z) h
 |int i=>obtain⟨t,q⟩:=(show ∃t,u=Value.int i t from rx);cases q;exact Z4 PySem.W.kitx_int I.kIn Yx e (fun z=>nomatch z) h
 |str y=>obtain⟨t,q⟩:=(show ∃t,u=XY y t from rx);cases q;exact Z4 PySem.W.kitx_str I.kIn Yx e (fun z=>nomatch z) h
 |flt y=>obtain⟨t,q⟩:=(show ∃t,u=Value.float y t from rx);cases q;exact Z4 PySem.W.kitx_float I.kIn Yx e (fun z=>nomatch z) h
 | @lst a xs ea=>
  cases (show u=yJ a from rx);obtain⟨_,_,n,_,h1⟩:=(show WO X.prog X.w H s.heap a (.lst xs) from I.hok a _ ea);exact Z4 PySem.W.kitx_list I.kIn ⟨_,h1,rfl⟩ e (fun z=>nomatch z) h
 | @frz a ob xs ea=>
  cases (show u=yJ a from rx);obtain⟨_,_,_,n,_,h1⟩:=(show WO X.prog X.w H s.heap a (.frz ob (.lst xs)) from I.hok a _ ea);exact Z4 PySem.W.kitx_list I.kIn ⟨_,h1,rfl⟩ e (fun z=>nomatch z) h
 | @tup a xs ea=>
  cases (show u=yJ a from rx);obtain⟨_,_,_,p⟩:=(show WO X.prog X.w H s.heap a (.tup xs) from I.hok a _ ea);obtain⟨o,h1,h2,_⟩:=p;exact Z4 PySem.W.kitx_tuple I.kIn ⟨o,h1,h2⟩ e (fun z=>nomatch z) h
 | @dK a WU ea=>
  cases (show u=yJ a from rx);obtain⟨_,_,vs,_,p⟩:=(show WO X.prog X.w H s.heap a (.dK WU) from I.hok a _ ea);obtain⟨o,es,ep,h1,h2,_⟩:=p;exact Z4 PySem.W.kitx_dict I.kIn ⟨o,h1,h2.1⟩ e (fun z=>nomatch z) h
 | @dT a WU ea=>
  cases (show u=yJ a from rx);obtain⟨_,_,xs,_,o,es,ep,h1,h2,_⟩:=(show WO X.prog X.w H s.heap a (.dT WU) from I.hok a _ ea);exact Z4 PySem.W.kitx_dict I.kIn ⟨o,h1,h2.1⟩ e (fun z=>nomatch z) h
 | @ins a C dx fs ea cl ha hn htk hm=>
  cases (show u=yJ a from rx);obtain⟨mA,O,_⟩:=nK I.hok ea;obtain⟨od,J,_⟩:=O.look;exact Z4 (PySem.W.kitx_own (cl.get _) cl.hd ha hn htk hm) I.kIn J e (fun z=>nomatch z) h
end
structure Room(k:Nat)(A:WD):Prop where
 hd:A.handled=none
 dp:A.depth+3*k+5<recursionLimit
 un:A.units+16*k+200<cLine
def Room.mono(r:Room k A)(h:j<=k:=by decide):Room j A:=⟨r.hd,by have:=r.dp;lia,by have:=r.un;lia⟩
def Room.deeper{A:WD}(r:Room (k+1) A)(env:Env):Room k (A.deeper env):=
 ⟨r.hd,by have:=r.dp;show A.depth+1+3*k+5<_;lia,by have:=r.un;show A.units+3+16*k+200<_;lia⟩
def wJ{A:WD}:(A.under (.builtin "type.__call__" ⟨.ref C::us,kw⟩)).depth=A.depth+1:=by
 first|rfl|simp[Around.under,Code.weight,Code.isCreation,Code.isGuard,Code.isCaller,Code.frames,Code.isFrame,guardIds]
def vL{A:WD}:(A.under (.builtin "type.__call__" ⟨.ref C::us,kw⟩)).units=A.units+1:=by
 first|rfl|simp[Around.under,Code.cUnits,Code.frames,Code.isFrame]
def Room.make{A:WD}(r:Room (k+1) A)(C:WH)(us:List WI)(kw:List (Str × WI)):Room k (A.under (.builtin "type.__call__" ⟨.ref C::us,kw⟩)):=
 ⟨r.hd,by have:=r.dp;rw[wJ];lia,by have:=r.un;rw[vL];lia⟩
def Room.depth{A:WD}(r:Room k A):A.depth<recursionLimit:=by have:=r.dp;lia
def mh:TA:=fun _ H Q=>Q [] H
def dJ(ta:TE)(tr:TA):TA:=fun σ H Q=>ta σ H fun x H1=>tr σ H1 fun xs H2=>Q (x::xs) H2
section
variable{X:Cx}{e:Expr}{es:List Expr}{te:TE}{t:TA}{pos:Pos}
def GQ:PA X [] mh:=fun _ _ _ _ H Q I h=>Calls.spliced_nil ⟨[],H,I,.nil,h⟩
def DO(ha:PE X e te)(hr:PA X es t)(hs:Wy (e::es) X.env=(false,eval e X.env)::Wy es X.env:=by rfl):PA X (e::es) (dJ te t):=by
 intro pos WY s σ H Q I h;rw[hs];show WB _ _ (spliced ((false,eval e X.env)::Wx pos (Wy es X.env))) _ _ s;refine Yn (thn (ha WY s σ H _ I h) fun u s1 hq_=>?_);obtain⟨x,H1,I1,r1,q1⟩:=hq_;exact thn (hr pos WY s1 σ H1 _ I1 q1) fun us s2 hq_=>(by obtain⟨xs,H2,I2,r2,q2⟩:=hq_;exact⟨x::xs,H2,I2,.cons r1 r2,q2⟩)
def IW(t:TA):TE:=fun σ H Q=>t σ H fun xs H1=>xs.length<=WC/\∀p,H1 p=none->Q (.ref p) (upd H1 p (.tup xs))
def Jo(t:TA):TE:=fun σ H Q=>t σ H fun xs H1=>xs.length<=WC/\∀p,H1 p=none->Q (.ref p) (upd H1 p (.lst xs))
def bZ{x1}(h:PA X es t):PE X (.Tuple es x1 pos) (IW t):=by
 intro WY s σ H Q I hq;refine wpAny_Tuple_spliced (thn (h pos WY s σ H _ I hq) fun us s1 ⟨xs,H1,I1,r,z,q⟩=>⟨by rw[<- r.length];exact z,?_⟩);have hf:H1 s1.heap.objs.size=none:=I1.hok.fresh (zK _);refine⟨.ref s1.heap.objs.size,upd H1 s1.heap.objs.size (.tup xs),I1.laid (t':=s1.toks) (fun b u e=>Wr _ e) (zK _) ?_,rfl,q _ hf⟩;exact⟨z,us,r,⟨_,Wq _ rfl,rfl,_,rfl⟩⟩
def cy(h:PA X es t):PE X (.List es pos) (Jo t):=by
 intro WY s σ H Q I hq;refine wpAny_List_spliced (thn (h pos WY s σ H _ I hq) fun us s1 ⟨xs,H1,I1,r,z,q⟩=>⟨by rw[<- r.length];exact z,?_⟩);have hf:H1 s1.heap.objs.size=none:=I1.hok.fresh (zK _);refine⟨.ref s1.heap.objs.size,upd H1 s1.heap.objs.size (.lst xs),I1.laid (t':=s1.toks) (fun b u e=>Wr _ e) (zK _) ?_,rfl,q _ hf⟩;exact⟨z,us,0,r,Wq _ rfl⟩
end
abbrev Sp:=List V->Hp->VK->XK->Prop
abbrev CXT:=List Env->Hp->WG->XK->WI->WG->Prop
structure Env0(P:WF)(w:WE)(K:Ws)(mg:Str->Option WI)(base:Wz)(A:WD)(WX:List Env)(s:WG)(H:Hp):Prop where
 frames:A.frames=some WX
 mod:Mod K mg base
 bs:∀b o,base.get? b=some o->s.heap.get? b=some o/\H b=none
 bsz:base.objs.size<=s.heap.objs.size
 funs:s.heap.FunFrames base WX
 frf:∀b∈frs WX,H b=none
 hok:HOk P w H s.heap
 bare:AllBare s.gens
def CE(WX:List Env)(P:WF)(w:WE)(H:Hp)(s:WG)(Q:VK)(u:WI)(s':WG):Prop:=
 ∃v H',s'.os=s.os/\AllBare s'.gens/\Un (frs WX) [] H H' s.heap s'.heap/\HOk P w H' s'.heap/\WQ v u/\Q v H'
def CR(CX:CXT)(WX:List Env)(P:WF)(w:WE)(H:Hp)(s:WG)(Q:VK)(E:XK)(r:Result)(s':WG):Prop:=
 match r with
 | .ok (.ret u)=>CE WX P w H s Q u s'
 | .ok _=>False
 | .error e=>CX WX H s E e s'
structure iz(P:WF)(w:WE)(K:Ws)(mg:Str->Option WI)(base:Wz)(CX:CXT)(k:Nat)(f:WH)(fd:FuncData)(ps:List Str)(sp:Sp):Prop where
 len:∀vs H Q E,sp vs H Q E->vs.length=ps.length
 run:∀(A:WD) (WX:List Env) (s:WG) (H:Hp) (args:Args) (us:List WI) (vs:List V) (Q:VK) (E:XK),Room k A->Env0 P w K mg base A WX s H->BindsTo s fd args (ps.zip us)->WP vs us->sp vs H Q E ->
  codeAny (WA P w) A (.call (.ref f) args) (CR CX WX P w H s Q E) s
def Env0.make{P:WF}{w:WE}{K:Ws}{mg:Str->Option WI}{base:Wz}{A:WD}{WX:List Env}{s:WG}{H:Hp}(e:Env0 P w K mg base A WX s H)(C:WH)(us:List WI)(kw:List (Str × WI)) :
 Env0 P w K mg base (A.under (.builtin "type.__call__" ⟨.ref C::us,kw⟩)) WX s H:=⟨by first|exact e.frames|(simpa [Around.under,Code.envs,Code.isFrame,pushEnvs] using e.frames),e.mod,e.bs,e.bsz,e.funs,e.frf,e.hok,e.bare⟩
section
variable{X:Cx}{WY:List (WH × Obj)}{σ:St}{H:Hp}{s s':WG}
def WL.env0(I:WL X WY σ H s):Env0 X.prog X.w X.K X.mg X.base X.A X.stack s H:=
 ⟨I.ok.frames,I.ok.mod,I.bs,wG I.ok.bsz I.sz,I.stack,I.stkFree,I.hok,I.bare⟩
def WL.after(I:WL X WY σ H s)(h:CE X.stack X.prog X.w H s Q u s'):EP X WY σ Q u s':=by
 obtain⟨v,H',os,bare,un,hok,r,q⟩:=h;obtain⟨hh,g,d,t,os'⟩:=s';obtain rfl:os'=s.os:=os;exact⟨v,H',I.call (h':=hh) (g':=g) (d':=d) (t':=t) (ch:=[]) un hok bare (fun b z=>VT z (by simp)),r,q⟩
end
def Binds(K:Ws)(fd:FuncData)(ps:List Str)(ds:List WI):Prop:=
 ∀(s:WG) (us:List WI),K.In s.heap->(us++ds).length=ps.length->BindsTo s fd ⟨us,[]⟩ (ps.zip (us++ds))
def Binds.all{K:Ws}{fd:FuncData}{ps:List Str}(h:∀us:List WI,us.length=ps.length->bindArgs fd ⟨us,[]⟩=pure (ps.zip us)):Binds K fd ps []:=fun s us _ hl=>by
 rw[Za]at hl |-
 exact .of_eq (h us hl)
section
variable{X:Cx}{CX:CXT}{k:Nat}{f C:WH}{fd:FuncData}{ps:List Str}{sp:Sp}{dvs:List V}{ds:List WI}{E:XK}{x m:Str}{p pos apos:Pos}{e o:Expr}{es:List Expr}{ta:TE}{t:TA}
structure Mk(K:Ws)(C f:WH):Prop where
 makes:PySem.W.makesIn K C=true
 init:ZM K (.ref C) "__init__" = some (some (.ref f))
 fn:PySem.W.isFn K (.ref f)=true
 kp:Yk K (.ref C)=true
end
structure cX(N P:List Str)(sc:Scope):Prop where
 kind:sc.kind = .function
 co:sc.isCoroutine=false
 gen:sc.isGenerator=false
 nd:N.Nodup
 pre:N.take P.length=P
 par:∀x∈P,sc.names.lookup x=some .local\/sc.names.lookup x=some .cell
 nofree:∀y∈sc.names,y.2 ≠ .free
theorem qc{kindOf:Str->Option NameKind}{x:Str}:∀ {binds:List (Str × WI)} {m:Str->Option WI},(∀v,(x,v)∉binds)->bindL kindOf binds m x=m x
 | [],_,_=>rfl
 |(n,v)::r,m,h=>by
  unfold bindL;rw[qc fun w hw=>h w (Zy _ hw)];split
  .have:x≠n:=by rintro rfl;exact h v Yo
   simp[this]
  .rfl
theorem qA{kindOf:Str->Option NameKind}{x:Str}:∀ {binds:List (Str × WI)} {m:Str->Option WI},(∀v,(x,v)∉binds)->bindC kindOf binds m x=m x
 | [],_,_=>rfl
 |(n,v)::r,m,h=>by
  unfold bindC;rw[qA fun w hw=>h w (Zy _ hw)];split
  .rfl
  .have:x≠n:=by rintro rfl;exact h v Yo
   simp[this]
theorem qx{kindOf:Str->Option NameKind}{x:Str}{v:WI}:∀ {P:List Str} {vs:List WI} {i:Nat} {m:Str->Option WI},P.Nodup->P[i]? = some x->vs[i]? = some v->kindOf x=some .local ->
 bindL kindOf (P.zip vs) m x=some v
 | [],_,_,_,_,h,_,_=>by simp at h
 |_::_,[],_,_,_,_,h,_=>by simp at h
 |p::P,w::vs,0,m,nd,h1,h2,hk=>by
  simp at h1 h2;subst h1;subst h2;show bindL kindOf ((p,w)::P.zip vs) m p=_;unfold bindL;rw[qc fun v hv=>(Zj.mp nd).1 (List.of_mem_zip hv).1,VY hk];simp
 |p::P,w::vs,i+1,m,nd,h1,h2,hk=>by
  show bindL kindOf ((p,w)::P.zip vs) m x=_;unfold bindL;exact qx (i:=i) (Zj.mp nd).2 (by simpa using h1) (by simpa using h2) hk
theorem qw{kindOf:Str->Option NameKind}{x:Str}{v:WI}:∀ {P:List Str} {vs:List WI} {i:Nat} {m:Str->Option WI},P.Nodup->P[i]? = some x->vs[i]? = some v->kindOf x≠some .local ->
 bindC kindOf (P.zip vs) m x=some v
 | [],_,_,_,_,h,_,_=>by simp at h
 |_::_,[],_,_,_,_,h,_=>by simp at h
 |p::P,w::vs,0,m,nd,h1,h2,hk=>by
  simp at h1 h2;subst h1;subst h2;show bindC kindOf ((p,w)::P.zip vs) m p=_;unfold bindC;rw[qA fun v hv=>(Zj.mp nd).1 (List.of_mem_zip hv).1,VZ hk];simp
 |p::P,w::vs,i+1,m,nd,h1,h2,hk=>by
  show bindC kindOf ((p,w)::P.zip vs) m x=_;unfold bindC;exact qw (i:=i) (Zj.mp nd).2 (by simpa using h1) (by simpa using h2) hk
noncomputable def fm(N:List Str)(vs:List V):St:=vs.map some++Xc (N.length-vs.length) none
noncomputable def cJ(CX:CXT)(P:WF)(w:WE)(K:Ws)(mg:Str->Option WI)(base:Wz)(N:List Str)(WK:Str)(WJ:Scope)(f:WH)(cd:WI)(A:WD)(WX:List Env)(s:WG)(H:Hp)(E:XK):Cx where
 prog:=P
 w:=w
 K:=K
 mg:=mg
 base:=base
 A:=A.deeper (envOfC WK WJ s.heap.objs.size f cd)
 N:=N
 s₀:=s
 H₀:=H
 env:=envOfC WK WJ s.heap.objs.size f cd
 WX:=WX
 stack:=envOfC WK WJ s.heap.objs.size f cd::WX
 ex:=[]
 calm:=true
 fn:=fun _=>true
 pn:=[]
 xe:=fun e s'=>WB (WA P w) (A.deeper (envOfC WK WJ s.heap.objs.size f cd)) (leaving (envOfC WK WJ s.heap.objs.size f cd) e) (fun _ s''=>CX WX H s E e s'') (fun e' s''=>CX WX H s E e' s'') s'
def tI{sc:Scope}(h:sc.names.lookup x=some .cell):∃c,(cellsFrom n sc.names []).lookup x=some c:=by
 have q:=PySem.W.cellsFrom_some sc.names n [] (.inl h);exact Option.isSome_iff_exists.mp q
def yd{CX:CXT}{P:WF}{w:WE}{K:Ws}{mg:Str->Option WI}{base:Wz}{N ps:List Str}{WK:Str}{WJ:Scope}{f:WH}{cd:WI}{A:WD}{WX:List Env}{s s1:WG}{H:Hp}{E:XK}{us:List WI}{vs:List V}
 (S:cX N ps WJ) (hd:A.handled=none) (e0:Env0 P w K mg base A WX s H) (hl:vs.length=ps.length) (r:WP vs us)
 (x:InCallC s s.heap.objs.size (bindL (envOfC WK WJ s.heap.objs.size f cd).kindOf (ps.zip us) fun _=>none) (cellsFrom (s.heap.objs.size+1) WJ.names []) (bindC (envOfC WK WJ s.heap.objs.size f cd).kindOf (ps.zip us) fun _=>none) s1) :
 WL (cJ CX P w K mg base N WK WJ f cd A WX s H E) [] (fm N vs) H s1:=by
 have hpl:ps.length<=N.length:=by have:=VU Yl S.pre;rw[Zv]at this;lia
 obtain⟨h1,tk,rfl,hk⟩:=x.done;have noA:∀b:WH,b∉(cJ CX P w K mg base N WK WJ f cd A WX s H E).ex:=fun b z=>VT (show b∈([]:List WH) from z) (by simp);refine⟨⟨e0.mod,S.kind,rfl,rfl,zK _,fun y z c h1 h2=>?_,fun y hy=>?_,fun y c _ h=>?_,fun _=>hd,Around.frames_deeper e0.frames,.inr ⟨rfl,rfl⟩,fun b z=>VT z (noA b),e0.bs,e0.bsz,fun b _ _=>noA b,fun b z=>VT z (noA b),e0.funs,e0.frf⟩,
  rfl,e0.bare,Un.kept hk,⟨_,x.toInCall.ns,fun i y v h1 h2 h3=>?_⟩,fun y c h=>⟨_,x.cell y c h⟩,e0.hok.fresh (zK _),fun y c h=>?_,fun p hp=>VT (show p∈([]:List (WH × Obj)) from hp) (by simp),e0.hok.kept hk,?_⟩
 .exact name_of_addr x.apart (Yr h1) (Yr h2)
 .have hy:WJ.names.lookup y=some .cell\/WJ.names.lookup y=some .free:=hy
  obtain hy|hy:=hy
  .exact tI hy
  .exact VT rfl (S.nofree _ (Yr hy))
 .exact ZO (x.above y c (Yr h))
 .have hi:i<vs.length:=by
   unfold fm at h2;by_cases hi:i<vs.length
   .exact hi
   .rw[List.getElem?_append_right (by simpa using hi)]at h2
    rw[List.getElem?_replicate]at h2;split at h2 <;> cases h2
  have ha:vs[i]? = some v:=by
   unfold fm at h2;rw[Wj (by simpa using hi),Wm]at h2;cases e:vs[i]? with
   |none=>rw[e]at h2;cases h2
   |some a=>rw[e]at h2;cases h2;rfl
  obtain⟨u,hu,rv⟩:=r.get ha;have hp:ps[i]? = some y:=by
   rw[<- S.pre,List.getElem?_take_of_lt (by lia)];exact h1
  have ndP:ps.Nodup:=by rw[<- S.pre];exact S.nd.sublist (List.take_sublist _ _)
  refine⟨u,rv,?_⟩;obtain k|k:=S.par y (yo hp)
  .exact .inl ⟨k,qx ndP hp hu k⟩
  .obtain⟨c,e⟩:=tI (n:=s.heap.objs.size+1) k
   refine .inr ⟨.inl k,c,e,?_⟩;have q:=x.cell y c e;rw[qw ndP hp hu (by show WJ.names.lookup y≠_;rw[k];decide)]at q;exact q
 .exact e0.hok.fresh (ZO (x.above y c (Yr h)))
 .unfold fm
  show _=N.length;rw[zA,zV,List.length_replicate];lia
def Jb{CX:CXT}{P:WF}{w:WE}{K:Ws}{mg:Str->Option WI}{base:Wz}{k:Nat}{f:WH}{name WK:Str}{params:Arguments}{body:List Stmt}{WJ:Scope}{dV kV doc pm WW ct oc:WI}{an od:Option WH}
 {osl:Array (Option WI)} {N ps:List Str} {sp:Sp} (lk:K.lookup f=some ⟨oc,od,.func (YD name WK params body WJ dV kV doc pm an WW ct),osl⟩) (hcd:PySem.W.codeIn K WW WK=true) (S:cX N ps WJ)
 (len:∀vs H Q E,sp vs H Q E->vs.length=ps.length)
 (hbody:∀(A:WD) (WX:List Env) (s:WG) (H:Hp) (vs:List V) (Q:VK) (E:XK),Room k (A.deeper (envOfC WK WJ s.heap.objs.size f WW))->sp vs H Q E ->
  ∃t,PSs (cJ CX P w K mg base N WK WJ f WW A WX s H E) body t/\t { nx:=fun _ H'=>Q .non H',rt:=Q } (fm N vs) H) :
 iz P w K mg base CX (k+1) f (YD name WK params body WJ dV kV doc pm an WW ct) ps sp:=by
 refine⟨len,fun A WX s H args us vs Q E hr e0 hb r hsp=>?_⟩;have hl:=len _ _ _ _ hsp;have KX:K.In s.heap:=e0.mod.kin.keeps fun b o e=>(e0.bs b o e).1;have lim:s.heap.NoLimit:=e0.mod.nolimit.keeps fun b o e=>(e0.bs b o e).1;have hkind:∀y∈ps.zip us,WJ.names.lookup y.1=some .local\/(WJ.names.lookup y.1=some .cell/\((cellsFrom (s.heap.objs.size+1) WJ.names []).lookup y.1).isSome=true):=fun hq_ hy=>by
  obtain⟨n,v⟩:=hq_;obtain q|q:=S.par n (List.of_mem_zip hy).1
  .exact .inl q
  .exact .inr ⟨q,PySem.W.cellsFrom_some _ _ _ (.inl q)⟩
 refine codeAny_call_function hr.depth (KX _ _ lk) rfl S.co S.gen rfl (PySem.W.codeRec_of KX hcd) (hb _ _ _ _ ?_);refine wpAny_newFunctionEnv_cells S.kind hkind fun env he s1 x=>?_;subst he;refine⟨lim.keeps x.toInCall.keep,codeAny_func ?_⟩;obtain⟨t,ht,hq⟩:=hbody A WX s H vs Q E (hr.deeper _) hsp;have I:WL (cJ CX P w K mg base N WK WJ f WW A WX s H E) [] (fm N vs) H s1:=yd S hr.hd e0 hl r x;refine Zf (ht [] s1 (fm N vs) H _ I hq) (fun fl s' hs=>?_) fun e s' hs=>hs;have fin:∀ {σ':St} {H':Hp} {v:V} {u:WI},WL (cJ CX P w K mg base N WK WJ f WW A WX s H E) [] σ' H' s'->WQ v u->Q v H'->CE WX P w H s Q u s':=
  fun {σ' H' v u} J rv q=>⟨v,H',J.os,J.bare,J.base,J.hok,rv,q⟩
 cases fl with
 |ret u=>
  obtain⟨v,σ',H',J,rv,q⟩:=hs;exact fin J rv q
 |next=>
  obtain⟨σ',H',J,q⟩:=hs;exact fin (v:=V.non) (u:=Ze) J rfl q
 |brk=>
  obtain⟨_,_,_,q⟩:=hs;exact YR q
 |cont=>
  obtain⟨_,_,_,q⟩:=hs;exact YR q
section
variable{X:Cx}{x:Str}{p pos:Pos}{e:Expr}{es:List Expr}{t:TA}{id T:String}{r:List V->Hp->VK->Prop}
def tCB(r:List V->Hp->VK->Prop)(t:TA):TE:=fun σ H Q=>t σ H fun vs H1=>r vs H1 Q
def aI(hc:WN X (.builtin id) r)(hg:Gl X x)(hm:X.mg x=none)(hv:ZY x=some (.builtin id))(ha:PA X (e::es) t)(hn:x ≠ "__name__":=by decide)(hdb:(x==("__debug__":Str))=false:=by decide)
 (he:Wy (e::es) X.env=(false,eval e X.env)::Wy es X.env:=by rfl) (hpl:(Wx pos (Wy es X.env)).any (·.1)=false:=by rfl):PE X (.Call (.Name x p) (e::es) [] pos) (tCB r t):=by
 intro WY s σ H Q I h;refine Xy (jD I hg hm hv ?_ hn hdb);exact PyProof.Rows.callWith_builtin1 (thn (ha pos WY s σ H _ I h) fun us s1 hq_=>(by obtain⟨vs,H1,I1,r1,q1⟩:=hq_;exact hc WY s1 σ H1 vs us Q I1 r1 q1)) he hpl
def dW(hc:WN X (.type T) r)(hg:Gl X x)(hm:X.mg x=none)(hv:ZY x=some (.type T))(ha:PA X (e::es) t)(hn:x ≠ "__name__":=by decide)(hdb:(x==("__debug__":Str))=false:=by decide)
 (he:Wy (e::es) X.env=(false,eval e X.env)::Wy es X.env:=by rfl) (hpl:(Wx pos (Wy es X.env)).any (·.1)=false:=by rfl):PE X (.Call (.Name x p) (e::es) [] pos) (tCB r t):=by
 intro WY s σ H Q I h;refine Xy (jD I hg hm hv ?_ hn hdb);exact Yv (thn (ha pos WY s σ H _ I h) fun us s1 hq_=>(by obtain⟨vs,H1,I1,r1,q1⟩:=hq_;exact hc WY s1 σ H1 vs us Q I1 r1 q1)) he hpl
end
end L2
namespace HT
open PySem PyProof.Rows
section
variable{prog:WF}{w:WE}{A:WD}{E:WI->WG->Prop}{s:WG}
noncomputable def sIx(n d:Nat):Option Int->Nat
 |none=>d
 |some v=>if v<0 then (v+(n:Int)).toNat else min v.toNat n
def sIx_none(n d:Nat):sIx n d none=d:=rfl
def sIx_nat(n d k:Nat):sIx n d (some (k:Int))=min k n:=by
 show(if (k:Int)<0 then ((k:Int)+(n:Int)).toNat else min (k:Int).toNat n)=min k n;rw[VZ (by lia),ZJ]
def sIx_le(n d:Nat)(hd:d<=n)(o:Option Int):sIx n d o<=n:=by
 cases o with
 |none=>exact hd
 |some v=>
  show(if v<0 then (v+(n:Int)).toNat else min v.toNat n)<=n;by_cases hv:v<0
  .rw[VY hv];lia
  .rw[VZ hv];exact XV _ _
def IF(a b:Nat):((min a b:Nat):Int)=min (a:Int) (b:Int):=by
 obtain h|h:=Nat.le_total a b
 .rw[Xp h,Int.min_eq_left (Int.ofNat_le.mpr h)]
 .rw[Nat.min_eq_right h,Int.min_eq_right (Int.ofNat_le.mpr h)]
def xY(v:Int)(n d:Nat):(if v<0 then max (v+(n:Int)) 0 else min v (n:Int))=((sIx n d (some v):Nat):Int):=by
 show(if v<0 then max (v+(n:Int)) 0 else min v (n:Int))=(((if v<0 then (v+(n:Int)).toNat else min v.toNat n):Nat):Int);by_cases hv:v<0
 .rw[VY hv,VY hv,Int.ofNat_toNat]
 .rw[VZ hv,VZ hv,IF,Int.toNat_of_nonneg (Int.not_lt.mp hv)]
def clip_max(v:Int)(n d:Nat):max 0 (min (if v<0 then v+(n:Int) else v) (n:Int))=((sIx n d (some v):Nat):Int):=by
 show _=(((if v<0 then (v+(n:Int)).toNat else min v.toNat n):Nat):Int);by_cases hv:v<0
 .rw[VY hv,VY hv,Int.ofNat_toNat,Int.min_eq_left (Int.add_le_of_le_sub_right (by rw[Int.sub_self];exact Int.le_of_lt hv)),Int.max_comm]
 .rw[VZ hv,VZ hv,IF,Int.toNat_of_nonneg (Int.not_lt.mp hv),Int.max_eq_right]
  exact Int.le_min.mpr ⟨Int.not_lt.mp hv,Int.natCast_nonneg n⟩
def wD(lo hi:Option Int)(n:Nat):XT lo hi 1 (n:Int)=(((sIx n 0 lo:Nat):Int),((sIx n n hi:Nat):Int)):=by
 have h1:¬ ((1:Int)<0):=by lia
 unfold XT;simp only[h1,if_false];refine Prod.ext ?_ ?_
 .cases lo with
  |none=>rfl
  |some v=>exact xY v n 0
 .cases hi with
  |none=>rfl
  |some v=>exact xY v n n
def vO(i j:Nat):YJ (i:Int) (j:Int) 1=j-i:=by
 unfold YJ;have h1:(1:Int) > 0:=by lia
 simp only[h1,if_true,Int.ediv_one];split <;> lia
def o7{Q:Option Int->WG->Prop}(p:IsPart v o)(h:Q o s):WB (WA prog w) A (Builtin.Slice.slicePartIndex v) Q E s:=by
 cases p with
 |none=>exact slicePart_none h
 |int i t=>exact slicePart_int h
def lI{sl:WH}{vl vu:WI}{lo hi:Option Int}{n:Nat}{Q:Int × Int × Nat->WG->Prop}(hs:s.heap.IsSliceOf sl vl vu .none)(pl:IsPart vl lo)(pu:IsPart vu hi)
 (h:Q (((sIx n 0 lo:Nat):Int),1,sIx n n hi-sIx n 0 lo) s):WB (WA prog w) A (Builtin.Slice.sliceApplied (.ref sl) (pure (n:Int))) Q E s:=by
 obtain⟨os,hos,hcs,hds⟩:=id hs;unfold Builtin.Slice.sliceApplied Builtin.Slice.sliceFields;refine zd (zd (YE hos hds (x:=vl) rfl (zd (YE hos hds (x:=vu) rfl (zd (YE hos hds (x:=.none) rfl (zJ ?_)))))));refine zd (slicePart_none ?_);show WB _ _ (if ((1:Int)==0)=true then _ else _) _ _ s;rw[VZ (by decide)];refine zd (o7 pl (zd (o7 pu (zd (zJ ?_)))));show WB _ _ (match XT lo hi 1 (n:Int) with|(lo,hi)=>pure (lo,(1:Int),YJ lo hi 1)) _ _ s;rw[wD lo hi n];show WB _ _ (pure (((sIx n 0 lo:Nat):Int),(1:Int),YJ ((sIx n 0 lo:Nat):Int) ((sIx n n hi:Nat):Int) 1)) _ _ s;rw[vO];exact zJ h
def As(xs:Array WI)(i k:Nat):((Zw k).filterMap fun(m:Nat)=>xs[((i:Int)+(m:Int)*1).toNat]?).toArray=((xs.toList.drop i).take k).toArray:=by
 have e:(fun(m:Nat)=>xs[((i:Int)+(m:Int)*1).toNat]?)=fun m=>xs[i+m]?:=by
  funext m;have:((i:Int)+(m:Int)*1).toNat=i+m:=by lia
  rw[this]
 rw[e];have:=pick_run xs i k;rw[List.filterMap_map]at this;have e2:((fun x=>xs[x]?) ∘ fun x=>i+x)=fun m=>xs[i+m]?:=rfl;rw[e2]at this;rw[this]
def getItem_tuple_cut{t sl:WH}{items:Array WI}{vl vu:WI}{lo hi:Option Int}{Q:WI->WG->Prop}(ht:IsTup s.heap t items)(hs:s.heap.IsSliceOf sl vl vu .none)(pl:IsPart vl lo)(pu:IsPart vu hi)
 (hw:¬ (sIx items.size 0 lo=0/\sIx items.size items.size hi=items.size))
 (h:Q (.ref s.heap.objs.size) { s with heap:=s.heap.push { cls:=.type "tuple",data:=.seq ((items.toList.drop (sIx items.size 0 lo)).take (sIx items.size items.size hi-sIx items.size 0 lo)).toArray } })
 (hsz:items.size<=WC):WB (WA prog w) A (getItem (.ref t) (.ref sl)) Q E s:=by
 have htake:sizeOk (.seq ((items.toList.drop (sIx items.size 0 lo)).take (sIx items.size items.size hi-sIx items.size 0 lo)).toArray):=by
  show((items.toList.drop (sIx items.size 0 lo)).take (sIx items.size items.size hi-sIx items.size 0 lo)).toArray.size<=WC;rw[yX,Zv,YT,ZN];exact wG (XV _ _) (wG (Nat.sub_le _ _) hsz)
 have hj:sIx items.size items.size hi<=items.size:=sIx_le _ _ (zK _) hi;obtain⟨os,hos,hcs,hds⟩:=id hs;have hTs:s.TypeIs (.ref sl) "slice":=⟨os,hos,hcs⟩;unfold getItem
 try with_reducible refine YX ?_
 first|refine zd (zJ ?_)|skip
 refine zd (wpAny_sequenceKey ht.typeIs (by decide) ?_);refine zd (wpAny_callSpecial?_slot (name:=zR "__getitem__") ht.typeIs PyProof.Rows.slot_tuple_getitem
  (ZS PyProof.Rows.slot_tuple_getitem ht.typeIs entry_tuple_getitem ?_ (args_tuple_getitem _ _)))
 show WB _ _ (Builtin.Tuple.tupleItemsOf (.ref t) >>= _) _ _ s;refine zd (tupleItemsOf_ ht ?_);refine zd (wpAny_typeOf hTs ?_);rw[VY (by decide)];refine zd (lI hs pl pu ?_);have hno:¬ ((((sIx items.size 0 lo:Nat):Int)==0&&(1:Int)==1&&(sIx items.size items.size hi-sIx items.size 0 lo)==items.size)=true):=by
  intro q;rw[ZR,ZR]at q;have q1:((sIx items.size 0 lo:Nat):Int)=0:=eq_of_beq q.1.1;have q2:sIx items.size items.size hi-sIx items.size 0 lo=items.size:=eq_of_beq q.2;exact hw ⟨by lia,by lia⟩
 show WB _ _ (if (((sIx items.size 0 lo:Nat):Int)==0&&(1:Int)==1&&(sIx items.size items.size hi-sIx items.size 0 lo)==items.size)=true then _ else _) _ _ s;rw[VZ hno,As]
 first
  |exact zd (m:=Y3 _) (Zc (zJ ⟨_,rfl,zJ h⟩) htake)
  |exact zd (m:=Y3 _) (Zc (zd (zJ (zJ ⟨_,rfl,zJ h⟩))) htake)
  |exact zd (zd (m:=Y3 _) (Zc (zJ (zJ ⟨_,rfl,zJ h⟩)) htake))
  |exact zd (zd (m:=Y3 _) (Zc (zJ ⟨_,rfl,zJ h⟩) htake))
end
end HT
namespace L2
open PySem PySem.Spec PyProof.Rows
abbrev TO:=St->Hp->(Option Int->Hp->Prop)->Prop
def PO(X:Cx)(e:Option Expr)(t:TO):Prop:=
 ∀(WY:List (WH × Obj)) (s:WG) (σ:St) (H:Hp) (Q:Option Int->Hp->Prop),WL X WY σ H s->t σ H Q ->
  WB (WA X.prog X.w) X.A (evalPart e X.env) (fun u s'=>∃o H',WL X WY σ H' s'/\IsPart u o/\Q o H') X.xe s
def xb:TO:=fun _ H Q=>Q none H
def EV(t:TE):TO:=fun σ H Q=>t σ H fun x H1=>∃i,x = .int i/\Q (some i) H1
def v5{ns:List Int}:∀ {us:List WI},WP (ns.map V.int) us->IntsAre us ns:=by
 induction ns with
 |nil=>intro us r;rw[YB]at r;cases r;exact .nil
 |cons n ns ih=>
  intro us r;rw[yH]at r;cases r with
  |cons r1 r2=>
   obtain⟨t,e⟩:=r1;subst e;exact .cons n t (ih r2)
section
variable{X:Cx}{e:Expr}{te:TE}{lo hi:Option Expr}{tl th:TO}{pos p2:Pos}
def dI:PO X none xb:=by
 intro WY s σ H Q I h;rw[evalPart_none];exact zJ ⟨none,H,I,.none,h⟩
def dQ(h:PE X e te):PO X (some e) (EV te):=by
 intro WY s σ H Q I hw;rw[evalPart_some];refine thn (h WY s σ H _ I hw) fun u s1 hq_=>?_;obtain⟨x,H1,I1,r1,q1⟩:=hq_;obtain⟨i,rfl,q⟩:=q1;obtain⟨t,rfl⟩:=r1;exact⟨some i,H1,I1,.int i t,q⟩
def SlR(X:Cx)(r:V->Option Int->Option Int->Hp->VK->Prop):Prop:=
 ∀(WY:List (WH × Obj)) (s:WG) (σ:St) (H:Hp) (x:V) (v vl vu:WI) (lo hi:Option Int) (sl:WH) (Q:VK),WL X WY σ H s->WQ x v->s.heap.IsSliceOf sl vl vu .none->IsPart vl lo->IsPart vu hi->r x lo hi H Q ->
  ∃T id,typeLookup (.type T) "__getitem__" = pure (some (.builtin id))/\s.TypeIs v T/\WB (WA X.prog X.w) X.A (getItem v (.ref sl)) (EP X WY σ Q) X.xe s
def tSl(r:V->Option Int->Option Int->Hp->VK->Prop)(te:TE)(tl th:TO):TE:=fun σ H Q=>te σ H fun x H1=>tl σ H1 fun l H2=>th σ H2 fun u H3=>r x l u H3 Q
def cU{r:V->Option Int->Option Int->Hp->VK->Prop}(hr:SlR X r)(he:PE X e te)(hl:PO X lo tl)(hu:PO X hi th):PE X (.Subscript e (.Slice lo hi none p2) pos) (tSl r te tl th):=by
 intro WY s σ H Q I h;refine Subscript_ (thn (he WY s σ H _ I h) fun v s1 hq_=>?_);obtain⟨x,H1,I1,r1,q1⟩:=hq_;refine wpAny_Slice (thn (hl WY s1 σ H1 _ I1 q1) fun vl s2 ⟨l,H2,I2,pl,q2⟩=>thn (hu WY s2 σ H2 _ I2 q2) fun vu s3 hq_=>?_);obtain⟨u,H3,I3,pu,q3⟩:=hq_;rw[evalPart_none];refine zJ ?_;have I4:WL X WY σ H3 { s3 with heap:=s3.heap.push { cls:=.type "slice",data:=.fields #[vl,vu,.none] } }:=I3.kept (t':=s3.toks) fun b ob q=>Wr _ q;obtain⟨T,id,hT,ht,hg⟩:=hr WY { s3 with heap:=s3.heap.push { cls:=.type "slice",data:=.fields #[vl,vu,.none] } } σ H3 x v vl vu l u s3.heap.objs.size Q I4 r1 (Heap.IsSliceOf.new ..) pl pu q3;show WB (WA X.prog X.w) X.A (subscriptTail e (.Slice lo hi none p2) v (.ref s3.heap.objs.size)) (EP X WY σ Q) X.xe { s3 with heap:=s3.heap.push { cls:=.type "slice",data:=.fields #[vl,vu,.none] } };exact tail_any (ops:=[.ref s3.heap.objs.size,v]) ht hT hg (by with_unfolding_all rfl)
noncomputable def fX(xs:List V)(lo hi:Option Int):List V:=(xs.drop (HT.sIx xs.length 0 lo)).take (HT.sIx xs.length xs.length hi-HT.sIx xs.length 0 lo)
def mw(xs:List V)(lo hi:Option Int):(fX xs lo hi).length<=xs.length:=by
 unfold fX;rw[Zv,YT];exact wG (XV _ _) (Nat.sub_le _ _)
def Jc(K:Ws):V->Option Int->Option Int->Hp->VK->Prop:=fun x lo hi H Q=>∃a xs,x = .ref a/\SqT K H a xs /\
 ¬ (HT.sIx xs.length 0 lo=0/\HT.sIx xs.length xs.length hi=xs.length)/\∀p,H p=none->Q (.ref p) (upd H p (.tup (fX xs lo hi)))
def GC:SlR X (Jc X.K):=by
 intro WY s σ H x v vl vu lo hi sl Q I rx hs pl pu h;obtain⟨a,xs,rfl,hx,hw,q⟩:=h;cases rx;obtain⟨WV,r,ht,hz⟩:=I.tuple hx;have hlen:WV.toArray.size=xs.length:=by rw[yX];exact r.length.symm
 refine⟨"tuple",_,PyProof.Rows.slot_tuple_getitem.lookup,ht.typeIs,?_⟩;refine HT.getItem_tuple_cut ht hs pl pu (by rw[hlen];exact hw) ?_ (by rw[hlen];exact hz);rw[hlen];refine⟨.ref s.heap.objs.size,_,I.laid (t':=s.toks) (o:=.tup (fX xs lo hi)) (fun b ob q=>Wr _ q) (zK _) ?_,rfl,q _ (I.hok.fresh (zK _))⟩;exact⟨wG (mw xs lo hi) hz,_,(r.drop (HT.sIx xs.length 0 lo)).take (HT.sIx xs.length xs.length hi-HT.sIx xs.length 0 lo),IsTup.new _ _⟩
end
noncomputable def ixN(n:Nat)(i:Int):Option Nat:=if 0<=i then (if i<n then some i.toNat else none) else if -(n:Int)<=i then some (i+n).toNat else none
noncomputable def atI{α:Type}(xs:List α)(i:Int):Option α:=(ixN xs.length i).bind fun j=>xs[j]?
def Es{i:Int}(h:ixN n i=some j):seqIndex? i n=some j/\j<n /\ -(n:Int)<=i/\i<n:=by
 unfold ixN at h;by_cases h0:0<=i
 .rw[VY h0]at h
  by_cases h1:i<n
  .rw[VY h1]at h
   have e:i.toNat=j:=Zs h;exact⟨by rw[seqIndex_of h0 h1,e],by lia,by lia,h1⟩
  .rw[VZ h1]at h;cases h
 .rw[VZ h0]at h
  by_cases h1:-(n:Int)<=i
  .rw[VY h1]at h
   have e:(i+n).toNat=j:=Zs h;exact⟨by rw[seqIndex_neg (by lia) h1,e],by lia,h1,by lia⟩
  .rw[VZ h1]at h;cases h
def sO{α:Type}{xs:List α}{i:Int}{v:α}(h:atI xs i=some v):∃j,seqIndex? i xs.length=some j/\xs[j]? = some v/\j<xs.length /\ -(xs.length:Int)<=i/\i<xs.length:=by
 unfold atI at h;cases e:ixN xs.length i with
 |none=>rw[e]at h;cases h
 |some j=>
  rw[e]at h;obtain⟨h1,h2,h3,h4⟩:=Es e;exact⟨j,h1,h,h2,h3,h4⟩
def aO{α:Type}{xs:List α}{j:Nat}{v:α}(h:xs[j]? = some v):atI xs (j:Int)=some v:=by
 have hj:j<xs.length:=(Wn.mp h).1;have e:ixN xs.length (j:Int)=some j:=by
  unfold ixN;rw[VY (by lia),VY (by lia)];simp
 unfold atI;rw[e];exact h
def oU{α:Type}(xs:List α)(v:α):atI (xs++[v]) (-1)=some v:=by
 have hl:(xs++[v]).length=xs.length+1:=by simp
 have e:ixN (xs++[v]).length (-1)=some xs.length:=by
  unfold ixN;rw[hl,VZ (by decide),VY (by lia)]
  congr 1
  lia
 unfold atI;rw[e];show(xs++[v])[xs.length]? = some v;simp
def sM(b:Expr):Prop:=∀o i,subscripted b false o i=operate [o,i] (getItem o i)
def IxR(X:Cx)(r:R2):Prop:=
 ∀(value slice:Expr) (WY:List (WH × Obj)) (s:WG) (σ:St) (H:Hp) (x y:V) (v u:WI) (Q:VK),WL X WY σ H s->WQ x v->WQ y u->r x y H Q ->
  subscripted slice false v u=operate [v,u] (getItem v u)->WB (WA X.prog X.w) X.A (subscriptTail value slice v u) (EP X WY σ Q) X.xe s
def MtR(X:Cx)(id:String)(r:V->List V->Hp->VK->Prop):Prop:=
 ∀(WY:List (WH × Obj)) (s:WG) (σ:St) (H:Hp) (x:V) (xs:List V) (v:WI) (us:List WI) (Q:VK),WL X WY σ H s->WQ x v->WP xs us->r x xs H Q ->
  WB (WA X.prog X.w) X.A (call (.builtin id) (v::us)) (EP X WY σ Q) X.xe s
section
variable{X:Cx}{a b:Expr}{ta tb:TE}{pos:Pos}
def IxR.or{r r':R2}(h:IxR X r)(h':IxR X r'):IxR X (fun x y H Q=>r x y H Q\/r' x y H Q):=by
 intro value slice WY s σ H x y v u Q I rx ry q hs;obtain q|q:=q
 .exact h value slice WY s σ H x y v u Q I rx ry q hs
 .exact h' value slice WY s σ H x y v u Q I rx ry q hs
def IU{r:R2}(hr:IxR X r)(ha:PE X a ta)(hb:PE X b tb)(hs:sM b):PE X (.Subscript a b pos) (tOp r ta tb):=by
 intro WY s σ H Q I h;exact Subscript_ (HQ ha hb I h fun v u s2 x y H2 I2 rx ry q=>hr a b WY s2 σ H2 x y v u Q I2 rx ry q (hs _ _))
def IG(K:Ws):R2:=fun x y H Q=>∃p xs i v,x = .ref p/\y = .int i/\SqL K H p xs/\atI xs i=some v/\Q v H
def Ja(K:Ws):R2:=fun x y H Q=>∃p xs i v,x = .ref p/\y = .int i/\SqT K H p xs/\atI xs i=some v/\Q v H
def HY:R2:=fun x y H Q=>∃z i c,x = .str z/\y = .int i/\z.length<=WC/\atI z.cps.toList i=some c/\Q (.str ⟨#[c]⟩) H
def xZ:IxR X (IG X.K):=by
 intro value slice WY s σ H x y v u Q I rx ry h hs;obtain⟨p,xs,i,z,rfl,rfl,hq,he,q⟩:=h;cases rx;obtain⟨t,rfl⟩:=ry;obtain⟨WV,r,pl,hz⟩:=I.list hq;obtain⟨j,h1,h2,h3,h4,h5⟩:=sO he;obtain⟨w,ew,rw'⟩:=r.get h2;have hl:=r.length;have hn:=og;have fin:EP X WY σ Q w s:=⟨z,H,I,rw',q⟩;by_cases h0:0<=i
 .have hj:i.toNat=j:=by
   rw[seqIndex_of h0 h5]at h1;exact Zs h1
  exact item_listR pl.isList h0 (by lia) (by rw[hj];simpa using ew) fin hs
 .have hj:(i+(WV.toArray.size:Int)).toNat=j:=by
   rw[seqIndex_neg (by lia) h4]at h1;rw[yX,<- hl];exact Zs h1
  exact subscriptTail_builtinR (x:=w) pl.isList.typeIs slot_list_getitem.lookup
   (wpAny_getItem_list_neg (Q:=fun r s'=>r=w/\EP X WY σ Q r s') pl.isList (by lia) (by rw[yX] <;> lia) (by lia) (by rw[hj];simpa using ew) ⟨rfl,fin⟩) hs
def Gw:IxR X (Ja X.K):=by
 intro value slice WY s σ H x y v u Q I rx ry h hs;obtain⟨p,xs,i,z,rfl,rfl,hq,he,q⟩:=h;cases rx;obtain⟨t,rfl⟩:=ry;obtain⟨WV,r,pl,hz⟩:=I.tuple hq;obtain⟨j,h1,h2,h3,h4,h5⟩:=sO he;obtain⟨w,ew,rw'⟩:=r.get h2;have hl:=r.length;have hn:=og;have fin:EP X WY σ Q w s:=⟨z,H,I,rw',q⟩;exact subscriptTail_builtinR (x:=w) pl.typeIs slot_tuple_getitem.lookup
  (getItem_tuple (j:=j) (Q:=fun r s'=>r=w/\EP X WY σ Q r s') pl (by lia) (by lia) (by rw[yX,<- hl];exact h1) (by simpa using ew) ⟨rfl,fin⟩) hs
def Ho:IxR X HY:=by
 intro value slice WY s σ H x y v u Q I rx ry h hs;obtain⟨z,i,c,rfl,rfl,hz,he,q⟩:=h;obtain⟨t,rfl⟩:=rx;obtain⟨t',rfl⟩:=ry;obtain⟨j,h1,h2,h3,h4,h5⟩:=sO he;have hl:z.cps.toList.length=z.length:=by simp[Y8]
 rw[hl]at h1 h4 h5;have hn:=og;exact tail_any (typeIs_str s z t) slot_str_getitem.lookup (getItem_str (c:=c) (by
  have e1:decide (i < -(2 ^ 63:Int))=false:=VW (by lia);have e2:decide (i ≥ 2 ^ 63)=false:=VW (by lia);rw[e1,e2,Bool.or_false]) (by rw[h1];simpa using h2) ⟨.str ⟨#[c]⟩,H,I.tok _,⟨_,rfl⟩,q⟩) hs
def rIx(K:Ws):R2:=fun x y H Q=>IG K x y H Q\/Ja K x y H Q\/HY x y H Q
def GU:IxR X (rIx X.K):=xZ.or (Gw.or Ho)
def lj(lo hi:Option Int)(n:Nat):(sliceBounds lo hi none n).1=((HT.sIx n 0 lo:Nat):Int)/\(sliceBounds lo hi none n).2.1=((HT.sIx n n hi:Nat):Int)/\(sliceBounds lo hi none n).2.2=1:=by
 refine⟨?_,?_,rfl⟩
 .cases lo with
  |none=>rfl
  |some i=>exact HT.clip_max i n 0
 .cases hi with
  |none=>rfl
  |some i=>exact HT.clip_max i n n
def pH(WV:List WI)(lo hi:Option Int):slicePick WV.toArray lo hi none=((WV.drop (HT.sIx WV.length 0 lo)).take (HT.sIx WV.length WV.length hi-HT.sIx WV.length 0 lo)).toArray:=by
 obtain⟨h1,h2,h3⟩:=lj lo hi WV.toArray.size;unfold slicePick;rw[h1,h2,h3];simp only[sliceRange_one,pick_run,yX] <;> rfl
def JB(K:Ws):V->Option Int->Option Int->Hp->VK->Prop:=fun x lo hi H Q=>∃a xs,x = .ref a/\SqL K H a xs/\∀p,H p=none->Q (.ref p) (upd H p (.lst (fX xs lo hi)))
def CL:SlR X (JB X.K):=by
 intro WY s σ H x v vl vu lo hi sl Q I rx hs pl pu h;obtain⟨a,xs,rfl,hx,q⟩:=h;cases rx;obtain⟨WV,r,ht,hz⟩:=I.list hx;have hlen:=r.length;refine⟨"list",_,slot_list_getitem.lookup,ht.isList.typeIs,?_⟩;refine wpAny_getItem_list_slice ht.isList hs pl pu .none (by simp) ?_ (by rw[yX] <;> lia);rw[pH,<- hlen];refine⟨.ref s.heap.objs.size,_,I.laid (t':=s.toks) (o:=.lst (fX xs lo hi)) (fun b ob q=>Wr _ q) (zK _) ?_,rfl,q _ (I.hok.fresh (zK _))⟩;exact⟨wG (mw xs lo hi) hz,_,0,(r.drop (HT.sIx xs.length 0 lo)).take (HT.sIx xs.length xs.length hi-HT.sIx xs.length 0 lo),Wq _ rfl⟩
noncomputable def cY:V->Bool
 | .non=>true
 | .bl _=>true
 | .int _=>true
 | .str _=>true
 |_=>false
noncomputable def eqV:V->V->Bool
 | .non,.non=>true
 | .bl a,.bl b=>a==b
 | .bl a,.int b=>(if a then 1 else 0)==b
 | .int a,.bl b=>a==(if b then 1 else 0)
 | .int a,.int b=>a==b
 | .str a,.str b=>a==b
 |_,_=>false
def vt(ry:WQ y u)(rx:WQ x v)(fy:cY y=true)(fx:cY x=true):SeqAt.EqAt A s u v (eqV y x):=by
 cases y with
 |non=>
  cases ry;cases x with
  |non=>cases rx;exact SeqAt.EqAt.same _
  |bl b=>cases rx;exact SeqAt.EqAt.none_bool b
  |int b=>obtain⟨t,rfl⟩:=rx;exact SeqAt.EqAt.none_int b t
  |str b=>obtain⟨t,rfl⟩:=rx;exact SeqAt.EqAt.none_str b t
  |_=>exact VT (show false=true from fx) xl
 |bl a=>
  cases ry;cases x with
  |non=>cases rx;exact SeqAt.EqAt.bool_none a
  |bl b=>cases rx;exact SeqAt.EqAt.bool_bool a b
  |int b=>obtain⟨t,rfl⟩:=rx;exact SeqAt.EqAt.bool_int a b t
  |str b=>obtain⟨t,rfl⟩:=rx;exact SeqAt.EqAt.bool_str a b t
  |_=>exact VT (show false=true from fx) xl
 |int a=>
  obtain⟨t',rfl⟩:=ry;cases x with
  |non=>cases rx;exact SeqAt.EqAt.int_none a t'
  |bl b=>cases rx;exact SeqAt.EqAt.int_bool a t' b
  |int b=>obtain⟨t,rfl⟩:=rx;exact SeqAt.EqAt.int_int a t' b t
  |str b=>obtain⟨t,rfl⟩:=rx;exact SeqAt.EqAt.int_str a t' b t
  |_=>exact VT (show false=true from fx) xl
 |str a=>
  obtain⟨t',rfl⟩:=ry;cases x with
  |non=>cases rx;exact SeqAt.EqAt.str_none a t'
  |bl b=>cases rx;exact SeqAt.EqAt.str_bool a t' b
  |int b=>obtain⟨t,rfl⟩:=rx;exact SeqAt.EqAt.str_int a t' b t
  |str b=>obtain⟨t,rfl⟩:=rx;exact SeqAt.EqAt.str_str a t' b t
  |_=>exact VT (show false=true from fx) xl
 |_=>exact VT (show false=true from fy) xl
noncomputable def eqU(x:V)(u:WI):Bool:=match u with
 | .none=>eqV .non x
 | .bool b=>eqV (.bl b) x
 | .int i _=>eqV (.int i) x
 | .str z _=>eqV (.str z) x
 |_=>false
def Ag(r:WQ y u)(f:cY y=true):eqU x u=eqV y x:=by
 cases y with
 |non=>cases r;rfl
 |bl b=>cases r;rfl
 |int i=>obtain⟨t,rfl⟩:=r;rfl
 |str z=>obtain⟨t,rfl⟩:=r;rfl
 |_=>exact VT (show false=true from f) xl
theorem qH:∀ {xs:List V} {us:List WI},WP xs us->xs.all cY=true->us.any (eqU x)=xs.any fun y=>eqV y x
 |_,_,.nil,_=>rfl
 |y::xs,u::us,.cons r t,f=>by
  rw[List.all_cons,ZR]at f;rw[List.any_cons,List.any_cons,Ag r f.1,qH t f.2]
theorem oK(rx:WQ x v)(fx:cY x=true):∀ {xs:List V} {us:List WI},WP xs us->xs.all cY=true->∀u∈us,SeqAt.EqAt A s u v (eqU x u)
 |_,_,.nil,_=>fun u hu=>by cases hu
 |y::xs,u::us,.cons r t,f=>fun u' hu=>by
  rw[List.all_cons,ZR]at f;obtain rfl|hu:=z9.mp hu
  .rw[Ag r f.1];exact vt r rx f.1 fx
  .exact oK rx fx t f.2 u' hu
noncomputable def inV(x:V)(xs:List V):Bool:=xs.any fun y=>eqV y x
def rIn(K:Ws)(neg:Bool):R2:=fun x y H Q=>∃p xs,y = .ref p/\(SqL K H p xs\/SqT K H p xs)/\cY x=true/\xs.all cY=true/\Q (.bl (if neg then !inV x xs else inV x xs)) H
def qJ:OpR X (Zd .NotIn) (rIn X.K true):=by
 intro WY s σ H x y v u Q I rx ry h;obtain⟨p,xs,rfl,hq,fx,fs,q⟩:=h;cases ry;obtain hq|hq:=hq
 .obtain⟨WV,r,pl,hz⟩:=I.list hq
  refine SeqAt.notIn_listAt (eqU x) pl.isList (fun w hw=>oK rx fx r fs w (by simpa using hw)) ⟨.bl _,H,I,rfl,?_⟩;rw[show WV.toArray.any (eqU x)=WV.any (eqU x) by simp,qH r fs];exact q
 .obtain⟨WV,r,pl,hz⟩:=I.tuple hq
  refine SeqAt.notIn_tupleAt (eqU x) pl (fun w hw=>oK rx fx r fs w (by simpa using hw)) ⟨.bl _,H,I,rfl,?_⟩;rw[show WV.toArray.any (eqU x)=WV.any (eqU x) by simp,qH r fs];exact q
def WN.or{f:WI}{r r':List V->Hp->VK->Prop}(h:WN X f r)(h':WN X f r'):WN X f (fun xs H Q=>r xs H Q\/r' xs H Q):=by
 intro WY s σ H xs us Q I rs q;obtain q|q:=q
 .exact h WY s σ H xs us Q I rs q
 .exact h' WY s σ H xs us Q I rs q
def sL:WN X (.type "list") (fun xs H Q=>∃p ys,xs=[.ref p]/\(SqL X.K H p ys\/SqT X.K H p ys)/\∀l,H l=none->Q (.ref l) (upd H l (.lst ys))):=by
 intro WY s σ H xs us Q I r h;obtain⟨p,ys,rfl,hq,q⟩:=h;obtain⟨u,rfl,rx⟩:=d8 r;cases rx;have fin:∀(WV:List WI),WP ys WV->ys.length<=WC->∀(h':Wz) (c':Nat),(∀b o',s.heap.get? b=some o'->h'.get? b=some o') ->
  h'.get? s.heap.objs.size=some { cls:=.type "list",dict:=none,data:=.seq WV.toArray c',slots:=#[] }->EP X WY σ Q (.ref s.heap.objs.size) { s with heap:=h' }:=fun WV r' hz h' c' kp e=>
  ⟨.ref s.heap.objs.size,_,I.laid (t':=s.toks) kp (zK _) (show WO X.prog X.w _ h' _ (.lst ys) from⟨hz,WV,c',r',e⟩),rfl,q _ (I.hok.fresh (zK _))⟩
 obtain hq|hq:=hq
 .obtain⟨WV,r',pl,hz⟩:=I.list hq
  have hlen:=r'.length;obtain⟨o,ho,hc,n,hd⟩:=pl.isList;exact call_list_seq p (.inl rfl) ho hc hd (fun h' c' kp e=>fin WV r' hz h' c' kp e) (by simp only[yX] <;> lia)
 .obtain⟨WV,r',pl,hz⟩:=I.tuple hq
  have hlen:=r'.length;obtain⟨o,ho,hc,n,hd⟩:=pl;exact call_list_seq p (.inr rfl) ho hc hd (fun h' c' kp e=>fin WV r' hz h' c' kp e) (by simp only[yX] <;> lia)
def pN:WN X (.type "tuple") (fun xs H Q=>∃p ys,xs=[.ref p]/\((SqL X.K H p ys/\∀l,H l=none->Q (.ref l) (upd H l (.tup ys)))\/(SqT X.K H p ys/\Q (.ref p) H))):=by
 intro WY s σ H xs us Q I r h;obtain⟨p,ys,rfl,h⟩:=h;obtain⟨u,rfl,rx⟩:=d8 r;cases rx;obtain⟨hq,q⟩|⟨hq,q⟩:=h
 .obtain⟨WV,r',pl,hz⟩:=I.list hq
  have hlen:=r'.length;refine call_tuple_list pl.isList (fun h' kp=>?_) (by simp only[yX] <;> lia);have I1:WL X WY σ H { s with heap:=h' }:=I.kept (t':=s.toks) kp;have I2:WL X WY σ (upd H h'.objs.size (.tup ys)) { s with heap:=h'.push { cls:=.type "tuple",data:=.seq WV.toArray } }:=
   I1.laid (t':=s.toks) (fun b o e=>Wr _ e) (zK _) (show WO X.prog X.w _ _ _ (.tup ys) from⟨hz,WV,r',IsTup.new _ _⟩)
  exact⟨.ref h'.objs.size,_,I2,rfl,q _ (I1.hok.fresh (zK _))⟩
 .obtain⟨WV,r',pl,hz⟩:=I.tuple hq
  exact call_tuple_same pl ⟨.ref p,H,I,rfl,q⟩
def tyV(K:Ws)(T:String)(x:V)(H:Hp):Prop:=match x with
 | .str _=>T = "str"
 | .int _=>T = "int"
 | .ref p=>(T = "list" /\ ∃xs,SqL K H p xs)\/(T = "tuple" /\ ∃o,K.lookup p=some o/\o.cls = .type "tuple" /\ o.dict=none) \/
  (T = "dict" /\ ((∃WU,H p=some (.dK WU))\/∃WU,H p=some (.dT WU)))\/(T = "set" /\ ∃S n,H p=some (.set S n))
 |_=>False
def HK{WY:List (WH × Obj)}{σ:St}{H:Hp}{s:WG}{T:String}{x:V}{v:WI}(I:WL X WY σ H s)(r:WQ x v)(ty:tyV X.K T x H) :
 s.TypeIs v T/\∀a,v = .ref a->∃ob,s.heap.get? a=some ob/\ob.dict=none:=by
 cases x with
 |str z=>
  obtain⟨t,rfl⟩:=r;cases (show T = "str" from ty);exact⟨typeIs_str s z t,fun _ e=>nomatch e⟩
 |int i=>
  obtain⟨t,rfl⟩:=r;cases (show T = "int" from ty);exact⟨typeIs_int s i t,fun _ e=>nomatch e⟩
 |ref p=>
  cases r;obtain⟨rfl,xs,hq⟩|⟨rfl,o,hk,hc,hd⟩|⟨rfl,hk⟩|⟨rfl,S,n,hk⟩:=ty
  .obtain⟨WV,_,pl,_⟩:=I.list hq
   refine⟨pl.isList.typeIs,fun a e=>?_⟩;cases e;obtain⟨o,n,e,c,hd,_⟩:=pl;exact⟨o,e,hd⟩
  .refine⟨⟨o,I.kIn p o hk,hc⟩,fun a e=>?_⟩
   cases e;exact⟨o,I.kIn _ o hk,hd⟩
  .have z:∃o,s.heap.get? p=some o/\o.ExactDict:=by
    obtain⟨WU,hk⟩|⟨WU,hk⟩:=hk
    .obtain⟨_,_,_,_,o,_,_,e,ex,_⟩:=I.hok p _ hk
     exact⟨o,e,ex⟩
    .obtain⟨_,_,_,_,o,_,_,e,ex,_⟩:=I.hok p _ hk
     exact⟨o,e,ex⟩
   obtain⟨o,e,ex⟩:=z;refine⟨⟨o,e,ex.1⟩,fun a e2=>?_⟩;cases e2;exact⟨o,e,ex.2.1⟩
  .obtain⟨o,_,_,_,e,ex,_⟩:=I.hok p _ hk
   refine⟨⟨o,e,ex.1⟩,fun a e2=>?_⟩;cases e2;exact⟨o,e,ex.2.1⟩
 |_=>exact YR ty
def tBM(K:Ws)(T:String)(r:V->List V->Hp->VK->Prop)(to:TE)(t:TA):TE:=fun σ H Q=>to σ H fun x H1=>tyV K T x H1/\t σ H1 fun xs H2=>r x xs H2 Q
variable{o e:Expr}{es:List Expr}{to:TE}{t:TA}{name:Str}{apos cpos:Pos}{T id:String}{r:V->List V->Hp->VK->Prop}
def JH(pa:PlainAttrs T)(slot:Slot T name id)(hty:typeOf (.builtin id)=pure (.type "method_descriptor"))(hm:MtR X id r)(ho:PE X o to)(ha:PA X (e::es) t)
 (hbase:XR o name X.env (eval o X.env)=eval o X.env:=by rfl)
 (hfew:((Wx cpos (Wy (e::es) X.env)).all (fun x=>!x.1)&&(backToKw cpos (XC [] X.env)).all (fun x=>x.1.isSome)
  && decide ((e::es).length+([]:List Keyword).length+(if ([]:List Keyword).isEmpty then 0 else 1)<30))=true:=by rfl)
 (hline:(apos.endLine==cpos.line)=true:=by rfl) (hs:Wy (e::es) X.env=(false,eval e X.env)::Wy es X.env:=by rfl) (hplain:(Wx cpos (Wy es X.env)).any (·.1)=false:=by rfl) :
 PE X (.Call (.Attribute o name apos) (e::es) [] cpos) (tBM X.K T r to t):=by
 intro WY s σ H Q I h;refine wpAny_Call_method_late hbase hfew hline rfl (thn (ho WY s σ H _ I h) fun v s1 hq_=>?_);obtain⟨x,H1,I1,r1,ty,q1⟩:=hq_;obtain⟨h1,h2⟩:=HK I1 r1 ty;refine⟨T,id,pa,slot,hty,h1,h2,?_⟩;have hA:=ha cpos WY s1 σ H1 _ I1 q1;rw[hs]at hA |-
 refine Xs (by show(false || (Wx cpos (Wy es X.env)).any (·.1))=false;rw[hplain] <;> rfl) (Xa ?_);exact thn hA fun us s2 hq_=>(by obtain⟨vs,H2,I2,r2,q2⟩:=hq_;exact hm WY s2 σ H2 x vs v us Q I2 r1 r2 q2)
end
def MtM(X:Cx)(id:String)(r:V->List V->Hp->VK->Prop):Prop:=
 ∀(WY:List (WH × Obj)) (s:WG) (σ:St) (H:Hp) (x:V) (xs:List V) (v:WI) (us:List WI) (Q:VK),WL X WY σ H s->WQ x v->WP xs us->r x xs H Q ->
  WB (WA X.prog X.w) X.A (call (.builtin id) (v::us)) (EP X WY σ Q) X.xe s
def WP.one{x:V}{us:List WI}(h:WP [x] us):∃u,us=[u]/\WQ x u:=by
 cases h with
 |cons r t=>cases t;exact⟨_,rfl,r⟩
def WP.dropLast{xs:List V}{us:List WI}(h:WP xs us):WP xs.dropLast us.dropLast:=by
 induction h with
 |nil=>exact .nil
 |cons r t ih=>
  cases t with
  |nil=>exact .nil
  |cons q t'=>exact .cons r ih
section
variable{X:Cx}{WY:List (WH × Obj)}{σ:St}{H:Hp}{s:WG}{l b:WH}{xs ys zs:List V}
def WL.lset{WV its':List WI}{f:Array WI->Array WI}(I:WL X WY σ H s)(hH:H l=some (.lst xs))
 (e:s.heap.get? l=some { cls:=.type "list",data:=.seq WV.toArray n }) (hf:f WV.toArray=its'.toArray) (hv:WP ys its') (hz:ys.length<=WC) :
 WL X WY σ (upd H l (.lst ys)) { s with heap:=s.heap.update l (Xf f),toks:=t' }:=by
 have q:=PySem.IsL.update e f;rw[hf]at q;refine I.write (x:=l) (e:=l) (by rw[hH];exact trivial) (.inl rfl) (fun b' u hb hu=>(Wp s.heap (Xf f) (Wc hb)).trans hu) ⟨_,q⟩ ?_;exact⟨hz,its',_,hv,q⟩
def WL.lnew{WV:List WI}(I:WL X WY σ H s)(hv:WP ys WV)(hz:ys.length<=WC) :
 WL X WY σ (upd H s.heap.objs.size (.lst ys)) { s with heap:=s.heap.push { cls:=.type "list",data:=.seq WV.toArray },toks:=t' }:=
 I.laid (fun _ _ q=>Wr _ q) (zK _) ⟨hz,WV,0,hv,Wq _ rfl⟩
def WL.fresh(I:WL X WY σ H s):H s.heap.objs.size=none:=I.hok.fresh (zK _)
def WL.lstM(I:WL X WY σ H s)(hH:H l=some (.lst xs)):xs.length<=WC/\∃(WV:List WI) (n:Nat),WP xs WV/\xs.length=WV.length/\s.heap.get? l=some { cls:=.type "list",data:=.seq WV.toArray n }:=by
 obtain⟨z,WV,n,r,e⟩:=I.hok l _ hH;exact⟨z,WV,n,r,r.length,e⟩
def ua(h:n<=WC):XO n=false:=by
 unfold XO;exact VW (by lia)
end
section
variable{X:Cx}
def wP:V->List V->Hp->VK->Prop:=fun x vs H Q=>∃l xs y,x = .ref l/\vs=[y]/\H l=some (.lst xs)/\xs.length<WC/\Q .non (upd H l (.lst (xs++[y])))
def cz:MtM X "list.append" wP:=by
 intro WY s σ H x vs v us Q I rx rv h;obtain⟨l,xs,y,rfl,rfl,hH,hz,q⟩:=h;cases rx;obtain⟨u,rfl,ru⟩:=rv.one;obtain⟨z,WV,n,r,hl,e⟩:=I.lstM hH;refine call_meets F.slot_list_append ⟨_,e,rfl⟩ F.entry_list_append (F.args_list_append_2 _ _) (PySem.list_append l WV.toArray n u (by rw[yX];lia)) ⟨e,?_⟩;refine⟨.non,_,I.lset (its':=WV++[u]) hH e (by simp) (r.append (.cons ru .nil)) ?_,rfl,q⟩;rw[zA,v6];lia
def DH:V->List V->Hp->VK->Prop:=fun x vs H Q=>∃l b xs zs,x = .ref l/\vs=[.ref b]/\H l=some (.lst xs)/\H b=some (.lst zs)/\xs.length+zs.length<=WC/\Q .non (upd H l (.lst (xs++zs)))
def HS:MtM X "list.extend" DH:=by
 intro WY s σ H x vs v us Q I rx rv h;obtain⟨l,b,xs,zs,rfl,rfl,hH,hB,hz,q⟩:=h;cases rx;obtain⟨u,rfl,ru⟩:=rv.one;cases ru;obtain⟨z,WV,n,r,hl,e⟩:=I.lstM hH;obtain⟨z2,its2,n2,r2,hl2,e2⟩:=I.lstM hB;have hsz:WV.toArray.size+its2.toArray.size<=WC:=by rw[yX,yX];lia
 have hlong:¬ (!WV.toArray.isEmpty&&XO (WV.toArray.size+its2.toArray.size))=true:=by
  rw[ua hsz,Bool.and_false];exact xl
 refine call_meets F.slot_list_extend ⟨_,e,rfl⟩ F.entry_list_extend (F.args_list_extend_2 _ _)
  (AutoSeq1.list_extend_list_list_0 l WV.toArray n b its2.toArray n2 hlong (by rw[yX];lia) (by lia)) ⟨e,e2,?_⟩
 refine⟨.non,_,I.lset (its':=WV++its2) hH e (by simp) (r.append r2) ?_,rfl,q⟩;rw[zA];lia
def Kz:R2:=fun x y H Q=>∃l b xs zs,x = .ref l/\y = .ref b/\H l=some (.lst xs)/\H b=some (.lst zs)/\xs.length+zs.length<=WC/\∀p,H p=none->Q (.ref p) (upd H p (.lst (xs++zs)))
def Hz:OpR X (binaryOp .Add) Kz:=by
 intro WY s σ H x y v u Q I rx ry h;obtain⟨l,b,xs,zs,rfl,rfl,hH,hB,hz,q⟩:=h;cases rx;cases ry;obtain⟨z,WV,n,r,hl,e⟩:=I.lstM hH;obtain⟨z2,its2,n2,r2,hl2,e2⟩:=I.lstM hB;refine PySem.P.add_list e e2 ?_ (by rw[yX,yX];lia);have ea:WV.toArray++its2.toArray=(WV++its2).toArray:=by simp
 rw[ea];exact⟨.ref _,_,I.lnew (t':=s.toks) (r.append r2) (by rw[zA];lia),rfl,q _ I.fresh⟩
end
end L2
namespace Att
open PySem PySem.W PySem.Calls PyProof.Rows
def ng:∀(ns:List Int) (vs:List WI),WellAll P h vs (ns.map WData.int)->IntsAre vs ns:=by
 intro ns
 induction ns with
 |nil=>
  intro vs w;rw[YB]at w;cases w;exact .nil
 |cons n ns ih=>
  intro vs w;rw[yH]at w;cases w with
  |cons a b=>
   cases a;exact .cons _ _ (ih _ b)
def zj{l:OpenLaw}(hn:l.most=some n){h:Wz}
 (hpre:l.row.toRowW.claim.pre args=true) (hwl:WellAll P h vals args) :
 ∃a vs ns,vals=[yJ a]/\args=[WData.list (ns.map WData.int)]/\h.get? a=some { cls:=.type "list",data:=.seq vs.toArray }/\IntsAre vs ns/\ns.length<=n:=by
 have hsh:WShape.hasAll [] args [.list .int]=true:=(pre_splitW hpre).1;have hc:l.pre.holds [] { args:=args }=true:=(pre_splitW hpre).2;obtain⟨d,r,rfl,h1,h2⟩:=hasAllW_cons hsh;obtain rfl:=hasAllW_nil h2;obtain⟨xs,rfl,h3⟩:=hasW_list h1;obtain⟨ns,rfl⟩:=items_int h3;have hlen:ns.length<=n:=by
  unfold OpenLaw.pre at hc;have h4:(WTm.not (.lt (.lit (.int (n:Int))) (.len (.arg 0)))).holds [] { args:=[.list (ns.map .int)] }=true:=by
   have h4:=(holds_andW hc).1;rw[hn]at h4;exact h4
  have h5:=condW_of h4 (w_not (w_lt w_lit (w_len_list (w_arg rfl))));rw[zV]at h5;refine Nat.le_of_not_lt fun q=>?_;have q':(n:Int)<((ns.length:Nat):Int):=by lia
  first
   |(rw[VX q']at h5;exact VT h5 (by decide))
   |(simp at h5;lia)
 cases hwl with
 |cons w1 w2=>
  cases w2;cases w1 with
  |list ho hall=>exact⟨_,_,ns,rfl,rfl,ho,ng ns _ hall,hlen⟩
def yw(l:OpenLaw)(args:List WData):l.row.toRowW.claim.post args (.bool true) args=true:=
 postW_of (r:=l.row.toRowW) (X:=(true==true))
  (show WShape.has [] (.bool true) .bool=true by first|rfl|decide|simp[WShape.has,WShape.arms,WShape.armsAll])
  (show(WTm.eq .res (.lit (.bool true))).value [] { args:=args,res:=some (.bool true),after:=args }=some (.bool (true==true)) from w_eq_bool (w_res rfl) w_lit) rfl
def attach_call{l:OpenLaw}{XP:(Str->Option WI)->Wz->Prop}{d:DefRec}
 (hn:l.most=some n) (hdf:d.params.defaults=[])
 (call:∀(w:WE) (s₀ s₁:WG) (mg mb:Str->Option WI) (fa:WH) (o:Obj) (pm cd doc:WI) (a:WH) (vs:List WI) (ns:List Int),
  Ground q loose [] XP w s₀ mg mb s₁.heap->YP w s₁.heap ->
  s₁.heap.get? fa=some o->o.data = .func (docDef d.name d.params d.body d.scope pm cd doc)->s₁.heap.CodeRec cd d.name->mg d.name=some (.ref fa) ->
  s₁.heap.get? a=some { cls:=.type "list",data:=.seq vs.toArray }->IntsAre vs ns->ns.length<=n->s₁.gens = #[] ->
  codeAny (WA l.prog w) callerA (.call (.ref fa) ⟨[.ref a],[]⟩) (fun r s'=>r = .ok (.ret (.bool true))/\OldK s₁.heap s'.heap/\s'.os=s₁.os/\AllBare s'.gens) s₁) :
 WalkO q loose XP YP l.row.toRowW d [] (fun f vs=>PySem.call f vs):=by
 intro w s₀ s₁ mg mb G Y fa o pm cd doc dV kV ho hd hcd hD hmg hg args vals as hpre hlay hrd hwl hlo;obtain rfl:dV = .none:=Dflts.none hD hdf;obtain rfl:kV = .none:=Dflts.noKw hD;obtain⟨a,vs,ns,rfl,rfl,hobj,hints,hlen⟩:=zj hn hpre hwl;refine enter_call (codeAny_mono (call w s₀ s₁ mg mb fa o pm cd doc a vs ns G Y ho (fd_plain hd) hcd hmg hobj hints hlen hg) fun r s' hq=>?_);obtain⟨rfl,h2,h3,h4⟩:=hq;exact⟨.inl ⟨.bool true,.bool true,[],rfl,fun _=>rfl,.bool true,yw l _,fun _=>⟨List.Pairwise.nil,fun _ hm=>(nomatch hm)⟩⟩,h2,h3,h4⟩
end Att
namespace L2
open PySem PySem.Spec PyProof.Rows
theorem pT:∀ {vs:List WI} {ns:List Int},IntsAre vs ns->WP (ns.map V.int) vs
 |_,_,.nil=>.nil
 |_,_,.cons n t h=>.cons ⟨t,rfl⟩ (pT h)
def vB(H:Hp):Prop:=∀b,H b=none\/∃o xs,H b=some (.frz o (.lst xs))
def AJ{K:Ws}{s₁:WG}{vs:List WI}{ns:List Int}
 (KX:K.In s₁.heap) (hns:s₁.heap.Ns ZB mg) (hb:s₁.heap.Ns builtinsNs mb) (hbb:∀x:Str,x ≠ "__name__" -> mb x=ZY x) (hlim:s₁.heap.NoLimit) (hg:s₁.gens = #[])
 (ha:s₁.heap.get? a=some { cls:=.type "list",data:=.seq vs.toArray }) (hi:IntsAre vs ns) (hl:ns.length<=WC) (hr:Room k callerA)
 (F:∀base:Wz,K.In base->base.Ns ZB mg->iz P w K mg base CX k fa fd [x] sp) (hbind:∀(s:WG) (u:WI),BindsTo s fd ⟨[u],[]⟩ [(x,u)])
 (hsp:∀H:Hp,vB H->SqL K H a (ns.map V.int)->sp [.ref a] H (fun v _=>v = .bl true) fun _ _ _=>False)
 (hCX:∀H e s',CX [] H s₁ (fun _ _ _=>False) e s'->False) :
 codeAny (WA P w) callerA (.call (.ref fa) ⟨[.ref a],[]⟩) (fun r s'=>r = .ok (.ret (.bool true))/\OldK s₁.heap s'.heap/\s'.os=s₁.os/\AllBare s'.gens) s₁:=by
 have rv:=pT hi;have lenV:=hi.length;have core:∀H:Hp,vB H->SqL K H a (ns.map V.int)->HOk P w H s₁.heap->(∀b,H b≠none->b=a)->(H a≠none->K.lookup a=none) ->
  codeAny (WA P w) callerA (.call (.ref fa) ⟨[.ref a],[]⟩) (fun r s'=>r = .ok (.ret (.bool true))/\OldK s₁.heap s'.heap/\s'.os=s₁.os/\AllBare s'.gens) s₁:=by
  intro H hO hS hok hA hK;have base_of:∀ {b:WH} {o:Obj},s₁.heap.get? b=some o->H b=none->(si s₁.heap H).get? b=some o:=fun e n=>At e n;have noA:∀ {b:WH} {o:Obj} {es:Array YI} {ep:Nat},s₁.heap.get? b=some o->o.data = .dict es ep->H b=none:=fun {b o es ep} e d=>by
   cases q:H b with
   |none=>rfl
   |some u=>
    have e':b=a:=hA b (by rw[q];simp);subst e';rw[ha]at e;cases e;have d':Data.seq vs.toArray _=XD es ep:=d;cases d'
  have nsK:∀ {b:WH} {m:Str->Option WI},s₁.heap.Ns b m->(si s₁.heap H).Ns b m:=fun {b m} ⟨o,es,ep,e,d,r⟩=>⟨o,es,ep,base_of e (noA e d),d,r⟩;have hKb:K.In (si s₁.heap H):=fun b o e=>base_of (KX b o e) (by
   cases q:H b with
   |none=>rfl
   |some u=>
    have e':b=a:=hA b (by rw[q];simp);subst e';rw[hK (by rw[q];simp)]at e;cases e)
  have hM:Mod K mg (si s₁.heap H):=⟨hKb,nsK hns,⟨mb,nsK hb,hbb⟩,let ⟨mc,h1,h2⟩:=hlim;⟨mc,nsK h1,h2⟩⟩;have e0:Env0 P w K mg (si s₁.heap H) callerA [] s₁ H:=⟨rfl,hM,fun b o e=>Dw e,Nat.le_of_eq (yb _ _),trivial,fun b hb=>VT (show b∈([]:List WH) from hb) (by simp),hok,.of_eq hg⟩;refine codeAny_mono ((F _ hKb (nsK hns)).run callerA [] s₁ H ⟨[.ref a],[]⟩ [.ref a] [.ref a] _ _ hr e0 (hbind s₁ (.ref a)) (.cons rfl .nil) (hsp H hO hS)) fun r s' h=>?_;cases r with
  |error e=>exact(hCX H e s' h).elim
  |ok fl=>
   cases fl with
   |next=>exact YR h
   |brk=>exact YR h
   |cont=>exact YR h
   |ret u=>
    obtain⟨v,H',os,bare,un,hok',r',q⟩:=h;have q':v = .bl true:=q;subst q';obtain rfl:u=Value.bool true:=r';refine⟨rfl,OldK.of_keep fun b o e=>?_,os,bare⟩;cases q:H b with
    |none=>exact un.keep b o e q (by intro z;exact VT (show b∈([]:List WH) from z) (by simp)) (by simp)
    |some u=>
     obtain z|⟨ob,xs,z⟩:=hO b
     .rw[q]at z;cases z
     .have z2:=un.frzs b ob _ z
      obtain⟨e1,_⟩:=hok b _ z;obtain⟨e2,_⟩:=hok' b _ z2;rw[e]at e1;cases e1;exact e2
 cases hk:K.lookup a with
 |some o=>
  have e:=KX a o hk;rw[ha]at e;cases e;refine core (fun _=>none) (fun _=>.inl rfl) (.inr ⟨_,vs.toArray,_,hk,rfl,rfl,rfl,by rw[yX,lenV];exact hl,by simpa using rv⟩) (fun b u z=>by have z':(none:Option HO)=some u:=z;cases z') (fun b z=>VT rfl z) fun z=>VT rfl z
 |none=>
  refine core (fun b=>if b=a then some (.frz { cls:=.type "list",data:=.seq vs.toArray } (.lst (ns.map V.int))) else none) (fun b=>?_) (.inl (.inr ⟨{ cls:=.type "list",data:=.seq vs.toArray },VY rfl⟩)) (fun b u z=>?_) (fun b z=>?_) fun _=>hk
  .by_cases hb:b=a
   .exact .inr ⟨_,_,VY hb⟩
   .exact .inl (VZ hb)
  .by_cases hb:b=a
   .have z':=(VY hb).symm.trans z
    cases z';subst hb;exact⟨ha,by rw[zV];exact hl,vs,_,rv,ha⟩
   .have z':=(VZ hb).symm.trans z
    cases z'
  .by_cases hb:b=a
   .exact hb
   .exact VT (VZ hb) z
def Eb{l:PySem.W.OpenLaw}{n k:Nat}{q:WF}{loose:List Str}{XP:(Str->Option WI)->Wz->Prop}{YP:WE->Wz->Prop}{d:DefRec}{K:Params->Ws}{CX:WE->CXT}{sp:WE->Sp}{x:Str}
 (hn:l.most=some n) (hn2:n<=WC) (hdf:d.params.defaults=[]) (hr:Room k callerA)
 (hY:∀(w:WE) (h:Wz),YP w h->(K w.params).In h)
 (F:∀(w:WE) (mg:Str->Option WI) (fa:WH) (h:Wz),(K w.params).In h->h.Ns ZB mg->mg d.name=some (.ref fa) ->
  ∃fd:FuncData,(∀(s:WG) (u:WI),BindsTo s fd ⟨[u],[]⟩ [(x,u)]) /\
   ∀base:Wz,(K w.params).In base->base.Ns ZB mg->iz l.prog w (K w.params) mg base (CX w) k fa fd [x] (sp w))
 (hsp:∀(w:WE) (H:Hp) (a:WH) (ns:List Int),ns.length<=n->vB H->SqL (K w.params) H a (ns.map V.int)->sp w [.ref a] H (fun v _=>v = .bl true) fun _ _ _=>False)
 (hCX:∀(w:WE) (H:Hp) (s:WG) (e:WI) (s':WG),CX w [] H s (fun _ _ _=>False) e s'->False) :
 PySem.W.WalkO q loose XP YP l.row.toRowW d [] (fun f vs=>PySem.call f vs):=by
 refine Att.attach_call hn hdf fun w s₀ s₁ mg mb fa o pm cd doc a vs ns G Y ho hd hcd hmg hobj hints hlen hg=>?_;have KX:=hY w _ Y;obtain⟨fd,hb,hF⟩:=F w mg fa _ KX G.T.g hmg;exact AJ KX G.T.g G.T.b G.T.builtins G.T.nolimit hg hobj hints (wG hlen hn2) hr hF hb (fun H hO hS=>hsp w H a ns hlen hO hS) fun H e s'=>hCX w H s₁ e s'
abbrev CX0:CXT:=fun _ _ _ _ _ _=>False
structure Fun(K:Ws)(x WK:Str)(st:Stmt)(f:WH)(fd:FuncData):Prop where
 ex:∃(oc:WI) (od:Option WH) (kV doc pm:WI) (an:Option WH) (WW ct:WI) (osl:Array (Option WI)),
  fd=YD x WK (hG st) (bh st) (ak st) .none kV doc pm an WW ct/\K.lookup f=some ⟨oc,od,.func fd,osl⟩/\PySem.W.codeIn K WW WK=true
 kp:Yk K (.ref f)=true
section
variable{P:WF}{w:WE}{K:Ws}{mg:Str->Option WI}{base:Wz}
def Fun.binds{x WK:Str}{st:Stmt}{f:WH}{fd:FuncData}{ps:List Str}(F:Fun K x WK st f fd)
 (h:∀(kV doc pm:WI) (an:Option WH) (WW ct:WI) (us:List WI),us.length=ps.length->bindArgs (YD x WK (hG st) (bh st) (ak st) .none kV doc pm an WW ct) ⟨us,[]⟩=pure (ps.zip us)):Binds K fd ps []:=by
 obtain⟨oc,od,kV,doc,pm,an,WW,ct,osl,rfl,lk,hcd⟩:=F.ex;exact .all (h kV doc pm an WW ct)
def wy{x WK:Str}{st:Stmt}{f:WH}{oc:WI}{od an:Option WH}{osl:Array (Option WI)}{kV doc pm WW ct:WI}(l:K.lookup f=some ⟨oc,od,.func (YD x WK (hG st) (bh st) (ak st) .none kV doc pm an WW ct),osl⟩)
 (c:PySem.W.codeIn K WW WK=true) (k:Yk K (.ref f)=true):Fun K x WK st f (YD x WK (hG st) (bh st) (ak st) .none kV doc pm an WW ct):=⟨⟨oc,od,kV,doc,pm,an,WW,ct,osl,rfl,l,c⟩,k⟩
end
def HE{A B:Prop}(h:B):if false=true then A else B:=by
 rw[VZ xl];exact h
def Hm{A B:Prop}(h:A):if true=true then A else B:=by
 rw[VY rfl];exact h
def WT(H H':Hp):Prop:=∀b o,H b=some o->H' b=some o
def WT.refl(H:Hp):WT H H:=fun _ _ h=>h
def WT.trans(a:WT H H1)(b:WT H1 H2):WT H H2:=fun c o h=>b c o (a c o h)
def WT.free{H H':Hp}(e:WT H H'){l:WH}(h:H' l=Option.none):H l=Option.none:=by
 cases q:H l with
 |none=>rfl
 |some o=>
  rw[e l o q]at h;cases h
noncomputable def dw:HO->Bool
 | .dT _=>false
 |_=>true
def WM(H:Hp):Prop:=∀a o,H a=some o->dw o=true
noncomputable def iQ:HO->Bool
 | .lst _=>true
 | .tup _=>true
 | .dK _=>true
 | .rng _ _=>true
 |_=>false
structure Gc(H G H':Hp):Prop where
 a:WT H G
 b:WT G H'
 c:∀p o,G p=some o->H p=some o\/iQ o=true
section
variable{P:WF}{w:WE}{H G H':Hp}{h h':Wz}{a:WH}{o:HO}
def WO.gcF{ob:Obj}(e0:h.get? a=some ob)(e1:h'.get? a=some ob)(x0:WO P w H h a o)(x:WO P w H' h' a o):WO P w H h' a o:=by
 induction o with
 |ins C dx fs=>exact⟨x0.1,x.2⟩
 |dT WU=>
  obtain⟨z,y,xs,r,o,es,ep,g,c⟩:=x0;exact⟨z,y,xs,r,o,es,ep,(e1.trans e0.symm).trans g,c⟩
 |frz ob' u ih=>exact⟨x.1,ih x0.2 x.2⟩
 |_=>exact x
def WO.gc(n:dw o=true)(x0:WO P w H h a o)(x:WO P w H' h' a o):WO P w H h' a o:=by
 cases o with
 |ins C dx fs=>exact⟨x0.1,x.2⟩
 |dT WU=>cases n
 |frz ob u=>exact⟨x.1,x0.2.gcF x0.1 x.1 x.2⟩
 |_=>exact x
def WO.plain(n:iQ o=true)(x:WO P w H' h' a o):WO P w H h' a o:=by
 cases o with
 |lst xs=>exact x
 |tup xs=>exact x
 |dK WU=>exact x
 |rng lo hi=>exact x
 |_=>cases n
def HOk.gc(n:WM H)(x0:HOk P w H h)(x:HOk P w H' h')(g:Gc H G H'):HOk P w G h':=fun a o e=>by
 obtain q|q:=g.c a o e
 .refine(((x0 a o q).gc (n a o q) (x a o (g.b a o e)))).stay (fun _ _ _ z=>z) (fun b z=>g.a _ _ z) fun b xs z=>g.a _ _ z
 .exact(x a o (g.b a o e)).plain q
def Un.gc(u:Un fs ex H H' h h')(g:Gc H G H'):Un fs ex H G h h':=
 ⟨u.keep,u.slot,fun b o q n hx=>g.b.free (u.free b o q n hx),u.there,fun b xs q=>g.a _ _ q,fun b o x q=>g.a _ _ q,fun b ps q=>⟨#[],by rw[Array.append_empty];exact g.a _ _ q⟩⟩
def Gc.refl:Gc H H H:=⟨WT.refl H,WT.refl H,fun _ _ e=>.inl e⟩
def Gc.none(s:WT H H'):Gc H H H':=⟨WT.refl H,s,fun _ _ e=>.inl e⟩
def aj(o:HO)(hp:H p=Option.none):WT H (upd H p o):=fun b u e=>by rw[ag (aq e hp)];exact e
def Gc.one(s:WT H H')(hp:H p=Option.none)(e:H' p=some o)(n:iQ o=true):Gc H (upd H p o) H':=
 ⟨aj o hp,fun b u z=>by
  by_cases hb:b=p
  .subst hb;rw[aa]at z;cases z;exact e
  .rw[ag hb]at z;exact s b u z,fun b u z=>by
  by_cases hb:b=p
  .subst hb;rw[aa]at z;cases z;exact .inr n
  .rw[ag hb]at z;exact .inl z⟩
def WM.upd(n:WM H)(d:dw o=true):WM (upd H p o):=fun b u z=>by
 by_cases hb:b=p
 .subst hb;rw[aa]at z;cases z;exact d
 .rw[ag hb]at z;exact n b u z
end
def WL.gc(n:WM H)(I:WL X WY σ H s)(J:WL X pins' σ' H' s')(g:Gc H G H'):WL X pins' σ' G s':=
 ⟨J.ok,J.os,J.bare,⟨J.base.keep,J.base.slot,fun b o q z hx=>g.b.free (J.base.free b o q z hx),J.base.there,fun b xs q=>g.a _ _ (I.base.tups b xs q),fun b o x q=>g.a _ _ (I.base.frzs b o x q),fun b ps q=>let ⟨m,e⟩:=I.base.tbls b ps q;⟨m,g.a _ _ e⟩⟩,
  J.loc,J.cell,g.b.free J.free,fun x c e=>g.b.free (J.freeC x c e),fun p hp=>let ⟨e,z,r⟩:=J.pin p hp;⟨e,g.b.free z,r⟩,HOk.gc n I.hok J.hok g,J.len⟩
def tGc(t:TE):TE:=fun σ H Q=>WM H/\t σ H fun v H'=>∃G,Gc H G H'/\Q v G
def Fg(h:PE X e t):PE X e (tGc t):=fun WY s σ H Q I ⟨n,q⟩=>
 thn (h WY s σ H _ I q) fun u s1 ⟨v,H1,I1,r,G,g,q1⟩=>⟨v,G,I.gc n I1 g,r,q1⟩
def IM(t:TT):TT:=fun σ H Q=>WM H/\t σ H fun v H'=>∃G,Gc H G H'/\Q v G
def EQ(h:PT X e t):PT X e (IM t):=fun WY s σ H Q I ⟨n,q⟩=>
 thn (h WY s σ H _ I q) fun u s1 ⟨H1,I1,G,g,q1⟩=>⟨G,I.gc n I1 g,q1⟩
def K2{α:Type}:Sem α->Prop
 | .rule _ k=>K2 (k ())
 | .at _ k=>K2 (k ())
 | .load _ _ k=>∀o,K2 (k o)
 | .update _ _ f k=>(∀(o:Obj) vs,o.data = .fields vs->∃ws,(f o).data = .fields ws/\ws[2]? = vs[2]?)/\K2 (k ())
 | .loadIfAlive _ k=>∀o,K2 (k o)
 | .point _ k=>K2 (k ())
 | .alloc _ k=>∀a,K2 (k a)
 | .fresh k=>∀n,K2 (k n)
 | .ask k=>∀x,K2 (k x)
 | .choose _ _ k=>∀n,K2 (k n)
 | .os _ _ k=>∀x,K2 (k x)
 | .call ..=>False
 | .handled _ k=>∀x,K2 (k x)
 | .genState _ k=>∀x,K2 (k x)
 | .newGen _ k=>∀n,K2 (k n)
 | .resume ..=>False
 | .stack k=>∀x,K2 (k x)
 | .thread k=>∀n,K2 (k n)
 |_=>True
def F2(h:Wz)(e:WH):Prop:=∃o vs,h.get? e=some o/\o.data = .fields vs/\vs[2]? = some .none
def K2.bind{α β:Type}{t:Sem α}{f:α->Sem β}(h:K2 t)(g:∀a,K2 (f a)):K2 (t >>= f):=by
 show K2 (t.bind f)
 induction t with
 |pure a=>exact g a
 |rule _ k ih=>exact ih () h
 | «at» _ k ih=>exact ih () h
 |load _ _ k ih=>exact fun o=>ih o (h o)
 |update _ _ _ k ih=>exact⟨h.1,ih () h.2⟩
 |loadIfAlive _ k ih=>exact fun o=>ih o (h o)
 |point _ k ih=>exact ih () h
 |alloc _ k ih=>exact fun o=>ih o (h o)
 |fresh k ih=>exact fun o=>ih o (h o)
 |ask k ih=>exact fun o=>ih o (h o)
 |choose _ _ k ih=>exact fun o=>ih o (h o)
 |os _ _ k ih=>exact fun o=>ih o (h o)
 |call=>exact h.elim
 |handled _ k ih=>exact fun o=>ih o (h o)
 |genState _ k ih=>exact fun o=>ih o (h o)
 |newGen _ k ih=>exact fun o=>ih o (h o)
 |resume=>exact h.elim
 |stack k ih=>exact fun o=>ih o (h o)
 |thread k ih=>exact fun o=>ih o (h o)
 |_=>trivial
def F2.push{h:Wz}{e:WH}(x:F2 h e)(o:Obj):F2 (h.push o) e:=by
 obtain⟨oe,vs,e1,e2⟩:=x;exact⟨oe,vs,Wr _ e1,e2⟩
def F2.update{h:Wz}{e:WH}(x:F2 h e)(a:WH){f:Obj->Obj}(hf:∀(o:Obj) vs,o.data = .fields vs->∃ws,(f o).data = .fields ws/\ws[2]? = vs[2]?):F2 (h.update a f) e:=by
 obtain⟨oe,vs,e1,e2,e3⟩:=x;by_cases ea:a=e
 .subst ea
  obtain⟨ws,w1,w2⟩:=hf oe vs e2;exact⟨_,ws,Wo _ e1 (Yq w1),w1,w2.trans e3⟩
 .exact⟨oe,vs,(Wp _ _ ea).trans e1,e2,e3⟩
def HZ{α:Type}{M:Model}{Γ:PySem.Ctx}{e:WH}{t:Sem α}:∀ {Q:α->Pos->WG->Prop} {E:WI->Pos->WG->Prop} {p:Pos} {s:WG},K2 t->Sem.wp M Γ t Q E p s->F2 s.heap e->Sem.wp M Γ t (fun a p s'=>Q a p s'/\F2 s'.heap e) (fun x p s'=>E x p s'/\F2 s'.heap e) p s:=by
 induction t with
 |pure a=>intro Q E p s _ h f;rw[Sem.wp]at h |-; exact⟨h,f⟩
 |raise x=>intro Q E p s _ h f;rw[Sem.wp]at h |-; exact⟨h,f⟩
 |unsupported=>intro Q E p s _ h f;rw[Sem.wp]at h;exact h.elim
 |finish=>intro Q E p s _ h f;rw[Sem.wp]at h;exact h.elim
 |rule _ k ih=>intro Q E p s g h f;rw[Sem.wp]at h |-; exact ih () g h f
 | «at» _ k ih=>intro Q E p s g h f;rw[Sem.wp]at h |-; exact ih () g h f
 |load _ _ k ih=>intro Q E p s g h f;rw[Sem.wp]at h |-; obtain⟨o,h1,h2⟩:=h;exact⟨o,h1,ih o (g o) h2 f⟩
 |update a _ _ k ih=>intro Q E p s g h f;rw[Sem.wp]at h |-; exact⟨h.1,ih () g.2 h.2 (f.update a g.1)⟩
 |loadIfAlive _ k ih=>intro Q E p s g h f;rw[Sem.wp]at h |-; exact ih _ (g _) h f
 |point _ k ih=>intro Q E p s g h f;rw[Sem.wp]at h |-; exact ih () g h f
 |register=>intro Q E p s _ h f;rw[Sem.wp]at h;exact h.elim
 |alloc o k ih=>intro Q E p s g h f;rw[Sem.wp]at h |-; exact ih _ (g _) h (f.push o)
 |fresh k ih=>intro Q E p s g h f;rw[Sem.wp]at h |-; exact ih _ (g _) h f
 |ask k ih=>intro Q E p s g h f;rw[Sem.wp]at h |-; exact ih _ (g _) h f
 |choose _ _ k ih=>intro Q E p s g h f;rw[Sem.wp]at h |-; exact⟨h.1,ih _ (g _) h.2 f⟩
 |os _ _ k ih=>intro Q E p s g h f;rw[Sem.wp]at h |-; exact ih _ (g _) h f
 |call=>intro Q E p s g;exact g.elim
 |handled _ k ih=>intro Q E p s g h f;rw[Sem.wp]at h |-; exact ih _ (g _) h f
 |genState _ k ih=>intro Q E p s g h f;rw[Sem.wp]at h |-; obtain⟨st,h1,h2⟩:=h;exact⟨st,h1,ih _ (g _) h2 f⟩
 |newGen _ k ih=>intro Q E p s g h f;rw[Sem.wp]at h |-; exact ih _ (g _) h f
 |resume=>intro Q E p s g;exact g.elim
 |yield=>intro Q E p s _ h f;rw[Sem.wp]at h;exact h.elim
 |stack k ih=>intro Q E p s g h f;rw[Sem.wp]at h |-; exact ih _ (g _) h f
 |fork=>intro Q E p s _ h f;rw[Sem.wp]at h;exact h.elim
 |thread k ih=>intro Q E p s g h f;rw[Sem.wp]at h |-; exact ih _ (g _) h f
 |await=>intro Q E p s _ h f;rw[Sem.wp]at h;exact h.elim
def Bs{α:Type}{M:Model}{A:WD}{e:WH}{t:Sem α}{Q:α->WG->Prop}{E:WI->WG->Prop}{s:WG}(k:K2 t)(f:F2 s.heap e)(h:WB M A t Q E s):WB M A t (fun a s'=>Q a s'/\F2 s'.heap e) (fun x s'=>E x s'/\F2 s'.heap e) s:=fun Γ p hg=>HZ k (h Γ p hg) f
def jY(v:WI)(i:Nat):K2 (field v i):=by
 refine K2.bind ?_ fun vs=>?_
 .unfold fieldsOf
  split
  .refine K2.bind (fun o=>trivial) fun o=>?_
   split <;> trivial
  .trivial
 .split <;> trivial
def iB(v:WI){i:Nat}(h:i≠2)(x:WI):K2 (setField v i x):=by
 unfold setField;split
 .unfold updateField
  refine K2.bind (fun o=>trivial) fun o=>?_;split
  .split
   .refine⟨fun o vs e=>⟨_,XH e _,?_⟩,trivial⟩
    rw[Array.getElem?_setIfInBounds_ne h]
   .trivial
  .trivial
 .trivial
theorem uP:∀l:List Env,K2 (readyFrames l)
 | []=>trivial
 |env::WX=>by
  unfold readyFrames;split
  .refine K2.bind (fun o=>trivial) fun o=>?_
   split
   .trivial
   .refine K2.bind ?_ fun im=>K2.bind ?_ fun bk=>K2.bind ?_ fun _=>uP WX
    .unfold behindIsImport
     split
     .trivial
     .split
      .trivial
      .exact K2.bind (jY _ _) fun _=>trivial
    .unfold keptBack
     split
     .split
      .trivial
      .refine K2.bind ?_ fun _=>trivial
       exact K2.bind (fun st=>trivial) fun _=>trivial
     .trivial
    .exact⟨fun o vs e=>⟨vs,e,rfl⟩,trivial⟩
  .trivial
def vV(env:Env):K2 (PySem.frameOf env):=by
 unfold PySem.frameOf frameEnvs;refine K2.bind (fun st=>trivial) fun es=>K2.bind ?_ fun o=>?_
 .unfold frameObject
  split
  .trivial
  .exact K2.bind (uP _) fun _=>trivial
 .split <;> trivial
def AQ(a b c d f:WI)(p:List WI):K2 (EntryCells.newEntry a b c d f p):=by
 unfold EntryCells.newEntry newFields newObj;dsimp only;have nw:∀d:Data,K2 (newObjAsIs (Xg "traceback") d):=fun d=>by
  unfold newObjAsIs;exact K2.bind (fun a=>trivial) fun a=>trivial
 generalize ([a,b,c,d,f]++if p.isEmpty=true then Xc 6 Ze else p).toArray=l;split
 .exact K2.bind trivial fun _=>nw _
 .exact nw _
def zZ(f:WH)(b:Bool):K2 (entryPlaceOf f b):=by
 unfold entryPlaceOf;refine K2.bind (fun st=>trivial) fun st=>?_;split <;> trivial
def rW(e:WI)(env:Env):K2 (noteFrame e env):=by
 unfold noteFrame;split
 .refine K2.bind (jY _ _) fun hd=>?_
  have jp:∀f:WH,K2 (do let a <- PySem.frameOf env;let b <- entryPlaceOf f (hd != Ze);let c <- EntryCells.newEntry hd a Ze (rawInt f) Ze b;setField e 1 c):=fun f=>K2.bind (vV _) fun a=>K2.bind (zZ _ _) fun b=>K2.bind (AQ ..) fun c=>iB _ (by decide) _;dsimp only;split
  .refine K2.bind (jY _ _) fun x=>?_
   split
   .trivial
   .exact K2.bind (iB _ (by decide) _) fun _=>jp _
  .exact jp _
 .trivial
def gX(e:WI)(fr:Option WH):K2 (setFlight e fr):=by
 unfold setFlight;refine K2.bind (jY _ _) fun tb=>?_;split
 .exact iB _ (by decide) _
 .trivial
def ox(env:Env)(e:WI):K2 (leaving env e):=by
 unfold leaving;exact K2.bind (rW _ _) fun _=>gX _ _
def cH{α:Type}{M:Model}{A:WD}{e:WH}{t:Sem α}{Q:α->WG->Prop}{E:WI->WG->Prop}{s:WG}(k:K2 t)(f:F2 s.heap e)(h:WB M A t (fun a s'=>F2 s'.heap e->Q a s') E s):WB M A t Q E s:=
 Zf (Bs k f h) (fun _ _ q=>q.1 q.2) (fun _ _ q=>q.1)
def WO.at_(x:WO P w H h a o):∃ob,h.get? a=some ob:=by
 cases o with
 |lst xs=>obtain⟨_,_,_,_,e⟩:=x;exact⟨_,e⟩
 |tup xs=>obtain⟨_,_,_,ob,e,_⟩:=x;exact⟨_,e⟩
 |dK WU=>obtain⟨_,_,_,_,o,_,_,e,_⟩:=x;exact⟨_,e⟩
 |dT WU=>obtain⟨_,_,_,_,o,_,_,e,_⟩:=x;exact⟨_,e⟩
 |set S n=>obtain⟨o,_,_,_,e,_⟩:=x;exact⟨_,e⟩
 |ins C dx fs=>obtain⟨_,_,_,e,_⟩:=x;exact⟨_,e⟩
 |own y=>obtain⟨_,e⟩:=x;exact⟨_,e⟩
 |xd fs=>obtain⟨_,⟨_,_,_,e,_⟩,_⟩:=x;exact⟨_,e⟩
 |rng lo hi=>obtain⟨_,_,_,e⟩:=x;exact⟨_,e⟩
 |frz ob u=>obtain⟨e,_⟩:=x;exact⟨_,e⟩
 |tbl ps=>exact⟨_,(show h.get? a=some _ from x)⟩
 |met f y=>exact⟨_,(show h.get? a=some _ from x)⟩
 |ext φ=>obtain⟨_,⟨_,e⟩,_⟩:=x;exact⟨_,e⟩
def HOk.none_of(x:HOk P w H h)(e:h.get? a=none):H a=none:=by
 cases q:H a with
 |none=>rfl
 |some u=>
  obtain⟨ob,z⟩:=(x a u q).at_;rw[e]at z;cases z
noncomputable def hid(h:Wz)(l:List Env)(rs:List WH):Wz:=PySem.W.hideAll h (frs l++rs)
def ij(e:h.get? b=some o)(h1:b∉frs l)(h2:b∉rs):(hid h l rs).get? b=some o:=
 PySem.W.hideAll_get _ e fun z=>(yy.mp z).elim h1 h2
def wx(e:(hid h l rs).get? b=some o):h.get? b=some o:=PySem.W.of_hideAll _ e
def sP(e:b∈rs):(hid h l rs).get? b=none:=PySem.W.hideAll_none _ (wq _ e)
def jM{h base:Wz}(e:h.FunFrames base l):h.FunFrames (hid h l rs) l:=
 PySem.W.funFrames_hide e fun _ he _ ha=>vS _ (List.mem_filterMap.mpr ⟨_,he,ha⟩)
def Fly(l:List Env)(rs:List WH)(e:WH)(cls:WI)(h:Wz):Prop:=e∈rs/\∃a0,Heap.FlyingW (hid h l rs) l e cls a0 h/\F2 h e
def XE(P:WF)(w:WE):CXT:=fun WX H s E ev s'=>∃(e:WH) (C:WI) (rs:List WH) (H':Hp),ev = .ref e/\s'.os=s.os/\AllBare s'.gens/\Un (frs WX) [] H H' s.heap s'.heap /\
 HOk P w H' s'.heap/\(∀b∈rs,s.heap.get? b=none/\H' b=none)/\Fly WX rs e C s'.heap/\E C none H'
section
variable{X:Cx}{WY:List (WH × Obj)}{σ:St}{H:Hp}{s:WG}{h':Wz}{rs:List WH}
def WL.s0_none(I:WL X WY σ H s)(hex:X.ex=[])(e:s.heap.get? b=none):X.s₀.heap.get? b=none:=by
 cases q:X.s₀.heap.get? b with
 |none=>rfl
 |some o=>
  obtain⟨o',z⟩:=I.base.there b o q (by rw[hex];simp);rw[e]at z;cases z
def WL.noteUn(I:WL X WY σ H s)(hex:X.ex=[])(hrs:∀b∈rs,X.s₀.heap.get? b=none)
 (stay:∀b o,s.heap.get? b=some o->b∉frs X.stack->b∉rs->h'.get? b=some o) (up:s.heap.UpToSlots h'):Un X.fs [] X.H₀ H X.s₀.heap h':=by
 have B:=I.base;rw[hex]at B;have nrs:∀b o,X.s₀.heap.get? b=some o->b∉rs:=fun b o e z=>by rw[hrs b z]at e;cases e
 have nst:∀b o,X.s₀.heap.get? b=some o->b∉X.fs->b∉frs X.stack:=fun b o e hb z=>by
  obtain q|q:=z9.mp (I.stkSub b z)
  .exact VT (tS (wu e) I.ok.above) (by rw[q];exact Yu _)
  .exact hb q
 refine⟨fun b o q n hb hx=>stay b o (B.keep b o q n hb hx) (nst b o q hb) (nrs b o q),fun b o q n hb hx=>?_,fun b o q n hx=>B.free b o q n hx,fun b o q hx=>?_,B.tups,B.frzs,B.tbls⟩
 .obtain⟨sl,e1⟩:=B.slot b o q n hb hx
  obtain⟨_,o',ho',hd⟩:=I.funs.mem hb;rw[e1]at ho';cases ho';obtain⟨sl',e2⟩:=up b _ e1 hd;exact⟨sl',e2⟩
 .obtain⟨o',e1⟩:=B.there b o q hx
  by_cases hb:b∈frs X.stack
  .obtain⟨_,o2,ho2,hd⟩:=I.stack.mem hb
   obtain⟨sl',e2⟩:=up b _ ho2 hd;exact⟨_,e2⟩
  .exact⟨o',stay b o' e1 hb (nrs b o q)⟩
def WL.noteOk(I:WL X WY σ H s)(hrs:∀b∈rs,H b=none)(stay:∀b o,s.heap.get? b=some o->b∉frs X.stack->b∉rs->h'.get? b=some o):HOk X.prog X.w H h':=fun a o e=>
 (I.hok a o e).stay (fun b u hb q=>stay b u q (fun z=>by
  have n:=I.stkFree b z;obtain r|r:=hb
  .rw[r,e]at n;cases n
  .rw[r]at n;cases n) fun z=>by
  have n:=hrs b z;obtain r|r:=hb
  .rw[r,e]at n;cases n
  .rw[r]at n;cases n) (fun _ q=>q) fun _ _ q=>q
def w6(hl:h.FunFrames base l)(up:h.UpToSlots h1)(e:(hid h l rs).get? T=none)(hT:h1.get? T=some oT)(hd:oT.data = .fields ts):h.get? T=none\/T∈rs:=by
 by_cases hr:T∈rs
 .exact .inr hr
 .refine .inl ?_
  cases q:h.get? T with
  |none=>rfl
  |some o=>
   by_cases hf:T∈frs l
   .obtain⟨_,o2,ho2,hnf⟩:=hl.mem hf
    rw[q]at ho2;cases ho2;obtain⟨sl,e2⟩:=up T o q hnf;rw[hT]at e2;cases e2;exact VT hd (hnf ts)
   .rw[ij q hf hr]at e;cases e
end
section
variable{P:WF}{w:WE}{K:Ws}{mg:Str->Option WI}{base:Wz}{N:List Str}{WK:Str}{WJ:Scope}{f:WH}{cd:WI}{A:WD}{WX:List Env}{s₀:WG}{H₀:Hp}{E:XK}
def wF{s:WG}
 (I:WL (cJ (XE P w) P w K mg base N WK WJ f cd A WX s₀ H₀ E) WY σ H s) (hx:Heap.MadeExcOf s.heap h' e cls args) (q:E cls none H) :
 (cJ (XE P w) P w K mg base N WK WJ f cd A WX s₀ H₀ E).xe (.ref e) { s with heap:=h' }:=by
 show WB (WA P w) (A.deeper (envOfC WK WJ s₀.heap.objs.size f cd)) (leaving (envOfC WK WJ s₀.heap.objs.size f cd) (.ref e)) (fun _ s''=>XE P w WX H₀ s₀ E (.ref e) s'') (fun e' s''=>XE P w WX H₀ s₀ E e' s'') { s with heap:=h' };have hst:s.heap.FunFrames base (envOfC WK WJ s₀.heap.objs.size f cd::WX):=I.stack;have g0:F2 h' e:=by
  obtain⟨t,he,_,_⟩:=hx.there;exact⟨_,_,he,rfl,rfl⟩
 refine cH (e:=e) (ox _ _) g0 (wpAny_leaves_madeW (base:=hid s.heap (envOfC WK WJ s₀.heap.objs.size f cd::WX) []) (h:=s.heap) I.ok.frames rfl (fun b o z=>wx z) (jM hst) hx fun h'' t fl tup tn up g2=>?_);obtain⟨f1,f2,f3,oe,vs,T,oT,ts,he,hc,hd,h1,hnT,hTe,hT,hdT,h3⟩:=fl;have up':s.heap.UpToSlots h'':=(Heap.UpToSlots.of_keeps hx.keeps).trans up;have nT:s.heap.get? T=none:=(w6 hst up' hnT hT hdT).elim id fun z=>nomatch z;have stay:∀b o,s.heap.get? b=some o->b∉frs (envOfC WK WJ s₀.heap.objs.size f cd::WX)->b∉[e,T]->h''.get? b=some o:=fun b o z hb _=>f1 b o (ij z hb fun y=>nomatch y);have n0:∀b∈[e,T],s.heap.get? b=none:=fun b hb=>by
  obtain r|r:=z9.mp hb
  .rw[r];exact hx.new
  .rw[zh.mp r];exact nT
 have n1:∀b∈[e,T],s₀.heap.get? b=none:=fun b hb=>I.s0_none rfl (n0 b hb);have n2:∀b∈[e,T],H b=none:=fun b hb=>I.hok.none_of (n0 b hb);refine⟨e,cls,[e,T],H,rfl,I.os,I.bare,I.noteUn rfl n1 stay up',I.noteOk n2 stay,fun b hb=>⟨n1 b hb,n2 b hb⟩,⟨.head _,.ref t,?_,g2⟩,q⟩;exact⟨fun b o z=>wx z,sP (.head _),jM f3,oe,vs,T,oT,ts,he,hc,hd,h1,sP (.tail _ (.head _)),hTe,hT,hdT,h3⟩
abbrev XKs:=St->XK
def ce(CX:CXT)(X:Cx)(E:XKs):Prop:=∀(WY:List (WH × Obj)) (σ:St) (H:Hp) (s:WG) (e:WI) (s':WG),WL X WY σ H s->CX X.stack H s (E σ) e s'->X.xe e s'
def wn(X:Cx)(E:XKs):Prop:=∀(WY:List (WH × Obj)) (σ:St) (H:Hp) (s:WG) (h':Wz) (e:WH) (cls:WI) (args:List WI),WL X WY σ H s->Heap.MadeExcOf s.heap h' e cls args->E σ cls none H->X.xe (.ref e) { s with heap:=h' }
def d5:wn (cJ (XE P w) P w K mg base N WK WJ f cd A WX s₀ H₀ E) (fun _=>E):=fun _ _ _ _ _ _ _ _ I hx q=>wF I hx q
def av:ce (XE P w) (cJ (XE P w) P w K mg base N WK WJ f cd A WX s₀ H₀ E) (fun _=>E):=by
 intro WY σ H s ev s' I hq;obtain⟨e,C,rs,H',rfl,os,bare,un,hok,hrs,⟨her,a0,fl,g0⟩,q⟩:=hq;have J:WL (cJ (XE P w) P w K mg base N WK WJ f cd A WX s₀ H₀ E) WY σ H' s':=I.call' os un hok bare (fun b z=>nomatch z);show WB (WA P w) (A.deeper (envOfC WK WJ s₀.heap.objs.size f cd)) (leaving (envOfC WK WJ s₀.heap.objs.size f cd) (.ref e)) (fun _ s''=>XE P w WX H₀ s₀ E (.ref e) s'') (fun e' s''=>XE P w WX H₀ s₀ E e' s'') s';have hst:s'.heap.FunFrames base (envOfC WK WJ s₀.heap.objs.size f cd::WX):=J.stack;refine cH (e:=e) (ox _ _) g0 (wpAny_leaves_onW (base:=hid s'.heap (envOfC WK WJ s₀.heap.objs.size f cd::WX) rs) I.ok.frames rfl fl fun h'' fl' up g2=>?_);obtain⟨f1,f2,f3,oe,vs,T,oT,ts,he,hc,hd,h1,hnT,hTe,hT,hdT,h3⟩:=fl';have nT:=w6 hst up hnT hT hdT;have stay:∀b o,s'.heap.get? b=some o->b∉frs (envOfC WK WJ s₀.heap.objs.size f cd::WX)->b∉T::rs->h''.get? b=some o:=fun b o z hb hr=>f1 b o (ij z hb fun y=>hr (.tail _ y));have n1:∀b∈T::rs,s₀.heap.get? b=none:=fun b hb=>by
  obtain r|r:=z9.mp hb
  .rw[r]
   obtain z|z:=nT
   .exact J.s0_none rfl z
   .exact I.s0_none rfl (hrs T z).1
  .exact I.s0_none rfl (hrs b r).1
 have n2:∀b∈T::rs,H' b=none:=fun b hb=>by
  obtain r|r:=z9.mp hb
  .rw[r]
   obtain z|z:=nT
   .exact hok.none_of z
   .exact(hrs T z).2
  .exact(hrs b r).2
 refine⟨e,C,T::rs,H',rfl,J.os,J.bare,J.noteUn rfl n1 stay up,J.noteOk n2 stay,fun b hb=>⟨n1 b hb,n2 b hb⟩,⟨.tail _ her,a0,?_,g2⟩,q⟩;exact⟨fun b o z=>wx z,sP (.tail _ her),jM f3,oe,vs,T,oT,ts,he,hc,hd,h1,sP (.head _),hTe,hT,hdT,h3⟩
end
def sT(sp:Sp)(dvs:List V)(E:XKs)(t:TA):TE:=fun σ H Q=>t σ H fun vs H1=>sp (vs++dvs) H1 Q (E σ)
section
variable{X:Cx}{CX:CXT}{k:Nat}{f C:WH}{fd:FuncData}{ps:List Str}{sp:Sp}{dvs:List V}{ds:List WI}{E:XKs}{x m:Str}{p pos apos:Pos}{e o:Expr}{es:List Expr}{ta:TE}{t:TA}
def rQ(F:iz X.prog X.w X.K X.mg X.base CX k f fd ps sp)(hr:Room k X.A)(hb:Binds X.K fd ps ds)(hd:WP dvs ds)(hx:ce CX X E)
 (I:WL X WY σ H s) (r:WP vs us) (h:sp (vs++dvs) H Q (E σ)):WB (WA X.prog X.w) X.A (call (.ref f) us) (EP X WY σ Q) X.xe s:=by
 have r2:WP (vs++dvs) (us++ds):=r.append hd;have hl:(us++ds).length=ps.length:=by rw[<- r2.length];exact F.len _ _ _ _ h
 refine wpAny_call (codeAny_mono (F.run X.A X.stack s H ⟨us,[]⟩ (us++ds) (vs++dvs) Q (E σ) hr I.env0 (hb s us I.kIn hl) r2 h) fun r s' hq=>?_);cases r with
 |error e=>exact hx WY σ H s e s' I hq
 |ok fl=>
  cases fl with
  |ret u=>exact I.after hq
  |next=>exact YR hq
  |brk=>exact YR hq
  |cont=>exact YR hq
def Cu(F:iz X.prog X.w X.K X.mg X.base CX k f fd ps sp)(hr:Room k X.A)(hg:Gl X x)(hm:X.mg x=some (.ref f))(hk:Yk X.K (.ref f)=true)(hb:Binds X.K fd ps ds)(hd:WP dvs ds)(hx:ce CX X E)
 (ha:PA X (e::es) t) (hdb:(x==("__debug__":Str))=false:=by decide) (he:Wy (e::es) X.env=(false,eval e X.env)::Wy es X.env:=by rfl) (hpl:(Wx pos (Wy es X.env)).any (·.1)=false:=by rfl) :
 PE X (.Call (.Name x p) (e::es) [] pos) (sT sp dvs E t):=by
 intro WY s σ H Q I h;refine Xy (g_ I hg hm ?_ hdb);refine PySem.W.callWith_K (h₀:=X.base) I.ok.mod.kin hk (thn (ha pos WY s σ H _ I h) fun us s1 ⟨vs,H1,I1,r,q⟩=>⟨I1.kIn,?_⟩) he hpl;exact rQ F hr hb hd hx I1 r q
end
section
variable{P:WF}{w:WE}{K:Ws}{mg:Str->Option WI}{base:Wz}
def Fun.okX{x WK:Str}{st:Stmt}{f:WH}{fd:FuncData}{N ps:List Str}{k:Nat}{sp:Sp}(F:Fun K x WK st f fd)(S:cX N ps (ak st))(len:∀vs H Q E,sp vs H Q E->vs.length=ps.length)
 (hbody:∀(WW:WI) (A:WD) (WX:List Env) (s:WG) (H:Hp) (vs:List V) (Q:VK) (E:XK),Room k (A.deeper (envOfC WK (ak st) s.heap.objs.size f WW))->sp vs H Q E ->
  ∃t,PSs (cJ (XE P w) P w K mg base N WK (ak st) f WW A WX s H E) (bh st) t/\t { nx:=fun _ H'=>Q .non H',rt:=Q } (fm N vs) H):iz P w K mg base (XE P w) (k+1) f fd ps sp:=by
 obtain⟨oc,od,kV,doc,pm,an,WW,ct,osl,rfl,lk,hcd⟩:=F.ex;exact Jb lk hcd S len fun A WX s H vs Q E hr hsp=>hbody WW A WX s H vs Q E hr hsp
end
def Eh{K:Ws}{h:Wz}(X:K.In h)(q:PySem.W.excIn K C bmB newId=true) :
 ∃bm N nm qn bs hdct sn sub ab col dd k0 k1 k2 k3 k5 mN,h.get? C=some (excClassObj nm qn C N bs bm hdct sn sub ab col dd k0 k1 k2 k3 k5 newId)/\h.Ns N mN/\mN "__init__" = none/\OwnTail h bmB bm:=by
 unfold PySem.W.excIn at q;split at q
 .rename_i dd cd sl ho
  split at q
  .rename_i C' bm k0 k1 k2 k3 n k5 hm hs
   simp only[ZR,beq_iff_eq,Bool.not_eq_true']at q;obtain⟨⟨⟨⟨⟨rfl,rfl⟩,hdel⟩,ht⟩,hok⟩,hni⟩:=q;obtain⟨nm,bs,mro,ns,qn,hd,sn,sub,ab,col,del⟩:=cd;dsimp only at hm hdel hok hni;subst hm hdel;have hsl:sl = #[k0,k1,k2,k3,some (.builtin n),k5]:=by
    obtain⟨l⟩:=sl;simp only at hs;rw[hs]
   subst hsl;exact⟨bm,ns,nm,qn,bs,hd,sn,sub,ab,col,dd,k0,k1,k2,k3,k5,_,X _ _ ho,.of_isNs (PySem.W.isNs_of_in X hok),PySem.W.nsMap_none_of_in X hok hni,PySem.W.tail_of_in X ht⟩
  .cases q
 .cases q
def we(C:WH)(E:XKs)(t:TA):TS:=fun _ σ H=>t σ H fun vs H1=>vs.length<=WC/\E σ (.ref C) none H1
def CK{X:Cx}(O:PySem.W.excIn X.K C bmB newId=true)(FB:ExcBaseFacts B newId initId bmB)
 (hc:X.calm=true) (hg:Gl X x) (hm:X.mg x=some (.ref C)) (hx:wn X E) (ha:PA X (e::es) t) (hdb:(x==("__debug__":Str))=false:=by decide)
 (he:Wy (e::es) X.env=(false,eval e X.env)::Wy es X.env:=by rfl) (hpl:(Wx cpos (Wy es X.env)).any (·.1)=false:=by rfl) :
 PS X (.Raise (some (.Call (.Name x np) (e::es) [] cpos)) none pos) (we C E t):=by
 intro WY s σ H D I h;obtain⟨tl,N,nm,q,bs,hdct,sn,sub,ab,col,dd,k0,k1,k2,k3,k5,mN,hC,hN,hni,T⟩:=Eh I.mod.kin O;refine wpAny_Raise_call_subT (C:=C) (nm:=nm) (q:=q) (N:=N) (bs:=bs) (bm:=tl) (hdct:=hdct) (sn:=sn) (sub:=sub) (ab:=ab) (col:=col) (dd:=dd) (k0:=k0) (k1:=k1) (k2:=k2) (k3:=k3) (k5:=k5)
  FB (mN:=mN) (T.hasType FB.hasBase) (I.ok.hd hc) (by rw[he];show(false || (Wx cpos (Wy es X.env)).any (·.1))=false;rw[hpl];rfl) hni (g_ I hg hm ⟨rfl,?_⟩ hdb)
 have hA:=ha cpos WY s σ H _ I h;rw[he]at hA |-
 refine Xa (thn hA fun us s1 ⟨vs,H1,I1,r,hz,q1⟩=>⟨rfl,by rw[<- r.length];exact hz,I1.bk _ _ hC,hN.keeps I1.bk,T.keeps I1.bk,fun h' e' hm'=>?_⟩);exact hx WY σ H1 s1 h' e' (.ref C) us I1 hm' q1
section
variable{X:Cx}{WY:List (WH × Obj)}{σ:St}{H:Hp}{s:WG}{h':Wz}{rs:List WH}
def WL.noted(I:WL X WY σ H s)(hrs:∀b∈rs,X.s₀.heap.get? b=none/\H b=none)(hpin:∀p∈X.pn++WY,p.1∉rs)
 (stay:∀b o,s.heap.get? b=some o->b∉frs X.stack->b∉rs->h'.get? b=some o) (up:s.heap.UpToSlots h'):WL X WY σ H { s with heap:=h',toks:=t' }:=by
 have B:=I.base;have cellK:∀c v,s.heap.IsCell c v->h'.IsCell c v:=fun c v hq_=>by
  obtain⟨o,ho,hd⟩:=hq_;obtain⟨sl,e⟩:=up c o ho fun vs q=>by rw[hd]at q;cases q
  exact⟨_,e,hd⟩
 have nrs:∀b o,X.s₀.heap.get? b=some o->b∉rs:=fun b o e z=>by rw[(hrs b z).1]at e;cases e
 have nst:∀b o,X.s₀.heap.get? b=some o->b∉X.fs->b∉frs X.stack:=fun b o e hb z=>by
  obtain q|q:=z9.mp (I.stkSub b z)
  .exact VT (tS (wu e) I.ok.above) (by rw[q];exact Yu _)
  .exact hb q
 refine⟨I.ok,I.os,I.bare,⟨fun b o q n hb hx=>stay b o (B.keep b o q n hb hx) (nst b o q hb) (nrs b o q),fun b o q n hb hx=>?_,fun b o q n hx=>B.free b o q n hx,fun b o q hx=>?_,B.tups,B.frzs,B.tbls⟩,?_,fun x c e=>?_,I.free,I.freeC,fun p hp=>?_,I.noteOk (fun b hb=>(hrs b hb).2) stay,I.len⟩
 .obtain⟨sl,e1⟩:=B.slot b o q n hb hx
  obtain⟨_,o',ho',hd⟩:=I.funs.mem hb;rw[e1]at ho';cases ho';obtain⟨sl',e2⟩:=up b _ e1 hd;exact⟨sl',e2⟩
 .obtain⟨o',e1⟩:=B.there b o q hx
  by_cases hb:b∈frs X.stack
  .obtain⟨_,o2,ho2,hd⟩:=I.stack.mem hb
   obtain⟨sl',e2⟩:=up b _ ho2 hd;exact⟨_,e2⟩
  .exact⟨o',stay b o' e1 hb (nrs b o q)⟩
 .obtain⟨m,hn,hl⟩:=I.loc
  refine⟨m,up.ns hn,fun i x v e1 e2 e3=>?_⟩;obtain⟨u,r,l⟩:=hl i x v e1 e2 e3;refine⟨u,r,?_⟩;obtain l|⟨k,c,e,z⟩:=l
  .exact .inl l
  .exact .inr ⟨k,c,e,cellK c _ z⟩
 .obtain⟨v,z⟩:=I.cell x c e
  exact⟨v,cellK c v z⟩
 .obtain⟨e,n,ne,nf,d⟩:=I.pin p hp
  exact⟨stay p.1 p.2 e (fun z=>(z9.mp (I.stkSub _ z)).elim ne nf) (hpin p hp),n,ne,nf,d⟩
def WL.track(I:WL X WY σ H s)(hn:H a=none)(h0:X.s₀.heap.get? a=none)(hL:a≠X.env.locals)(hc:∀x c,X.env.cells.lookup x=some c->c≠a)(hp:∀p∈X.pn++WY,p.1≠a)
 (new:WO X.prog X.w (upd H a o) s.heap a o):WL X WY σ (upd H a o) s:=by
 have B:=I.base;refine⟨I.ok,I.os,I.bare,⟨B.keep,B.slot,fun b ob q n hx=>?_,B.there,fun b xs q=>?_,fun b ob xs q=>?_,fun b ps q=>?_⟩,I.loc,I.cell,?_,fun x c e=>?_,fun p hp'=>?_,fun b u e=>?_,I.len⟩
 .have:b≠a:=fun z=>by rw[z,h0]at q;cases q
  rw[ag this];exact B.free b ob q n hx
 .have e:=B.tups b xs q
  rw[ag (aq e hn)];exact e
 .have e:=B.frzs b ob xs q
  rw[ag (aq e hn)];exact e
 .obtain⟨m,e⟩:=B.tbls b ps q
  exact⟨m,by rw[ag (aq e hn)];exact e⟩
 .rw[ag (Wc hL)];exact I.free
 .rw[ag (hc x c e)];exact I.freeC x c e
 .obtain⟨e,n,ne,nf,d⟩:=I.pin p hp'
  exact⟨e,by rw[ag (hp p hp')];exact n,ne,nf,d⟩
 .by_cases hb:b=a
  .subst hb
   rw[aa]at e;cases e;exact new
  .rw[ag hb]at e
   refine(I.hok b u e).stay (fun c v _ q=>q) (fun c q=>?_) fun c xs q=>?_
   .rw[ag (aq q hn)];exact q
   .rw[ag (aq q hn)];exact q
def Cx.Ok.re(ok:X.Ok)(A':WD)(hf:A'.frames=X.A.frames)(cm:Bool)(hh:cm=true->A'.handled=none)(pn:List (WH × Obj))(xe:WI->WG->Prop):({ X with A:=A',calm:=cm,pn:=pn,xe:=xe }:Cx).Ok:=
 ⟨ok.mod,ok.kind,ok.glob,ok.blt,ok.above,ok.inj,ok.has,ok.cab,hh,hf.trans ok.frames,ok.stk,ok.exf,ok.bs,ok.bsz,ok.noex,ok.exfs,ok.funs,ok.frf⟩
def WL.toPn(I:WL X WY σ H s)(xe:WI->WG->Prop):WL { X with pn:=X.pn++WY,xe:=xe } [] σ H s:=
 ⟨I.ok.re X.A rfl X.calm I.ok.hd _ _,I.os,I.bare,I.base,I.loc,I.cell,I.free,I.freeC,fun p hp=>I.pin p (by rw[Za]at hp;exact hp),I.hok,I.len⟩
def WL.ofPn(ok:X.Ok)(I:WL { X with pn:=X.pn++WY,xe:=xe } pins' σ H s):WL X WY σ H s:=
 ⟨ok,I.os,I.bare,I.base,I.loc,I.cell,I.free,I.freeC,fun p hp=>I.pin p (vS _ hp),I.hok,I.len⟩
noncomputable abbrev Cx.caught(X:Cx)(e:WH):Cx:={ X with A:=X.A.mark (some (.ref e)),calm:=false,pn:=X.pn,xe:=fun _ _=>False }
def WL.toCaught(I:WL X WY σ H s)(e:WH):WL (X.caught e) WY σ H s:=
 ⟨I.ok.re (X.A.mark (some (.ref e))) rfl false (fun z=>nomatch z) _ _,I.os,I.bare,I.base,I.loc,I.cell,I.free,I.freeC,I.pin,I.hok,I.len⟩
def WL.ofCaught(ok:X.Ok)(I:WL (X.caught e) WY σ H s):WL X WY σ H s:=
 ⟨ok,I.os,I.bare,I.base,I.loc,I.cell,I.free,I.freeC,I.pin,I.hok,I.len⟩
def i4(I:WL X WY σ H s)(hN:X.N.Nodup)(hi:X.N[i]? = some n)(hk:X.env.kindOf n=some .local)
 (h:∀s',WL X WY (σ.set i none) H s'->Q () s'):WB M A (do bindName X.env n .none;unbindBehindTheSuite X.env n pos) Q E s:=by
 obtain⟨m,hn,hl⟩:=id I.loc;have hcls:(X.env.scope.kind == .class || (X.env.scope.kind == .module&&X.env.locals != X.env.globals))=false:=by rw[I.ok.kind];rfl
 have cne:=I.cne;refine wpAny_nameGoes_keeps hk hn hcls fun h' v hn' hs=>?_;obtain⟨oL,_,_,hoL,_⟩:=id hn;refine h _ ⟨I.ok,I.os,I.bare,⟨fun b o e n hb hx=>?_,fun b o e n hb hx=>?_,I.base.free,fun b o e hx=>?_,I.base.tups,I.base.frzs,I.base.tbls⟩,⟨_,hn',fun j y v' e1 e2 e3=>?_⟩,fun y c e=>?_,I.free,I.freeC,fun p hp=>?_,fun b ob e=>?_,by simpa using I.len⟩
 .exact(hs.2 b (Zx (tS (wu e) I.ok.above))).trans (I.base.keep b o e n hb hx)
 .obtain⟨sl,e1⟩:=I.base.slot b o e n hb hx
  exact⟨sl,(hs.2 b (Zx (tS (wu e) I.ok.above))).trans e1⟩
 .obtain⟨o',e1⟩:=I.base.there b o e hx
  exact⟨o',(hs.2 b (Zx (tS (wu e) I.ok.above))).trans e1⟩
 .by_cases hj:j=i
  .subst hj
   rw[List.getElem?_set]at e2;simp at e2
  .rw[List.getElem?_set_ne (Wc hj)]at e2
   obtain⟨u',r',q⟩:=hl j y v' e1 e2 e3;refine⟨u',r',?_⟩;obtain⟨k,e⟩|⟨k,c,e,z⟩:=q
   .refine .inl ⟨k,?_⟩
    have:y≠n:=fun e=>hj (oE hN e1 (e ▸ hi));simp[this,e]
   .exact .inr ⟨k,c,e,z.sameBut hs (cne y c e)⟩
 .obtain⟨w',z⟩:=I.cell y c e
  exact⟨w',z.sameBut hs (cne y c e)⟩
 .obtain⟨e,n,ne,nf,d⟩:=I.pin p hp
  exact⟨(hs.2 p.1 ne).trans e,n,ne,nf,d⟩
 .refine(I.hok b ob e).stay (fun c w' hc q=>(hs.2 c ?_).trans q) (fun _ q=>q) fun _ _ q=>q
  rintro rfl;obtain rfl|hc:=hc
  .rw[I.free]at e;cases e
  .rw[I.free]at hc;cases hc
end
def j_{s:WG}{K:Ws}{e C D:WH}{oe:Obj}(X:K.In s.heap)(he:s.heap.get? e=some oe)(hcls:oe.cls = .ref C)
 (hx:Z9 K (.ref C) (.ref D)=some true) (h:Q true s):WB M A (excMatches (.ref e) (.ref D)) Q E s:=
 (PySem.W.exm_one (M:=M) X (hcls ▸ (PySem.W.Looks.ld he).andThen .now) hx).here h
noncomputable def dP(C:WI)(e:WH):HO:=HO.ext fun h=>∃o vs,h.get? e=some o/\o.cls=C/\o.data = .fields vs/\vs[2]? = some .none
def wW(K:Ws)(CH:WH)(i:Nat)(tb:XKs->TS)(th:WH->TS):TS:=fun D σ H=>
 tb (fun σ' C _ H'=>∃Ce,C = .ref Ce/\Z9 K (.ref Ce) (.ref CH)=some true/\∀e,H' e=none ->
  th e { nx:=fun σ2 H2=>D.nx (σ2.set i none) H2,rt:=D.rt,bk:=fun σ2 H2=>D.bk (σ2.set i none) H2,ct:=fun σ2 H2=>D.ct (σ2.set i none) H2 } (σ'.set i (some (.ref e))) (upd H' e (dP (.ref Ce) e))) D σ H
def C4(hN:X.N.Nodup)(hi:X.N[i]? = some n)(hk:X.env.kindOf n=some .local)
 (hg:Gl X x) (hm:X.mg x=some (.ref CH))
 (hex:X.ex=[]) (hst:X.stack=X.env::X.WX) (hfr:X.env.frame=some X.env.locals)
 (hb:∀(pn:List (WH × Obj)) (Ee:WI->WG->Prop) (Ex:XKs),ce (XE X.prog X.w) { X with pn:=pn,xe:=Ee } Ex->PSs { X with pn:=pn,xe:=Ee } body (tb Ex))
 (hh:∀e:WH,PSs (X.caught e) (b₀::suite) (th e)) (hdb:(x==("__debug__":Str))=false:=by decide) :
 PS X (.Try body [.ExceptHandler (some (.Name x np)) (some n) (b₀::suite) hpos] [] [] pos) (wW X.K CH i tb th):=by
 intro WY s σ H D I h;refine wpAny_Try_except ?_;have ok:=I.ok;refine Zf (hb (X.pn++WY) _ _ ?hP [] s σ H D (I.toPn _) h) (fun f s1 hf=>?_) (fun _ _ z=>z)
 case hP=>
  intro pins' σ' H1 s1 ev s1' I1 hq;obtain⟨e,C,rs,H',rfl,os,bare,un,hok,hrs,⟨her,a0,fl,g0⟩,⟨Ce,rfl,hmro,hth⟩⟩:=hq;have J1:=I1.call' os un hok bare (fun b z=>nomatch z);have J:WL X WY σ' H' s1':=J1.ofPn ok;have I0:WL X WY σ' H1 s1:=I1.ofPn ok;have hn0:∀b∈rs,X.s₀.heap.get? b=none/\H' b=none:=fun b hb=>by
   refine⟨?_,(hrs b hb).2⟩;cases q:X.s₀.heap.get? b with
   |none=>rfl
   |some o=>
    obtain⟨o',z⟩:=I0.base.there b o q (by rw[hex];simp);rw[(hrs b hb).1]at z;cases z
  have hpin:∀p∈X.pn++WY,p.1∉rs:=fun p hp z=>by
   have:=(I0.pin p hp).1;rw[(hrs _ z).1]at this;cases this
  have hstk:s1'.heap.FunFrames X.base (X.env::X.WX):=by rw[<- hst];exact J.stack
  rw[show X.stack=X.env::X.WX from hst]at fl;have hfrm:X.A.frames=some (X.env::X.WX):=by rw[<- hst];exact ok.frames
  show WB (WA X.prog X.w) X.A (noteFrame (.ref e) X.env) _ _ s1';refine cH (e:=e) (rW _ _) g0 (wpAny_looks_onW (base:=hid s1'.heap (X.env::X.WX) rs) hfrm hfr fl fun h₄ held up4 g4=>?_);refine cH (e:=e) (gX _ _) g4 (wpAny_landsW held fun h₅ fl5 up5 g5=>?_);have nin:∀b,b∉frs X.stack->b∉frs (X.env::X.WX):=fun b hb=>by rw[<- hst];exact hb
  have stay5:∀b o,s1'.heap.get? b=some o->b∉frs X.stack->b∉rs->h₅.get? b=some o:=fun b o z hb hr=>fl5.1 b o (ij z (nin b hb) hr);have I5:WL X WY σ' H' { s1' with heap:=h₅,toks:=s1'.toks }:=J.noted hn0 hpin stay5 (up4.trans up5);obtain⟨ob,hob,hobc⟩:=fl5.there;refine wpAny_handleBy_cons (codeAny_handlers_test (g_ (X:=X.caught e) (I5.toCaught e) hg hm (j_ I5.kIn hob hobc hmro ?_) hdb)) (by intro q;cases q);refine codeAny_handlers_suite_as (cH (e:=e) (gX _ _) g5 (lands_againW fl5 fun h₆ fl6 up6 g6=>?_));have stay6:∀b o,s1'.heap.get? b=some o->b∉frs X.stack->b∉rs->h₆.get? b=some o:=fun b o z hb hr=>fl6.1 b o (ij z (nin b hb) hr);have I6:WL X WY σ' H' { s1' with heap:=h₆,toks:=s1'.toks }:=J.noted hn0 hpin stay6 ((up4.trans up5).trans up6);have e1:s1.heap.get? e=none:=(hrs e her).1;obtain⟨oe,vs,hoe,hoed,ho2⟩:=g6;have hoec:oe.cls = .ref Ce:=by
   obtain⟨o2,q1,q2⟩:=fl6.there;rw[hoe]at q1;cases q1;exact q2
  have I6':WL X WY σ' (upd H' e (dP (.ref Ce) e)) { s1' with heap:=h₆,toks:=s1'.toks }:=by
   refine I6.track (hrs e her).2 (hn0 e her).1 ?_ ?_ (fun p hp z=>hpin p hp (by rw[z];exact her)) ?_
   .intro z
    obtain⟨m,⟨oL,_,_,hoL,_⟩,_⟩:=I0.loc;rw[<- z,e1]at hoL;cases hoL
   .intro x c hc z
    obtain⟨v,o,ho,_⟩:=I0.cell x c hc;rw[z,e1]at ho;cases ho
   .exact⟨⟨oe,vs,hoe,hoec,hoed,ho2⟩,⟨oe,hoe⟩,fun h1 h2 hq_ k=>(by obtain⟨o,ws,a1,a2,a3⟩:=hq_;exact⟨o,ws,k o a1,a2,a3⟩)⟩
  refine o0 (X:=X.caught e) (I6'.toCaught e) hN hi (Wb hk) (v:=.ref e) rfl (fun s7 I7=>?_) (.inr hk);refine Zf (hh e WY s7 _ _ _ I7 (hth e (hrs e her).2)) (fun f s8 hf=>?_) (fun _ _ z=>z.elim);show WB (WA X.prog X.w) X.A (do bindName X.env n .none;unbindBehindTheSuite X.env n hpos) (fun _ s₃=>SP X WY D f s₃) X.xe s8;cases f with
  |next=>
   obtain⟨σ2,H2,J2,q⟩:=hf;exact i4 (J2.ofCaught ok) hN hi hk fun s9 I9=>⟨_,_,I9,q⟩
  |brk=>
   obtain⟨σ2,H2,J2,q⟩:=hf;exact i4 (J2.ofCaught ok) hN hi hk fun s9 I9=>⟨_,_,I9,q⟩
  |cont=>
   obtain⟨σ2,H2,J2,q⟩:=hf;exact i4 (J2.ofCaught ok) hN hi hk fun s9 I9=>⟨_,_,I9,q⟩
  |ret u=>
   obtain⟨v,σ2,H2,J2,r,q⟩:=hf;exact i4 (J2.ofCaught ok) hN hi hk fun s9 I9=>⟨v,_,_,I9,r,q⟩
 cases f with
 |next=>
  obtain⟨σ',H',J,q⟩:=hf;exact Xr ⟨σ',H',J.ofPn ok,q⟩
 |brk=>
  obtain⟨σ',H',J,q⟩:=hf;exact⟨σ',H',J.ofPn ok,q⟩
 |cont=>
  obtain⟨σ',H',J,q⟩:=hf;exact⟨σ',H',J.ofPn ok,q⟩
 |ret u=>
  obtain⟨v,σ',H',J,r,q⟩:=hf;exact⟨v,σ',H',J.ofPn ok,r,q⟩
end L2
namespace L2
open PySem PySem.Spec PyProof.Rows PySem.W
inductive y_:V->WI->Prop where
 |ty (n:String):y_ (.ty n) (.type n)
 |own (a:WH):y_ (.ref a) (.ref a)
section
variable{X:Cx}
def tF:WN X (.builtin "isinstance") (fun xs H Q=>∃x c t u b,xs=[x,c]/\y_ c u/\jF X.K H x t/\Zo X.K t u=some b/\Q (.bl b) H):=by
 intro WY s σ H xs us Q I r h;obtain⟨x,c,t,u,b,rfl,rc,ty,e,q⟩:=h;obtain⟨ux,uc,rfl,rx,rc'⟩:=w8 r;have ec:uc=u:=by
  cases rc with
  |ty n=>exact rc'
  |own a=>exact rc'
 subst ec;exact zy I rx ty e fun tk=>⟨.bl b,H,I.tok _,rfl,q⟩
end
structure dH(K:Frag)(C:WH):Prop where
 l1:findIn K (.ref C) "__getattribute__" = some (some (.builtin "BaseException.__getattribute__"))
 l2:findIn K (.ref C) "__getattr__" = some none
 l3:findIn K (.ref C) "__class__" = some (some (.builtin "object.__class__"))
 c1:(clsIn K C).isSome=true
 m1:mroIn K C (.type "object")=some true
 m2:mroIn K C (.type "BaseException")=some true
section
variable{prog:WF}{w:WE}{A:WD}{E:WI->WG->Prop}{K:Frag}{e C:WH}{o:Obj}{s:WG}
open Builtin Builtin.ObjectAttr Builtin.Getset_descriptor PySem.Calls in
def pF(X:K.In s.heap)(Z:dH K C)(hx:s.heap.get? e=some o)(hc:o.cls = .ref C)
 (h:R (.ok (.ret (.ref C))) s):codeAny (WA prog w) A (.call (.builtin "getset_descriptor.__get__") ⟨[.builtin "object.__class__",.ref e,tp],[]⟩) R s:=by
 obtain⟨hh,g,dr,t,os⟩:=s;have L0:Looks (WA prog w) hh (typeOf (.ref e)) (.ref C):=hc ▸ (Looks.ld hx).andThen .now;have L1:=looks_mroIn (M:=WA prog w) X Z.m1;refine codeAny_call_builtin KF.slot_gs.plain KF.entry_gs (KF.slot_gs.check _ _ _ _ _ _ _ _ KF.type_class (KF.args_gs _ _ _) ?_);unfold Builtin.«getset_descriptor.__get__» descrGet;rw[dga_obj];refine zd (zJ ?_);unfold descrGetter descrCheckInstance descrNameAndClass isInstance;simp only[KF.owner_class]
 repeat lk
 refine⟨Code.quiet_builtin _ (by decide +kernel),codeAny_builtin KF.entry_class ?_⟩;unfold Builtin.«object.__class__» shownTypeOf
 repeat lk
 exact h
def q_(X:K.In s.heap)(Z:dH K C)(hx:s.heap.get? e=some o)(hc:o.cls = .ref C)(hq:Q () s) :
 WB M A (checkBuiltinCall "BaseException.__getattribute__" ⟨[.ref e,nameV],[]⟩) Q E s:=by
 have hk:builtinKind "BaseException.__getattribute__" = some .slot:=by decide +kernel
 have hsplit:splitId "BaseException.__getattribute__" = some ("BaseException","__getattribute__"):=by decide +kernel
 have ha:=F.args_bexc_ga (.ref e) nameV;obtain⟨hh,g,dr,t,os⟩:=s;have L0:Looks M hh (typeOf (.ref e)) (.ref C):=hc ▸ (Looks.ld hx).andThen .now;have L1:=looks_mroIn (M:=M) X Z.m2;have LI:Looks M hh (isInstance (.ref e) (.type "BaseException")) true:=L0.andThen L1;simp only[checkBuiltinCall,hk,hsplit];refine zd (LI.at ?_)
 repeat (first|assumption|wp_step)
def qK(X:K.In s.heap)(Z:dH K C)(hx:s.heap.get? e=some o)(hc:o.cls = .ref C)(hq:Q (.done (.ret (.ref C))) s) :
 WB (WA prog w) A (Builtin.«object.__getattribute__» ⟨[.ref e,.str "__class__" tk],[]⟩) Q E s:=by
 obtain⟨hh,g,dr,t,os⟩:=s;have L0:Looks (WA prog w) hh (typeOf (.ref e)) (.ref C):=hc ▸ (Looks.ld hx).andThen .now;have L3:=looks_findIn (M:=WA prog w) X Z.l3;have f5:=KF.type_class;have f6:=F.slot_gs_get.lookup;have f7:=F.slot_gs_set.lookup
 repeat (any_goals (first|assumption|with_reducible refine L0.at ?_|with_reducible refine L3.at ?_|wp_step))
 refine pF X Z hx hc ?_
 repeat (any_goals (first|assumption|wp_step))
def oA(X:K.In s.heap)(Z:dH K C)(hx:s.heap.get? e=some o)(hc:o.cls = .ref C)(h:Q (some (.ref C)) { s with toks:=s.toks+1 }) :
 WB (WA prog w) A (getAttr? (.ref e) "__class__") Q E s:=by
 obtain⟨hh,g,dr,t,os⟩:=s;have L0:Looks (WA prog w) hh (typeOf (.ref e)) (.ref C):=hc ▸ (Looks.ld hx).andThen .now;have L1:=looks_findIn (M:=WA prog w) X Z.l1;have L2:=looks_findIn (M:=WA prog w) X Z.l2;have f3:=F.excAttr_ValueError.ga.bind (.ref e);have hx2:(Value.builtin "BaseException.__getattribute__" == Value.builtin "object.__getattribute__")=false:=by decide +kernel
 have hx0:∀ex:Bool,(ex&&onTheHeap (Value.builtin "BaseException.__getattribute__"))=false:=fun ex=>by cases ex <;> rfl
 have hx1:(onTheHeap (yJ C)&&Value.builtin "BaseException.__getattribute__" == Value.builtin "object.__getattribute__")=false:=by rw[hx2];rfl
 unfold getAttr?
 repeat (any_goals (first|assumption|with_reducible refine L0.at ?_|with_reducible refine L1.at ?_|with_reducible refine L2.at ?_|wp_step))
 refine codeAny_call_builtin F.excAttr_ValueError.ga.plain F.entry_bexc_ga (q_ X Z hx hc (qK X Z hx hc ?_))
 repeat (any_goals (first|assumption|wp_step))
def Cv(Z:dH K C):KitX K (.ref e) (.ref C) (fun h=>∃o,h.get? e=some o/\o.cls = .ref C) where
 ty:=fun M h _ hq_=>(by obtain⟨o,h1,h2⟩:=hq_;exact h2 ▸ (Looks.ld h1).andThen .now)
 it:=fun M h X _=>by
  have c1:=Z.c1;unfold clsIn at c1;split at c1
  .rename_i c' d' cd' sl' ho
   intro A' Q' E' s' k q;unfold isType loadHead;exact zd (wpAny_loadPart (k _ _ (X _ _ ho)) (zJ q))
  .cases c1
 ne:=fun h tp dd WV n sl X htp=>by
  refine Bool.eq_false_iff.mpr fun q=>?_;have e':C=tp:=yJ.inj (beq_iff_eq.mp q);subst e';have c1:=Z.c1;unfold clsIn at c1;split at c1
  .rename_i c' d' cd' sl' ho
   have z:=(X _ _ ho).symm.trans htp;cases z
  .cases c1
 ca:=fun X hq_ k=>(by obtain⟨o,h1,h2⟩:=hq_;exact oA X Z h1 h2 k)
end
section
variable{X:Cx}
def qX:WN X (.builtin "isinstance") (fun xs H Q=>∃e c C u b,xs=[.ref e,c]/\y_ c u/\H e=some (dP (.ref C) e)/\dH X.K C/\Zo X.K (.ref C) u=some b/\Q (.bl b) H):=by
 intro WY s σ H xs us Q I r h;obtain⟨e,c,C,u,b,rfl,rc,he,Z,k,q⟩:=h;obtain⟨ux,uc,rfl,rx,rc'⟩:=w8 r;have ec:uc=u:=by
  cases rc with
  |ty n=>exact rc'
  |own a=>exact rc'
 subst ec;cases (show ux=yJ e from rx);obtain⟨⟨o,vs,h1,h2,_⟩,_,_⟩:=(show WO X.prog X.w H s.heap e (dP (.ref C) e) from I.hok e _ he);exact kia_one (Cv Z) I.kIn ⟨o,h1,h2⟩ k (fun z=>nomatch z) fun tk=>⟨.bl b,H,I.tok _,rfl,q⟩
end
end L2
namespace L2
open PySem PySem.Spec PyProof.Rows
section
variable{X:Cx}{a b:Expr}{ta:TE}
noncomputable def Hb(xs ys:List V):Bool:=(Zw (min xs.length ys.length)).all (fun j=>eqV (xs.getD j .non) (ys.getD j .non))&&xs.length==ys.length
def Er(K:Ws)(neg:Bool):R2:=fun x y H Q=>∃p p' xs ys,x = .ref p/\y = .ref p'/\SqT K H p xs/\SqT K H p' ys/\xs.all cY=true/\ys.all cY=true/\Q (.bl (neg ^^ Hb xs ys)) H
def oF(r:WP xs us)(r':WP ys vs)(fx:xs.all cY=true)(fy:ys.all cY=true)(j:Nat)(h1:j<us.toArray.size)(h2:j<vs.toArray.size) :
 SeqAt.EqAt A s us.toArray[j] vs.toArray[j] (eqV (xs.getD j .non) (ys.getD j .non)):=by
 have e1:us[j]? = some us.toArray[j]:=by simp at h1;simp[h1]
 have e2:vs[j]? = some vs.toArray[j]:=by simp at h2;simp[h2]
 have l1:j<xs.length:=by rw[r.length];simpa using h1
 have l2:j<ys.length:=by rw[r'.length];simpa using h2
 have g1:xs[j]? = some (xs.getD j .non):=by simp[List.getD,l1]
 have g2:ys[j]? = some (ys.getD j .non):=by simp[List.getD,l2]
 obtain⟨u,hu,ru⟩:=r.get g1;obtain⟨v,hv,rv⟩:=r'.get g2;rw[e1]at hu;rw[e2]at hv;rw[Zs hu,Zs hv];exact vt ru rv (Zk.mp fx _ (yo g1)) (Zk.mp fy _ (yo g2))
def Gz(hu:X.A.units<cLine):OpR X (Zd .Eq) (Er X.K false):=by
 intro WY s σ H x y v u Q I rx ry h;obtain⟨p,p',xs,ys,rfl,rfl,hx,hy,fx,fy,q⟩:=h;cases (show v=yJ p from rx);cases (show u=yJ p' from ry);obtain⟨WV,r,pl,hz⟩:=I.tuple hx;obtain⟨its',r',pl',hz'⟩:=I.tuple hy;refine SeqAt.eq_tupleAt pl pl' hu (fun j h1 h2=>oF r r' fx fy j h1 h2) ⟨.bl _,H,I,rfl,?_⟩;rw[yX,yX,<- r.length,<- r'.length]
 simpa [Hb] using q
def FK(hu:X.A.units<cLine):OpR X (Zd .NotEq) (Er X.K true):=by
 intro WY s σ H x y v u Q I rx ry h;obtain⟨p,p',xs,ys,rfl,rfl,hx,hy,fx,fy,q⟩:=h;cases (show v=yJ p from rx);cases (show u=yJ p' from ry);obtain⟨WV,r,pl,hz⟩:=I.tuple hx;obtain⟨its',r',pl',hz'⟩:=I.tuple hy;refine SeqAt.RcNeAt.tuples pl pl' hu (fun j h1 h2=>oF r r' fx fy j h1 h2) X.prog X.w X.xe _ ⟨.bl _,H,I,rfl,?_⟩;rw[yX,yX,<- r.length,<- r'.length]
 simpa [Hb] using q
def Hj(hu:X.A.units<cLine):OpR X (Zd .Eq) (fun x y H Q=>rEq x y H Q\/Er X.K false x y H Q):=Jf.or (Gz hu)
def F0(hu:X.A.units<cLine):OpR X (Zd .NotEq) (fun x y H Q=>rNe x y H Q\/Er X.K true x y H Q):=IL.or (FK hu)
def ye:WN X (.builtin "isinstance") (fun xs H Q=>(∃x c t u b,xs=[x,c]/\y_ c u/\jF X.K H x t/\Zo X.K t u=some b/\Q (.bl b) H) \/
 ∃e c C u b,xs=[.ref e,c]/\y_ c u/\H e=some (dP (.ref C) e)/\dH X.K C/\Zo X.K (.ref C) u=some b/\Q (.bl b) H):=tF.or qX
end
noncomputable abbrev T(l:List Nat):V:=.str ⟨⟨l⟩⟩
noncomputable def cs(x:Str):List Nat:=x.cps.toList
def DC(x:Str):V.str x=T (cs x):=rfl
section
variable{X:Cx}{e a b c:Expr}{pos:Pos}
def PE.imp(h:PE X e t)(i:∀σ H Q,t' σ H Q->t σ H Q):PE X e t':=fun WY s σ H Q I q=>h WY s σ H Q I (i σ H Q q)
def OpR.imp(h:OpR X f r)(i:∀x y H Q,r' x y H Q->r x y H Q):OpR X f r':=fun WY s σ H x y v u Q I rx ry q=>h WY s σ H x y v u Q I rx ry (i _ _ _ _ q)
def UnR.imp(h:UnR X f r)(i:∀x H Q,r' x H Q->r x H Q):UnR X f r':=fun WY s σ H x v Q I rx q=>h WY s σ H x v Q I rx (i _ _ _ q)
def WN.imp(h:WN X f r)(i:∀x H Q,r' x H Q->r x H Q):WN X f r':=fun WY s σ H x v Q I rx q=>h WY s σ H x v Q I rx (i _ _ _ q)
def IxR.imp(h:IxR X r)(i:∀x y H Q,r' x y H Q->r x y H Q):IxR X r':=fun va sl WY s σ H x y v u Q I rx ry q hs=>h va sl WY s σ H x y v u Q I rx ry (i _ _ _ _ q) hs
def FF(i:Nat):TE:=fun σ H Q=>match σ[i]? with
 |some (some v)=>Q v H
 |_=>False
def fv(i:Nat)(hN:X.N[i]? = some x:=by rfl)(hv:Vis X.env.scope x:=by first|exact Wb rfl|exact Wa (Wb rfl)|exact Wa (Wa rfl))(hd:(x==("__debug__":Str))=false:=by decide)
 (hcd:(x==("__classdict__":Str))=false:=by decide):PE X (.Name x pos) (FF i):=(GV hN hv hd hcd).imp fun σ H Q h=>by
 unfold FF at h;split at h
 .exact⟨_,by assumption,h⟩
 .exact h.elim
def ay{j}(l:List Nat)(h:x=⟨⟨l⟩⟩:=by decide +kernel):PE X (.Constant (.str x) j pos) (tC (T l)):=h ▸ Af
def Il:R2
 | .int i,.int j,H,Q=>Q (.int (i+j)) H
 | .str i,.str j,H,Q=>(cs i).length+(cs j).length<=WC/\Q (T (cs i++cs j)) H
 |_,_,_,_=>False
def FM(i j:Str):V.str (i++j)=T (cs i++cs j):=by
 show V.str ⟨i.cps++j.cps⟩=V.str ⟨⟨i.cps.toList++j.cps.toList⟩⟩
 congr 1
 congr 1
 exact(Array.ext' (by simp))
def aP:OpR X (binaryOp .Add) Il:=(Hk.or vT).imp fun x y H Q h=>by
 cases x with
 |int _=>
  cases y with
  |int _=>exact .inl ⟨_,_,rfl,rfl,h⟩
  |_=>exact WZ h
 |str _=>
  cases y with
  |str _=>
   refine .inr ⟨_,_,rfl,rfl,by simpa [cs,Y8] using h.1,?_⟩;rw[FM];exact h.2
  |_=>exact WZ h
 |_=>exact WZ h
def gI(g:Int->Int->V):R2
 | .int i,.int j,H,Q=>Q (g i j) H
 |_,_,_,_=>False
def gIC(C:Int->Int->Prop)(g:Int->Int->V):R2
 | .int i,.int j,H,Q=>C i j/\Q (g i j) H
 |_,_,_,_=>False
def ES:∀x y H Q,gI g x y H Q->rI0 g x y H Q:=fun x y H Q h=>by
 cases x with
 |int _=>
  cases y with
  |int _=>exact⟨_,_,rfl,rfl,h⟩
  |_=>exact WZ h
 |_=>exact WZ h
def lS:∀x y H Q,gIC C g x y H Q->rI C g x y H Q:=fun x y H Q h=>by
 cases x with
 |int _=>
  cases y with
  |int _=>exact⟨_,_,rfl,rfl,h.1,h.2⟩
  |_=>exact WZ h
 |_=>exact WZ h
def fZ:OpR X (binaryOp .Sub) (gI fun i j=>.int (i-j)):=Fy.imp ES
def b8:OpR X (binaryOp .Mult) (gIC CMul fun i j=>.int (i*j)):=GO.imp lS
def aS:OpR X (binaryOp .Mod) (gIC (fun _ j=>0<j) fun i j=>.int (i % j)):=HL.imp lS
def a_:OpR X (binaryOp .FloorDiv) (gIC Fq fun i j=>.int (i / j)):=Di.imp lS
def lF:OpR X (binaryOp .Pow) (gIC FJ fun i j=>.int (i ^ j.toNat)):=GH.imp lS
def Iz:V->Hp->VK->Prop
 | .int i,H,Q=>Q (.int (-i)) H
 |_,_,_=>False
def jI:UnR X (unaryOp .USub) Iz:=GB.imp fun x H Q h=>by
 cases x with
 |int _=>exact⟨_,rfl,h⟩
 |_=>exact WZ h
noncomputable def leN(a b:List Nat):Bool:=!decide (b<a)
def yq:OpR X (Zd .LtE) (fun x y H Q=>∃i j,x = .str i/\y = .str j/\Q (.bl (leN (cs i) (cs j))) H):=by
 intro WY s σ H x y v u Q I rx ry h;obtain⟨i,j,rfl,rfl,q⟩:=h;obtain⟨t,rfl⟩:=rx;obtain⟨t',rfl⟩:=ry;exact PySem.P.le_str ⟨.bl _,H,I,rfl,q⟩
def gLe:R2
 | .int i,.int j,H,Q=>Q (.bl (decide (i<=j))) H
 | .str i,.str j,H,Q=>Q (.bl (leN (cs i) (cs j))) H
 |_,_,_,_=>False
def fO:OpR X (Zd .LtE) gLe:=(IZ.or yq).imp fun x y H Q h=>by
 cases x with
 |int _=>
  cases y with
  |int _=>exact .inl ⟨_,_,rfl,rfl,h⟩
  |_=>exact WZ h
 |str _=>
  cases y with
  |str _=>exact .inr ⟨_,_,rfl,rfl,h⟩
  |_=>exact WZ h
 |_=>exact WZ h
def gLt:R2
 | .int i,.int j,H,Q=>Q (.bl (decide (i<j))) H
 | .str i,.str j,H,Q=>Q (.bl (decide (cs i<cs j))) H
 |_,_,_,_=>False
def qk:OpR X (Zd .Lt) gLt:=(Jj.or yg).imp fun x y H Q h=>by
 cases x with
 |int _=>
  cases y with
  |int _=>exact .inl ⟨_,_,rfl,rfl,h⟩
  |_=>exact WZ h
 |str _=>
  cases y with
  |str _=>exact .inr ⟨_,_,rfl,rfl,h⟩
  |_=>exact WZ h
 |_=>exact WZ h
def xm:OpR X (Zd .Gt) (gI fun i j=>.bl (decide (j<i))):=Ii.imp ES
noncomputable def eqS:V->V->Option Bool
 | .int i,.int j=>some (decide (i=j))
 | .bl i,.bl j=>some (decide (i=j))
 | .str i,.str j=>some (decide (cs i=cs j))
 | .non,.non=>some true
 | .non,.int _=>some false | .int _,.non=>some false | .non,.bl _=>some false | .bl _,.non=>some false | .non,.str _=>some false | .str _,.non=>some false
 | .int _,.str _=>some false | .str _,.int _=>some false | .bl _,.str _=>some false | .str _,.bl _=>some false
 |_,_=>none
def wv(i j:Str):V.str i=V.str j↔cs i=cs j:=by
 constructor
 .intro h;injection h with h;rw[h]
 .intro h
  congr 1
  obtain⟨⟨a⟩⟩:=i;obtain⟨⟨b⟩⟩:=j;have h':a=b:=h;rw[h']
def uF(h:eqS x y=some k):GR x y=true/\decide (x=y)=k:=by
 cases x with
 |int i=>
  cases y with
  |int j=>cases h;exact⟨rfl,decide_eq_decide.mpr (by simp)⟩
  |non=>cases h;exact⟨rfl,rfl⟩
  |str j=>cases h;exact⟨rfl,rfl⟩
  |_=>cases h
 |bl i=>
  cases y with
  |bl j=>cases h;exact⟨rfl,decide_eq_decide.mpr (by simp)⟩
  |non=>cases h;exact⟨rfl,rfl⟩
  |str j=>cases h;exact⟨rfl,rfl⟩
  |_=>cases h
 |str i=>
  cases y with
  |str j=>cases h;exact⟨rfl,decide_eq_decide.mpr (wv i j)⟩
  |non=>cases h;exact⟨rfl,rfl⟩
  |int j=>cases h;exact⟨rfl,rfl⟩
  |bl j=>cases h;exact⟨rfl,rfl⟩
  |_=>cases h
 |non=>
  cases y with
  |non=>cases h;exact⟨rfl,rfl⟩
  |int j=>cases h;exact⟨rfl,rfl⟩
  |bl j=>cases h;exact⟨rfl,rfl⟩
  |str j=>cases h;exact⟨rfl,rfl⟩
  |_=>cases h
 |_=>cases h
variable{ta tb tc:TE}{rest:List Expr}
def kB(Q:Bool->Hp->Prop):VK:=fun x H=>match x with
 | .bl k=>Q k H
 |_=>False
def tU(t:TE):TT:=fun σ H Q=>t σ H (kB Q)
def ou(h:kB Q x H):∃k,x = .bl k/\Q k H:=by
 cases x with
 |bl _=>exact⟨_,rfl,h⟩
 |_=>exact WZ h
def sU(ho:OpR X (Zd op) r)(ha:PE X a ta)(hb:PE X b tb)(hm:YW op b=false):PT X (.Compare a [op] [b] pos) (tU (tOp r ta tb)):=by
 intro WY s σ H Q I h;refine wpAny_isTrue_Compare1 (thn (ha WY s σ H _ I h) fun v s1 ⟨x,H1,I1,r1,q1⟩=>thn (hb WY s1 σ H1 _ I1 q1) fun u s2 ⟨y,H2,I2,r2,q2⟩=>
  thn (ho WY s2 σ H2 x y v u _ I2 r1 r2 q2) fun c s3 ⟨z,H3,I3,r3,q3⟩=>?_) hm
 obtain⟨k,e,q3⟩:=ou q3;subst e;cases r3;exact ZL ⟨H3,I3,q3⟩
def gZ(h:PC X op a b t)(h1:YW op b=false:=by first|exact tf _ (by decide) (by decide)|rfl):PT X (.Compare a [op] [b] pos) (tU t):=by
 intro WY s σ H Q I hw;refine wpAny_isTrue_Compare1 (thn (h WY s σ H _ I hw) fun v s1 h1=>thn h1 fun u s2 h2=>thn h2 fun c s3 hq_=>?_) h1;obtain⟨x,H1,I1,r1,q1⟩:=hq_;obtain⟨d,rfl,q⟩:=ou q1;cases r1;exact ZL ⟨H1,I1,q⟩
def bM(h:PE X e t)(he:∀whole,isTrue e X.env whole=(do let v <- whole;standAt e.pos;holding [v] (truthy v)):=by intro _;rfl):PT X e (tU t):=by
 intro WY s σ H Q I hw;refine isTrue_plain (thn (h WY s σ H _ I hw) fun v s1 hq_=>?_) (he _);obtain⟨x,H1,I1,r1,q1⟩:=hq_;obtain⟨d,rfl,q⟩:=ou q1;cases r1;exact ZL ⟨H1,I1,q⟩
def Cz(r r':R2)(ta tb tc:TE):TE:=fun σ H Q=>ta σ H fun x H1=>tb σ H1 fun y H2=>r x y H2 (kB fun k H3=>if k=true then tc σ H3 fun w' H4=>r' y w' H4 Q else Q (.bl false) H3)
def kH(ho:OpR X (Zd op) r)(ho':OpR X (Zd op') r')(ha:PE X a ta)(hb:PE X b tb)(hc:PE X c tc)
 (hm:lastMarks [op,op'] [b,c]=false:=by with_unfolding_all rfl):PE X (.Compare a [op,op'] [b,c] pos) (Cz r r' ta tb tc):=by
 intro WY s σ H Q I h;refine Compare_chain (thn (ha WY s σ H _ I h) fun v s1 ⟨x,H1,I1,r1,q1⟩=>chain_link (thn (hb WY s1 σ H1 _ I1 q1) fun u s2 ⟨y,H2,I2,r2,q2⟩=>
  thn (ho WY s2 σ H2 x y v u _ I2 r1 r2 q2) fun d s3 ⟨z,H3,I3,r3,q3⟩=>?_)) hm
 obtain⟨k,e,q3⟩:=ou q3;subst e;cases r3;refine ZL ?_;cases k with
 |false=>exact ite_ff ⟨.bl false,H3,I3,rfl,q3⟩
 |true=>exact ite_tt (chain_last (thn (hc WY s3 σ H3 _ I3 q3) fun w' s4 hq_=>(by obtain⟨z',H4,I4,r4,q4⟩:=hq_;exact ho' WY s4 σ H4 y z' u w' Q I4 r2 r4 q4)))
def IR(ta tb:TE):TE:=fun σ H Q=>ta σ H (kB fun c H1=>if c=true then tb σ H1 Q else Q (.bl false) H1)
def fOr(ta tb:TE):TE:=fun σ H Q=>ta σ H (kB fun c H1=>if c=true then Q (.bl true) H1 else tb σ H1 Q)
def JL(ta:TE):TE:=fun σ H Q=>ta σ H (kB fun c H1=>Q (.bl (!c)) H1)
def dX(ha:PE X a ta)(hb:PE X (.BoolOp .And (b::rest) pos) tb):PE X (.BoolOp .And (a::b::rest) pos) (IR ta tb):=by
 intro WY s σ H Q I h;refine BoolOp_and (thn (ha WY s σ H _ I h) fun v s1 hq_=>?_);obtain⟨x,H1,I1,r1,q1⟩:=hq_;obtain⟨c,rfl,q1⟩:=ou q1;cases r1;refine ZL ?_;cases c with
 |true=>exact hb WY s1 σ H1 Q I1 q1
 |false=>exact⟨.bl false,H1,I1,rfl,q1⟩
def xP(ha:PE X a ta)(hb:PE X (.BoolOp .Or (b::rest) pos) tb):PE X (.BoolOp .Or (a::b::rest) pos) (fOr ta tb):=by
 intro WY s σ H Q I h;refine BoolOp_or (thn (ha WY s σ H _ I h) fun v s1 hq_=>?_);obtain⟨x,H1,I1,r1,q1⟩:=hq_;obtain⟨c,rfl,q1⟩:=ou q1;cases r1;refine ZL ?_;cases c with
 |false=>exact hb WY s1 σ H1 Q I1 q1
 |true=>exact⟨.bl true,H1,I1,rfl,q1⟩
def v8(ha:PE X a ta):PE X (.UnaryOp .Not a pos) (JL ta):=by
 intro WY s σ H Q I h;refine UnaryOp_ (thn (ha WY s σ H _ I h) fun v s1 hq_=>?_);obtain⟨x,H1,I1,r1,q1⟩:=hq_;obtain⟨c,rfl,q1⟩:=ou q1;cases r1;exact not_of (ZL ⟨.bl (!c),H1,I1,rfl,q1⟩)
def Kb:List V->Hp->VK->Prop
 | [.int i],H,Q=>Q (.int (if i<0 then -i else i)) H
 |_,_,_=>False
def IK:List V->Hp->VK->Prop
 | [.int i,.int j],H,Q=>Q (.int (if j<i then j else i)) H
 |_,_,_=>False
def FZ(hc:X.calm=true):WN X (.builtin "min") IK:=(zw hc).imp fun x H Q h=>by
 obtain _|⟨i,x⟩:=x
 .exact WZ h
 cases i with
 |int i=>
  obtain _|⟨j,x⟩:=x
  .exact WZ h
  cases j with
  |int j=>
   cases x with
   |nil=>exact⟨_,_,rfl,h⟩
   |cons=>exact WZ h
  |_=>exact WZ h
 |_=>exact WZ h
def Jk:List V->Hp->VK->Prop
 | [.int i,.int j],H,Q=>Q (.int (if j > i then j else i)) H
 |_,_,_=>False
def FU(hc:X.calm=true):WN X (.builtin "max") Jk:=(zi hc).imp fun x H Q h=>by
 obtain _|⟨i,x⟩:=x
 .exact WZ h
 cases i with
 |int i=>
  obtain _|⟨j,x⟩:=x
  .exact WZ h
  cases j with
  |int j=>
   cases x with
   |nil=>exact⟨_,_,rfl,h⟩
   |cons=>exact WZ h
  |_=>exact WZ h
 |_=>exact WZ h
def GW(K:Ws):List V->Hp->VK->Prop
 | [.str y],H,Q=>(cs y).length<=WC/\Q (.int (cs y).length) H
 | [.ref p],H,Q=>∃xs,(SqL K H p xs\/SqT K H p xs)/\Q (.int xs.length) H
 |_,_,_=>False
def FI:WN X (.builtin "len") (GW X.K):=A0.imp fun x H Q h=>by
 obtain _|⟨i,x⟩:=x
 .exact WZ h
 cases i with
 |str y=>
  cases x with
  |nil=>exact⟨_,_,rfl,⟨by simpa [cs,Y8] using h.1,rfl⟩,by simpa [cs,Y8] using h.2⟩
  |cons=>exact WZ h
 |ref p=>
  cases x with
  |nil=>
   obtain⟨xs,hx,q⟩:=h;obtain hx|hx:=hx
   .exact⟨_,_,rfl,.inl ⟨xs,hx,rfl⟩,q⟩
   .exact⟨_,_,rfl,.inr ⟨xs,hx,rfl⟩,q⟩
  |cons=>exact WZ h
 |_=>exact WZ h
noncomputable def c0(H:Hp):V->Option String
 | .non=>some "NoneType"
 | .bl _=>some "bool"
 | .int _=>some "int"
 | .str _=>some "str"
 | .ref p=>match H p with
  |some (.lst _)=>some "list"
  |some (.frz _ (.lst _))=>some "list"
  |some (.tup _)=>some "tuple"
  |some (.dK _)=>some "dict"
  |_=>none
 |_=>none
noncomputable def b9(t n:String):Bool:=t==n || (t == "bool" && n == "int")
def iL(t:String):Prop:=t = "NoneType" \/ t = "bool" \/ t = "int" \/ t = "str" \/ t = "list" \/ t = "tuple" \/ t = "dict"
def Jm{K:Ws}{t n:String}(h:iL t)(hn:n = "int" \/ n = "bool" \/ n = "str" \/ n = "list" \/ n = "tuple" \/ n = "dict"):Zo K (.type t) (.type n)=some (b9 t n):=by
 obtain rfl|rfl|rfl|rfl|rfl|rfl|rfl:=h <;> obtain rfl|rfl|rfl|rfl|rfl|rfl:=hn <;> kernel_rfl
def tz{K:Ws}{H:Hp}{x:V}{t:String}(h:c0 H x=some t):jF K H x (.type t)/\iL t:=by
 unfold c0 at h;split at h
 .cases h;exact⟨.non,by simp[iL]⟩
 .cases h;exact⟨.bl _,by simp[iL]⟩
 .cases h;exact⟨.int _,by simp[iL]⟩
 .cases h;exact⟨.str _,by simp[iL]⟩
 .split at h
  .rename_i e;cases h;exact⟨.lst e,by simp[iL]⟩
  .rename_i e;cases h;exact⟨.frz e,by simp[iL]⟩
  .rename_i e;cases h;exact⟨.tup e,by simp[iL]⟩
  .rename_i e;cases h;exact⟨.dK e,by simp[iL]⟩
  .cases h
 .cases h
noncomputable def tM(n:String):Bool:=n == "int" || n == "bool" || n == "str" || n == "list" || n == "tuple" || n == "dict"
def Dt(K:Ws):List V->Hp->VK->Prop
 | [x,.ty n],H,Q=>(match c0 H x with
  |some t=>tM n=true/\Q (.bl (b9 t n)) H
  |none=>∃e C b,x = .ref e/\H e=some (dP (.ref C) e)/\dH K C/\Zo K (.ref C) (.type n)=some b/\Q (.bl b) H)
 | [.ref e,.ref D],H,Q=>∃C b,H e=some (dP (.ref C) e)/\dH K C/\Zo K (.ref C) (.ref D)=some b/\Q (.bl b) H
 |_,_,_=>False
def FP:WN X (.builtin "isinstance") (Dt X.K):=ye.imp fun xs H Q h=>by
 unfold Dt at h;split at h
 .rename_i x n
  split at h
  .rename_i t ht
   obtain⟨ty,hb⟩:=tz (K:=X.K) ht;obtain⟨hn,q⟩:=h;refine .inl ⟨x,_,_,_,_,rfl,.ty n,ty,Jm hb ?_,q⟩
   simpa [tM,or_assoc] using hn
  .obtain⟨e,C,b,rfl,he,Z,k,q⟩:=h
   exact .inr ⟨e,_,C,_,b,rfl,.ty n,he,Z,k,q⟩
 .rename_i e D
  obtain⟨C,b,he,Z,k,q⟩:=h;exact .inr ⟨e,_,C,_,b,rfl,.own D,he,Z,k,q⟩
 .exact h.elim
end
section
variable{X:Cx}{a b:Expr}{ta tb:TE}{pos pos':Pos}
def gIx(K:Ws):R2
 | .str z,.int i,H,Q=>(cs z).length<=WC/\(match atI (cs z) i with
  |some c=>Q (T [c]) H
  |none=>False)
 | .ref p,.int i,H,Q=>∃xs v,(SqL K H p xs\/SqT K H p xs)/\atI xs i=some v/\Q v H
 |_,_,_,_=>False
def Fr:IxR X (gIx X.K):=GU.imp fun x y H Q h=>by
 unfold gIx at h;split at h
 .obtain⟨hz,h⟩:=h
  split at h
  .rename_i c hc
   exact .inr (.inr ⟨_,_,c,rfl,rfl,by simpa [cs,Y8] using hz,hc,h⟩)
  .exact h.elim
 .obtain⟨xs,v,hs|hs,hv,q⟩:=h
  .exact .inl ⟨_,xs,_,v,rfl,rfl,hs,hv,q⟩
  .exact .inr (.inl ⟨_,xs,_,v,rfl,rfl,hs,hv,q⟩)
 .exact h.elim
def gW(xs:List V)(H H1:Hp)(Q:VK):V->Prop
 | .int i=>(match atI xs i with
  |some (.ref q)=>H q=none/\(match H1 q with
   |some o=>iQ o=true/\Q (.ref q) (upd H q o)
   |none=>False)
  |some v=>Q v H
  |none=>False)
 |_=>False
def Bc(ta:TA)(ti:TE):TE:=fun σ H Q=>WM H/\ta σ H fun xs H1=>WT H H1/\xs.length<=WC/\∀p,H1 p=none->ti σ (upd H1 p (.lst xs)) fun y H2=>H2=upd H1 p (.lst xs)/\gW xs H H1 Q y
def zU(s:WT H H1)(hp:H1 p=none)(h:gW xs H H1 Q y):∃i v G,y = .int i/\atI xs i=some v/\Gc H G (upd H1 p o)/\Q v G:=by
 unfold gW at h;have s2:WT H (upd H1 p o):=s.trans (aj o hp);split at h
 .rename_i i
  split at h
  .rename_i q hq
   obtain⟨hn,h⟩:=h;split at h
   .rename_i o' ho'
    exact⟨i,_,_,rfl,hq,Gc.one s2 hn (by rw[ag (aq ho' hp)];exact ho') h.1,h.2⟩
   .exact h.elim
  .rename_i v _ hv
   exact⟨i,v,H,rfl,hv,Gc.none s2,h⟩
  .exact h.elim
 .exact h.elim
def gN(ha:PA X es t)(hb:PE X b tb)(hs:sM b):PE X (.Subscript (.List es pos') b pos) (Bc t tb):=by
 intro WY s σ H Q I h;obtain⟨n,h⟩:=h;refine Subscript_ (wpAny_List_spliced (thn (ha pos' WY s σ H _ I h) fun us s1 ⟨xs,H1,I1,r,sm,z,q⟩=>⟨by rw[<- r.length];exact z,?_⟩));have hf:H1 s1.heap.objs.size=none:=I1.hok.fresh (zK _);refine thn (hb WY _ σ (upd H1 s1.heap.objs.size (.lst xs)) _ (I1.laid (t':=s1.toks) (fun b u e=>Wr _ e) (zK _) ⟨z,us,0,r,Wq _ rfl⟩) (q _ hf)) fun u s3 ⟨y,H3,I3,ry,e,k⟩=>?_;subst e;obtain⟨i,v,G,rfl,hv,g,hq⟩:=zU (o:=.lst xs) sm hf k;exact thn (xZ (.List es pos') b WY s3 σ _ (.ref _) (.int i) _ u (fun v' H'=>v'=v/\H'=upd H1 s1.heap.objs.size (.lst xs)) I3 rfl ry ⟨_,xs,i,v,rfl,rfl,az aa,hv,rfl,rfl⟩ (hs _ _))
  fun u' s4 hq_=>(by obtain⟨v',H4,I4,r4,e1,e2⟩:=hq_;exact⟨v,G,I.gc n (e2 ▸ I4) g,e1 ▸ r4,hq⟩)
end
def sp0(f:Hp->VK->XK->Prop):Sp:=fun vs H Q E=>match vs with
 | []=>f H Q E
 |_=>False
def sp1(f:V->Hp->VK->XK->Prop):Sp:=fun vs H Q E=>match vs with
 | [x]=>f x H Q E
 |_=>False
def sp2(f:V->V->Hp->VK->XK->Prop):Sp:=fun vs H Q E=>match vs with
 | [x,y]=>f x y H Q E
 |_=>False
def sp3(f:V->V->V->Hp->VK->XK->Prop):Sp:=fun vs H Q E=>match vs with
 | [x,y,z]=>f x y z H Q E
 |_=>False
def sp4(f:V->V->V->V->Hp->VK->XK->Prop):Sp:=fun vs H Q E=>match vs with
 | [x,y,z,u]=>f x y z u H Q E
 |_=>False
section
variable{vs:List V}{H:Hp}{Q:VK}{E:XK}
def sp1.inv{f}(h:sp1 f vs H Q E):∃x,vs=[x]/\f x H Q E:=by
 obtain _|⟨x,_|⟨w,r⟩⟩:=vs
 rotate_left 1
 .exact⟨_,rfl,h⟩
 all_goals exact WZ h
def sp2.inv{f}(h:sp2 f vs H Q E):∃x y,vs=[x,y]/\f x y H Q E:=by
 obtain _|⟨x,_|⟨y,_|⟨w,r⟩⟩⟩:=vs
 rotate_left 2
 .exact⟨_,_,rfl,h⟩
 all_goals exact WZ h
def sp3.inv{f}(h:sp3 f vs H Q E):∃x y z,vs=[x,y,z]/\f x y z H Q E:=by
 obtain _|⟨x,_|⟨y,_|⟨z,_|⟨w,r⟩⟩⟩⟩:=vs
 rotate_left 3
 .exact⟨_,_,_,rfl,h⟩
 all_goals exact WZ h
def sp4.inv{f}(h:sp4 f vs H Q E):∃x y z u,vs=[x,y,z,u]/\f x y z u H Q E:=by
 obtain _|⟨x,_|⟨y,_|⟨z,_|⟨u,_|⟨w,r⟩⟩⟩⟩⟩:=vs
 rotate_left 4
 .exact⟨_,_,_,_,rfl,h⟩
 all_goals exact WZ h
def sp1.len{f}(h:sp1 f vs H Q E):vs.length=1:=by obtain⟨_,rfl,_⟩:=sp1.inv h;rfl
def sp2.len{f}(h:sp2 f vs H Q E):vs.length=2:=by obtain⟨_,_,rfl,_⟩:=sp2.inv h;rfl
def sp3.len{f}(h:sp3 f vs H Q E):vs.length=3:=by obtain⟨_,_,_,rfl,_⟩:=sp3.inv h;rfl
def sp4.len{f}(h:sp4 f vs H Q E):vs.length=4:=by obtain⟨_,_,_,_,rfl,_⟩:=sp4.inv h;rfl
end
def asI(x:V)(f:Int->Prop):Prop:=match x with
 | .int i=>f i
 |_=>False
def asT(x:V)(f:List Nat->Prop):Prop:=match x with
 | .str y=>f (cs y)
 |_=>False
def asB(x:V)(f:Bool->Prop):Prop:=match x with
 | .bl y=>f y
 |_=>False
def asR(x:V)(f:WH->Prop):Prop:=match x with
 | .ref y=>f y
 |_=>False
def ba(h:asI x f):∃i,x = .int i/\f i:=by
 cases x with
 |int _=>exact⟨_,rfl,h⟩
 |_=>exact WZ h
def bt(h:asT x f):∃l,x=T l/\f l:=by
 unfold asT at h;split at h
 .exact⟨_,rfl,h⟩
 .exact h.elim
def JW(h:asB x f):∃i,x = .bl i/\f i:=by
 cases x with
 |bl _=>exact⟨_,rfl,h⟩
 |_=>exact WZ h
def aQ(h:asR x f):∃i,x = .ref i/\f i:=by
 cases x with
 |ref _=>exact⟨_,rfl,h⟩
 |_=>exact WZ h
def asK(H:Hp)(x:V)(f:String->Prop):Prop:=match c0 H x with
 |some t=>f t
 |none=>False
def jP{H:Hp}{x:V}{f:String->Prop}(h:asK H x f):∃t,c0 H x=some t/\iL t/\f t:=by
 unfold asK at h;split at h
 .rename_i t ht
  exact⟨t,ht,(tz (K:=default) ht).2,h⟩
 .exact h.elim
def asK.of(e:c0 H x=some t)(h:f t):asK H x f:=by unfold asK;rw[e];exact h
def Ax{ns:List Int}{k:Int}(h0:0<=k)(h1:k<ns.length):atI (ns.map V.int) k=some (.int (ns.getD k.toNat 0)):=by
 obtain⟨j,rfl⟩:∃j:Nat,k=j:=⟨k.toNat,by lia⟩;refine aO ?_;have l:j<ns.length:=by lia
 simp[List.getD,l]
def yY{ns:List Int}{i:Int}(h0:0<=i)(h1:i<ns.length)(q:Q (.int (ns.getD i.toNat 0)) H):gW (ns.map V.int) H H1 Q (.int i):=by
 unfold gW;simp only[Ax h0 h1];exact q
section
variable{X:Cx}(K:Ws)
def cr(h:X.K=K:=by rfl):WN X (.builtin "isinstance") (Dt K):=h ▸ FP
def cq(h:X.K=K:=by rfl):WN X (.builtin "len") (GW K):=h ▸ FI
def Da(h:X.K=K:=by rfl):IxR X (gIx K):=h ▸ Fr
def wS(h:X.K=K:=by rfl):SlR X (Jc K):=h ▸ GC
def bA(hl:PE X l tl)(h:X.K=K:=by rfl):PI X tg l (mR K tl):=h ▸ Dx hl
end
def Ic:c0 H (.bl b)=some "bool":=rfl
def He:c0 H (.int i)=some "int":=rfl
def HH:c0 H (.str s)=some "str":=rfl
def Gp:c0 H .non=some "NoneType":=rfl
def Ga:tM "int" = true:=by decide
def mY:b9 "NoneType" "int" = false:=by decide
def uG:b9 "bool" "int" = true:=by decide
def wH:b9 "int" "int" = true:=by decide
def vW:b9 "str" "int" = false:=by decide
def vd:b9 "list" "int" = false:=by decide
def qC:b9 "tuple" "int" = false:=by decide
def tj:b9 "dict" "int" = false:=by decide
def Ek:tM "bool" = true:=by decide
def lW:b9 "NoneType" "bool" = false:=by decide
def qF:b9 "bool" "bool" = true:=by decide
def sZ:b9 "int" "bool" = false:=by decide
def uK:b9 "str" "bool" = false:=by decide
def rO:b9 "list" "bool" = false:=by decide
def pD:b9 "tuple" "bool" = false:=by decide
def r6:b9 "dict" "bool" = false:=by decide
def Fz:tM "str" = true:=by decide
def mS:b9 "NoneType" "str" = false:=by decide
def uk:b9 "bool" "str" = false:=by decide
def wg:b9 "int" "str" = false:=by decide
def vy:b9 "str" "str" = true:=by decide
def tH:b9 "list" "str" = false:=by decide
def sW:b9 "tuple" "str" = false:=by decide
def uS:b9 "dict" "str" = false:=by decide
def DU:tM "list" = true:=by decide
def ms:b9 "NoneType" "list" = false:=by decide
def sI:b9 "bool" "list" = false:=by decide
def tR:b9 "int" "list" = false:=by decide
def ui:b9 "str" "list" = false:=by decide
def qT:b9 "list" "list" = true:=by decide
def pK:b9 "tuple" "list" = false:=by decide
def qR:b9 "dict" "list" = false:=by decide
def By:tM "tuple" = true:=by decide
def jS:b9 "NoneType" "tuple" = false:=by decide
def pC:b9 "bool" "tuple" = false:=by decide
def rh:b9 "int" "tuple" = false:=by decide
def rn:b9 "str" "tuple" = false:=by decide
def pA:b9 "list" "tuple" = false:=by decide
def n_:b9 "tuple" "tuple" = true:=by decide
def pM:b9 "dict" "tuple" = false:=by decide
def Ep:tM "dict" = true:=by decide
def md:b9 "NoneType" "dict" = false:=by decide
def rf:b9 "bool" "dict" = false:=by decide
def uY:b9 "int" "dict" = false:=by decide
def uV:b9 "str" "dict" = false:=by decide
def rM:b9 "list" "dict" = false:=by decide
def pv:b9 "tuple" "dict" = false:=by decide
def rC:b9 "dict" "dict" = true:=by decide
def Jq:asK H (.bl b) f=f "bool":=rfl
def Gv:asK H (.int i) f=f "int":=rfl
def GN:asK H (.str i) f=f "str":=rfl
def GE:asK H .non f=f "NoneType":=rfl
noncomputable def cV:Expr->Bool
 | .Starred _ _=>false
 |_=>true
def yU(h:cV e=true):Wy (e::es) env=(false,eval e env)::Wy es env:=by
 cases e <;> first|rfl|cases h
structure FA(X:Cx)(es:List Expr)(t:TA):Prop where
 pa:PA X es t
def c_:FA X [] mh:=⟨GQ⟩
def aU(ha:PE X e te)(hr:FA X es t)(h:cV e=true:=by rfl):FA X (e::es) (dJ te t):=⟨DO ha hr.pa (yU h)⟩
def DL{H:Hp}{P:Hp->Prop}:(∃G,Gc H G H/\P G)↔P H:=by
 constructor
 .rintro⟨G,g,p⟩
  have e:G=H:=by
   funext b;cases h:H b with
   |none=>exact g.b.free h
   |some o=>exact g.a b o h
  rw[<- e];exact p
 .exact fun p=>⟨H,Gc.refl,p⟩
def Kk{CX:CXT}{P:WF}{w:WE}{K:Ws}{mg:Str->Option WI}{base:Wz}{N:List Str}{WK:Str}{WJ:Scope}{f:WH}{cd:WI}{A:WD}{WX:List Env}{s:WG}{H:Hp}{E:XK} :
 (cJ CX P w K mg base N WK WJ f cd A WX s H E).K=K:=rfl
noncomputable def isI:V->Bool
 | .int _=>true
 |_=>false
noncomputable def isS:V->Bool
 | .str _=>true
 |_=>false
def Cr(h:c0 H x=some t):(t == "int")=isI x:=by
 unfold c0 at h;split at h
 case h_5=>split at h <;> cases h <;> simp[isI]
 all_goals (cases h <;> simp[isI])
def yL:WT H H↔True:=⟨fun _=>trivial,fun _=>WT.refl H⟩
def al(hN:WM H)(d:dw o=true):WM (upd H p o):=hN.upd d
def C5:isI (.int i)=true:=rfl
def HD:isI (.bl i)=false:=rfl
def CZ:isI (.str i)=false:=rfl
def DR:isI (.ref i)=false:=rfl
def EI  : isI (.non)=false:=rfl
def Ec:isS (.int i)=false:=rfl
def Hn:isS (.bl i)=false:=rfl
def EK:isS (.str i)=true:=rfl
def CS:isS (.ref i)=false:=rfl
def Dz  : isS (.non)=false:=rfl
def zH(h:vB H):WM H:=fun b o e=>by
 obtain z|⟨ob,xs,z⟩:=h b
 .rw[e]at z;cases z
 .rw[e]at z;cases z;rfl
def gcE(H:Hp)(E:XK):XK:=fun C d H'=>∃G,Gc H G H'/\E C d G
def Fun.okG{P:WF}{w:WE}{K:Ws}{mg:Str->Option WI}{base:Wz}{x WK:Str}{st:Stmt}{f:WH}{fd:FuncData}{N ps:List Str}{k:Nat}{sp:Sp}(F:Fun K x WK st f fd)(S:cX N ps (ak st))
 (len:∀vs H Q E,sp vs H Q E->vs.length=ps.length)
 (hbody:∀(WW:WI) (A:WD) (WX:List Env) (s:WG) (H:Hp) (vs:List V) (Q:VK) (E:XK),Room k (A.deeper (envOfC WK (ak st) s.heap.objs.size f WW))->sp vs H Q E ->
  WM H/\∃t,PSs (cJ (XE P w) P w K mg base N WK (ak st) f WW A WX s H (gcE H E)) (bh st) t/\t { nx:=fun _ H'=>∃G,Gc H G H'/\Q .non G,rt:=fun v H'=>∃G,Gc H G H'/\Q v G } (fm N vs) H):iz P w K mg base (XE P w) (k+1) f fd ps sp:=by
 have F':iz P w K mg base (XE P w) (k+1) f fd ps (fun vs H Q' E'=>∃Q E,sp vs H Q E/\Q'=(fun v H'=>∃G,Gc H G H'/\Q v G)/\E'=gcE H E):=by
  refine F.okX S (fun vs H Q' E' hq_=>(by obtain⟨Q,E,h,_⟩:=hq_;exact len vs H Q E h)) (fun WW A WX s H vs Q' E' hr h=>?_);obtain⟨Q,E,h,rfl,rfl⟩:=h;exact(hbody WW A WX s H vs Q E hr h).2
 refine⟨len,fun A WX s H args us vs Q E hr e0 hb r hsp=>?_⟩;have nT:WM H:=by
  obtain⟨oc,od,kV,doc,pm,an,WW,ct,osl,rfl,lk,hcd⟩:=F.ex;exact(hbody WW A WX s H vs Q E (hr.deeper _) hsp).1
 refine codeAny_mono (F'.run A WX s H args us vs _ _ hr e0 hb r ⟨Q,E,hsp,rfl,rfl⟩) fun res s' h=>?_;cases res with
 |error e=>
  obtain⟨ea,C,rs,H',h1,h2,h3,un,hok,hrs,fly,G,g,q⟩:=h;exact⟨ea,C,rs,G,h1,h2,h3,un.gc g,HOk.gc nT e0.hok hok g,fun b hb=>⟨(hrs b hb).1,g.b.free (hrs b hb).2⟩,fly,q⟩
 |ok fl=>
  cases fl with
  |ret u=>
   obtain⟨v,H',h1,h2,un,hok,rv,G,g,q⟩:=h;exact⟨v,G,h1,h2,un.gc g,HOk.gc nT e0.hok hok g,rv,q⟩
  |next=>exact h
  |brk=>exact h
  |cont=>exact h
section
variable{K:Ws}{C D:WH}{b:Bool}{cl:ClassData}
def qm(o:PySem.W.clsIn K D=some cl)(t:PySem.W.typeIn K (.ref D)=some (.type "type"))(m:YV K C (.ref D)=some b):PySem.W.kitCls K (.ref C) (.ref D)=some b:=by
 unfold PySem.W.kitCls;simp only[o,t,Option.isSome_some,beq_self_eq_true,Bool.and_self,if_true];exact m
def yj(o:PySem.W.clsIn K D=some cl)(t:PySem.W.typeIn K (.ref D)=some (.type "type"))(s:YV K D (.type "BaseException")=some true)(m:YV K C (.ref D)=some b):Z9 K (.ref C) (.ref D)=some b:=by
 unfold Z9;have e:PySem.W.subIn K (.ref D) (.type "BaseException")=some true:=s;rw[e,VY (by rfl)];exact qm o t m
def yu(o:PySem.W.clsIn K D=some cl)(t:PySem.W.typeIn K (.ref D)=some (.type "type"))(s:YV K C (.ref C)=some true)(m:YV K C (.ref D)=some b):Zo K (.ref C) (.ref D)=some b:=by
 unfold Zo;by_cases e:((yJ C==yJ D)=true)
 .rw[VY e]
  have e':C=D:=yJ.inj (beq_iff_eq.mp e);subst e';rw[s]at m;exact m
 .rw[VZ e];exact qm o t m
def vE:PySem.W.kitMeta "ValueError" = true:=by kernel_rfl
def yP(m:YV K C (.type "ValueError")=some b):Zo K (.ref C) (.type "ValueError")=some b:=by
 unfold Zo;rw[VZ (by intro z;cases (beq_iff_eq.mp z))];unfold PySem.W.kitCls;simp only[vE,if_true];exact m
end
def Cd{l:PySem.W.OpenLaw}{n k:Nat}{q:WF}{loose:List Str}{XP:(Str->Option WI)->Wz->Prop}{YP:WE->Wz->Prop}{d:DefRec}{K:Params->Ws}{sp:Ws->Sp}{x:Str}
 (hn:l.most=some n) (hn2:n<=WC) (hdf:d.params.defaults=[]) (hr:Room k callerA)
 (hY:∀(w:WE) (h:Wz),YP w h->(K w.params).In h)
 (F:∀(w:WE) (mg:Str->Option WI) (fa:WH) (h:Wz),(K w.params).In h->h.Ns ZB mg->mg d.name=some (.ref fa) ->
  ∃fd:FuncData,(∀(s:WG) (u:WI),BindsTo s fd ⟨[u],[]⟩ [(x,u)]) /\
   ∀base:Wz,(K w.params).In base->base.Ns ZB mg->iz l.prog w (K w.params) mg base (XE l.prog w) k fa fd [x] (sp (K w.params)))
 (hsp:∀(K:Ws) (H:Hp) (a:WH) (ns:List Int),ns.length<=n->vB H->SqL K H a (ns.map V.int)->sp K [.ref a] H (fun v _=>v = .bl true) fun _ _ _=>False) :
 PySem.W.WalkO q loose XP YP l.row.toRowW d [] (fun f vs=>PySem.call f vs):=
 Eb (K:=K) (CX:=fun w=>XE l.prog w) (sp:=fun w=>sp (K w.params)) hn hn2 hdf hr hY F (fun w H a ns h1 h2 h3=>hsp (K w.params) H a ns h1 h2 h3) fun w H s e s' hq_=>(by obtain⟨_,_,_,_,_,_,_,_,_,_,_,z⟩:=hq_;exact z)
section
variable{prog:WF}{w:WE}{A:WD}{R:Result->WG->Prop}{s:WG}
theorem rF(I:Nat->WG->Prop)
 (turn:∀n s,I n s->WB (WA prog w) A (pyNext it) (fun r s₁=>match r with
  |none=>R (.ok .next) s₁
  |some v=>WB (WA prog w) A (XN target it v) (fun _ s₁'=>WB (WA prog w) A (assign target env v) (fun _ s₂=>
   WB (WA prog w) A (forIn ifs true fun c r=>if r=true then do let ok <- isTrue c env (eval c env);pure (ForInStep.yield ok) else pure (ForInStep.yield r)) (fun ok s₃=>
    if ok=true then WB (WA prog w) A (eval elt env) (fun x s₄=>
     WB (WA prog w) A (call (.builtin "list.append") [acc,x]) (fun _ s₅=>∃m,m<n/\I m s₅) (notedBy (WA prog w) A env fun e s'=>R (.error e) s') s₄) (notedBy (WA prog w) A env fun e s'=>R (.error e) s') s₃
    else ∃m,m<n/\I m s₃) (notedBy (WA prog w) A env fun e s'=>R (.error e) s') s₂) (notedBy (WA prog w) A env fun e s'=>R (.error e) s') s₁') (notedBy (WA prog w) A env fun e s'=>R (.error e) s') s₁) (notedBy (WA prog w) A env fun e s'=>R (.error e) s') s)
 (n:Nat) (h:I n s) :
 codeAny (WA prog w) A (.compLoop (.ListComp elt [⟨target,iter,ifs,0⟩] WJ pos) 0 it acc env) R s:=by
 refine codeAny_loop rfl I (fun n s hI=>?_) n h;show WB _ A ((compTurn (.ListComp elt [⟨target,iter,ifs,0⟩] WJ pos) 0 it acc env).onRaise (fun x=>do noteFrame x env;theTreesLotGoes x)) _ _ s;refine wpAny_noted ?_;rw[compTurn_list];refine zd (wpAny_standAt (zd (Zf (turn n s hI) (fun r s₁ h₁=>?_) fun _ _ h'=>h')));cases r with
 |none=>exact zJ h₁
 |some v=>
  refine zd (Zf h₁ (fun _ s₁' h₁'=>?_) fun _ _ h'=>h');refine zd (Zf h₁' (fun _ s₂ h₂=>zd (Zf h₂ (fun ok s₃ h₃=>?_) fun _ _ h'=>h')) fun _ _ h'=>h');cases ok with
  |false=>exact zJ ⟨rfl,h₃⟩
  |true=>
   exact zd (zd (Zf h₃ (fun x s₄ h₄=>zd (Zf h₄ (fun _ s₅ h₅=>zJ (zJ ⟨rfl,h₅⟩)) fun _ _ h'=>h')) fun _ _ h'=>h'))
end
noncomputable def da(X:Cx)(N:List Str)(WJ:Scope)(cl:List (Str × WH))(C:WH)(s₂:WG)(H₂:Hp)(ex:List WH)(pn:List (WH × Obj)):Cx:=
 { X with N:=N,s₀:=s₂,H₀:=H₂,env:=compEnvC WJ cl C X.env,WX:=X.stack,stack:=X.stack,ex:=ex,fn:=fun _=>false,pn:=pn,xe:=fun _ _=>False }
structure CompScope(X:Cx)(WJ:Scope)(cl:List (Str × WH))(x:Str)(fr:List Str):Prop where
 clos:closureFor WJ X.env=pure cl
 nocell:∀y∈WJ.names,y.2 ≠ .cell
 kind:WJ.kind = .function
 names:∀y∈WJ.names,y.2 = .local->WJ.names.lookup y.1=some .local
 own:WJ.names.lookup x=some .local
 keys:∀y∈cl,y.1∈fr
 cells:fr.map (fun y=>cl.lookup y)=fr.map (fun y=>X.env.cells.lookup y)
 kinds:∀y∈fr,X.env.kindOf y=some .cell\/X.env.kindOf y=some .free
 kin:∀y∈fr,(relabel WJ X.env).names.lookup y=some .cell\/(relabel WJ X.env).names.lookup y=some .free
 only:∀y,((relabel WJ X.env).names.lookup y=some .cell\/(relabel WJ X.env).names.lookup y=some .free)->y∈fr
def wE{α:Type}{l:List (Str × α)}{y:Str}{c:α}(h:l.lookup y=some c):(y,c)∈l:=Yr h
def CompScope.cell(S:CompScope X WJ cl x fr)(h:y∈fr):cl.lookup y=X.env.cells.lookup y:=by
 have e:=S.cells;obtain⟨i,hi,rfl⟩:=List.getElem_of_mem h;have:=VU (fun l=>l[i]?) e
 simpa [hi] using this
def CompScope.sub{X:Cx}{WJ:Scope}{cl:List (Str × WH)}{x:Str}{fr:List Str}(S:CompScope X WJ cl x fr){y:Str}{c:WH}(h:cl.lookup y=some c):X.env.cells.lookup y=some c:=by
 rw[<- S.cell (S.keys _ (wE h))];exact h
def PTs(X:Cx)(ifs:List Expr)(t:TT):Prop:=
 ∀(WY:List (WH × Obj)) (s:WG) (σ:St) (H:Hp) (Q:Bool->Hp->Prop),WL X WY σ H s->t σ H Q ->
  WB (WA X.prog X.w) X.A (forIn ifs true fun c r=>if r=true then do let ok <- isTrue c X.env (eval c X.env);pure (ForInStep.yield ok) else pure (ForInStep.yield r)) (TP X WY σ Q) X.xe s
def eR:PTs X [] (fun _ H Q=>Q true H):=fun WY s σ H Q I h=>wpAny_tests_nil ⟨H,I,h⟩
def hU(h:PT X c t):PTs X [c] t:=fun WY s σ H Q I hw=>wpAny_tests_one (h WY s σ H Q I hw)
end L2
namespace MT
noncomputable def dg(n:Nat):List Nat:=(Nat.toDigits 10 n).map Char.toNat
noncomputable def isD(c:Nat):Bool:=decide (48<=c)&&decide (c<=57)
noncomputable def vl(t:List Nat):Nat:=t.foldl (fun n c=>10*n+(c-48)) 0
noncomputable def nin(t:List Nat):Nat:=t.foldl (fun n c=>if isD c then 10*n+(c-48) else n) 0
end MT
namespace L2
open PySem PySem.Spec PyProof.Rows Builtin Builtin.Str
section
variable{X:Cx}{e a b c:Expr}{pos:Pos}
def gIn(neg:Bool):R2
 | .str i,.str j,H,Q=>(match cs i with
  | [c]=>Q (.bl (neg ^^ decide (c∈cs j))) H
  |_=>False)
 |_,_,_,_=>False
def wj{i:Str}{c:Nat}(h:cs i=[c]):i=⟨#[c]⟩:=by
 obtain⟨⟨l⟩⟩:=i;have h':l=[c]:=h;rw[h']
def JM:OpR X (Zd .In) (gIn false):=yB.imp fun x y H Q h=>by
 cases x with
 |str v_1=>
  cases y with
  |str v_2=>
   delta gIn at h
   dsimp only at h;split at h
   .rename_i c hc
    refine⟨_,_,rfl,rfl,?_⟩;rw[wj hc,PySem.StrLaws.found_one]
    simpa [cs] using h
   .exact h.elim
  |_=>exact WZ h
 |_=>exact WZ h
noncomputable def iy(l:List Nat)(lo hi:Option Int):List Nat:=(l.drop (HT.sIx l.length 0 lo)).take (HT.sIx l.length l.length hi-HT.sIx l.length 0 lo)
def gSl:V->Option Int->Option Int->Hp->VK->Prop
 | .str y,lo,hi,H,Q=>(cs y).length<=WC/\Q (T (iy (cs y) lo hi)) H
 |_,_,_,_,_=>False
def Go(lo hi:Option Int)(n:Nat):Xh lo hi 1 n=(Zw (HT.sIx n n hi-HT.sIx n 0 lo)).map (HT.sIx n 0 lo + ·):=by
 obtain⟨h1,h2,h3⟩:=lj lo hi n;have e:Xh lo hi 1 n=sliceRange (sliceBounds lo hi none n).1 (sliceBounds lo hi none n).2.1 1:=by
  unfold Xh sliceBounds;cases lo <;> cases hi <;> rfl
 rw[e,h1,h2,sliceRange_one]
def zm(y:Str)(lo hi:Option Int):V.str (Txt.slice y lo hi)=T (iy (cs y) lo hi):=by
 have hl:y.length=(cs y).length:=by simp[cs,Y8]
 have ha:HT.sIx y.length 0 lo<=y.length:=HT.sIx_le _ _ (tB _) lo;have hb:HT.sIx y.length y.length hi<=y.length:=HT.sIx_le _ _ (zK _) hi;unfold Txt.slice;rw[Go];split
 .rename_i h
  simp only[beq_self_eq_true,Bool.true_and,zV,List.length_range,beq_iff_eq]at h;have e1:HT.sIx y.length 0 lo=0:=by lia
  have e2:HT.sIx y.length y.length hi=y.length:=by lia
  rw[DC]
  congr 3
  unfold iy;rw[<- hl,e1,e2,List.drop_zero,Nat.sub_zero,hl,Zp]
 .rw[pick_run]
  show V.str ⟨_⟩=V.str ⟨⟨_⟩⟩;unfold iy cs;rw[ZN]
  rfl
def sf:SlR X gSl:=by
 intro WY s σ H x v vl vu lo hi sl Q I rx hs pl pu h;cases x with
 |str y=>
  obtain⟨hz,q⟩:=h;obtain⟨t,rfl⟩:=rx;have hz':y.length<=WC:=by simpa [cs,Y8] using hz
  refine⟨"str",_,F.slot_str_getitem.lookup,typeIs_str _ _ _,?_⟩;have fin:∀t' k,EP X WY σ Q (.str (Txt.slice y lo hi) t') { s with toks:=k }:=fun t' k=>⟨.str (Txt.slice y lo hi),H,I.tok _,⟨_,rfl⟩,by rw[zm];exact q⟩;cases pl with
  |none=>cases pu with
   |none=>exact Y7 (l:=none) (u:=none) (st:=none) hs rfl (post_val_or_str ⟨wG (Txt.slice_le y _ _) hz',fin⟩)
   |int j u=>exact Y7 (l:=none) (u:=some (j,u)) (st:=none) hs rfl (post_val_or_str ⟨wG (Txt.slice_le y _ _) hz',fin⟩)
  |int i u'=>cases pu with
   |none=>exact Y7 (l:=some (i,u')) (u:=none) (st:=none) hs rfl (post_val_or_str ⟨wG (Txt.slice_le y _ _) hz',fin⟩)
   |int j u=>exact Y7 (l:=some (i,u')) (u:=some (j,u)) (st:=none) hs rfl (post_val_or_str ⟨wG (Txt.slice_le y _ _) hz',fin⟩)
 |_=>exact WZ h
def KC:V->List V->Hp->VK->Prop
 | .str x,[.str y],H,Q=>(match cs y with
  | [c]=>c∈cs x/\∀i:Nat,(cs x)[i]? = some c->Q (.int i) H
  |_=>False)
 |_,_,_,_=>False
def Ab:List V->Hp->VK->Prop
 | [.int i],H,Q=>Q (.int i) H
 | [.bl k],H,Q=>Q (.int (if k then 1 else 0)) H
 | [.str x],H,Q=>((cs x)≠[]/\(∀c∈cs x,MT.isD c=true)/\(cs x).length<=640)/\Q (.int (MT.vl (cs x))) H
 |_,_,_=>False
def pf:WN X (.type "int") (fun xs H Q=>∃x,xs=[.str x]/\((cs x)≠[]/\(∀c∈cs x,MT.isD c=true)/\(cs x).length<=640)/\Q (.int (MT.vl (cs x))) H):=by
 intro WY s σ H xs us Q I r h;obtain⟨x,rfl,⟨h0,hd,hl⟩,q⟩:=h;obtain⟨u,rfl,t,rfl⟩:=d8 r;have hl':x.length<=640:=by simpa [cs,Y8] using hl
 have e:PySem.NumText.digitsVal x.cps.toList=MT.vl (cs x):=by
  unfold PySem.NumText.digitsVal MT.vl cs
  congr 1
  funext a c;lia
 have hn:intText? x=some ((MT.vl (cs x):Nat):Int):=by
  rw[PySem.intText_digits (fun c hc=>by have:=hd c hc;simpa [MT.isD] using this) h0 (by lia),e]
 exact PySem.W.KIN.call_text hn hl' ⟨.int _,H,I.tok _,⟨_,rfl⟩,q⟩
def sS:WN X (.type "int") Ab:=(yG.or pf).imp fun xs H Q h=>by
 unfold Ab at h;split at h
 .exact .inl (.inl ⟨_,rfl,h⟩)
 .exact .inl (.inr ⟨_,rfl,h⟩)
 .exact .inr ⟨_,rfl,h.1,h.2⟩
 .exact h.elim
end
end L2
namespace L2
open PySem PySem.Spec PyProof.Rows
noncomputable def Its(x:Str):It:=⟨fun i _=>i<x.cps.size,fun i H v H'=>H'=H/\∃c,x.cps[i]? = some c/\v = .str ⟨#[c]⟩,fun i _=>x.cps.size<=i⟩
def AA{P:WF}{w:WE}{K:Ws}{tg:Expr}(x:Str)(t:Tok)(it:WH):tE P w K tg (Its x) [it] it (fun i h=>h.IsStrIter it "str_ascii_iterator" x t i) where
 mem:=by simp
 obj:=fun i h st b hb=>by
  have e:b=it:=by simpa using hb
  subst e;obtain⟨o,e,c,d⟩:=st;exact⟨o,e,fun v z=>by rw[d]at z;cases z⟩
 keep:=fun i h h' st k=>by
  obtain⟨o,e,c,d⟩:=st;exact⟨o,k it (by simp) o e,c,d⟩
 item:=by
  intro X hP hw hK hc i WY s σ H E I hf st hg;subst hP hw hK;have hg':i<x.cps.size:=hg;obtain⟨f0,f1,f2,f3,f4,f5⟩:=hf it (by simp);have hx:x.cps[i]? = some x.cps[i]:=by simp[hg']
  refine wpAny_pyNext_ascii_item st hx fun h' st' sb=>?_;have I1:WL X WY σ H { s with heap:=h',toks:=s.toks+1 }:=I.turned (fun b o hb e=>(sb.2 b hb).trans e) f0 f1 f3 f4 f5;obtain⟨o,e,c,d⟩:=id st';exact⟨_,rfl,oB (s:={ s with heap:=h',toks:=s.toks+1 }) e c d (by decide) ⟨.str ⟨#[x.cps[i]]⟩,H,I1,⟨_,rfl⟩,⟨rfl,_,hx,rfl⟩,st',fun b hb=>(hf b hb).1⟩⟩
 done:=by
  intro X hP hw hK hc i WY s σ H E I hf st hg;subst hP hw hK;have hg':x.cps.size<=i:=hg;obtain⟨f0,f1,f2,f3,f4,f5⟩:=hf it (by simp);have hx:x.cps[i]? = none:=by simp[hg']
  exact wpAny_pyNext_ascii_end (I.ok.hd hc) st hx fun h' eb=>⟨rfl,I.turned (fun b o hb e=>eb b o hb e) f0 f1 f3 f4 f5⟩
 self:=fun _ _ _ _ _ st h=>wpAny_pyIter_striter_ascii st h
def Iy(tl:TE):TI:=fun σ H R=>tl σ H fun v H1=>match v with
 | .str x=>(∀c∈cs x,c<128)/\R (Its x) H1
 |_=>False
def F6{X:Cx}{tg l:Expr}{tl:TE}(hl:PE X l tl):PI X tg l (Iy tl):=by
 intro WY s σ H R I h;refine thn (hl WY s σ H _ I h) fun v s1 ⟨y,H1,I1,r1,q⟩=>?_;dsimp only at q;split at q
 .rename_i x
  obtain⟨ha,q⟩:=q;obtain⟨t,rfl⟩:=r1;have ha':x.cps.all (· < 128)=true:=by
   rw[Array.all_eq_true];intro i hi;exact VX (ha _ (by unfold cs;rw[XZ];exact Array.getElem_mem hi))
  refine wpAny_pyIter_ascii ha' ?_;refine⟨s1.heap.objs.size,[s1.heap.objs.size],_,_,H1,rfl,I1.kept (t':=s1.toks) fun b o e=>Wr _ e,AA x t _,⟨_,Wq _ rfl,rfl,rfl⟩,fun b hb=>?_,q⟩;have e:b=s1.heap.objs.size:=by simpa using hb
  subst e;exact I1.fpOk (zK _) (I1.hok.fresh (zK _))
 .exact q.elim
section
variable{X:Cx}
def Be(i j:Int):Prop:=0<j/\j.natAbs.log2<1000
def kr:OpR X (binaryOp .FloorDiv) (gIC Be fun i j=>.int (i / j)):=by
 have h:OpR X (binaryOp .FloorDiv) (rI Be fun i j=>.int (i / j)):=opI fun i j _ _ _ _ _ hc q=>by
  have e:i / j=i.fdiv j:=(Int.fdiv_eq_ediv_of_nonneg i (Int.le_of_lt hc.1)).symm;rw[e]at q;exact floordiv_int (Wc (Int.ne_of_lt hc.1)) q (.inl (PyProof.noPylong_of_log2 (by have:=hc.2;lia)))
 exact h.imp lS
theorem kx:∀ {bs:List Bool} {us:List WI},WP (bs.map V.bl) us->LSm.BoolsAre us bs
 | [],_,.nil=>.nil
 |b::r,_,.cons e t=>by
  cases (show _=Value.bool b from e);exact .cons b (kx t)
def Je(K:Ws):List V->Hp->VK->Prop
 | [.ref p],H,Q=>∃bs:List Bool,SqL K H p (bs.map V.bl)/\Q (.bl (bs.all id)) H
 |_,_,_=>False
def r_(K:Ws)(hc:X.calm=true)(hK:X.K=K:=by rfl):WN X (.builtin "all") (Je K):=by
 subst hK;intro WY s σ H xs us Q I r h;obtain _|⟨e_1,r_1⟩:=xs
 .exact WZ h
 cases e_1 with
 |ref p=>
  cases r_1 with
  |nil=>
   obtain⟨bs,hq,q⟩:=h;obtain⟨u,rfl,rx⟩:=d8 r;cases (show u=yJ p from rx);obtain⟨WV,rv,pl,hz⟩:=I.list hq;have hne:p≠s.heap.objs.size:=Zx (by obtain⟨_,e,_⟩:=pl.isList;exact wu e);have hb:LSm.BoolsAre WV bs:=kx rv;refine call_all_walk (wpAny_pyIter_list pl.isList ?_);refine⟨s.heap.objs.size,[s.heap.objs.size,p],[s.heap.objs.size],WV.toArray.size,_,_,fun i=>(bs[i]?).getD true,rfl,Walks.list (A:=X.A.in1) (I.ok.hd hc) _ p hne WV.toArray,
    ⟨⟨_,Wq _ rfl,rfl,rfl⟩,pl.isList.push _⟩,fun i v s' Q' E' hP hQ=>?_,fun h' tk hk=>?_⟩
   .obtain⟨b,e,rfl⟩:=hb.get i v (by simpa using hP)
    simp only[e,Option.getD_some]at hQ;exact ZL hQ
   .have e:((Zw WV.toArray.size).all fun i=>(bs[i]?).getD true)=bs.all id:=by
     rw[yX,hb.length];exact LSm.range_all bs
    rw[e];exact⟨.bl (bs.all id),H,I.kept (LSm.kept_iter hk),rfl,q⟩
  |cons=>exact WZ h
 |_=>exact WZ h
end
end L2
namespace L2
open PySem PySem.Spec PyProof.Rows Builtin Builtin.Str
noncomputable def bU(sep:List Nat):List (List Nat)->List Nat
 | []=>[]
 | [x]=>x
 |x::y::r=>x++sep++bU sep (y::r)
theorem pX:∀ls:List (List Nat),bU [] ls=ls.flatten
 | []=>rfl
 | [x]=>by simp[bU]
 |x::y::r=>by rw[bU,pX (y::r)];simp
noncomputable def S(l:List Nat):Str:=⟨⟨l⟩⟩
theorem p7(sep:List Nat):∀(r:List (List Nat)) (x:List Nat),((r.map S).foldl (fun acc p=>acc++(S sep).cps++p.cps) (S x).cps)=(S (bU sep (x::r))).cps
 | [],x=>rfl
 |y::r,x=>by
  rw[yH,List.foldl_cons];have e:(S x).cps++(S sep).cps++(S y).cps=(S (x++sep++y)).cps:=by
   apply Array.ext';simp[S]
  rw[e,p7 sep r]
  congr 1
  cases r with
  |nil=>rfl
  |cons z r'=>unfold bU;simp[bU,Y0]
def xU(sep:List Nat)(ls:List (List Nat)):Txt.join (S sep) (ls.map S)=S (bU sep ls):=by
 unfold Txt.join glued;cases ls with
 |nil=>rfl
 |cons x r=>
  show(⟨((x::r).map S).drop 1 |>.foldl _ _⟩:Str)=_;rw[yH,List.drop_one,List.tail_cons,List.headD_cons,p7]
theorem xA:∀ {ls:List (List Nat)} {us:List WI},WP (ls.map T) us->StrsAre us (ls.map S)
 | [],_,.nil=>.nil
 |l::r,_,.cons e t=>by
  obtain⟨k,rfl⟩:=e;exact .cons _ k (xA t)
def B0(sep:List Nat)(ls:List (List Nat)):Prop:=(ls.map Yl).sum+ls.length*sep.length<=16777216
def DP(h:B0 sep ls):(((ls.map S).map (·.length)).sum+(ls.map S).length*(S sep).length<=16777216):=by
 have e:(ls.map S).map (·.length)=ls.map Yl:=by rw[vN];apply Zq;intro l _;rfl
 rw[e,zV];exact h
section
variable{X:Cx}
def Fn(K:Ws):V->List V->Hp->VK->Prop
 | .str x,[.ref p],H,Q=>∃ls:List (List Nat),SqL K H p (ls.map T)/\B0 (cs x) ls/\Q (T (bU (cs x) ls)) H
 |_,_,_,_=>False
def oX(K:Ws)(hK:X.K=K:=by rfl):MtR X "str.join" (Fn K):=by
 subst hK;intro WY s σ H x xs v us Q I rx rs h;cases x with
 |str y=>
  obtain _|⟨e_1,r_1⟩:=xs
  .exact WZ h
  cases e_1 with
  |ref p=>
   cases r_1 with
   |nil=>
    obtain⟨ls,hq,hf,q⟩:=h;obtain⟨t,rfl⟩:=rx;obtain⟨u,rfl,ru⟩:=d8 rs;cases (show u=yJ p from ru);obtain⟨WV,rv,pl,hz⟩:=I.list hq;refine join_list pl.isList (xA rv) (DP hf) fun t' k=>?_;exact⟨.str (Txt.join y (ls.map S)),H,I.tok _,⟨_,rfl⟩,by rw[show y=S (cs y) from rfl,xU];exact q⟩
   |cons=>exact WZ h
  |_=>exact WZ h
 |_=>exact WZ h
end
end L2
namespace PySem
open Sem (wp)
open Builtin Builtin.Str Builtin.Int
namespace F
end F
end PySem
namespace L2
open PySem PySem.Spec PyProof.Rows Builtin Builtin.Str
section
variable{X:Cx}
structure Enum(J:It)(vs:List V):Prop where
 go:∀i H,i<vs.length->J.go i H
 yld:∀i H x H',i<vs.length->J.yld i H x H'->H'=H/\vs[i]? = some x
 stop:∀H,J.stop vs.length H
def Bb(l:List Nat):Enum (Its ⟨⟨l⟩⟩) (l.map fun c=>T [c]):=by
 refine⟨fun i H h=>by simpa [Its] using h,fun i H x H' _ y=>?_,fun H=>by simp[Its]⟩;obtain⟨e,c,hc,rfl⟩:=y;refine⟨e,?_⟩;have:l[i]? = some c:=by simpa using hc
 rw[Wm,this];rfl
def B4(n:Nat):Enum (Itr 0 n) ((Zw n).map fun k=>.int (k:Nat)):=by
 refine⟨fun i H h=>by simpa [Itr] using h,fun i H x H' hi y=>?_,fun H=>by simp[Itr]⟩;obtain⟨e,rfl⟩:=y;refine⟨e,?_⟩;have hi':i<n:=by simpa using hi
 simp[hi']
structure BD(C:Hp->Prop)(J:It)(vs:List V):Prop where
 go:∀i H,C H->i<vs.length->J.go i H
 yld:∀i H x H',C H->i<vs.length->J.yld i H x H'->H'=H/\vs[i]? = some x
 stop:∀H,C H->J.stop vs.length H
def ii{J:It}{vs:List V}{σ':St}{H1:Hp}{Q:VK}{tt:TT}{te:TE}(C:Hp->Prop)(E:BD C J vs)(p:V->Bool)(f:V->V)(hlen:vs.length<=WC)
 (hp:∀x∈vs,∀H (R:Bool->Hp->Prop),C H->R (p x) H->tt (some x::σ') H R) (hf:∀x∈vs,p x=true->∀H (R:VK),C H->R (f x) H->te (some x::σ') H R)
 (D:WH) (hD:H1 D=none) (hC:∀ys,C (upd H1 D (.lst ys))) (q:Q (.ref D) (upd H1 D (.lst ((vs.filter p).map f)))) :
 ∃W:Nat->Nat->List V->Hp->Prop,(∃m,W 0 m [] (upd H1 D (.lst []))) /\
  ∀i m ys H2,W i m ys H2->H2 D=some (.lst ys)/\((J.stop i H2/\Q (.ref D) H2)\/(J.go i H2/\∀x H3,J.yld i H2 x H3 ->
   tt (some x::σ') H3 fun b H4=>if b=true then te (some x::σ') H4 fun y H5=>H5 D=some (.lst ys)/\ys.length<WC/\∃m',m'<m/\W (i+1) m' (ys++[y]) (upd H5 D (.lst (ys++[y])))
    else ∃m',m'<m/\W (i+1) m' ys H4)):=by
 refine⟨fun i m ys H2=>m=vs.length-i/\i<=vs.length/\ys=((vs.take i).filter p).map f/\H2=upd H1 D (.lst ys),⟨vs.length,by simp,tB _,by simp,rfl⟩,?_⟩;rintro i m ys H2 ⟨rfl,hi,hys,rfl⟩;refine⟨aa,?_⟩;by_cases hlt:i<vs.length
 .refine .inr ⟨E.go i _ (hC _) hlt,fun x H3 y=>?_⟩
  obtain⟨e,hx⟩:=E.yld i _ x H3 (hC _) hlt y;subst e;have hm:x∈vs:=yo hx;have htk:vs.take (i+1)=vs.take i++[x]:=by
   rw[YN,hx];rfl
  have hyl:ys.length<=i:=by
   rw[hys,zV];exact wG (Zb _ _) (by simp[Zv];lia)
  refine hp x hm _ _ (hC _) ?_;cases hb:p x with
  |true=>
   rw[VY rfl];refine hf x hm hb _ _ (hC _) ⟨aa,by lia,vs.length-(i+1),by lia,rfl,hlt,?_,?_⟩
   .rw[htk,ZW,yE,<- hys]
    simp[hb]
   .funext z
    by_cases hz:z=D
    .subst hz;rw[aa,aa]
    .rw[ag hz,ag hz,ag hz]
  |false=>
   rw[VZ xl];refine⟨vs.length-(i+1),by lia,rfl,hlt,?_,rfl⟩;rw[htk,ZW,yE,<- hys];simp[hb]
 .have e:i=vs.length:=by lia
  subst e;refine .inl ⟨E.stop _ (hC _),?_⟩;rw[Zp]at hys;rw[hys];exact q
def Enum.c{J:It}{vs:List V}(E:Enum J vs)(C:Hp->Prop):BD C J vs:=⟨fun i H _=>E.go i H,fun i H x H1 _=>E.yld i H x H1,fun H _=>E.stop H⟩
end
def SqL.same{K:Ws}{H H':Hp}{a:WH}{xs:List V}(s:WT H H')(h:SqL K H a xs):SqL K H' a xs:=by
 obtain(h|⟨o,h⟩)|h:=h
 .exact .inl (.inl (s _ _ h))
 .exact .inl (.inr ⟨o,s _ _ h⟩)
 .exact .inr h
theorem tD(g:Nat->Nat):∀l:List Nat,(l.map fun k=>[g k]).flatten=l.map g
 | []=>rfl
 |a::r=>by rw[yH,List.flatten_cons,tD g r];rfl
theorem jV(g:Nat->Nat):∀l:List Nat,((l.map fun k=>[g k]).map Yl).sum=l.length
 | []=>rfl
 |a::r=>by have:=jV g r;simp only[yH,Xk,vZ,Xo,this];lia
def zQ{K:Ws}{H1:Hp}{D:WH}{Q:VK}(l:List Nat)(g:Nat->Nat)(hs:H1 D=some (.lst (l.map fun k=>T [g k])))(hl:l.length<=1000)(q:Q (T (l.map g)) H1):Fn K (T []) [.ref D] H1 Q:=by
 refine⟨l.map fun k=>[g k],az (by rw[hs,vN];rfl),?_,?_⟩
 .unfold B0;rw[jV];simp[cs];lia
 .show Q (T (bU [] _)) H1
  rw[pX,tD];exact q
def AL:ce (XE P w) X (fun _ _ _ _=>False):=fun _ _ _ _ _ _ _ hq_=>(by obtain⟨_,_,_,_,_,_,_,_,_,_,_,q⟩:=hq_;exact q.elim)
noncomputable def zI:Option NameKind->Bool
 |some .cell=>true
 |some .free=>true
 |_=>false
def vf:zI k=true↔(k=some .cell\/k=some .free):=by
 cases k with
 |none=>simp[zI]
 |some k=>cases k <;> simp[zI]
def cw{cl:List (Str × WH)}{fr:List Str}(h:(cl.map (·.1)).all (fun y=>fr.elem y)=true):∀y∈cl,y.1∈fr:=fun y hy=>by
 have:=Zk.mp h y.1 (uO hy)
 simpa using this
def aV{fr:List Str}{k:Str->Option NameKind}(h:fr.all (fun y=>zI (k y))=true):∀y∈fr,k y=some .cell\/k y=some .free:=fun y hy=>vf.mp (Zk.mp h y hy)
def cv{names:List (Str × NameKind)}{fr:List Str}(h:names.all (fun p=>!zI (some p.2) || fr.elem p.1)=true):∀y,(names.lookup y=some .cell\/names.lookup y=some .free)->y∈fr:=fun y hy=>by
 have hy':=vf.mpr hy;cases e:names.lookup y with
 |none=>rw[e]at hy';cases hy'
 |some k=>
  rw[e]at hy';have:=Zk.mp h (y,k) (Yr e)
  simpa [hy'] using this
section
variable{X:Cx}{pos:Pos}
def GK(I:WL X WY σ H s):ZH<s.heap.objs.size:=
 Nat.lt_trans (by decide) (show ZB<s.heap.objs.size from(I.mod.glob.keeps I.bk).lt)
def EN:TE:=fun _ H Q=>∀p,H p=none->Q (.ref p) (upd H p (.dK []))
def dq:PE X (.Dict [] [] pos) EN:=by
 intro WY s σ H Q I h;have new:WO X.prog X.w (upd H s.heap.objs.size (.dK [])) (s.heap.push { cls:=.type "dict",data:=.dict #[] }) s.heap.objs.size (.dK []):=
  ⟨tB _,beq_eq_false_iff_ne.mpr (Wc (Zx (GK I))),[],.nil,Heap.DictOf.new s.heap⟩
 exact wpAny_Dict_empty ⟨.ref s.heap.objs.size,_,I.laid (t':=s.toks) (fun _ _ q=>Wr _ q) (zK _) new,rfl,h _ (I.hok.fresh (zK _))⟩
theorem uT:∀(l:List (Array Nat)) (acc:Array Nat),(l.foldl (· ++ ·) acc).toList=acc.toList++(l.map Array.toList).flatten
 | [],acc=>by simp
 |a::r,acc=>by rw[List.foldl_cons,uT r];simp
def F9(x:Str)(n:Int):V.str (Txt.mul x n)=T ((Xc n.toNat (cs x)).flatten):=by
 unfold Txt.mul;split
 .rename_i h
  have e:n.toNat=0:=by lia
  rw[e];rfl
 .rename_i h
  split
  .rename_i h2
   obtain h3|h3:=Bool.or_eq_true_iff.mp h2
   .have e:n.toNat=1:=by have:=eq_of_beq h3;lia
    rw[e,DC];simp
   .have e:cs x=[]:=by
     have:=eq_of_beq h3
     simpa [cs,Y8] using this
    rw[DC,e];simp
  .rw[DC]
   congr 1
   show((Xc n.toNat x.cps).foldl (· ++ ·) #[]).toList=_;rw[uT,List.map_replicate];rfl
end
section
variable{X:Cx}
def Ar{K:Ws}{C:Hp->Prop}{a:WH}{vs:List V}(h:∀H,C H->SqL K H a vs):BD C (Itl K a) vs:=
 ⟨fun i H c hi=>⟨vs,vs[i],h H c,Wl hi⟩,fun i H x H' c _ y=>⟨y.1,y.2 vs (h H c)⟩,fun H c=>⟨vs,h H c,zK _⟩⟩
end
end L2
namespace L2
open PySem PySem.Spec PyProof.Rows
section
variable{X:Cx}{K:Ws}{pos:Pos}
def eT(K:Ws)(hc:X.calm=true)(h:PGs X es t)(hK:X.K=K:=by rfl)
 (hn:(XJ es X.env).length=n:=by rfl) (hst:(XJ es X.env).findIdx? (·.1)=none:=by rfl):PG X (.Tuple es k pos) (Ha K n t):=by
 subst hK;exact Gh hc h hn hst
end
section
variable{X:Cx}{T name id:String}{r:V->List V->Hp->VK->Prop}{o e:Expr}{es:List Expr}{to:TE}{t:TA}{apos cpos:Pos}
def cD(K:Ws)(pa:PlainAttrs T)(slot:Slot T name id)(hty:typeOf (.builtin id)=pure (.type "method_descriptor"))(hm:MtR X id r)(ho:PE X o to)(ha:PA X (e::es) t)(hK:X.K=K:=by rfl)
 (hbase:XR o name X.env (eval o X.env)=eval o X.env:=by rfl)
 (hfew:((Wx cpos (Wy (e::es) X.env)).all (fun x=>!x.1)&&(backToKw cpos (XC [] X.env)).all (fun x=>x.1.isSome)
  && decide ((e::es).length+([]:List Keyword).length+(if ([]:List Keyword).isEmpty then 0 else 1)<30))=true:=by rfl)
 (hline:(apos.endLine==cpos.line)=true:=by rfl) (hs:Wy (e::es) X.env=(false,eval e X.env)::Wy es X.env:=by rfl) (hplain:(Wx cpos (Wy es X.env)).any (·.1)=false:=by rfl) :
 PE X (.Call (.Attribute o name apos) (e::es) [] cpos) (tBM K T r to t):=by
 subst hK;exact JH pa slot hty hm ho ha hbase hfew hline hs hplain
end
end L2
namespace L2
open PySem PySem.Spec PyProof.Rows Builtin Builtin.Str
noncomputable def spN(c:Nat):List Nat->List (List Nat)
 | []=>[[]]
 |a::r=>if a=c then []::spN c r else match spN c r with
  |h::t=>(a::h)::t
  | []=>[[a]]
theorem iV(c:Nat):∀l,spN c l≠[]
 | []=>by simp[spN]
 |a::r=>by
  unfold spN;split
  .simp
  .split <;> simp
theorem gH(c:Nat):∀l:List Nat,c∉l->spN c l=[l]
 | [],_=>rfl
 |a::r,h=>by
  have h1:¬ a=c:=fun z=>h (by rw[z];simp);have h2:c∉r:=fun z=>h (Zy _ z);unfold spN;rw[VZ h1,gH c r h2]
theorem w_(c:Nat):∀(l r:List Nat),c∉l->spN c (l++c::r)=l::spN c r
 | [],r,_=>by simp[spN]
 |a::l,r,h=>by
  have h1:¬ a=c:=fun z=>h (by rw[z];simp);have h2:c∉l:=fun z=>h (Zy _ z);rw[YS];show(if a=c then _ else _)=_;rw[VZ h1,w_ c l r h2]
theorem oY(c:Nat):∀ps:List (List Nat),ps≠[]->(∀p∈ps,c∉p)->spN c (bU [c] ps)=ps
 | [],h,_=>VT rfl h
 | [p],_,h=>gH c p (h p (by simp))
 |p::q::r,_,h=>by
  rw[bU,Y0,List.singleton_append,w_ c p _ (h p (by simp)),oY c (q::r) (by simp) fun x hx=>h x (Zy _ hx)]
theorem gv(c:Nat):∀l:List Nat,bU [c] (spN c l)=l
 | []=>rfl
 |a::r=>by
  have ih:=gv c r;unfold spN;split
  .rename_i e
   cases es:spN c r with
   |nil=>exact VT es (iV c r)
   |cons h t=>rw[es]at ih;rw[bU,ih,e];rfl
  .cases es:spN c r with
   |nil=>exact VT es (iV c r)
   |cons h t=>
    rw[es]at ih;cases t with
    |nil=>simp[bU]at ih |-; exact ih
    |cons h2 t=>rw[bU]at ih |-; rw[<- ih];simp
theorem i9(c:Nat):∀(l:List Nat),∀p∈spN c l,c∉p
 | [],p,hp=>by simp[spN]at hp;rw[hp];simp
 |a::r,p,hp=>by
  unfold spN at hp;split at hp
  .obtain h|h:=z9.mp hp
   .rw[h];simp
   .exact i9 c r p h
  .rename_i hne
   split at hp
   .rename_i h t es
    obtain e|e:=z9.mp hp
    .rw[e]
     have:=i9 c r h (by rw[es];simp);simp only[z9,not_or];exact⟨fun z=>hne z.symm,this⟩
    .exact i9 c r p (by rw[es];exact Zy _ e)
   .rename_i es;exact VT es (iV c r)
theorem kM(c:Nat):∀l:List Nat,(spN c l).length<=l.length+1
 | []=>by simp[spN]
 |a::r=>by
  have ih:=kM c r;unfold spN;split
  .simp;lia
  .split
   .rename_i es;rw[es]at ih;simp at ih |-; lia
   .simp
theorem jc(c:Nat):∀l:List Nat,∀p∈spN c l,p.length<=l.length/\∀d∈p,d∈l
 | [],p,hp=>by simp[spN]at hp;rw[hp];simp
 |a::r,p,hp=>by
  unfold spN at hp;split at hp
  .obtain h|h:=z9.mp hp
   .rw[h];simp
   .obtain⟨h1,h2⟩:=jc c r p h
    exact⟨by rw[vZ];lia,fun d hd=>Zy _ (h2 d hd)⟩
  .split at hp
   .rename_i h t es
    obtain e|e:=z9.mp hp
    .obtain⟨h1,h2⟩:=jc c r h (by rw[es];simp)
     rw[e];refine⟨by rw[vZ,vZ];lia,fun d hd=>?_⟩;obtain z|z:=z9.mp hd
     .rw[z];simp
     .exact Zy _ (h2 d z)
    .obtain⟨h1,h2⟩:=jc c r p (by rw[es];exact Zy _ e)
     exact⟨by rw[vZ];lia,fun d hd=>Zy _ (h2 d hd)⟩
   .rename_i es;exact VT es (iV c r)
def Bi(x y:Str):Txt.split x y≠[]:=by
 unfold Txt.split;split
 .simp
 .split
  .simp
  .rw[StrLaws.partsBetween_eq]
   obtain⟨p,r,e⟩:=StrLaws.partsFrom_ne x y.length 0 (occurrences x y 0 x.length (x.length+1));rw[e];simp
def tN(l:List Nat)(c:Nat):(Txt.split ⟨⟨l⟩⟩ ⟨#[c]⟩).map (fun x=>cs x)=spN c l:=by
 have h1:=StrLaws.join_split ⟨⟨l⟩⟩ ⟨#[c]⟩;have h2:=StrLaws.split_free ⟨⟨l⟩⟩ c;have h0:=Bi ⟨⟨l⟩⟩ ⟨#[c]⟩;generalize Txt.split ⟨⟨l⟩⟩ ⟨#[c]⟩=ps at h0 h1 h2;have hj:bU [c] (ps.map fun x=>cs x)=l:=by
  have e:ps=(ps.map fun x=>cs x).map S:=by
   rw[vN]
   conv=>lhs;rw[<- List.map_id ps]
   apply Zq;intro x _;rfl
  rw[e]at h1;have h3:Str.join (S [c]) ((ps.map fun x=>cs x).map S)=S (bU [c] (ps.map fun x=>cs x)):=by
   have:=xU [c] (ps.map fun x=>cs x);exact(StrLaws.glued_eq_join _ _).symm.trans this
  have h4:S (bU [c] (ps.map fun x=>cs x))=⟨⟨l⟩⟩:=h3.symm.trans h1;have h5:=VU cs h4;exact h5
 have hne:(ps.map fun x=>cs x)≠[]:=by
  intro z;exact h0 (List.map_eq_nil_iff.mp z)
 rw[<- hj,oY c _ hne];intro p hp;obtain⟨x,hx,rfl⟩:=yR.mp hp;exact h2 x hx
section
variable{X:Cx}{e a b c:Expr}{pos:Pos}
def Jg:V->List V->Hp->VK->Prop
 | .str x,[.str y],H,Q=>(∃c,cs y=[c]/\(cs x).length+2<=WC/\∀p,H p=none->Q (.ref p) (upd H p (.lst ((spN c (cs x)).map T))))
 |_,_,_,_=>False
theorem pV:∀(l:List (Str × Tok)),WP (l.map fun p=>V.str p.1) (strValues l)
 | []=>.nil
 |p::r=>.cons ⟨p.2,rfl⟩ (pV r)
def k9:MtR X "str.split" Jg:=by
 intro WY s σ H x xs v us Q I rx rs h;cases x with
 |str x=>
  obtain _|⟨e_1,r_1⟩:=xs
  .exact WZ h
  cases e_1 with
  |str y=>
   cases r_1 with
   |nil=>
    obtain⟨c,hc,hz,q⟩:=h;obtain⟨t,rfl⟩:=rx;obtain⟨u,rfl,t',rfl⟩:=d8 rs;have hy:=wj hc;subst hy;obtain⟨⟨l⟩⟩:=x;have hx:(⟨⟨l⟩⟩:Str).length+2<=WC:=hz;have fin:∀(l':List (Str × Tok)) (k:Nat),l'.map (·.1)=Txt.split ⟨⟨l⟩⟩ ⟨#[c]⟩->EP X WY σ Q (.ref s.heap.objs.size) { s with toks:=k,heap:=s.heap.push { cls:=.type "list",data:=.seq (strValues l').toArray } }:=fun l' k hl=>by
     have e:(spN c l).map T=l'.map fun p=>V.str p.1:=by
      rw[<- tN,<- hl,vN,vN];apply Zq;intro p _;rfl
     have hlen:((spN c l).map T).length<=WC:=by
      rw[zV];have:=kM c l;have hz':l.length+2<=WC:=hz;lia
     have hv:WP ((spN c l).map T) (strValues l'):=by rw[e];exact pV l'
     exact⟨.ref s.heap.objs.size,_,I.lnew (t':=k) hv hlen,rfl,q _ I.fresh⟩
    have hn:(partsBetween ⟨⟨l⟩⟩ (occurrences ⟨⟨l⟩⟩ ⟨#[c]⟩ 0 (⟨⟨l⟩⟩:Str).length ((⟨⟨l⟩⟩:Str).length+1)) (⟨#[c]⟩:Str).length).length<=WC:=by
     have e1:=StrLaws.occ_length_le ⟨⟨l⟩⟩ ⟨#[c]⟩ 0 (⟨⟨l⟩⟩:Str).length ((⟨⟨l⟩⟩:Str).length+1);rw[length_partsBetween];lia
    have hy:((⟨#[c]⟩:Str).length==0)=false:=rfl;cases h1:(decide ((⟨⟨l⟩⟩:Str).length<(⟨#[c]⟩:Str).length) || decide (strKind ⟨⟨l⟩⟩<strKind ⟨#[c]⟩))
    .cases hf:(occurrences ⟨⟨l⟩⟩ ⟨#[c]⟩ 0 (⟨⟨l⟩⟩:Str).length ((⟨⟨l⟩⟩:Str).length+1)).isEmpty
     .refine call_meets F.slot_str_split (typeIs_str _ _ _) F.entry_str_split (F.args_str_split_2 _ _) (meets_str_split_sep ⟨⟨l⟩⟩ ⟨#[c]⟩ t t' h1 hy hf (by lia) hn) ?_
      show wants _ _ _ { s with toks:=_,heap:=s.heap.push { cls:=.type "list",data:=.seq (strsFrom s.toks (partsBetween ⟨⟨l⟩⟩ (occurrences ⟨⟨l⟩⟩ ⟨#[c]⟩ 0 (⟨⟨l⟩⟩:Str).length ((⟨⟨l⟩⟩:Str).length+1)) (⟨#[c]⟩:Str).length)).toArray } };rw[strsFrom_eq];exact fin (numbered s.toks _) _ ((numbered_texts _ _).trans ((VZ (ne_true_of_eq_false h1)).trans (VZ (ne_true_of_eq_false hf))).symm)
     .refine call_meets F.slot_str_split (typeIs_str _ _ _) F.entry_str_split (F.args_str_split_2 _ _) (meets_str_split_not_found ⟨⟨l⟩⟩ ⟨#[c]⟩ t t' h1 hy hf) ?_
      exact fin [(⟨⟨l⟩⟩,t)] s.toks ((VZ (ne_true_of_eq_false h1)).trans (VY hf)).symm
    .refine call_meets F.slot_str_split (typeIs_str _ _ _) F.entry_str_split (F.args_str_split_2 _ _) (meets_str_split_cannot_occur ⟨⟨l⟩⟩ ⟨#[c]⟩ t t' h1) ?_
     exact fin [(⟨⟨l⟩⟩,t)] s.toks (VY h1).symm
   |cons=>exact WZ h
  |_=>exact WZ h
 |_=>exact WZ h
noncomputable def Ia:List Nat->List Nat->Bool
 |_,[]=>true
 | [],_::_=>false
 |a::l,b::r=>decide (a=b)&&Ia l r
def Jh:R2
 | .ref l,.ref b,H,Q=>∃xs zs,H l=some (.lst xs)/\H b=some (.lst zs)/\xs.length+zs.length<=WC/\∀p,H p=none->Q (.ref p) (upd H p (.lst (xs++zs)))
 |_,_,_,_=>False
def rV:OpR X (binaryOp .Add) Jh:=Hz.imp fun x y H Q h=>by
 cases x with
 |ref v_1=>
  cases y with
  |ref v_2=>
   obtain⟨xs,zs,h1,h2,h3,q⟩:=h;exact⟨_,_,xs,zs,rfl,rfl,h1,h2,h3,q⟩
  |_=>exact WZ h
 |_=>exact WZ h
def iK(K:Ws)(h:X.K=K:=by rfl):SlR X (JB K):=h ▸ CL
def E_(K:Ws):List V->Hp->VK->Prop
 | [.ref p],H,Q=>∃ys,(SqL K H p ys\/SqT K H p ys)/\∀l,H l=none->Q (.ref l) (upd H l (.lst ys))
 |_,_,_=>False
def rR(K:Ws)(hK:X.K=K:=by rfl):WN X (.type "list") (E_ K):=by
 subst hK;refine sL.imp fun xs H Q h=>?_;obtain _|⟨e_1,r_1⟩:=xs
 .exact WZ h
 cases e_1 with
 |ref v_2=>
  cases r_1 with
  |nil=>
   obtain⟨ys,h1,q⟩:=h;exact⟨_,ys,rfl,h1,q⟩
  |cons=>exact WZ h
 |_=>exact WZ h
def A9(K:Ws):List V->Hp->VK->Prop
 | [.ref p],H,Q=>∃ys,(SqL K H p ys/\∀l,H l=none->Q (.ref l) (upd H l (.tup ys)))\/(SqT K H p ys/\Q (.ref p) H)
 |_,_,_=>False
def BO(K:Ws)(hK:X.K=K:=by rfl):WN X (.type "tuple") (A9 K):=by
 subst hK;refine pN.imp fun xs H Q h=>?_;obtain _|⟨e_1,r_1⟩:=xs
 .exact WZ h
 cases e_1 with
 |ref v_2=>
  cases r_1 with
  |nil=>
   obtain⟨ys,h1⟩:=h;exact⟨_,ys,rfl,h1⟩
  |cons=>exact WZ h
 |_=>exact WZ h
inductive EqH (K:Ws) (H:Hp):Nat->V->V->Bool->Prop
 |flat {n x y}:cY x=true->cY y=true->EqH K H n x y (eqV x y)
 |same {n p}:EqH K H n (.ref p) (.ref p) true
 |lst {n p q xs ys} {e:Nat->Bool}:p≠q->SqL K H p xs->SqL K H q ys->xs.length=ys.length->(∀j x y,xs[j]? = some x->ys[j]? = some y->EqH K H n x y (e j))->EqH K H (n+1) (.ref p) (.ref q) ((Zw xs.length).all e)
 |len {n p q xs ys}:p≠q->SqL K H p xs->SqL K H q ys->xs.length≠ys.length->EqH K H (n+1) (.ref p) (.ref q) false
 |tup {n p q xs ys} {e:Nat->Bool}:p≠q->SqT K H p xs->SqT K H q ys->(∀j x y,xs[j]? = some x->ys[j]? = some y->EqH K H n x y (e j))->EqH K H (n+1) (.ref p) (.ref q) ((Zw (min xs.length ys.length)).all e&&xs.length==ys.length)
 |lt {n p q xs ys}:SqL K H p xs->SqT K H q ys->EqH K H (n+1) (.ref p) (.ref q) false
 |tl {n p q xs ys}:SqT K H p xs->SqL K H q ys->EqH K H (n+1) (.ref p) (.ref q) false
def gR{P:WI->WI->Bool->Prop}{xs ys:List V}{WV its':List WI}{e:Nat->Bool}(r:WP xs WV)(r':WP ys its')(h:∀j x y u v,xs[j]? = some x->ys[j]? = some y->WQ x u->WQ y v->P u v (e j)) :
 ∀j (h1:j<WV.toArray.size) (h2:j<its'.toArray.size),P WV.toArray[j] its'.toArray[j] (e j):=fun j g1 g2=>by
 have h1:xs.length=WV.length:=r.length;have h2:ys.length=its'.length:=r'.length;have g1':j<WV.length:=by simpa using g1
 have g2':j<its'.length:=by simpa using g2
 have l1:j<xs.length:=by lia
 have l2:j<ys.length:=by lia
 obtain⟨w1,e1,r1⟩:=r.get (Wl l1);obtain⟨w2,e2,r2⟩:=r'.get (Wl l2);have z1:WV.toArray[j]=w1:=by
  have:WV[j]? = some WV[j]:=Wl g1';rw[this]at e1;simpa using Zs e1
 have z2:its'.toArray[j]=w2:=by
  have:its'[j]? = some its'[j]:=Wl g2';rw[this]at e2;simpa using Zs e2
 rw[z1,z2];exact h j _ _ _ _ (Wl l1) (Wl l2) r1 r2
def EqH.at{K:Ws}{H:Hp}{n:Nat}{x y:V}{b:Bool}(h:EqH K H n x y b):∀ {X:Cx} {WY:List (WH × Obj)} {σ:St} {s:WG} {A:WD} {u v:WI},X.K=K->WL X WY σ H s->A.units+n<cLine->WQ x u->WQ y v->SeqAt.EqAt A s u v b:=by
 induction h with
 |flat fx fy=>
  intro X WY σ s A u v hK I hu rx ry;exact vt rx ry fx fy
 |same=>
  intro X WY σ s A u v hK I hu rx ry;cases rx;cases ry;exact SeqAt.EqAt.same _
 | @lst n p q xs ys e hpq hx hy hl _ ih=>
  intro X WY σ s A u v hK I hu rx ry;cases rx;cases ry;subst hK;obtain⟨WV,r,pl,hz⟩:=I.list hx;obtain⟨its',r',pl',hz'⟩:=I.list hy;have h1:xs.length=WV.length:=r.length;have h2:ys.length=its'.length:=r'.length;have:=SeqAt.RcAt.lists (A:=A) (e:=e) pl.isList pl'.isList (by simp;lia) (by lia) (gR r r' fun j x y u v g1 g2 r1 r2=>ih j x y g1 g2 rfl I (by show A.units+1+n<cLine;lia) r1 r2);rw[yX,<- h1]at this;exact .of_refs hpq this
 | @len n p q xs ys hpq hx hy hl=>
  intro X WY σ s A u v hK I hu rx ry;cases rx;cases ry;subst hK;obtain⟨WV,r,pl,hz⟩:=I.list hx;obtain⟨its',r',pl',hz'⟩:=I.list hy;have h1:xs.length=WV.length:=r.length;have h2:ys.length=its'.length:=r'.length;exact .of_refs hpq (SeqAt.RcAt.lists_lengths pl.isList pl'.isList (by simp;lia) (by lia))
 | @tup n p q xs ys e hpq hx hy _ ih=>
  intro X WY σ s A u v hK I hu rx ry;cases rx;cases ry;subst hK;obtain⟨WV,r,pl,hz⟩:=I.tuple hx;obtain⟨its',r',pl',hz'⟩:=I.tuple hy;have h1:xs.length=WV.length:=r.length;have h2:ys.length=its'.length:=r'.length;have:=SeqAt.RcAt.tuples (A:=A) (e:=e) pl pl' (by lia) (gR r r' fun j x y u v g1 g2 r1 r2=>ih j x y g1 g2 rfl I (by show A.units+1+n<cLine;lia) r1 r2);rw[yX,yX,<- h1,<- h2]at this;exact .of_refs hpq this
 |lt hx hy=>
  intro X WY σ s A u v hK I hu rx ry;cases rx;cases ry;subst hK;obtain⟨WV,r,pl,hz⟩:=I.list hx;obtain⟨its',r',pl',hz'⟩:=I.tuple hy;exact SeqAt.EqAt.list_tuple pl.isList pl' (by lia)
 |tl hx hy=>
  intro X WY σ s A u v hK I hu rx ry;cases rx;cases ry;subst hK;obtain⟨WV,r,pl,hz⟩:=I.tuple hx;obtain⟨its',r',pl',hz'⟩:=I.list hy;exact SeqAt.EqAt.tuple_list pl pl'.isList (by lia)
inductive EqR (K:Ws) (H:Hp) (p q:WH):Bool->Prop
 |lst {xs ys} {e:Nat->Bool}:SqL K H p xs->SqL K H q ys->xs.length=ys.length->(∀j x y,xs[j]? = some x->ys[j]? = some y->EqH K H 50 x y (e j))->EqR K H p q ((Zw xs.length).all e)
 |len {xs ys}:SqL K H p xs->SqL K H q ys->xs.length≠ys.length->EqR K H p q false
 |tup {xs ys} {e:Nat->Bool}:SqT K H p xs->SqT K H q ys->(∀j x y,xs[j]? = some x->ys[j]? = some y->EqH K H 50 x y (e j))->EqR K H p q ((Zw (min xs.length ys.length)).all e&&xs.length==ys.length)
def F7(K:Ws)(neg:Bool):R2
 | .ref p,.ref q,H,Q=>∃b,EqR K H p q b/\Q (.bl (neg ^^ b)) H
 |_,_,_,_=>False
def Hl(K:Ws)(hu:X.A.units+100<cLine)(hK:X.K=K:=by rfl):OpR X (Zd .Eq) (F7 K false):=by
 subst hK;intro WY s σ H x y v u Q I rx ry h;cases x with
 |ref p=>
  cases y with
  |ref q=>
   obtain⟨b,hb,q⟩:=h;cases rx;cases ry;cases hb with
   | @lst xs ys e hx hy hl he=>
    obtain⟨WV,r,pl,hz⟩:=I.list hx;obtain⟨its',r',pl',hz'⟩:=I.list hy;have h1:xs.length=WV.length:=r.length;have h2:ys.length=its'.length:=r'.length;refine SeqAt.eq_listAt (e:=e) pl.isList pl'.isList (by simp;lia) (by lia) (gR r r' fun j x y u v g1 g2 r1 r2=>(he j x y g1 g2).at rfl I (by show X.A.units+1+50<cLine;lia) r1 r2) ⟨.bl _,H,I,rfl,?_⟩;rw[yX,<- h1];simpa using q
   | @len xs ys hx hy hl=>
    obtain⟨WV,r,pl,hz⟩:=I.list hx;obtain⟨its',r',pl',hz'⟩:=I.list hy;have h1:xs.length=WV.length:=r.length;have h2:ys.length=its'.length:=r'.length;exact SeqAt.eq_list_lengthsAt pl.isList pl'.isList (by simp;lia) (by lia) ⟨.bl false,H,I,rfl,by simpa using q⟩
   | @tup xs ys e hx hy he=>
    obtain⟨WV,r,pl,hz⟩:=I.tuple hx;obtain⟨its',r',pl',hz'⟩:=I.tuple hy;have h1:xs.length=WV.length:=r.length;have h2:ys.length=its'.length:=r'.length;refine SeqAt.eq_tupleAt (e:=e) pl pl' (by lia) (gR r r' fun j x y u v g1 g2 r1 r2=>(he j x y g1 g2).at rfl I (by show X.A.units+1+50<cLine;lia) r1 r2) ⟨.bl _,H,I,rfl,?_⟩;rw[yX,yX,<- h1,<- h2];simpa using q
  |_=>exact WZ h
 |_=>exact WZ h
def Gy(K:Ws)(hu:X.A.units+100<cLine)(hK:X.K=K:=by rfl):OpR X (Zd .NotEq) (F7 K true):=by
 subst hK;intro WY s σ H x y v u Q I rx ry h;cases x with
 |ref p=>
  cases y with
  |ref q=>
   obtain⟨b,hb,q⟩:=h;cases rx;cases ry;cases hb with
   | @lst xs ys e hx hy hl he=>
    obtain⟨WV,r,pl,hz⟩:=I.list hx;obtain⟨its',r',pl',hz'⟩:=I.list hy;have h1:xs.length=WV.length:=r.length;have h2:ys.length=its'.length:=r'.length;refine SeqAt.RcNeAt.lists (e:=e) pl.isList pl'.isList (by simp;lia) (by lia) (gR r r' fun j x y u v g1 g2 r1 r2=>(he j x y g1 g2).at rfl I (by show X.A.units+1+50<cLine;lia) r1 r2) X.prog X.w X.xe _ ⟨.bl _,H,I,rfl,?_⟩;rw[yX,<- h1];simpa using q
   | @len xs ys hx hy hl=>
    obtain⟨WV,r,pl,hz⟩:=I.list hx;obtain⟨its',r',pl',hz'⟩:=I.list hy;have h1:xs.length=WV.length:=r.length;have h2:ys.length=its'.length:=r'.length;exact SeqAt.RcNeAt.lists_lengths pl.isList pl'.isList (by simp;lia) (by lia) X.prog X.w X.xe _ ⟨.bl true,H,I,rfl,by simpa using q⟩
   | @tup xs ys e hx hy he=>
    obtain⟨WV,r,pl,hz⟩:=I.tuple hx;obtain⟨its',r',pl',hz'⟩:=I.tuple hy;have h1:xs.length=WV.length:=r.length;have h2:ys.length=its'.length:=r'.length;refine SeqAt.RcNeAt.tuples (e:=e) pl pl' (by lia) (gR r r' fun j x y u v g1 g2 r1 r2=>(he j x y g1 g2).at rfl I (by show X.A.units+1+50<cLine;lia) r1 r2) X.prog X.w X.xe _ ⟨.bl _,H,I,rfl,?_⟩;rw[yX,yX,<- h1,<- h2];simpa using q
  |_=>exact WZ h
 |_=>exact WZ h
def EqR.flatL{K:Ws}{H:Hp}{p q:WH}{xs:List V}(hx:SqL K H p xs)(hy:SqL K H q xs)(f:xs.all cY=true):EqR K H p q true:=by
 have h:=EqR.lst (K:=K) (H:=H) (e:=fun j=>eqV (xs.getD j .non) (xs.getD j .non)) hx hy rfl fun j x y gx gy=>by
  have e1:xs.getD j .non=x:=by simp[List.getD,gx]
  rw[e1];rw[gx]at gy;cases gy;exact .flat (Zk.mp f _ (yo gx)) (Zk.mp f _ (yo gx))
 have e:(Zw xs.length).all (fun j=>eqV (xs.getD j .non) (xs.getD j .non))=true:=by
  rw[Zk];intro j hj;have hf:cY (xs.getD j .non)=true:=by
   have hj':j<xs.length:=by simpa using hj
   have:xs.getD j .non∈xs:=by
    have e1:xs.getD j .non=xs[j]:=by simp[List.getD,hj']
    rw[e1];exact List.getElem_mem hj'
   exact Zk.mp f _ this
  generalize xs.getD j .non=z at hf;cases z <;> simp[eqV]at hf |- <;> simp[cY]at hf
 rw[e]at h;exact h
end
end L2
namespace PySem
open Sem (wp)
open Builtin
end PySem
namespace L2
open PySem PySem.Spec PyProof.Rows Builtin Builtin.Str
section
variable{X:Cx}{e a b c:Expr}{pos:Pos}
def ka(K:Ws)(neg:Bool):R2:=fun x y H Q=>match eqS x y with
 |some k=>Q (.bl (neg ^^ k)) H
 |none=>F7 K neg x y H Q
def bS(K:Ws)(hu:X.A.units+100<cLine)(hK:X.K=K:=by rfl):OpR X (Zd .Eq) (ka K false):=((Hj (by lia)).or (Hl K hu hK)).imp fun x y H Q h=>by
 unfold ka at h;split at h
 .rename_i k hk
  obtain⟨h1,h2⟩:=uF hk;exact .inl (.inl ⟨h1,by rw[h2];simpa using h⟩)
 .exact .inr h
def fT(K:Ws)(hu:X.A.units+100<cLine)(hK:X.K=K:=by rfl):OpR X (Zd .NotEq) (ka K true):=((F0 (by lia)).or (Gy K hu hK)).imp fun x y H Q h=>by
 unfold ka at h;split at h
 .rename_i k hk
  obtain⟨h1,h2⟩:=uF hk;exact .inl (.inl ⟨h1,by rw[h2];simpa using h⟩)
 .exact .inr h
variable{K:Ws}{neg:Bool}{H:Hp}{Q:VK}
def Dy:ka K neg (.int i) (.int j) H Q=Q (.bl (neg ^^ decide (i=j))) H:=rfl
def GZ:ka K neg (.bl i) (.bl j) H Q=Q (.bl (neg ^^ decide (i=j))) H:=rfl
def C1:ka K neg (.str i) (.str j) H Q=Q (.bl (neg ^^ decide (i.cps.toList=j.cps.toList))) H:=rfl
def CP:ka K neg (.ref p) (.ref q) H Q = ∃b,EqR K H p q b/\Q (.bl (neg ^^ b)) H:=rfl
def GD:ka K neg .non .non H Q=Q (.bl (neg ^^ true)) H:=rfl
def GJ:ka K neg .non (.int i) H Q=Q (.bl (neg ^^ false)) H:=rfl
def Gq:ka K neg (.int i) .non H Q=Q (.bl (neg ^^ false)) H:=rfl
def HF:ka K neg (.int i) (.str s) H Q=Q (.bl (neg ^^ false)) H:=rfl
def Ge:ka K neg (.str s) (.int i) H Q=Q (.bl (neg ^^ false)) H:=rfl
end
def cf{K:Ws}{tl:TE}{g:TG}{tb:TS}{D:fo}{σ:St}{H:Hp}(h:tl σ H fun v H1=>pI (mR K (tC v)) g tb D σ H1):pI (mR K tl) g tb D σ H:=h
def cN{K:Ws}{a:WH}{xs:List V}{g:TG}{tb:TS}{D:fo}{σ:St}{H:Hp}(hq:SqL K H a xs)(h:∃W:Nat->Nat->St->Hp->Prop,(∃m,W 0 m σ H)/\∀i m σ H,W i m σ H ->
 ((Itl K a).stop i H/\D.nx σ H)\/((Itl K a).go i H/\∃N:St->Hp->Prop,(∀σ' H',N σ' H'->∃m',m'<m/\W (i+1) m' σ' H')/\∀x H',(Itl K a).yld i H x H'->g x σ H' fun σ2 H2=>tb { D with nx:=N,ct:=N,bk:=D.nx } σ2 H2)):pI (mR K (tC (.ref a))) g tb D σ H:=⟨a,rfl,⟨xs,hq⟩,h⟩
def B6(h:atI xs i=some (.ref q))(hq:H q=none)(ho:H1 q=some o)(po:iQ o=true)(k:Q (.ref q) (upd H q o)):gW xs H H1 Q (.int i):=by
 unfold gW;simp only[h,ho];exact⟨hq,po,k⟩
def yl{ls:List (List Nat)}{i:Int}(h0:0<=i)(h1:i<ls.length)(q:∀l∈ls,Q (T l) H):gW (ls.map T) H H1 Q (.int i):=by
 obtain⟨j,rfl⟩:∃j:Nat,i=j:=⟨i.toNat,by lia⟩;have hj:j<ls.length:=by lia
 have e:atI (ls.map T) (j:Int)=some (T ls[j]):=aO (by simp[hj]);simp only[gW,e];exact q _ (List.getElem_mem hj)
def zg(lo:Int)(n:Nat):Enum (Itr lo n) ((Zw n).map fun k=>V.int (lo+(k:Nat))):=by
 refine⟨fun i H h=>by simpa [Itr] using h,fun i H x H' hi y=>?_,fun H=>by simp[Itr]⟩;obtain⟨e,rfl⟩:=y;refine⟨e,?_⟩;have hi':i<n:=by simpa using hi
 simp[hi']
end L2
namespace L2
def cT(r:Room k A):A.units+100<PySem.cLine:=by have:=r.un;lia
end L2
namespace L2
open PySem PySem.Spec PyProof.Rows
section
variable{κ:Type}[DecidableEq κ]
noncomputable def bG(WU:List (κ × V))(k:κ):Option V:=(WU.find? fun kv=>decide (kv.1=k)).map (·.2)
noncomputable def bD(WU:List (κ × V))(k:κ)(v:V):List (κ × V):=
 if (WU.any fun kv=>decide (kv.1=k))=true then WU.map (fun kv=>if kv.1=k then (kv.1,v) else kv) else WU++[(k,v)]
noncomputable def KG(WU:List (κ × V))(k:κ):List (κ × V):=WU.filter fun kv=>decide (kv.1≠k)
def bV{p:κ × V}{r:List (κ × V)}{k:κ}(e:p.1=k):bG (p::r) k=some p.2:=by simp[bG,List.find?_cons,e]
def bW{p:κ × V}{r:List (κ × V)}{k:κ}(e:¬ p.1=k):bG (p::r) k=bG r k:=by simp[bG,List.find?_cons,e]
theorem fB(k:κ):∀WU:List (κ × V),(WU.any fun kv=>decide (kv.1=k))=(bG WU k).isSome
 | []=>rfl
 |p::r=>by
  rw[List.any_cons];by_cases e:p.1=k
  .simp only[bV e,VX e,Bool.true_or,Option.isSome_some]
  .rw[bW e,VW e,Bool.false_or];exact fB k r
theorem uh(k j:κ)(y:V):∀WU:List (κ × V),bG (WU.map fun kv=>if kv.1=k then (kv.1,y) else kv) j=(bG WU j).map fun x=>if j=k then y else x
 | []=>rfl
 |p::r=>by
  have ih:=uh k j y r;rw[yH];by_cases h:p.1=k
  .rw[VY h]
   by_cases e:p.1=j
   .rw[bV (p:=(p.1,y)) e,bV e,Option.map_some,VY (e.symm.trans h)]
   .rw[bW (p:=(p.1,y)) e,bW e,ih]
  .rw[VZ h]
   by_cases e:p.1=j
   .rw[bV (p:=p) e,bV e,Option.map_some,VZ (fun z=>h (e.trans z))]
   .rw[bW (p:=p) e,bW e,ih]
theorem qd(k j:κ)(y:V):∀WU:List (κ × V),bG WU k=none->bG (WU++[(k,y)]) j=if j=k then some y else bG WU j
 | [],_=>by
  by_cases e:k=j
  .rw[VY e.symm];exact bV (p:=(k,y)) e
  .rw[VZ (fun z=>e z.symm)];exact bW (p:=(k,y)) e
 |p::r,hn=>by
  rw[YS];have hk:¬ p.1=k:=fun z=>by rw[bV z]at hn;cases hn
  rw[bW hk]at hn;have ih:=qd k j y r hn;by_cases e:p.1=j
  .rw[bV e,bV e,VZ (fun z=>hk (e.trans z))]
  .rw[bW e,bW e,ih]
def BI(WU:List (κ × V))(k j:κ)(y:V):bG (bD WU k y) j=if j=k then some y else bG WU j:=by
 unfold bD;by_cases a:(WU.any fun kv=>decide (kv.1=k))=true
 .rw[VY a,uh]
  rw[fB]at a;by_cases e:j=k
  .obtain⟨x,hx⟩:=Option.isSome_iff_exists.mp a
   rw[VY e,e,hx,Option.map_some,VY rfl]
  .rw[VZ e]
   cases bG WU j with
   |none=>rfl
   |some x=>rw[Option.map_some,VZ e]
 .rw[VZ a]
  refine qd k j y WU ?_;rw[fB]at a;cases q:bG WU k with
  |none=>rfl
  |some x=>rw[q]at a;exact(a rfl).elim
def cG(WU:List (κ × V))(k:κ)(v:V):(bD WU k v).length<=WU.length+1:=by
 unfold bD;split
 .rw[zV];lia
 .rw[zA,vZ,Xo];lia
def j8{WU:List (κ × V)}{k:κ}(v:V)(h:bG WU k=none):bD WU k v=WU++[(k,v)]:=by
 unfold bD;rw[fB,h];exact VZ (by decide)
def RelO.isSome_eq{o:Option V}{u:Option WI}(r:RelO o u):o.isSome=u.isSome:=by
 cases o with
 |none=>cases u with
  |none=>rfl
  |some _=>exact(show False from r).elim
 |some _=>cases u with
  |none=>exact(show False from r).elim
  |some _=>rfl
def RelO.getD{o:Option V}{u:Option WI}{d:V}{d':WI}(r:RelO o u)(rd:WQ d d'):WQ (o.getD d) (u.getD d'):=by
 cases o with
 |none=>cases u with
  |none=>exact rd
  |some _=>exact(show False from r).elim
 |some _=>cases u with
  |none=>exact(show False from r).elim
  |some _=>exact r
def KV.val{WU:List (κ × V)}{vs:List (κ × WI)}(r:KV WU vs)(k:κ):RelO (bG WU k) (valueAt vs k):=by
 unfold KV at r
 induction r with
 |nil=>exact Yx
 | @cons p q ps qs h t ih=>
  obtain⟨h1,h2⟩:=h;by_cases e:p.1=k
  .have e':q.1=k:=h1.symm.trans e
   have b:valueAt (q::qs) k=some q.2:=by simp[valueAt,List.find?_cons,e']
   rw[bV e,b];exact h2
  .have e':¬ q.1=k:=fun z=>e (h1.trans z)
   have b:valueAt (q::qs) k=valueAt qs k:=by simp[valueAt,List.find?_cons,e']
   rw[bW e,b];exact ih
def KV.any{WU:List (κ × V)}{vs:List (κ × WI)}(r:KV WU vs)(k:κ):(WU.any fun kv=>decide (kv.1=k))=vs.any fun kv=>decide (kv.1=k):=by
 unfold KV at r
 induction r with
 |nil=>rfl
 |cons h t ih=>rw[List.any_cons,List.any_cons,ih,h.1]
def KV.repl{WU:List (κ × V)}{vs:List (κ × WI)}(r:KV WU vs)(k:κ){y:V}{u:WI}(ry:WQ y u) :
 KV (WU.map fun kv=>if kv.1=k then (kv.1,y) else kv) (vs.map fun kv=>if kv.1=k then (kv.1,u) else kv):=by
 unfold KV at r |-
 induction r with
 |nil=>exact .nil
 | @cons p q ps qs h t ih=>
  rw[yH,yH];refine .cons ?_ ih;obtain⟨h1,h2⟩:=h;by_cases e:p.1=k
  .rw[VY e,VY (h1.symm.trans e)];exact⟨h1,ry⟩
  .rw[VZ e,VZ (fun z=>e (h1.trans z))];exact⟨h1,h2⟩
def KV.put{WU:List (κ × V)}{vs:List (κ × WI)}(r:KV WU vs)(k:κ){y:V}{u:WI}(ry:WQ y u):KV (bD WU k y) (stored vs k u):=by
 unfold bD stored;rw[r.any k];by_cases e:(vs.any fun kv=>decide (kv.1=k))=true
 .rw[VY e,VY e];exact r.repl k ry
 .rw[VZ e,VZ e];exact Paired.snoc r ⟨rfl,ry⟩
def KV.keys{WU:List (κ × V)}{vs:List (κ × WI)}(r:KV WU vs):WU.map (·.1)=vs.map (·.1):=by
 unfold KV at r
 induction r with
 |nil=>rfl
 |cons h t ih=>rw[yH,yH,ih,h.1]
def KV.length{WU:List (κ × V)}{vs:List (κ × WI)}(r:KV WU vs):WU.length=vs.length:=Xl r
end
def ko{P:WF}{w:WE}{k:Key}{u:WI}(r:WQ (kV k) u):(bJ P w).is k u=true:=by
 cases k with
 |inl i=>obtain⟨t,e⟩:=(show ∃t,u=Value.int i t from r);subst e;exact uz P w i t
 |inr x=>obtain⟨t,e⟩:=(show ∃t,u=XY x t from r);subst e;exact um P w x t
def Cn{a b:Key}(e:kV a=kV b):a=b:=by
 cases a with
 |inl i=>cases b with
  |inl j=>have e':V.int i=V.int j:=e;injection e' with e';rw[e']
  |inr y=>exact nomatch (show V.int i=V.str y from e)
 |inr x=>cases b with
  |inl j=>exact nomatch (show V.str x=V.int j from e)
  |inr y=>have e':V.str x=V.str y:=e;injection e' with e';rw[e']
theorem sQ:∀ {a b:List Key},a.map kV=b.map kV->a=b
 | [],[],_=>rfl
 | [],_::_,e=>by simp at e
 |_::_,[],e=>by simp at e
 |x::xs,y::ys,e=>by
  rw[yH,yH]at e;injection e with e1 e2
  rw[Cn e1,sQ e2]
theorem qf{P:WF}{w:WE}:∀ {ks:List Key} {us:List WI},WP (ks.map kV) us->ItemsAre (bJ P w) ks us
 | [],_,r=>by rw[YB]at r;cases r;exact .nil
 |k::ks,_,r=>by
  rw[yH]at r;cases r with
  |cons h t=>exact .cons (ko h) (qf t)
abbrev KT(H:Hp):List (List Key × V)->List (List Key × WH × WI)->Prop:=Paired fun p q=>p.1=q.1/\H q.2.1=some (.tup (p.1.map kV))/\WQ p.2 q.2.2
def KT.val{H:Hp}{WU:List (List Key × V)}{xs:List (List Key × WH × WI)}(r:KT H WU xs)(k:List Key):RelO (bG WU k) ((atKey xs k).map (·.2)):=by
 induction r with
 |nil=>exact Yx
 | @cons p q ps qs h t ih=>
  obtain⟨h1,_,h2⟩:=h;by_cases e:p.1=k
  .have e':q.1=k:=h1.symm.trans e
   have b:atKey (q::qs) k=some q.2:=by simp[atKey,List.find?_cons,e']
   rw[bV e,b];exact h2
  .have e':¬ q.1=k:=fun z=>e (h1.trans z)
   have b:atKey (q::qs) k=atKey qs k:=by simp[atKey,List.find?_cons,e']
   rw[bW e,b];exact ih
def KT.repl{H:Hp}{WU:List (List Key × V)}{xs:List (List Key × WH × WI)}(r:KT H WU xs)(k:List Key){y:V}{u:WI}(ry:WQ y u) :
 KT H (WU.map fun kv=>if kv.1=k then (kv.1,y) else kv) (xs.map (putAt k u)):=by
 induction r with
 |nil=>exact .nil
 | @cons p q ps qs h t ih=>
  rw[yH,yH];refine .cons ?_ ih;obtain⟨h1,h2,h3⟩:=h;unfold putAt;by_cases e:p.1=k
  .rw[VY e,VY (h1.symm.trans e)];exact⟨h1,h2,ry⟩
  .rw[VZ e,VZ (fun z=>e (h1.trans z))];exact⟨h1,h2,h3⟩
def KT.put{H:Hp}{WU:List (List Key × V)}{xs:List (List Key × WH × WI)}(r:KT H WU xs)(k:List Key){b:WH}{y:V}{u:WI}(hb:H b=some (.tup (k.map kV)))(ry:WQ y u) :
 KT H (bD WU k y) (storedH xs k b u):=by
 have e:(WU.any fun kv=>decide (kv.1=k))=(atKey xs k).isSome:=by
  rw[fB,(r.val k).isSome_eq,YA]
 unfold bD storedH;rw[e];by_cases q:(atKey xs k).isSome=true
 .rw[VY q,VY q];exact r.repl k ry
 .rw[VZ q,VZ q];exact Paired.snoc r ⟨rfl,hb,ry⟩
def KT.keeps{H H':Hp}{WU:List (List Key × V)}{xs:List (List Key × WH × WI)}(r:KT H WU xs)(ht:∀b ys,H b=some (.tup ys)->H' b=some (.tup ys)):KT H' WU xs:=
 Paired.mapP r fun _ _ z=>⟨z.1,ht _ _ z.2.1,z.2.2⟩
section
variable{P:WF}{w:WE}{H:Hp}{h:Wz}{a:WH}
def zW{u:HO}(ok:HOk P w H h)(e:Rd H a u):WO P w H h a u:=e.ok ok
def mt{WU:List (Key × V)}(ok:HOk P w H h)(e:Rd H a (.dK WU)):WU.length<=WC/\(a==ZH)=false/\∃vs,KV WU vs/\h.DictOf (bJ P w) a vs:=
 show WO P w H h a (.dK WU) from zW ok e
def tQ{WU:List (Key × V)}(ok:HOk P w H h)(e:H a=some (.dK WU)):WU.length<=WC/\(a==ZH)=false/\∃vs,KV WU vs/\h.DictOf (bJ P w) a vs:=mt ok (.inl e)
def iI{ks:List Key}(ok:HOk P w H h)(e:H a=some (.tup (ks.map kV))):(tupleKind (bJ P w)).is h ks a:=by
 obtain⟨_,WV,r,o,h1,h2,n,h3⟩:=(show WO P w H h a (.tup (ks.map kV)) from ok a _ e);exact⟨o,WV.toArray,n,h1,h2,h3,by simpa using qf r⟩
def mG{WU:List (List Key × V)}(ok:HOk P w H h)(e:Rd H a (.dT WU)):WU.length<=WC/\(a==ZH)=false /\
 ∃xs,KT H WU xs/\h.DictOfH (tupleKind (bJ P w)) a xs:=by
 obtain⟨z,y,xs,r,o,es,ep,h1,h2,h3,h4,h5⟩:=(show WO P w H h a (.dT WU) from zW ok e);refine⟨z,y,xs,r,o,es,ep,h1,h2,h3,h4,fun x hx=>?_,h5⟩;have all:∀ {l:List (List Key × V)} {m:List (List Key × WH × WI)},KT H l m->∀x∈m,(tupleKind (bJ P w)).is h x.1 x.2.1:=by
  intro l m q
  induction q with
  |nil=>intro x hx;exact nomatch hx
  | @cons p q ps qs hq t ih=>
   intro x hx;obtain e|hx:=z9.mp hx
   .subst e
    exact iI ok (by rw[<- hq.1];exact hq.2.1)
   .exact ih x hx
 exact all r x hx
def zP{WU:List (List Key × V)}(ok:HOk P w H h)(e:H a=some (.dT WU)):WU.length<=WC/\(a==ZH)=false /\
 ∃xs,KT H WU xs/\h.DictOfH (tupleKind (bJ P w)) a xs:=mG ok (.inl e)
end
def DGet(H:Hp)(a:WH)(y:V)(r:Option V):Prop:=
 (∃WU k,Rd H a (.dK WU)/\y=kV k/\r=bG WU k)\/∃WU k b,Rd H a (.dT WU)/\y = .ref b/\H b=some (.tup (k.map kV))/\r=bG WU k
def DPut(H:Hp)(a:WH)(y v:V)(H':Hp):Prop:=
 (∃WU k,H a=some (.dK WU)/\y=kV k/\WU.length<WC/\H'=upd H a (.dK (bD WU k v))) \/
 ∃WU k b,H a=some (.dT WU)/\y = .ref b/\H b=some (.tup (k.map kV))/\WU.length<WC/\H'=upd H a (.dT (bD WU k v))
def DGet.k{H:Hp}{a:WH}{WU:List (Key × V)}{k:Key}(e:H a=some (.dK WU)):DGet H a (kV k) (bG WU k):=.inl ⟨WU,k,.inl e,rfl,rfl⟩
def DGet.t{H:Hp}{a b:WH}{WU:List (List Key × V)}{k:List Key}(e:H a=some (.dT WU))(eb:H b=some (.tup (k.map kV))):DGet H a (.ref b) (bG WU k):=.inr ⟨WU,k,b,.inl e,rfl,eb,rfl⟩
def DPut.k{H:Hp}{a:WH}{WU:List (Key × V)}{k:Key}{v:V}(e:H a=some (.dK WU))(hl:WU.length<WC):DPut H a (kV k) v (upd H a (.dK (bD WU k v))):=.inl ⟨WU,k,e,rfl,hl,rfl⟩
def DPut.t{H:Hp}{a b:WH}{WU:List (List Key × V)}{k:List Key}{v:V}(e:H a=some (.dT WU))(eb:H b=some (.tup (k.map kV)))(hl:WU.length<WC) :
 DPut H a (.ref b) v (upd H a (.dT (bD WU k v))):=.inr ⟨WU,k,b,e,rfl,eb,hl,rfl⟩
section
variable{X:Cx}{WY:List (WH × Obj)}{σ:St}{H:Hp}{s:WG}{a:WH}{y v:V}{u r:WI}{o:Option V}{A:WD}{E:WI->WG->Prop}
def WL.big(I:WL X WY σ H s):ZH<s.heap.objs.size:=by
 have h:ZB<s.heap.objs.size:=(I.mod.glob.keeps I.bk).lt;exact Nat.lt_trans (by decide) h
def yK{Q:WI->WG->Prop}(hu:A.units+1<cLine)(I:WL X WY σ H s)(g:DGet H a y (some v))(ry:WQ y u)(h:∀w' s',WL X WY σ H s'->WQ v w'->Q w' s') :
 WB (WA X.prog X.w) A (getItem (.ref a) u) Q E s:=by
 obtain⟨WU,k,e,ey,l⟩|⟨WU,k,b,e,ey,eb,l⟩:=g
 .subst ey
  obtain⟨z,hd,vs,rel,dd⟩:=mt I.hok e;obtain⟨w',hw,rw'⟩:=RelO.some_of (v:=v) (o:=valueAt vs k) (by rw[l];exact rel.val k);exact wpAny_getItem_of (ko ry) dd.mapOf hw (h w' _ (I.tok _) rw')
 .subst ey
  cases (show u=yJ b from ry);obtain⟨z,hd,xs,rel,dd⟩:=mG I.hok e;obtain⟨w',hw,rw'⟩:=RelO.some_of (v:=v) (o:=(atKey xs k).map (·.2)) (by rw[l];exact rel.val k);obtain⟨p,hp,hp2⟩:=sx.mp hw;refine wpAny_getItem_heap (Yp hu) (iI I.hok eb) dd hp ?_;rw[hp2];exact h w' _ (I.tok _) rw'
def Kn{Q:WI->WG->Prop}(hu:A.units+1<cLine)(I:WL X WY σ H s)(g:DGet H a y o)(ry:WQ y u)(h:∀s',WL X WY σ H s'->Q (.bool o.isSome) s') :
 WB (WA X.prog X.w) A (Zd .In u (.ref a)) Q E s:=by
 obtain⟨WU,k,e,ey,l⟩|⟨WU,k,b,e,ey,eb,l⟩:=g
 .subst ey
  obtain⟨z,hd,vs,rel,dd⟩:=mt I.hok e;refine wpAny_in_of (ko ry) hd dd.mapOf ?_;rw[<- (rel.val k).isSome_eq,<- l];exact h _ (I.tok _)
 .subst ey
  cases (show u=yJ b from ry);obtain⟨z,hd,xs,rel,dd⟩:=mG I.hok e;refine wpAny_in_heap (Yp hu) (iI I.hok eb) hd dd ?_;have q:=(rel.val k).isSome_eq;rw[YA]at q;rw[<- q,<- l];exact h _ (I.tok _)
def EF{Q:WI->WG->Prop}(hu:A.units+1<cLine)(I:WL X WY σ H s)(g:DGet H a y o)(ry:WQ y u)(h:∀s',WL X WY σ H s'->Q (.bool (!o.isSome)) s') :
 WB (WA X.prog X.w) A (Zd .NotIn u (.ref a)) Q E s:=by
 obtain⟨WU,k,e,ey,l⟩|⟨WU,k,b,e,ey,eb,l⟩:=g
 .subst ey
  obtain⟨z,hd,vs,rel,dd⟩:=mt I.hok e;refine wpAny_notIn_of (ko ry) hd dd.mapOf ?_;rw[<- (rel.val k).isSome_eq,<- l];exact h _ (I.tok _)
 .subst ey
  cases (show u=yJ b from ry);obtain⟨z,hd,xs,rel,dd⟩:=mG I.hok e;refine wpAny_notIn_heap (Yp hu) (iI I.hok eb) hd dd ?_;have q:=(rel.val k).isSome_eq;rw[YA]at q;rw[<- q,<- l];exact h _ (I.tok _)
def kJ{h':Wz}{t':Nat}{ob:HO}(I:WL X WY σ H s)(mu:Mut (H a))(hs:Yz a s.heap h')(he:∃q,h'.get? a=some q)(new:WO X.prog X.w (upd H a ob) h' a ob) :
 WL X WY σ (upd H a ob) { s with heap:=h',toks:=t' }:=
 I.write (x:=a) (e:=a) mu (.inl rfl) (fun b q hb z=>(hs.2 b hb).trans z) he new
def v7{P:WF}{w:WE}{H':Hp}{h':Wz}{WU:List (Key × V)}{vs:List (Key × WI)}(z:WU.length<=WC)(hd:(a==ZH)=false)(rel:KV WU vs)(dd:h'.DictOf (bJ P w) a vs) :
 WO P w H' h' a (.dK WU):=⟨z,hd,vs,rel,dd⟩
def yC{H':Hp}{Q:Unit->WG->Prop}(hu:A.units+1<cLine)(I:WL X WY σ H s)(g:DPut H a y v H')(ry:WQ y u)(rv:WQ v r)(h:∀s',WL X WY σ H' s'->Q () s') :
 WB (WA X.prog X.w) A (setItem (.ref a) u r) Q E s:=by
 obtain⟨WU,k,e,ey,l,eH⟩|⟨WU,k,b,e,ey,eb,l,eH⟩:=g
 .subst ey eH
  obtain⟨z,hd,vs,rel,dd⟩:=tQ I.hok e;have hz:vs.length<=WC:=by rw[<- rel.length];exact z
  have hl:(bD WU k v).length<=WC:=by have:=cG WU k v;lia
  refine wpAny_setItem_pairs (hsz:=hz) (ko ry) dd fun h' dd' hs=>h _ ?_;have he:∃q,h'.get? a=some q:=let ⟨q,_,_,hq,_⟩:=dd';⟨q,hq⟩;exact kJ I (by rw[e];exact Yx) hs he (v7 hl hd (rel.put k rv) dd')
 .subst ey eH
  cases (show u=yJ b from ry);obtain⟨z,hd,xs,rel,dd⟩:=zP I.hok e;have hz:xs.length<=WC:=by rw[<- Xl rel];exact z
  have hl:(bD WU k v).length<=WC:=by have:=cG WU k v;lia
  refine wpAny_setItem_heap (hsz:=hz) (Yp hu) (iI I.hok eb) dd fun h' dd' hs=>h _ ?_;obtain⟨q,es,ep,hq,h2,h3,h4,_,h5⟩:=dd';refine kJ I (by rw[e];exact Yx) hs ⟨q,hq⟩ ⟨hl,hd,_,(rel.put k eb rv).keeps fun c ys ec=>?_,q,es,ep,hq,h2,h3,h4,h5⟩;rw[ag (gL ec e (fun z=>nomatch z))];exact ec
end
def IJ(i:Expr):Prop:=∀ov iv,subscripted i false ov iv=operate [ov,iv] (getItem ov iv)
def C0{prog:WF}{w:WE}{A:WD}{E:WI->WG->Prop}{s:WG}{env:Env}{value slice:Expr}{pos:Pos}{T id:String}{Q:WI->WG->Prop}
 (hl:typeLookup (.type T) "__getitem__" = pure (some (.builtin id))) (hs:IJ slice)
 (h:WB (WA prog w) A (eval value env) (fun o s₁=>WB (WA prog w) A (eval slice env) (fun i s₂=>s₂.TypeIs o T/\WB (WA prog w) A (getItem o i) Q E s₂) E s₁) E s) :
 WB (WA prog w) A (eval (.Subscript value slice pos) env) Q E s:=by
 refine Subscript_ (Zf h (fun o s₁ h₁=>Zf h₁ (fun i s₂ h₂=>?_) fun _ _ x=>x) fun _ _ x=>x);obtain⟨hT,h₂⟩:=h₂;unfold subscriptTail;refine zd ?_;rw[getitemInPython_of_ne hT.not_modules];refine zd (wpAny_specialOf hT hl ?_);have fin:WB (WA prog w) A (subscripted slice false o i) (fun r s₃=>WB (WA prog w) A (letTemporaryGo value o r >>= fun _=>pure r) Q E s₃) E s₂:=by
  rw[hs o i];exact wpAny_operating (Zf h₂ (fun r s₃ h₃=>zd (wpAny_letTemporaryGo (zJ h₃))) fun _ _ x=>x)
 first
  |exact zJ (zd fin)
  |exact zd (zJ (zd fin))
  |exact zd fin
def tL{X:Cx}{WY:List (WH × Obj)}{σ:St}{H:Hp}{s:WG}{a:WH}{y:V}{o:Option V}(I:WL X WY σ H s)(g:DGet H a y o):s.TypeIs (.ref a) "dict":=by
 obtain⟨WU,k,e,_,_⟩|⟨WU,k,b,e,_,_,_⟩:=g
 .obtain⟨_,_,vs,_,dd⟩:=mt I.hok e
  exact dd.typeIs
 .obtain⟨_,_,xs,_,dd⟩:=mG I.hok e
  exact dd.typeIs
def Fd(td ty:TE):TE:=fun σ H Q=>td σ H fun x H1=>ty σ H1 fun y H2=>∃a v,x = .ref a/\DGet H2 a y (some v)/\Q v H2
def Ji(ty td:TE):TE:=fun σ H Q=>ty σ H fun y H1=>td σ H1 fun x H2=>∃a o,x = .ref a/\DGet H2 a y o/\Q (.bl o.isSome) H2
def xB(ty td:TE):TE:=fun σ H Q=>ty σ H fun y H1=>td σ H1 fun x H2=>∃a o,x = .ref a/\DGet H2 a y o/\Q (.bl (!o.isSome)) H2
def Fi(td ty tv:TE):TS:=fun D σ H=>tv σ H fun v H1=>td σ H1 fun x H2=>ty σ H2 fun y H3=>∃a H4,x = .ref a/\DPut H3 a y v H4/\D.nx σ H4
section
variable{X:Cx}{o i e value:Expr}{pos pos' tpos:Pos}{td ty tv:TE}
def aT(hu:X.A.units+1<cLine)(ho:PE X o td)(hi:PE X i ty)(hs:IJ i):PE X (.Subscript o i pos) (Fd td ty):=by
 intro WY s σ H Q I h;refine C0 PySem.F.slot_dict_getitem.lookup hs (thn (ho WY s σ H _ I h) fun u s1 ⟨x,H1,I1,rx,q1⟩=>thn (hi WY s1 σ H1 _ I1 q1) fun iv s2 hq_=>?_);obtain⟨y,H2,I2,ry,a,v,ex,g,q2⟩:=hq_;subst ex;obtain rfl:u=yJ a:=rx;exact⟨tL I2 g,yK hu I2 g ry fun w' s3 I3 rw'=>⟨v,H2,I3,rw',q2⟩⟩
def wK(hu:X.A.units+1<cLine)(hi:PE X i ty)(ho:PE X o td):PC X .In i o (Ji ty td):=by
 intro WY s σ H Q I h;refine thn (hi WY s σ H _ I h) fun iv s1 ⟨y,H1,I1,ry,q1⟩=>thn (ho WY s1 σ H1 _ I1 q1) fun u s2 hq_=>?_;obtain⟨x,H2,I2,rx,a,ov,ex,g,q2⟩:=hq_;subst ex;obtain rfl:u=yJ a:=rx;exact Kn hu I2 g ry fun s3 I3=>⟨.bl ov.isSome,H2,I3,rfl,q2⟩
def lB(hu:X.A.units+1<cLine)(hi:PE X i ty)(ho:PE X o td):PC X .NotIn i o (xB ty td):=by
 intro WY s σ H Q I h;refine thn (hi WY s σ H _ I h) fun iv s1 ⟨y,H1,I1,ry,q1⟩=>thn (ho WY s1 σ H1 _ I1 q1) fun u s2 hq_=>?_;obtain⟨x,H2,I2,rx,a,ov,ex,g,q2⟩:=hq_;subst ex;obtain rfl:u=yJ a:=rx;exact EF hu I2 g ry fun s3 I3=>⟨.bl (!ov.isSome),H2,I3,rfl,q2⟩
def cj(hu:X.A.units+1<cLine)(ho:PE X o td)(hi:PE X i ty)(hv:PE X value tv)(hs:swapsWith value (some (.Subscript o i pos')) pos.line X.env=pure false) :
 PS X (.Assign [.Subscript o i pos'] value pos) (Fi td ty tv):=by
 intro WY s σ H D I h;refine wpAny_Assign_Subscript (thn (hv WY s σ H _ I h) fun r s1 ⟨v,H1,I1,rv,q1⟩=>thn (ho WY s1 σ H1 _ I1 q1) fun u s2 ⟨x,H2,I2,rx,q2⟩=>thn (hi WY s2 σ H2 _ I2 q2) fun iv s3 hq_=>?_) hs;obtain⟨y,H3,I3,ry,a,H4,ex,g,q3⟩:=hq_;subst ex;obtain rfl:u=yJ a:=rx;exact yC hu I3 g ry rv fun s4 I4=>⟨σ,H4,I4,q3⟩
end
def Cw{P:WF}{w:WE}{H:Hp}(h:Wz)(hb:ZH<h.objs.size):WO P w H (h.push { cls:=.type "dict",data:=.dict #[] }) h.objs.size (.dK []):=
 ⟨tB _,beq_eq_false_iff_ne.mpr (Wc (Zx hb)),[],.nil,Heap.DictOf.new h⟩
def Aa{P:WF}{w:WE}{H:Hp}(h:Wz)(hb:ZH<h.objs.size):WO P w H (h.push { cls:=.type "dict",data:=.dict #[] }) h.objs.size (.dT []):=
 ⟨tB _,beq_eq_false_iff_ne.mpr (Wc (Zx hb)),[],.nil,_,#[],0,Wq _ rfl,⟨rfl,rfl,rfl⟩,rfl,rfl,ZQ⟩
def Ad:TE:=fun _ H Q=>∀p,H p=none->Q (.ref p) (upd H p (.dT []))
section
variable{X:Cx}{pos:Pos}
def n9:PE X (.Dict [] [] pos) Ad:=fun WY s σ H Q I h=>
 wpAny_Dict_empty ⟨.ref s.heap.objs.size,_,I.laid (a:=s.heap.objs.size) (o:=.dT []) (t':=s.toks) (fun _ _ q=>Wr _ q) (zK _) (Aa s.heap I.big),rfl,h _ (I.hok.fresh (zK _))⟩
end
def rJ:List (TE × TE)->St->Hp->(List (V × V)->Hp->Prop)->Prop
 | [],_,H,Q=>Q [] H
 |(tk,tv)::r,σ,H,Q=>tk σ H fun x H1=>tv σ H1 fun y H2=>rJ r σ H2 fun ps H3=>Q ((x,y)::ps) H3
abbrev VV:List (V × V)->List (WI × WI)->Prop:=Paired fun p q=>WQ p.1 q.1/\WQ p.2 q.2
def PPs(X:Cx)(pos:Pos)(keys:List (Option Expr))(values:List Expr)(trs:List (TE × TE)):Prop:=
 ∀(WY:List (WH × Obj)) (s:WG) (σ:St) (H:Hp) (Q:List (V × V)->Hp->Prop),WL X WY σ H s->rJ trs σ H Q ->
  WB (WA X.prog X.w) X.A (evalPairs (pairTrees keys values X.env pos)) (fun vs s'=>∃ps H',WL X WY σ H' s'/\VV ps vs/\Q ps H') X.xe s
def xI{X:Cx}{pos:Pos}:PPs X pos [] [] []:=fun WY s σ H Q I h=>pairTrees_nil_walk ⟨[],H,I,.nil,h⟩
def j2{X:Cx}{pos:Pos}{k v:Expr}{ks:List (Option Expr)}{vs:List Expr}{tk tv:TE}{trs:List (TE × TE)}(hk:PE X k tk)(hv:PE X v tv)(hr:PPs X pos ks vs trs) :
 PPs X pos (some k::ks) (v::vs) ((tk,tv)::trs):=fun WY s σ H Q I h=>
 pairTrees_cons_walk (thn (hk WY s σ H _ I h) fun u s1 ⟨x,H1,I1,rx,q1⟩=>thn (hv WY s1 σ H1 _ I1 q1) fun w2 s2 ⟨y,H2,I2,ry,q2⟩=>
  thn (hr WY s2 σ H2 _ I2 q2) fun ws s3 hq_=>(by obtain⟨ps,H3,I3,rel,q3⟩:=hq_;exact⟨(x,y)::ps,H3,I3,.cons ⟨rx,ry⟩ rel,q3⟩))
noncomputable def iC(WU more:List (Key × V)):List (Key × V):=more.foldl (fun acc kv=>bD acc kv.1 kv.2) WU
def KV.merge:∀ {more:List (Key × V)} {rs:List (Key × WI)} {WU:List (Key × V)} {vs:List (Key × WI)},KV more rs->KV WU vs->KV (iC WU more) (merged vs rs):=by
 intro more rs WU vs r;unfold KV at r
 induction r generalizing WU vs with
 |nil=>intro q;exact q
 | @cons p q ps qs h t ih=>
  intro r0;have e:KV (bD WU p.1 p.2) (stored vs q.1 q.2):=by
   have:=r0.put p.1 h.2;rw[<- h.1];exact this
  exact ih e
theorem jy:∀(more WU:List (Key × V)),(iC WU more).length<=WU.length+more.length
 | [],WU=>by show WU.length<=WU.length+0;lia
 |p::r,WU=>by
  have h1:=jy r (bD WU p.1 p.2);have h2:=cG WU p.1 p.2;show(iC (bD WU p.1 p.2) r).length<=_;rw[vZ];lia
theorem oS{P:WF}{w:WE}:∀ {WU:List (Key × V)} {ws:List (WI × WI)},VV (WU.map fun kv=>(kV kv.1,kv.2)) ws->∃rs,Carries (bJ P w) ws rs/\KV WU rs
 | [],_,r=>by rw[YB]at r;cases r;exact⟨[],Yx,.nil⟩
 |p::WU,_,r=>by
  rw[yH]at r;cases r with
  | @cons a b as bs h t=>
   obtain⟨rs,c,q⟩:=oS (P:=P) (w:=w) t;obtain⟨b1,b2⟩:=b;exact⟨(p.1,b2)::rs,⟨ko h.1,rfl,c⟩,.cons ⟨rfl,h.2⟩ q⟩
def E2(trs:List (TE × TE)):TE:=fun σ H Q=>∀p,H p=none->rJ trs σ (upd H p (.dK [])) fun ps H2=>H2 p=some (.dK [])/\∃WU:List (Key × V),ps=WU.map (fun kv=>(kV kv.1,kv.2))/\WU.length<=15/\Q (.ref p) (upd H2 p (.dK (iC [] WU)))
def xj{X:Cx}{pos:Pos}{keys:List (Option Expr)}{values:List Expr}{trs:List (TE × TE)}(h:PPs X pos keys values trs)(hall:keys.all (·.isSome)=true)(hl:keys.length=values.length)(h0:keys≠[])
 (h15:keys.length<=15):PE X (.Dict keys values pos) (E2 trs):=by
 intro WY s σ H Q I q;have hn:=I.hok.fresh (zK s.heap.objs.size);have I1:=I.laid (a:=s.heap.objs.size) (o:=.dK []) (h':=s.heap.push { cls:=.type "dict",data:=.dict #[] }) (t':=s.toks) (fun _ _ q=>Wr _ q) (zK _) (Cw s.heap I.big);refine wpAny_Dict_walk (knd:=bJ X.prog X.w) hall hl h0 h15 (thn (h WY _ σ _ _ I1 (q _ hn)) fun ws s2 hq_=>?_);obtain⟨ps,H2,I2,rel,e,WU,ep,lk,q2⟩:=hq_;subst ep;obtain⟨rs,c,rk⟩:=oS (P:=X.prog) (w:=X.w) rel;obtain⟨z,hd,vs0,r0,dd⟩:=tQ I2.hok e;cases r0;refine⟨rs,c,dd,fun h' dd' hs=>⟨.ref s.heap.objs.size,_,?_,rfl,q2⟩⟩;have hz:(iC [] WU).length<=WC:=by
  have h1:=jy WU [];rw[Xo]at h1;rw[ue];lia
 have he:∃q,h'.get? s.heap.objs.size=some q:=let ⟨q,_,_,hq,_⟩:=dd';⟨q,hq⟩;exact kJ I2 (by rw[e];exact Yx) hs he (v7 hz hd (rk.merge .nil) dd')
structure M2(X:Cx)(o:Expr)(m:Str)(apos:Pos)(e f:Expr)(cpos:Pos):Prop where
 base:XR o m X.env (eval o X.env)=eval o X.env
 few:((Wx cpos (Wy [e,f] X.env)).all (fun x=>!x.1)&&(backToKw cpos (XC [] X.env)).all (fun x=>x.1.isSome)
  && decide (([e,f]:List Expr).length+([]:List Keyword).length+(if ([]:List Keyword).isEmpty then 0 else 1)<30))=true
 line:(apos.endLine==cpos.line)=true
 trees:Wx cpos (Wy [e,f] X.env)=[(false,eval e X.env),(false,eval f X.env)]
def IsD(H:Hp)(a:WH):Prop:=(∃WU,Rd H a (.dK WU))\/∃WU,Rd H a (.dT WU)
def Ba{X:Cx}{WY:List (WH × Obj)}{σ:St}{H:Hp}{s:WG}{a:WH}(I:WL X WY σ H s)(d:IsD H a) :
 s.TypeIs (.ref a) "dict" /\ (∀b,yJ a = .ref b->∃ob,s.heap.get? b=some ob/\ob.dict=none)/\(a==ZH)=false:=by
 obtain⟨WU,e⟩|⟨WU,e⟩:=d
 .obtain⟨_,hd,vs,_,dd⟩:=mt I.hok e
  refine⟨dd.typeIs,fun b q=>?_,hd⟩;cases q;obtain⟨ob,_,_,h1,h2,_⟩:=dd;exact⟨ob,h1,h2.2.1⟩
 .obtain⟨_,hd,xs,_,dd⟩:=mG I.hok e
  refine⟨dd.typeIs,fun b q=>?_,hd⟩;cases q;obtain⟨ob,_,_,h1,h2,_⟩:=dd;exact⟨ob,h1,h2.2.1⟩
section
variable{X:Cx}{WY:List (WH × Obj)}{σ:St}{H:Hp}{s:WG}{a:WH}{y d:V}{u r:WI}{o:Option V}{A:WD}{E:WI->WG->Prop}
def HN{Q:WI->WG->Prop}(hu:A.units+1<cLine)(I:WL X WY σ H s)(g:DGet H a y o)(ry:WQ y u)(rd:WQ d r)(h:∀w' s',WL X WY σ H s'->WQ (o.getD d) w'->Q w' s') :
 WB (WA X.prog X.w) A (call (.builtin "dict.get") [.ref a,u,r]) Q E s:=by
 obtain⟨WU,k,e,ey,l⟩|⟨WU,k,b,e,ey,eb,l⟩:=g
 .subst ey
  obtain⟨z,hd,vs,rel,dd⟩:=mt I.hok e;refine call_meetsIn PySem.F.slot_dict_get dd.typeIs PySem.F.entry_dict_get (PySem.F.args_dict_get_3 _ _ _) (meets_dict_get_default (bJ X.prog X.w) a (ko ry) hd r) ⟨_,dd.mapOf,h _ _ (I.tok _) ?_⟩;rw[l];exact(rel.val k).getD rd
 .subst ey
  cases (show u=yJ b from ry);obtain⟨z,hd,xs,rel,dd⟩:=mG I.hok e;refine call_meetsIn PySem.F.slot_dict_get dd.typeIs PySem.F.entry_dict_get (PySem.F.args_dict_get_3 _ _ _) (meetsH_dict_get_default (tupleKind (bJ X.prog X.w)) a b hd r) ⟨Yp hu,k,xs,iI I.hok eb,dd,h _ _ (I.tok _) ?_⟩;rw[l];exact(rel.val k).getD rd
end
def BE(td ty tx:TE):TE:=fun σ H Q=>td σ H fun x H1=>∃a,x = .ref a/\IsD H1 a/\ty σ H1 fun y H2=>tx σ H2 fun z H3=>∃o,DGet H3 a y o/\Q (o.getD z) H3
section
variable{X:Cx}{o e f:Expr}{apos cpos:Pos}{td ty tx:TE}
def cR(hu:X.A.units+1<cLine)(ho:PE X o td)(he:PE X e ty)(hf:PE X f tx)(m:M2 X o "get" apos e f cpos):PE X (.Call (.Attribute o "get" apos) [e,f] [] cpos) (BE td ty tx):=by
 intro WY s σ H Q I h;refine wpAny_Call_method m.base m.few m.line XA PySem.F.slot_dict_get PySem.F.type_dict_get (thn (ho WY s σ H _ I h) fun u s1 hq_=>?_);obtain⟨x,H1,I1,rx,a,ex,d,q1⟩:=hq_;subst ex;obtain rfl:u=yJ a:=rx;obtain⟨t1,t2,_⟩:=Ba I1 d;refine⟨t1,t2,?_⟩;rw[m.trees];refine Xs rfl (Xa (Yn (thn (he WY s1 σ H1 _ I1 q1) fun iv s2 ⟨y,H2,I2,ry,q2⟩=>
  Yn (thn (hf WY s2 σ H2 _ I2 q2) fun fv s3 ⟨z,H3,I3,rz,ov,g,q3⟩=>Calls.spliced_nil ?_))))
 exact HN hu I3 g ry rz fun w' s4 I4 rw'=>⟨_,H3,I4,rw',q3⟩
end
section
variable{X:Cx}{e o value:Expr}{f:Str}{ta tv:TE}{pos pos':Pos}
def Hi(K:Ws)(f:Str):V->Hp->VK->Prop
 | .ref p,H,Q=>∃C dx fs v,H p=some (.ins C dx fs)/\Cls K C/\NoAttr K C f/\fs.lookup f=some v/\Q v H
 |_,_,_=>False
def E5(K:Ws)(ta:TE)(f:Str):TE:=fun σ H Q=>ta σ H fun x H1=>Hi K f x H1 Q
def bx(K:Ws)(he:PE X e ta)(hK:X.K=K:=by rfl)(hb:XR e f X.env (eval e X.env)=eval e X.env:=by rfl):PE X (.Attribute e f pos) (E5 K ta f):=by
 subst hK;intro WY s σ H Q I h;refine Dd hb (thn (he WY s σ H _ I h) fun u s1 ⟨x,H1,I1,rx,q⟩=>?_);dsimp only at q;unfold Hi at q;split at q
 .rename_i a
  obtain⟨C,dx,fs,v,ea,c,n,l,q⟩:=q;obtain rfl:u=yJ a:=rx;exact wk I1 ea c n l fun u' s2 I2 ru=>⟨v,H1,I2,ru,q⟩
 .exact q.elim
def Cm(K:Ws)(f:Str)(y:V):V->Hp->(Hp->Prop)->Prop
 | .ref p,H,Q=>∃C dx fs,H p=some (.ins C dx fs)/\Cls K C/\NoAttr K C f/\fs.length<1000/\Q (upd H p (.ins C dx (cW f y fs)))
 |_,_,_=>False
def EM(K:Ws)(ta tv:TE)(f:Str):TS:=fun D σ H=>tv σ H fun y H1=>ta σ H1 fun x H2=>Cm K f y x H2 fun H3=>D.nx σ H3
def dS(K:Ws)(ha:PE X o ta)(hv:PE X value tv)(hK:X.K=K:=by rfl)(hs:swapsWith value (some (.Attribute o f pos')) pos.line X.env=pure false:=by rfl):PS X (.Assign [.Attribute o f pos'] value pos) (EM K ta tv f):=by
 subst hK;intro WY s σ H D I h;refine plainObj_wpAny_Assign_Attribute (thn (hv WY s σ H _ I h) fun u s1 ⟨y,H1,I1,ry,q⟩=>thn (ha WY s1 σ H1 _ I1 q) fun ov s2 ⟨x,H2,I2,rx,q2⟩=>?_) hs;dsimp only at q2;unfold Cm at q2;split at q2
 .rename_i a
  obtain⟨C,dx,fs,ea,c,n,l,q2⟩:=q2;obtain rfl:ov=yJ a:=rx;exact wc I2 ea c n l ry fun s3 I3=>⟨σ,_,I3,q2⟩
 .exact q2.elim
end
section
variable{X:Cx}{CX:CXT}{k:Nat}{f C:WH}{fd:FuncData}{ps:List Str}{sp:Sp}{dvs:List V}{ds:List WI}{E:XKs}{x m:Str}{p pos apos:Pos}{e o:Expr}{es:List Expr}{ta:TE}{t:TA}
def xt(C:WH)(m:Str):V->Hp->(V->Prop)->Prop
 | .ref p,H,Q=>∃dx fs,H p=some (.ins C dx fs)/\fs.lookup m=none/\Q (.ref p)
 |_,_,_=>False
def ow(C:WH)(m:Str)(sp:Sp)(dvs:List V)(E:XKs)(ta:TE)(t:TA):TE:=fun σ H Q=>ta σ H fun x0 H1=>xt C m x0 H1 (fun x=>t σ H1 fun vs H2=>sp (x::(vs++dvs)) H2 Q (E σ))
def Bd(he:PE X o ta)(c:Cls X.K C)(hm:Bm X.K C m f)(F:iz X.prog X.w X.K X.mg X.base CX k f fd ps sp)(hr:Room k X.A)(hb:Binds X.K fd ps ds)(hd:WP dvs ds)(hx:ce CX X E)(ha:PA X (e::es) t)
 (hst:Wy (e::es) X.env=(false,eval e X.env)::Wy es X.env:=by rfl) (hpl:(Wx pos (Wy es X.env)).any (·.1)=false:=by rfl)
 (ht:eval (.Call (.Attribute o m apos) (e::es) [] pos) X.env=(do
  let ov <- eval o X.env
  standAt apos.atName
  let (f,first) <- holding [ov] (getMethod ov m pl)
  callWith pos f first (Wx pos (Wy (e::es) X.env)) (backToKw pos (XC [] X.env))):=by rfl) :
 PE X (.Call (.Attribute o m apos) (e::es) [] pos) (ow C m sp dvs E ta t):=by
 intro WY s σ H Q I h;refine PySem.W.methodCall_KW (pl:=pl) (thn (he WY s σ H _ I h) fun u s1 ⟨xo,H1,I1,rx,q⟩=>?_) ht;dsimp only at q;unfold xt at q;split at q
 .rename_i a
  obtain⟨dx,fs,ea,l,q⟩:=q;obtain rfl:u=yJ a:=rx;refine nW I1 ea c hm l ?_;refine PySem.W.callWith_K (first:=[.ref a]) (h₀:=X.base) I.ok.mod.kin hm.kp (thn (ha pos WY s1 σ _ _ I1 q) fun us s2 ⟨vs,H2,I2,r,q2⟩=>⟨I2.kIn,?_⟩) hst hpl;exact rQ (us:=.ref a::us) (vs:=.ref a::vs) F hr hb hd hx I2 (.cons rfl r) q2
 .exact q.elim
def zr(he:PE X o ta)(c:Cls X.K C)(hm:Bm X.K C m f)(F:iz X.prog X.w X.K X.mg X.base CX k f fd ps sp)(hr:Room k X.A)(hb:Binds X.K fd ps ds)(hd:WP dvs ds)(hx:ce CX X E)
 (ht:eval (.Call (.Attribute o m apos) [] [] pos) X.env=(do
  let ov <- eval o X.env
  standAt apos.atName
  let (f,first) <- holding [ov] (getMethod ov m pl)
  callWith pos f first (Wx pos (Wy [] X.env)) (backToKw pos (XC [] X.env))):=by rfl) :
 PE X (.Call (.Attribute o m apos) [] [] pos) (ow C m sp dvs E ta mh):=by
 intro WY s σ H Q I h;refine PySem.W.methodCall_KW (pl:=pl) (thn (he WY s σ H _ I h) fun u s1 ⟨xo,H1,I1,rx,q⟩=>?_) ht;dsimp only at q;unfold xt at q;split at q
 .rename_i a
  obtain⟨dx,fs,ea,l,q⟩:=q;obtain rfl:u=yJ a:=rx;refine nW I1 ea c hm l ?_;exact PySem.W.callWith_K0 (first:=[.ref a]) I1.kIn hm.kp (rQ (us:=[.ref a]) (vs:=[.ref a]) F hr hb hd hx I1 (.cons rfl .nil) q)
 .exact q.elim
def oN(C:WH)(sp:Sp)(dvs:List V)(E:XKs)(t:TA):TE:=fun σ H Q=>t σ H fun vs H1=>∀x dx,H1 x=none->H1 dx=none->dx≠x ->
 sp (.ref x::(vs++dvs)) (upd (upd H1 dx (.own x)) x (.ins C dx [])) (fun v H2=>v = .non/\Q (.ref x) H2) (E σ)
def pZ(M:Mk X.K C f)(F:iz X.prog X.w X.K X.mg X.base CX k f fd ps sp)(hr:Room (k+1) X.A)(hb:Binds X.K fd ps ds)(hd:WP dvs ds)
 (hx:ce CX X E) (I:WL X WY σ H s) (r:WP vs us)
 (h:∀x dx,H x=none->H dx=none->dx≠x->sp (.ref x::(vs++dvs)) (upd (upd H dx (.own x)) x (.ins C dx [])) (fun v H2=>v = .non/\Q (.ref x) H2) (E σ)) :
 WB (WA X.prog X.w) X.A (call (.ref C) us) (EP X WY σ Q) X.xe s:=by
 have hq:=h (s.heap.objs.size+1) s.heap.objs.size (I.hok.fresh (Nat.le_succ _)) (I.hok.fresh (zK _)) (Zx (Nat.lt_succ_self _));have I2:=WL.made (C:=C) I;have r2:WP (V.ref (s.heap.objs.size+1)::(vs++dvs)) (yJ (s.heap.objs.size+1)::(us++ds)):=.cons rfl (r.append hd);have hl:(yJ (s.heap.objs.size+1)::us++ds).length=ps.length:=by
  have e:=r2.length;rw[F.len _ _ _ _ hq]at e;exact e.symm
 refine wpAny_call (AI (f:=f) I.kIn M.makes M.init (beq_iff_eq.mp M.fn) (codeAny_mono (F.run _ X.stack _ _ ⟨yJ (s.heap.objs.size+1)::us,[]⟩ (yJ (s.heap.objs.size+1)::(us++ds)) _ _ (E σ) (hr.make C us [])
  (I2.env0.make C us []) (hb _ (yJ (s.heap.objs.size+1)::us) I2.kIn hl) r2 hq) fun r s' hq'=>?_))
 cases r with
 |error e=>exact hx WY σ _ _ e s' I2 hq'
 |ok fl=>
  cases fl with
  |ret u=>
   obtain⟨v,H',I3,rv,ev,q3⟩:=I2.after hq';subst ev;exact⟨rv,⟨V.ref (s.heap.objs.size+1),H',I3,rfl,q3⟩⟩
  |next=>exact YR hq'
  |brk=>exact YR hq'
  |cont=>exact YR hq'
def AN(M:Mk X.K C f)(F:iz X.prog X.w X.K X.mg X.base CX k f fd ps sp)(hr:Room (k+1) X.A)(hg:Gl X x)(hm:X.mg x=some (.ref C))(hb:Binds X.K fd ps ds)(hd:WP dvs ds)(hx:ce CX X E)
 (ha:PA X (e::es) t) (hdb:(x==("__debug__":Str))=false:=by decide) (he:Wy (e::es) X.env=(false,eval e X.env)::Wy es X.env:=by rfl) (hpl:(Wx pos (Wy es X.env)).any (·.1)=false:=by rfl) :
 PE X (.Call (.Name x p) (e::es) [] pos) (oN C sp dvs E t):=by
 intro WY s σ H Q I h;refine Xy (g_ I hg hm ?_ hdb);refine PySem.W.callWith_K (h₀:=X.base) I.ok.mod.kin M.kp (thn (ha pos WY s σ H _ I h) fun us s1 ⟨vs,H1,I1,r,q⟩=>⟨I1.kIn,?_⟩) he hpl;exact pZ M F hr hb hd hx I1 r q
def yc(M:Mk X.K C f)(F:iz X.prog X.w X.K X.mg X.base CX k f fd ps sp)(hr:Room (k+1) X.A)(hg:Gl X x)(hm:X.mg x=some (.ref C))(hb:Binds X.K fd ps ds)(hd:WP dvs ds)(hx:ce CX X E)
 (hdb:(x==("__debug__":Str))=false:=by decide):PE X (.Call (.Name x p) [] [] pos) (oN C sp dvs E mh):=by
 intro WY s σ H Q I h;refine Xy (g_ I hg hm ?_ hdb);exact PySem.W.callWith_K0 I.kIn M.kp (pZ (us:=[]) M F hr hb hd hx I .nil h)
end
def cP(wi:TI)(n:Nat)(g:TG)(ks:List Nat)(tt:TT)(te:TE):TE:=fun σ H Q=>wi σ H fun J H1=>∀D,H1 D=none->∃W:Nat->Nat->List V->Hp->Prop,(∃m,W 0 m [] (upd H1 D (.lst []))) /\
 ∀i m ys H2,W i m ys H2->H2 D=some (.lst ys)/\((J.stop i H2/\Q (.ref D) H2)\/(J.go i H2/\∀x H3,J.yld i H2 x H3->∀zs:St,zs.length=n ->
  g x (zs++ks.map fun k=>(σ[k]?).join) H3 fun σ4 H4=>(∃zs4:St,zs4.length=n/\σ4=zs4++ks.map fun k=>(σ[k]?).join) /\
   tt σ4 H4 fun b H5=>if b=true then te σ4 H5 fun y H6=>H6 D=some (.lst ys)/\ys.length<WC/\∃m',m'<m/\W (i+1) m' (ys++[y]) (upd H6 D (.lst (ys++[y])))
    else ∃m',m'<m/\W (i+1) m' ys H5))
structure EU(gd:Cx->Prop)(P:WF)(w:WE)(K:Ws)(tg:Expr)(J:It)(fp:List WH)(it:WH)(tn:Nat->Wz->Prop):Prop where
 mem:it∈fp
 obj:∀i h,tn i h->∀b∈fp,∃o,h.get? b=some o/\∀v,o.data ≠ .cell v
 keep:∀i h h',tn i h->(∀b∈fp,∀o,h.get? b=some o->h'.get? b=some o)->tn i h'
 item:∀(X:Cx),X.prog=P->X.w=w->X.K=K->gd X->∀(i:Nat) (WY:List (WH × Obj)) (s:WG) (σ:St) (H:Hp) (E:WI->WG->Prop),WL X WY σ H s->(∀b∈fp,iN X WY H b)->tn i s.heap->J.go i H ->
  WB (WA P w) X.A (pyNext (.ref it)) (fun r s1=>∃u,r=some u /\
   WB (WA P w) X.A (XN tg (.ref it) u) (fun _ s2=>∃x H',WL X WY σ H' s2/\WQ x u/\J.yld i H x H'/\tn (i+1) s2.heap/\∀b∈fp,H' b=none) E s1) E s
 done:∀(X:Cx),X.prog=P->X.w=w->X.K=K->gd X->∀(i:Nat) (WY:List (WH × Obj)) (s:WG) (σ:St) (H:Hp) (E:WI->WG->Prop),WL X WY σ H s->(∀b∈fp,iN X WY H b)->tn i s.heap->J.stop i H ->
  WB (WA P w) X.A (pyNext (.ref it)) (fun r s1=>r=none/\WL X WY σ H s1) E s
 self:∀(A:WD) (i:Nat) (s:WG) (Q:WI->WG->Prop) (E:WI->WG->Prop),tn i s.heap->Q (.ref it) s->WB (WA P w) A (pyIter (.ref it)) Q E s
def PIG(gd:Cx->Prop)(X:Cx)(tg iter:Expr)(wi:TI):Prop:=
 ∀(WY:List (WH × Obj)) (s:WG) (σ:St) (H:Hp) (R:It->Hp->Prop),WL X WY σ H s->wi σ H R ->
  WB (WA X.prog X.w) X.A (eval iter X.env) (fun v s1=>WB (WA X.prog X.w) X.A (pyIter v) (fun itv s2=>∃(it:WH) (fp:List WH) (tn:Nat->Wz->Prop) (J:It) (H':Hp),itv = .ref it/\WL X WY σ H' s2/\EU gd X.prog X.w X.K tg J fp it tn/\tn 0 s2.heap/\(∀b∈fp,iN X WY H' b)/\R J H') X.xe s1) X.xe s
def wQ(h:PI X tg iter wi):PIG (fun X=>X.calm=true) X tg iter wi:=fun WY s σ H R I q=>
 Zf (h WY s σ H R I q) (fun v s1 h1=>Zf h1 (fun itv s2 hq_=>(by obtain⟨it,fp,tn,J,H',e,I2,T,r⟩:=hq_;exact⟨it,fp,tn,J,H',e,I2,⟨T.mem,T.obj,T.keep,T.item,T.done,T.self⟩,r⟩)) fun _ _ z=>z) fun _ _ z=>z
noncomputable def cS(X:Cx)(N:List Str)(WJ:Scope)(cl:List (Str × WH))(fnc:Str->Bool)(C:WH)(s₂:WG)(H₂:Hp)(ex:List WH)(pn:List (WH × Obj)):Cx:=
 { da X N WJ cl C s₂ H₂ ex pn with fn:=fnc }
structure mf(X:Cx)(WJ:Scope)(cl:List (Str × WH))(cl2:WH->List (Str × WH))(fnc:Str->Bool)(fr:List Str):Prop where
 clos:closureFor WJ X.env=pure cl
 kind:WJ.kind = .function
 names:∀y∈WJ.names,y.2 = .local->WJ.names.lookup y.1=some .local
 lay:∀(M:Model) (A:WD) (E:WI->WG->Prop) (Q:Env->WG->Prop) (s:WG),(∀h₁ t₁ m,h₁.Ns s.heap.objs.size m->(∀b o,s.heap.get? b=some o->h₁.get? b=some o)->(∀y c,fnc y=true->(cl2 s.heap.objs.size).lookup y=some c->s.heap.objs.size<c/\h₁.IsCell c none) ->
  Q { scope:=WJ,locals:=s.heap.objs.size,globals:=X.env.globals,cells:=cl2 s.heap.objs.size,qual:=X.env.qual,func:=none,code:=X.env.code,frame:=X.env.frame,builtins:=X.env.builtins } { s with heap:=h₁,toks:=t₁ })->WB M A (newFunctionEnv WJ X.env.globals cl [] X.env.qual none .none (some X.env)) Q E s
 only:∀C y,((relabel WJ X.env).names.lookup y=some .cell\/(relabel WJ X.env).names.lookup y=some .free)->y∈fr\/∃c,(cl2 C).lookup y=some c
 sub:∀C y c,(cl2 C).lookup y=some c->fnc y=false->X.env.cells.lookup y=some c
 cell:∀C,∀y∈fr,(cl2 C).lookup y=X.env.cells.lookup y
 inj:∀C y z c,fnc y=true->fnc z=true->(cl2 C).lookup y=some c->(cl2 C).lookup z=some c->y=z
 kinds:∀y∈fr,X.env.kindOf y=some .cell\/X.env.kindOf y=some .free
 kin:∀y∈fr,(relabel WJ X.env).names.lookup y=some .cell\/(relabel WJ X.env).names.lookup y=some .free
def lZ(hc:∀C s₂ H₂ ex pn,gd (cS X (xs++fr) WJ (cl2 C) fnc C s₂ H₂ ex pn))(S:mf X WJ cl cl2 fnc fr)
 (hks:ks.map (fun k=>X.N[k]?)=fr.map some) (hi:PIG gd X tg iter wi) (hg:∀C s₂ H₂ ex pn,PG (cS X (xs++fr) WJ (cl2 C) fnc C s₂ H₂ ex pn) tg g)
 (ht:∀C s₂ H₂ ex pn,PTs (cS X (xs++fr) WJ (cl2 C) fnc C s₂ H₂ ex pn) ifs tt) (he:∀C s₂ H₂ ex pn,PE (cS X (xs++fr) WJ (cl2 C) fnc C s₂ H₂ ex pn) elt te)
 (hs:∀x,Yg iter X.env x=pure x:=by intro _;rfl)
 (I:WL X WY σ H s) (h:cP wi xs.length g ks tt te σ H Q) (use:Option (WI->Sem Unit)) (Qp:WI->WG->Prop)
 (hend:∀(D C:WH) (H':Hp) (s':WG) (mC:Str->Option WI) (f:Flow),WL X WY σ H' s'->iN X WY H' C->s'.heap.Ns C mC->Q (.ref D) H'->compPost (WA X.prog X.w) X.A X.xe use Qp (.ref D) C (.ok f) s') :
 WB (WA X.prog X.w) X.A (comprehension (.ListComp elt [⟨tg,iter,ifs,0⟩] WJ pos) WJ X.env (firstIterPos [⟨tg,iter,ifs,0⟩] pos) (newList []) false (firstIter [⟨tg,iter,ifs,0⟩] X.env) use) Qp X.xe s:=by
 refine wpAny_comprehension_free (use:=use) rfl hs S.clos S.kind S.names (thn (hi WY s σ H _ I h) fun v s1 h1=>thn h1 fun itv s2 h2=>?_);obtain⟨it,fp,tn,J,H2,e,I2,T,st2,f2,hW⟩:=h2;subst e;refine Zc ?_;have hD0:H2 s2.heap.objs.size=none:=I2.hok.fresh (zK _);obtain⟨W,⟨m0,w0⟩,turn⟩:=hW s2.heap.objs.size hD0;generalize hs3:s2.heap.push { cls:=.type "list",dict:=none,data:=.seq ([]:List WI).toArray }=g3;have hsz3:g3.objs.size=s2.heap.objs.size+1:=by rw[<- hs3,Heap.size_push]
 have up3:∀b o,s2.heap.get? b=some o->g3.get? b=some o:=fun b o e=>by rw[<- hs3];exact Wr _ e
 have gD:g3.get? s2.heap.objs.size=some { cls:=.type "list",dict:=none,data:=.seq ([]:List WI).toArray }:=by rw[<- hs3];exact Wq _ rfl
 have I3:WL X WY σ (upd H2 s2.heap.objs.size (.lst [])) { s2 with heap:=g3 }:=I2.laid (t':=s2.toks) up3 (zK _) ⟨by simp,[],0,.nil,gD⟩;refine S.lay _ _ _ _ _ fun h₁ t₁ m₁ hns₁ keep4 hnew=>?_;dsimp only at hns₁ keep4 hnew |-
 have hsub:∀y c,(cl2 g3.objs.size).lookup y=some c->X.env.cells.lookup y=some c\/(fnc y=true/\g3.objs.size<c/\h₁.IsCell c none):=fun y c e=>by
  cases hf:fnc y with
  |false=>exact .inl (S.sub _ y c e hf)
  |true=>exact .inr ⟨rfl,hnew y c hf e⟩
 have hCn:(upd H2 s2.heap.objs.size (.lst [])) g3.objs.size=none:=I3.hok.fresh (zK _);have fpD:∀b∈fp,b≠s2.heap.objs.size:=fun b hb z=>by
  obtain⟨o,e,_⟩:=T.obj 0 _ st2 b hb;exact VT (wu e) (by rw[z];exact Yu _)
 have fpC:∀b∈fp,b≠g3.objs.size:=fun b hb z=>by
  obtain⟨o,e,_⟩:=T.obj 0 _ st2 b hb;exact VT (wu (up3 b o e)) (by rw[z];exact Yu _)
 have fpN:∀b∈fp,(upd H2 s2.heap.objs.size (.lst [])) b=none:=fun b hb=>by rw[ag (fpD b hb)];exact(f2 b hb).1
 have old:∀y c,X.env.cells.lookup y=some c->c<g3.objs.size:=fun y c e=>by
  obtain⟨v,q⟩:=I3.cell y c e;exact q.lt
 have cfp:∀b∈fp,∀y c,(cl2 g3.objs.size).lookup y=some c->c≠b:=fun b hb y c e=>by
  obtain q|⟨_,l,_⟩:=hsub y c e
  .exact(f2 b hb).2.2.2.2.1 y c q
  .obtain⟨o,e,_⟩:=T.obj 0 _ st2 b hb
   exact fun z=>VT (wu (up3 b o e)) (by rw[<- z];exact Nat.not_lt.mpr (ZO l))
 have Ok:(cS X (xs++fr) WJ (cl2 g3.objs.size) fnc g3.objs.size { s2 with heap:=g3 } (upd H2 s2.heap.objs.size (.lst [])) fp (X.pn++WY)).Ok:=by
  refine⟨I.ok.mod,S.kind,I.ok.glob,I.ok.blt,zK _,fun y z c e1 e2=>?_,fun y hy=>?_,fun y c z e=>ZO (hnew y c z e).1,I.ok.hd,I.ok.frames,.inl rfl,fun b hb=>⟨fpC b hb,cfp b hb⟩,I3.bs,wG I.ok.bsz I3.sz,fun b o e hb=>?_,fun b hb z=>?_,I3.stack,I3.stkFree⟩
  .obtain q|⟨q,l,_⟩:=hsub y c e1 <;> obtain q'|⟨q',l',_⟩:=hsub z c e2
   .exact I.ok.inj y z c q q'
   .exact VT (old y c q) (Nat.not_lt.mpr (ZO l'))
   .exact VT (old z c q') (Nat.not_lt.mpr (ZO l))
   .exact S.inj _ y z c q q' e1 e2
  .obtain hy|hy:=S.only _ y hy
   .obtain⟨c,e⟩:=I.ok.has y (S.kinds y hy)
    exact⟨c,(S.cell _ y hy).trans e⟩
   .exact hy
  .rcases(f2 b hb).2.2.2.1 with q|q
   .exact I.ok.noex b o e q
   .exact VT (wu e) (Nat.not_lt.mpr (wG I.ok.bsz q))
  .obtain q|q:=z9.mp (I3.stkSub b z)
   .exact(f2 b hb).2.1 q
   .exact(f2 b hb).2.2.1 q
 have I4:WL (cS X (xs++fr) WJ (cl2 g3.objs.size) fnc g3.objs.size { s2 with heap:=g3 } (upd H2 s2.heap.objs.size (.lst [])) fp (X.pn++WY)) [] ((xs.map fun _=>none)++ks.map fun k=>(σ[k]?).join) (upd H2 s2.heap.objs.size (.lst [])) { s2 with heap:=h₁,toks:=t₁ }:=by
  refine⟨Ok,rfl,I3.bare,Un.kept keep4,⟨_,hns₁,fun i y v e1 e2 e3=>?_⟩,fun y c e=>?_,hCn,fun y c e=>?_,fun p hp=>?_,I3.hok.kept keep4,?_⟩
  .have e1':(xs++fr)[i]? = some y:=e1
   by_cases hix:i<xs.length
   .rw[Wj (by simpa using hix)]at e2
    simp[hix]at e2
   .obtain⟨i,rfl⟩:∃i',i=xs.length+i':=⟨i-xs.length,by lia⟩
    rw[List.getElem?_append_right (by lia)]at e1';rw[List.getElem?_append_right (by simp)]at e2;have e1':fr[i]? = some y:=by simpa using e1'
    have e2:(ks.map fun k=>(σ[k]?).join)[i]? = some (some v):=by simpa using e2
    have hy:y∈fr:=yo e1';have ek:(ks.map (fun k=>X.N[k]?))[i]? = (fr.map some)[i]?:=by rw[hks]
    rw[Wm,Wm,e1']at ek;have e2':=e2;rw[Wm]at e2';cases hk:ks[i]? with
    |none=>rw[hk]at ek;cases ek
    |some k=>
     rw[hk]at ek e2';have ek':X.N[k]? = some y:=by simpa using ek
     have e2'':(σ[k]?).join=some v:=by simpa using e2'
     have es:σ[k]? = some (some v):=by
      cases q:σ[k]? with
      |none=>rw[q]at e2'';cases e2''
      |some z=>rw[q]at e2'';rw[show z=some v from e2'']
     obtain⟨m,hn,hl⟩:=I3.loc;have hkd:=S.kinds y hy;obtain⟨u,r,lk⟩:=hl k y v ek' es (by obtain q|q:=hkd;exact .inr (.inl q);exact .inr (.inr q));refine⟨u,r,.inr ⟨S.kin y hy,?_⟩⟩;obtain⟨q,_⟩|⟨_,c,ec,hcell⟩:=lk
     .obtain z|z:=hkd <;> (rw[q]at z;cases z)
     .obtain⟨o,ho,hd⟩:=hcell
      exact⟨c,(S.cell _ y hy).trans ec,o,keep4 _ _ ho,hd⟩
  .obtain q|⟨_,_,q⟩:=hsub y c e
   .obtain⟨v,o,ho,hd⟩:=I3.cell y c q
    exact⟨v,o,keep4 _ _ ho,hd⟩
   .exact⟨_,q⟩
  .obtain q|⟨_,l,_⟩:=hsub y c e
   .exact I3.freeC y c q
   .exact I3.hok.fresh (ZO l)
  .have hp':p∈X.pn++WY:=by simpa [cS,da] using hp
   obtain⟨a1,a2,a3,a4,a5⟩:=I3.pin p hp';refine⟨keep4 _ _ a1,a2,Zx (wu a1),fun z=>?_,a5⟩;obtain q|q:=z9.mp (I3.stkSub p.1 z)
   .exact a3 q
   .exact a4 q
  .show((xs.map fun _=>none)++ks.map _).length=(xs++fr).length
   have:=VU Yl hks;simp at this;simp[this]
 have st4:tn 0 h₁:=T.keep 0 _ _ st2 fun b hb o e=>keep4 _ _ (up3 _ _ e);have stat:∀ {H':Hp},(∀b∈fp,H' b=none)->∀b∈fp,iN (cS X (xs++fr) WJ (cl2 g3.objs.size) fnc g3.objs.size { s2 with heap:=g3 } (upd H2 s2.heap.objs.size (.lst [])) fp (X.pn++WY)) [] H' b:=fun hn b hb=>
  ⟨hn b hb,fpC b hb,Ok.exfs b hb,.inl hb,cfp b hb,fun p hp=>(f2 b hb).2.2.2.2.2 p (by simpa [cS,da] using hp)⟩
 have loop:codeAny (WA X.prog X.w) X.A (.compLoop (.ListComp elt [⟨tg,iter,ifs,0⟩] WJ pos) 0 (.ref it) (.ref s2.heap.objs.size) (compEnvC WJ (cl2 g3.objs.size) g3.objs.size X.env))
  (compPost (WA X.prog X.w) X.A X.xe use Qp (.ref s2.heap.objs.size) g3.objs.size) { s2 with heap:=h₁,toks:=t₁ }:=by
  refine rF (fun n s'=>∃i ys σ' H',WL (cS X (xs++fr) WJ (cl2 g3.objs.size) fnc g3.objs.size { s2 with heap:=g3 } (upd H2 s2.heap.objs.size (.lst [])) fp (X.pn++WY)) [] σ' H' s'/\(∃zs,zs.length=xs.length/\σ'=zs++ks.map fun k=>(σ[k]?).join)/\tn i s'.heap/\(∀b∈fp,H' b=none)/\W i n ys H') ?_ m0
   ⟨0,[],_,_,I4,⟨xs.map fun _=>none,by simp,rfl⟩,st4,fpN,w0⟩
  rintro n s' ⟨i,ys,σ',H',I5,⟨zs,hzs,rfl⟩,st5,fr5,w5⟩;obtain⟨hD,hor⟩:=turn i n ys H' w5;obtain⟨stop,qn⟩|⟨go,step⟩:=hor
  .refine Zf (T.done (cS X (xs++fr) WJ (cl2 g3.objs.size) fnc g3.objs.size { s2 with heap:=g3 } (upd H2 s2.heap.objs.size (.lst [])) fp (X.pn++WY)) rfl rfl rfl (hc _ _ _ _ _) i [] s' _ H' (fun _ _=>False) I5 (stat fr5) st5 stop) (fun r s6 hq_=>?_) (fun _ _ f=>f.elim)
   obtain⟨hr,I6⟩:=hq_;subst hr;obtain⟨mC,hnC,_⟩:=I6.loc;have tr:∀b o,b≠g3.objs.size->s6.heap.get? b=some o->s6.heap.get? b=some o:=fun b o hb e=>e;have U:=I6.base;have neC:∀b o,g3.get? b=some o->b≠g3.objs.size:=fun b o e=>Zx (wu e);have U':Un (frs X.stack) fp (upd H2 s2.heap.objs.size (.lst [])) H' g3 s6.heap:=⟨fun b o q n hb hx=>tr b o (neC b o q) (U.keep b o q n hb hx),fun b o q n hb hx=>let ⟨sl,e⟩:=U.slot b o q n hb hx;⟨sl,tr _ _ (neC b o q) e⟩,U.free,fun b o q hx=>let ⟨o',e⟩:=U.there b o q hx;⟨o',tr _ _ (neC b o q) e⟩,U.tups,U.frzs,U.tbls⟩;have ok':HOk X.prog X.w H' s6.heap:=fun a o e=>(I6.hok a o e).stay (fun b u hb q=>tr b u (fun z=>by
    have fC:H' g3.objs.size=none:=I6.free;obtain r|r:=hb
    .rw[<- z,r,e]at fC;cases fC
    .rw[<- z,r]at fC;cases fC) q) (fun _ q=>q) fun _ _ q=>q
   have J6:WL X WY σ H' s6:=I3.call' (s':=s6) (ch:=fp) I6.os U' ok' I6.bare fun b hb=>⟨(f2 b hb).2.2.2.1,(f2 b hb).2.1,(f2 b hb).2.2.2.2.1,(f2 b hb).2.2.2.2.2⟩;exact hend s2.heap.objs.size g3.objs.size H' s6 mC _ J6 (I3.fpOk (zK _) I6.free) hnC qn
  .refine Zf (T.item (cS X (xs++fr) WJ (cl2 g3.objs.size) fnc g3.objs.size { s2 with heap:=g3 } (upd H2 s2.heap.objs.size (.lst [])) fp (X.pn++WY)) rfl rfl rfl (hc _ _ _ _ _) i [] s' _ H' (fun _ _=>False) I5 (stat fr5) st5 go) (fun r s6 hq_=>?_) (fun _ _ f=>f.elim)
   obtain⟨u,hr,h6⟩:=hq_;subst hr;refine Zf h6 (fun _ s7 hq_=>?_) (fun _ _ f=>f.elim);obtain⟨xv,H7,I7,r7,y7,st7,fr7⟩:=hq_;have I7':=I7.pinned (stat fr7) (T.obj _ _ st7);have pinsTo:∀ {σ9:St} {H9:Hp} {s9:WG},WL (cS X (xs++fr) WJ (cl2 g3.objs.size) fnc g3.objs.size { s2 with heap:=g3 } (upd H2 s2.heap.objs.size (.lst [])) fp (X.pn++WY)) ([]++oq fp s7.heap) σ9 H9 s9->tn (i+1) s9.heap/\∀b∈fp,H9 b=none:=fun {σ9 H9 s9} I9=>
    ⟨T.keep _ _ _ st7 fun b hb o e=>(I9.pin (b,o) (wq _ (wq _ (h_ hb e)))).1,fun b hb=>by
     obtain⟨o,e,d⟩:=T.obj _ _ st7 b hb;exact(I9.pin (b,o) (wq _ (wq _ (h_ hb e)))).2.1⟩
   refine Zf (hg _ _ _ _ _ _ s7 _ H7 xv u _ I7' r7 (step xv H7 y7 zs hzs)) (fun _ s8 hq_=>?_) (fun _ _ f=>f.elim);obtain⟨σ8,H8,I8,⟨zs4,hz4,e8⟩,q8⟩:=hq_;subst e8;refine Zf (ht _ _ _ _ _ _ s8 _ H8 _ I8 q8) (fun ok s9 hq_=>?_) (fun _ _ f=>f.elim);obtain⟨H9,I9,q9⟩:=hq_;cases ok with
   |false=>
    rw[VZ xl]at q9 |-
    obtain⟨m',hm,w9⟩:=q9;obtain⟨t9,f9⟩:=pinsTo I9;exact⟨m',hm,i+1,ys,_,H9,I9.unpinned,⟨zs4,hz4,rfl⟩,t9,f9,w9⟩
   |true=>
    rw[VY rfl]at q9 |-
    refine Zf (he _ _ _ _ _ _ s9 _ H9 _ I9 q9) (fun yv s10 hq_=>?_) (fun _ _ f=>f.elim);obtain⟨y,H10,I10,r10,hD10,hlen,m',hm,w10⟩:=hq_;refine Zf (cz (X:=cS X (xs++fr) WJ (cl2 g3.objs.size) fnc g3.objs.size { s2 with heap:=g3 } (upd H2 s2.heap.objs.size (.lst [])) fp (X.pn++WY)) _ s10 _ H10 (.ref s2.heap.objs.size) [y] (.ref s2.heap.objs.size) [yv]
     (fun _ H'=>H'=upd H10 s2.heap.objs.size (.lst (ys++[y]))) I10 rfl (.cons r10 .nil) ⟨_,ys,y,rfl,rfl,hD10,hlen,rfl⟩) (fun _ s11 ⟨_,H11,I11,_,e11⟩=>?_) (fun _ _ f=>f.elim)
    subst e11;obtain⟨t11,f11⟩:=pinsTo I11;exact⟨m',hm,i+1,ys++[y],_,_,I11.unpinned,⟨zs4,hz4,rfl⟩,t11,f11,w10⟩
 exact codeAny_compStart_list loop (T.self X.A 0 _ _ _ st4 loop)
def CompScope.cs(S:CompScope X WJ cl x fr):mf X WJ cl (fun _=>cl) (fun _=>false) fr:=
 ⟨S.clos,S.kind,S.names,fun M A E Q s k=>wpAny_newFunctionEnv S.nocell (by intro y hy;simp at hy) (fun h₁ hn hs=>k h₁ _ _ hn (fun b o e=>(hs.2 b (Zx (wu e))).trans (Wr _ e)) fun _ _ z=>nomatch z) S.kind,
  fun _ y hy=>.inl (S.only y hy),fun _ _ _ e _=>S.sub e,fun _ _ h=>S.cell h,(fun _ _ _ _ z=>nomatch z),S.kinds,S.kin⟩
def yV(hc:∀C s₂ H₂ ex pn,gd (da X (xs++fr) WJ cl C s₂ H₂ ex pn))(S:CompScope X WJ cl x fr)
 (hks:ks.map (fun k=>X.N[k]?)=fr.map some) (hi:PIG gd X tg iter wi) (hg:∀C s₂ H₂ ex pn,PG (da X (xs++fr) WJ cl C s₂ H₂ ex pn) tg g)
 (ht:∀C s₂ H₂ ex pn,PTs (da X (xs++fr) WJ cl C s₂ H₂ ex pn) ifs tt) (he:∀C s₂ H₂ ex pn,PE (da X (xs++fr) WJ cl C s₂ H₂ ex pn) elt te)
 (hs:∀x,Yg iter X.env x=pure x:=by intro _;rfl)
 (I:WL X WY σ H s) (h:cP wi xs.length g ks tt te σ H Q) (use:Option (WI->Sem Unit)) (Qp:WI->WG->Prop)
 (hend:∀(D C:WH) (H':Hp) (s':WG) (mC:Str->Option WI) (f:Flow),WL X WY σ H' s'->iN X WY H' C->s'.heap.Ns C mC->Q (.ref D) H'->compPost (WA X.prog X.w) X.A X.xe use Qp (.ref D) C (.ok f) s') :
 WB (WA X.prog X.w) X.A (comprehension (.ListComp elt [⟨tg,iter,ifs,0⟩] WJ pos) WJ X.env (firstIterPos [⟨tg,iter,ifs,0⟩] pos) (newList []) false (firstIter [⟨tg,iter,ifs,0⟩] X.env) use) Qp X.xe s:=lZ (gd:=gd) (cl2:=fun _=>cl) (fnc:=fun _=>false) hc S.cs hks hi hg ht he hs I h use Qp hend
def cL(hc:X.calm=true)(S:CompScope X WJ cl x fr)
 (hks:ks.map (fun k=>X.N[k]?)=fr.map some) (hi:PI X tg iter wi) (hg:∀C s₂ H₂ ex pn,PG (da X (xs++fr) WJ cl C s₂ H₂ ex pn) tg g)
 (ht:∀C s₂ H₂ ex pn,PTs (da X (xs++fr) WJ cl C s₂ H₂ ex pn) ifs tt) (he:∀C s₂ H₂ ex pn,PE (da X (xs++fr) WJ cl C s₂ H₂ ex pn) elt te)
 (hs:∀x,Yg iter X.env x=pure x:=by intro _;rfl):PE X (.ListComp elt [⟨tg,iter,ifs,0⟩] WJ pos) (cP wi xs.length g ks tt te):=by
 intro WY s σ H Q I h;rw[eval_ListComp];refine lZ (gd:=fun X=>X.calm=true) (cl2:=fun _=>cl) (fnc:=fun _=>false) (fun _ _ _ _ _=>hc) S.cs hks (wQ hi) hg ht he hs I h none _ fun D C H' s' mC f J fp hn q=>⟨mC,hn,fun h' sb=>?_⟩;obtain⟨f0,f1,f2,f3,f4,f5⟩:=fp;exact⟨.ref D,H',J.turned (t':=s'.toks) (fun b o hb e=>(sb.2 b hb).trans e) f0 f1 f3 f4 f5,rfl,q⟩
def Cb(hN:X.N.Nodup)(hi0:X.N[i0]? = some x0)(hx0:Loc X.env.scope x0)(hc:X.calm=true)(S:mf X WJ cl cl2 fnc fr)
 (hks:ks.map (fun k=>X.N[k]?)=fr.map some) (hi:PI X tg iter wi) (hg:∀C s₂ H₂ ex pn,PG (cS X (xs++fr) WJ (cl2 C) fnc C s₂ H₂ ex pn) tg g)
 (ht:∀C s₂ H₂ ex pn,PTs (cS X (xs++fr) WJ (cl2 C) fnc C s₂ H₂ ex pn) ifs tt) (he:∀C s₂ H₂ ex pn,PE (cS X (xs++fr) WJ (cl2 C) fnc C s₂ H₂ ex pn) elt te)
 (hs:∀x,Yg iter X.env x=pure x:=by intro _;rfl)
 (hsw:swapsWith (.ListComp elt [⟨tg,iter,ifs,0⟩] WJ pos) (some (.Name x0 px0)) pos0.line X.env=pure true:=by rfl) (hf:X.fn x0=true\/X.env.scope.names.lookup x0=some .local:=by first|exact .inl rfl|exact .inr rfl|assumption) :
 PS X (.Assign [.Name x0 px0] (.ListComp elt [⟨tg,iter,ifs,0⟩] WJ pos) pos0) (vD (cP wi xs.length g ks tt te) (eY i0)):=by
 intro WY s σ H D I h;rw[exec_Assign_Name_used _ _ _ _ hsw];refine zd (wpAny_standAt (zd (zd ?_)));refine lZ (gd:=fun X=>X.calm=true) (fun _ _ _ _ _=>hc) S hks (wQ hi) hg ht he hs I h (some (assign (.Name x0 px0) X.env)) _ fun D' C H' s' mC f J fp hn q=>?_;obtain⟨f0,f1,f2,f3,f4,f5⟩:=fp;refine wpAny_assign_Name (qe J hN hi0 hx0 (v:=.ref D') rfl (fun s7 I7 hq_=>?_) hf);obtain⟨a,sb,ha⟩:=hq_;have hCa:C≠a:=by
  obtain e|e:=ha
  .rw[e];exact f1
  .exact fun z=>f4 _ _ e z.symm
 refine⟨mC,hn.sameBut sb hCa,fun h' sb2=>?_⟩;have J2:=I7.turned (t':=s7.toks) (fun b o hb e=>(sb2.2 b hb).trans e) f0 f1 f3 f4 f5;exact zJ (zJ ⟨_,H',J2,q⟩)
def nP(hN:X.N.Nodup)(hi0:X.N[i0]? = some x0)(hx0:Loc X.env.scope x0)(hc:X.calm=true)(S:CompScope X WJ cl x fr)
 (hks:ks.map (fun k=>X.N[k]?)=fr.map some) (hi:PI X tg iter wi) (hg:∀C s₂ H₂ ex pn,PG (da X (xs++fr) WJ cl C s₂ H₂ ex pn) tg g)
 (ht:∀C s₂ H₂ ex pn,PTs (da X (xs++fr) WJ cl C s₂ H₂ ex pn) ifs tt) (he:∀C s₂ H₂ ex pn,PE (da X (xs++fr) WJ cl C s₂ H₂ ex pn) elt te)
 (hs:∀x,Yg iter X.env x=pure x:=by intro _;rfl)
 (hsw:swapsWith (.ListComp elt [⟨tg,iter,ifs,0⟩] WJ pos) (some (.Name x0 px0)) pos0.line X.env=pure true:=by rfl) (hf:X.fn x0=true\/X.env.scope.names.lookup x0=some .local:=by first|exact .inl rfl|exact .inr rfl|assumption) :
 PS X (.Assign [.Name x0 px0] (.ListComp elt [⟨tg,iter,ifs,0⟩] WJ pos) pos0) (vD (cP wi xs.length g ks tt te) (eY i0)):=Cb (cl2:=fun _=>cl) (fnc:=fun _=>false) hN hi0 hx0 hc S.cs hks hi hg ht he hs hsw hf
end L2
namespace L2
open PySem PySem.Spec PyProof.Rows Builtin Builtin.Str
section
variable{X:Cx}{e a b c:Expr}{pos:Pos}
def J9(K:Ws):List V->Hp->VK->Prop
 | [.ref p],H,Q=>∃ns:List Int,(SqL K H p (ns.map V.int)\/SqT K H p (ns.map V.int))/\Q (.int ns.sum) H
 |_,_,_=>False
def Jp(K:Ws)(neg:Bool):R2
 |x,.ref p,H,Q=>∃xs,(SqL K H p xs\/SqT K H p xs)/\cY x=true/\xs.all cY=true/\Q (.bl (neg ^^ inV x xs)) H
 |_,_,_,_=>False
def qa(K:Ws)(hK:X.K=K:=by rfl):OpR X (Zd .NotIn) (Jp K true):=by
 subst hK;refine qJ.imp fun x y H Q h=>?_;cases y with
 |ref v_1=>
  obtain⟨xs,h1,h2,h3,q⟩:=h;exact⟨_,xs,rfl,h1,h2,h3,by simpa using q⟩
 |_=>exact WZ h
def E3:R2
 | .str x,.int n,H,Q=>((cs x).length<=1000/\0<=n/\n<=100)/\Q (T ((Xc n.toNat (cs x)).flatten)) H
 |_,_,_,_=>False
def DX:OpR X (binaryOp .Mult) E3:=by
 intro WY s σ H x y v u Q I rx ry h;cases x with
 |str x=>
  cases y with
  |int n=>
   obtain⟨⟨h1,h2,h3⟩,q⟩:=h;obtain⟨t,rfl⟩:=rx;obtain⟨t',rfl⟩:=ry;have hl:x.length<=1000:=by simpa [cs,Y8] using h1
   refine PySem.SB.mul ⟨?_,fun hn _=>?_,fun hn _=>?_⟩ fun t2 k=>⟨.str (Txt.mul x n),H,I.tok _,⟨_,rfl⟩,by rw[F9];exact q⟩
   .rw[VW (by lia),VW (by lia)];rfl
   .have h5:(1000:Int)<=(2 ^ 63-1) / n:=by
     rw[Int.le_ediv_iff_mul_le (by lia)];lia
    lia
   .have h4:x.length*n.toNat<=1000*100:=Nat.mul_le_mul hl (show n.toNat<=100 by lia)
    unfold tooLong;exact VW (by rw[ue];lia)
  |_=>exact WZ h
 |_=>exact WZ h
end
end L2
namespace L2
def d_{l:List PySem.Str}(h:l.Nodup):l.Nodup:=h
def sp5(f:V->V->V->V->V->Hp->VK->XK->Prop):Sp:=fun vs H Q E=>match vs with
 | [x,y,z,u,v]=>f x y z u v H Q E
 |_=>False
def sp5.inv{f}(h:sp5 f vs H Q E):∃x y z u v,vs=[x,y,z,u,v]/\f x y z u v H Q E:=by
 obtain _|⟨x,_|⟨y,_|⟨z,_|⟨u,_|⟨v,_|⟨w,r⟩⟩⟩⟩⟩⟩:=vs
 rotate_left 5
 .exact⟨_,_,_,_,_,rfl,h⟩
 all_goals exact WZ h
def sp5.len{f}(h:sp5 f vs H Q E):vs.length=5:=by obtain⟨_,_,_,_,_,rfl,_⟩:=sp5.inv h;rfl
def iY{n:PySem.Str}{v:V}{l:List (PySem.Str × V)}:qW n ((n,v)::l)=some v:=by simp[qW]
def aZ{n m:PySem.Str}{v:V}{l:List (PySem.Str × V)}(h:(n==m)=false:=by decide +kernel):qW n ((m,v)::l)=qW n l:=by simp[qW,h]
end L2
namespace L2
open PySem PySem.Spec PyProof.Rows
structure KD(k:Nat)(A:WD):Prop where
 dp:A.depth+3*k+5<recursionLimit
 un:A.units+16*k+200<cLine
end L2
namespace L2
def ex1(hl:us.length=1):∃a0,us=[a0]:=by
 cases us with
 |nil=>cases hl
 |cons a r=>exact⟨a,by rw[List.eq_nil_of_length_eq_zero (Nat.succ.inj hl)]⟩
def ex2(hl:us.length=2):∃a0 a1,us=[a0,a1]:=by
 cases us with
 |nil=>cases hl
 |cons a r=>
  obtain⟨a1,e⟩:=ex1 (Nat.succ.inj hl);exact⟨a,a1,by rw[e]⟩
def ex3(hl:us.length=3):∃a0 a1 a2,us=[a0,a1,a2]:=by
 cases us with
 |nil=>cases hl
 |cons a r=>
  obtain⟨a1,a2,e⟩:=ex2 (Nat.succ.inj hl);exact⟨a,a1,a2,by rw[e]⟩
def ex4(hl:us.length=4):∃a0 a1 a2 a3,us=[a0,a1,a2,a3]:=by
 cases us with
 |nil=>cases hl
 |cons a r=>
  obtain⟨a1,a2,a3,e⟩:=ex3 (Nat.succ.inj hl);exact⟨a,a1,a2,a3,by rw[e]⟩
def ex5(hl:us.length=5):∃a0 a1 a2 a3 a4,us=[a0,a1,a2,a3,a4]:=by
 cases us with
 |nil=>cases hl
 |cons a r=>
  obtain⟨a1,a2,a3,a4,e⟩:=ex4 (Nat.succ.inj hl);exact⟨a,a1,a2,a3,a4,by rw[e]⟩
def ex6(hl:us.length=6):∃a0 a1 a2 a3 a4 a5,us=[a0,a1,a2,a3,a4,a5]:=by
 cases us with
 |nil=>cases hl
 |cons a r=>
  obtain⟨a1,a2,a3,a4,a5,e⟩:=ex5 (Nat.succ.inj hl);exact⟨a,a1,a2,a3,a4,a5,by rw[e]⟩
end L2
namespace L2
open Lean Meta Simp
def Hq:List Name:=[`L2.FF,`L2.tC,`L2.tOp,`L2.tUn,`L2.gEqN,`L2.tU,`L2.Cz,`L2.IR,`L2.fOr,`L2.JL,`L2.Bc,`L2.fPickT,`L2.Iv,`L2.Iw,`L2.JN,`L2.tRetN,`L2.E8,`L2.E1,`L2.vD,`L2.eY,`L2.tIf,`L2.JS,`L2.tOr,`L2.Jd,`L2.dJ,`L2.mh,`L2.tCB,`L2.sT,`L2.IW,`L2.Jo,`L2.JD,`L2.E0,`L2.tIsB,`L2.EV,`L2.xb,`L2.tSl,`L2.cs,`L2.Fq,`L2.CMul,`L2.FJ,`L2.we,`L2.tTry,`L2.gcE,`L2.IM,`L2.tGc,`L2.tBM,`L2.EN,`L2.fJoinRev,`L2.Be,`L2.wP,`L2.Ha,`L2.Ff,`L2.IO,`L2.gSub,`L2.rSetL,`L2.E5,`L2.EM,`L2.ow,`L2.oN,`L2.tDGet1,`L2.BE,`L2.Fi,`L2.tBM0,`L2.rClear]
def GF:List Name:=[`L2.Il,`L2.gI,`L2.gIC,`L2.Iz,`L2.gLe,`L2.gLt,`L2.eqS,`L2.kB,`L2.Kb,`L2.IK,`L2.Jk,`L2.GW,`L2.Dt,`L2.gInt,`L2.gIx,`L2.sp0,`L2.sp1,`L2.sp2,`L2.sp3,`L2.sp4,`L2.asI,`L2.asT,`L2.asB,`L2.asR,`L2.tyV,`L2.gSt,`L2.gEn,`L2.gZf,`L2.gStr,`L2.Ab,`L2.gIn,`L2.gSl,`L2.KC,`L2.gMulS,`L2.Jh,`L2.gRep,`L2.gRepT,`L2.gIsiT,`L2.E_,`L2.A9,`L2.Jg,`L2.gStM,`L2.Hi,`L2.Cm,`L2.xt,`L2.J9,`L2.E3]
def rdI:=yO @L2.DL (yO @L2.Kk (yO @L2.V.bl.injEq (yO @L2.V.str.injEq (yO @L2.yL (yO @L2.Ic (yO @L2.He (yO @L2.HH (yO @L2.Gp (yO @L2.Ga (yO @L2.mY (yO @L2.uG (yO @L2.wH (yO @L2.vW (yO @L2.vd (yO @L2.qC (yO @L2.tj (yO @L2.Ek (yO @L2.lW (yO @L2.qF (yO @L2.sZ (yO @L2.uK (yO @L2.rO (yO @L2.pD (yO @L2.r6 (yO @L2.Fz (yO @L2.mS (yO @L2.uk (yO @L2.wg (yO @L2.vy (yO @L2.tH (yO @L2.sW (yO @L2.uS (yO @L2.DU (yO @L2.ms (yO @L2.sI (yO @L2.tR (yO @L2.ui (yO @L2.qT (yO @L2.pK (yO @L2.qR (yO @L2.By (yO @L2.jS (yO @L2.pC (yO @L2.rh (yO @L2.rn (yO @L2.pA (yO @L2.n_ (yO @L2.pM (yO @L2.Ep (yO @L2.md (yO @L2.rf (yO @L2.uY (yO @L2.uV (yO @L2.rM (yO @L2.pv (yO @L2.rC (yO @L2.Jq (yO @L2.Gv (yO @L2.GN (yO @L2.GE (yO @L2.C5 (yO @L2.HD (yO @L2.CZ (yO @L2.DR (yO @L2.EI (yO @L2.Ec (yO @L2.Hn (yO @L2.EK (yO @L2.CS (yO @L2.Dz (yO @true_and (yO @and_true (yO @and_self (yO @true_or (yO @or_true (yO @decide_eq_true_eq (yO @Bool.true_eq_false (yO @Bool.false_xor (yO @Bool.true_xor (yO @Bool.not_true (yO @Bool.not_false (yO @ZV (yO @Bool.not_eq_true' (yO @decide_eq_false_iff_not @Classical.not_not))))))))))))))))))))))))))))))))))))))))))))))))))))))))))))))))))))))))))))))))))))
end L2
namespace L2
namespace Srt
open PySem PyProof.Rows
noncomputable def kv(κ:Keyed->Int)(xs:Array Keyed)(i:Nat):Int:=(xs[i]?.map κ).getD 0
def Up(κ:Keyed->Int)(xs:Array Keyed)(k:Nat):Prop:=∀i j,i<=j->j<k->kv κ xs i<=kv κ xs j
def Dn(κ:Keyed->Int)(xs:Array Keyed)(k:Nat):Prop:=∀i j,i<=j->j<k->kv κ xs j<=kv κ xs i
structure SB(kd:SortKind)(z:Array Keyed)(t:SortSt):Prop where
 pm:(arrOf t).Perm z
 kn:kindOf t=kd
 fl:failedOf t=none
 pn:pendingOf t = #[]
def SB.sz(b:SB kd z t):(arrOf t).size=z.size:=b.pm.size_eq
def SB.put(b:SB kd z t)(p:xs.Perm (arrOf t)):SB kd z (setArr t xs):=
 ⟨p.trans b.pm,b.kn,b.fl,b.pn⟩
def qv(h:i<xs.size):kv κ xs i=κ xs[i]:=by
 unfold kv;rw[Wh h];rfl
def xL(h:xs[i]? = ys[j]?):kv κ xs i=kv κ ys j:=by unfold kv;rw[h]
def Bg(hs:u<xs.size)(hd:d<=u)(k:Nat) :
 kv κ (bubble xs u d) k=if k=u-d then kv κ xs u else if u-d<k/\k<=u then kv κ xs (k-1) else kv κ xs k:=by
 have e:=getElem?_bubble hs d hd k;by_cases h1:k=u-d
 .rw[VY h1]at e |-
  exact xL e
 .rw[VZ h1]at e |-
  by_cases h2:u-d<k/\k<=u
  .rw[VY h2]at e |-
   exact xL e
  .rw[VZ h2]at e |-
   exact xL e
def CA(hj:n<=xs.size)(hk:k<n) :
 kv κ (mirror xs 0 n ((n-0) / 2)) k=kv κ xs (n-1-k):=by
 have e:=getElem?_mirror_all (i:=0) hj k;rw[VY ⟨tB _,hk⟩,Nat.zero_add]at e;exact xL e
section
variable{prog:WF}{w:WE}{A:WD}{E:WI->WG->Prop}{s:WG}{z:Array Keyed}{κ:Keyed->Int}{kd:SortKind}{t:SortSt}
def Lts(prog:WF)(w:WE)(A:WD)(s:WG)(kd:SortKind)(κ:Keyed->Int)(z:Array Keyed):Prop:=
 ∀(E:WI->WG->Prop) (p q:Keyed) (Q:Bool->WG->Prop),p∈z.toList->q∈z.toList->Q (decide (κ p<κ q)) s->WB (WA prog w) A (keyLt' kd p.1 q.1) Q E s
def SB.mem(b:SB kd z t)(h:i<(arrOf t).size):(arrOf t)[i]∈z.toList:=
 (YM.mp b.pm).mem_iff.mp (by simp)
def tY(L:Lts prog w A s kd κ z)(b:SB kd z t)(hi:i<z.size)(hj:j<z.size)
 (h:Q (some (decide (kv κ (arrOf t) i<kv κ (arrOf t) j))) t):wpS (WA prog w) A E s (ltAt' i j) Q t:=by
 have i':i<(arrOf t).size:=b.sz ▸ hi;have j':j<(arrOf t).size:=b.sz ▸ hj;rw[qv i',qv j']at h;rw[ltAt'_eq];refine Ww (Wu ?_);show wpS (WA prog w) A E s (elem' (arrOf t) i >>= fun p=>elem' (arrOf t) j >>= fun q=>lt' p q) Q t;rw[elem'_eq,elem'_eq,Wh i',Wh j'];refine Ww (Wv (Ww (Wv ?_)));rw[lt'_eq];refine Ww (Wu ?_);rw[b.kn];exact Ww (wpS_lift (XS (L _ _ _ _ (b.mem i') (b.mem j') ⟨rfl,Wv h⟩)))
def eK(κ:Keyed->Int)(z:Array Keyed):Prop:=(z.toList.map κ).Nodup
def apart(b:SB kd z t)(D:eK κ z)(hj:j<z.size)(h:i<j):kv κ (arrOf t) i≠kv κ (arrOf t) j:=by
 have j':j<(arrOf t).size:=b.sz ▸ hj;have i':i<(arrOf t).size:=Nat.lt_trans h j';have d:((arrOf t).toList.map κ).Nodup:=((YM.mp b.pm).map κ).nodup_iff.mpr D;rw[qv i',qv j'];intro e;have:=YK.mp d i j (by simpa using i') (by simpa using j') h;simp at this;exact this e
def DG(u:Up κ xs n)(h:n=0\/kv κ xs (n-1)<=kv κ xs n):Up κ xs (n+1):=by
 intro i j a c;by_cases e:j<n
 .exact u i j a e
 .have:j=n:=by lia
  subst this;by_cases e2:i=j
  .subst e2;exact ZA _
  .exact Int.le_trans (u i (j-1) (by lia) (by lia)) (h.resolve_left (by lia))
def xK(u:Dn κ xs n)(h:n=0\/kv κ xs n<=kv κ xs (n-1)):Dn κ xs (n+1):=by
 intro i j a c;by_cases e:j<n
 .exact u i j a e
 .have:j=n:=by lia
  subst this;by_cases e2:i=j
  .subst e2;exact ZA _
  .exact Int.le_trans (h.resolve_left (by lia)) (u i (j-1) (by lia) (by lia))
def asc(L:Lts prog w A s kd κ z)(hr:r<=z.size)(ha:1<=a)(har:a<=r)(b:SB kd z t)(u:Up κ (arrOf t) a)
 (h:∀n,a<=n->n<=r->Up κ (arrOf t) n->(n=r\/kv κ (arrOf t) n<kv κ (arrOf t) (n-1))->Q (none,n) t):wpS (WA prog w) A E s (ascLoop a r) Q t:=by
 unfold ascLoop;refine wpS_forRange (fun x c t'=>t'=t/\c=(none,x)/\Up κ (arrOf t) x) ?_ ?_ ⟨rfl,rfl,u⟩
 .rintro x c t' x1 x2 ⟨rfl,rfl,u'⟩
  refine Ww (tY L b (by lia) (by lia) ?_);by_cases l:kv κ (arrOf t') x<kv κ (arrOf t') (x-1)
  .simp only[VX l,if_true]
   exact Wv (h x x1 (by lia) u' (.inr l))
  .simp only[VW l,ZV,if_false]
   exact Wv ⟨rfl,rfl,DG u' (.inr (by lia))⟩
 .rintro c t' ⟨rfl,rfl,u'⟩
  rw[Nat.max_eq_right har]at u' |-
  exact h r har (zK _) u' (.inl rfl)
def t3(L:Lts prog w A s kd κ z)(hr:r<=z.size)(h1:1<=n)(hn:n<=r)(b:SB kd z t)(u:Dn κ (arrOf t) n)
 (h:∀m t',SB kd z t'->1<=m->m<=r->Up κ (arrOf t') m->Q (some m) t'):wpS (WA prog w) A E s (tail3 n r) Q t:=by
 unfold tail3;refine Ww (wpS_reverse ?_);have b':=b.put (mirror_perm (arrOf t) 0 n ((n-0) / 2));refine Ww (asc L hr h1 hn b' ?_ fun m m1 m2 u' _=>Wv (h m _ b' (by lia) m2 u'));intro i j a c;have g:n<=(arrOf t).size:=by rw[b.sz];lia
 show kv κ (mirror (arrOf t) 0 n ((n-0) / 2)) i<=kv κ (mirror (arrOf t) 0 n ((n-0) / 2)) j;rw[CA g (by lia),CA g c];exact u _ _ (Nat.sub_le_sub_left a _) (by lia)
def JX(L:Lts prog w A s kd κ z)(D:eK κ z)(hr:r<=z.size)(h1:1<=n)(hn:n<=r)(b:SB kd z t)(u:Dn κ (arrOf t) n)
 (h:∀m,n<=m->m<=r->Dn κ (arrOf t) m->Q (none,m,0) t):wpS (WA prog w) A E s (descLoop n r) Q t:=by
 unfold descLoop;refine wpS_forRange (fun x c t'=>t'=t/\c=(none,x,0)/\Dn κ (arrOf t) x) ?_ ?_ ⟨rfl,rfl,u⟩
 .rintro x c t' x1 x2 ⟨rfl,rfl,u'⟩
  dsimp only;refine Ww (tY L b (by lia) (by lia) ?_);by_cases l:kv κ (arrOf t') x<kv κ (arrOf t') (x-1)
  .simp only[VX l,if_true]
   rw[VZ (Yu 0)];exact Wv ⟨rfl,rfl,xK u' (.inr (Int.le_of_lt l))⟩
  .simp only[VW l,ZV,if_false]
   refine Ww (tY L b (by lia) (by lia) ?_);have d:=apart b D (i:=x-1) (j:=x) (by lia) (by lia);simp only[VX (show kv κ (arrOf t') (x-1)<kv κ (arrOf t') x by lia),if_true];exact Wv (h x x1 (by lia) u')
 .rintro c t' ⟨rfl,rfl,u'⟩
  rw[Nat.max_eq_right hn]at u' |-
  exact h r hn (zK _) u'
def count(L:Lts prog w A s kd κ z)(D:eK κ z)(hr:r<=z.size)(h1:1<=r)(b:SB kd z t)
 (h:∀m t',SB kd z t'->1<=m->m<=r->Up κ (arrOf t') m->Q (some m) t'):wpS (WA prog w) A E s (countRun' 0 r) Q t:=by
 rw[countRun0_eq];refine Ww (asc L hr (zK 1) h1 b (fun i j a c=>by have:i=j:=(by lia);subst this;exact ZA _) fun n n1 n2 u o=>?_);dsimp only;by_cases e:n=r
 .rw[VY (by simpa using e)]
  exact Wv (h n t b n1 n2 u)
 rw[VZ (by simpa using e)];by_cases g:n > 1
 .rw[VY g]
  refine Ww (tY L b (by lia) (by lia) ?_);have d:=apart b D (i:=0) (j:=n-1) (by lia) (by lia);have l:=u 0 (n-1) (by lia) (by lia);simp only[VX (show kv κ (arrOf t) 0<kv κ (arrOf t) (n-1) by lia),if_true];exact Wv (h n t b n1 n2 u)
 .rw[VZ g]
  have:n=1:=by lia
  subst this;unfold descPart;refine Ww (wpS_lift (wpAny_rule ⟨rfl,?_⟩));refine Ww (JX L D hr (by lia) (by lia) b ?_ fun m m1 m2 u'=>?_)
  .refine xK (fun i j a c=>by have:i=j:=(by lia);subst this;exact ZA _) (.inr ?_)
   have:=o.resolve_left e;lia
  .dsimp only
   rw[VZ (Yu 0)];exact t3 L hr (by lia) m2 b u' h
def Kh{l r:Nat}(g:¬ l ≥ r):l<=(l+r) / 2/\(l+r) / 2<r:=⟨by lia,by lia⟩
def Hy(L:Lts prog w A s kd κ z)(hn:n<=z.size)(hk:k₀<=n)(h0:1<=k₀)(b:SB kd z t)(u:Up κ (arrOf t) k₀)
 (h:∀t',SB kd z t'->Up κ (arrOf t') n->Q true t'):wpS (WA prog w) A E s (binarySort' 0 n k₀) Q t:=by
 rw[binarySort'_eq];simp only[Nat.zero_add];rw[Nat.max_eq_left h0];refine Ww (wpS_mono (wpS_forRange (fun k c t'=>c=(none,())/\SB kd z t'/\Up κ (arrOf t') k) (Q:=fun c t'=>c=(none,())/\SB kd z t'/\Up κ (arrOf t') n) ?_ ?_ ⟨rfl,b,u⟩) ?_)
 .rintro k c t' k1 k2 ⟨rfl,b',u'⟩
  refine Ww (wpS_mono (wpS_forRange (fun x c t2=>t2=t'/\∃l r,c=(none,l,r)/\l<=r/\r<=k/\r-l<=k-x /\
   (∀i,i<l->kv κ (arrOf t') i<=kv κ (arrOf t') k)/\∀i,r<=i->i<k->kv κ (arrOf t') k<=kv κ (arrOf t') i)
   (Q:=fun c t2=>t2=t'/\∃l r,c=(none,l,r)/\l<=k/\(∀i,i<l->kv κ (arrOf t') i<=kv κ (arrOf t') k)/\∀i,l<=i->i<k->kv κ (arrOf t') k<=kv κ (arrOf t') i) ?_ ?_
    ⟨rfl,0,k,rfl,tB _,zK _,zK _,fun i q=>VT q (Nat.not_lt_zero _),fun i q q'=>VT q' (Nat.not_lt.mpr q)⟩) ?_)
  .rintro x c t2 _ x2 ⟨rfl,l,r,rfl,lr,rk,m,lo,hi⟩
   dsimp only;by_cases g:l ≥ r
   .rw[VY g]
    have:l=r:=by lia
    subst this;exact Wv ⟨rfl,l,l,rfl,rk,lo,hi⟩
   rw[VZ g];obtain⟨a1,a2⟩:=Kh g;generalize (l+r) / 2=d at a1 a2;have a3:=tS a2 rk;refine Ww (tY L b' (by lia) (by lia) ?_);by_cases q:kv κ (arrOf t2) k<kv κ (arrOf t2) d
   .simp only[VX q,if_true]
    exact Wv ⟨rfl,l,d,rfl,a1,ZO a3,(show d-l<=k-x-1 from Nat.le_sub_one_of_lt (tS (Nat.sub_lt_sub_right a1 a2) m)),lo,fun i a c=>Int.le_trans (Int.le_of_lt q) (u' _ _ a c)⟩
   .simp only[VW q,ZV,if_false]
    exact Wv ⟨rfl,d+1,r,rfl,a2,rk,(show r-(d+1)<=k-x-1 from Nat.le_sub_one_of_lt (tS (Nat.sub_lt_sub_left (Nat.not_le.mp g) (Nat.lt_succ_of_le a1)) m)),fun i a=>Int.le_trans (u' i d (Nat.le_of_lt_succ a) a3) (Int.not_lt.mp q),hi⟩
  .rintro c t2 ⟨rfl,l,r,rfl,lr,rk,m,lo,hi⟩
   have:l=r:=by lia
   subst this;exact⟨rfl,l,l,rfl,rk,lo,hi⟩
  .rintro c t2 ⟨rfl,l,r,rfl,lk,lo,hi⟩
   show wpS (WA prog w) A E s (moveDown' k l >>= fun _=>pure (ForInStep.yield (none,()))) _ t2;rw[moveDown'_eq];refine Ww (wpS_modify (Wv ⟨rfl,b'.put (bubble_perm _ _ _),?_⟩));have g:k<(arrOf t2).size:=by rw[b'.sz];lia
   intro i j a c;show kv κ (bubble (arrOf t2) k (k-l)) i<=kv κ (bubble (arrOf t2) k (k-l)) j;rw[Bg g (by lia),Bg g (by lia),Nat.sub_sub_self lk];by_cases e1:i=l
   .rw[VY e1]
    by_cases e2:j=l
    .rw[VY e2];exact ZA _
    .rw[VZ e2,VY (by lia)];exact hi _ (by lia) (by lia)
   .rw[VZ e1]
    by_cases e3:l<i/\i<=k
    .rw[VY e3,VZ (by lia),VY (by lia)];exact u' _ _ (Nat.sub_le_sub_right a 1) (by lia)
    .rw[VZ e3]
     by_cases e2:j=l
     .rw[VY e2];exact lo _ (by lia)
     .rw[VZ e2]
      by_cases e4:l<j/\j<=k
      .rw[VY e4];exact u' _ _ (by lia) (by lia)
      .rw[VZ e4];exact u' _ _ a (by lia)
 .rintro c t' ⟨e,b',u'⟩
  rw[Nat.max_eq_right hk]at u';exact⟨e,b',u'⟩
 .rintro c t' ⟨rfl,b',u'⟩
  exact Wv (h t' b' u')
def Kj(L:Lts prog w A s kd κ z)(D:eK κ z)(b:SB kd z t)(h2:2<=z.size)(h64:z.size<64)
 (h:∀t',(arrOf t').Perm z->failedOf t'=none->Up κ (arrOf t') z.size->Q () t'):wpS (WA prog w) A E s sortRuns' Q t:=by
 rw[sortRuns'_eq];refine Ww (Wu ?_);dsimp only;have mr:minRun' z.size z.size 0=z.size:=by
  obtain⟨f,e⟩:∃f,z.size=f+1:=⟨z.size-1,by lia⟩;rw[e,minRun'_succ,VY (by lia),Nat.add_zero]
 simp only[b.sz,mr];refine Ww (wpS_mono (wpS_forRange
  (fun x c t'=>(x=0/\c=(none,0)/\SB kd z t')\/(1<=x/\c=(none,z.size)/\(arrOf t').Perm z/\failedOf t'=none/\pendingOf t' = #[(0,z.size,0)]/\Up κ (arrOf t') z.size))
  (Q:=fun c t'=>c=(none,z.size)/\(arrOf t').Perm z/\failedOf t'=none/\pendingOf t' = #[(0,z.size,0)]/\Up κ (arrOf t') z.size) ?_ ?_ (.inl ⟨rfl,rfl,b⟩)) ?_)
 .rintro x c t' _ x2 (⟨rfl,rfl,b'⟩|⟨x1,rfl,d⟩)
  .dsimp only
   rw[VZ (by lia)];simp only[Nat.sub_zero,Nat.min_self,Nat.zero_add];refine Ww (count L D (zK _) (by lia) b' fun m t2 b2 m1 m2 u2=>?_);dsimp only;by_cases g:m<z.size
   .rw[VY g]
    refine Ww (wpS_lift (wpAny_rule ⟨rfl,?_⟩));refine Ww (Hy L (zK _) m2 m1 b2 u2 fun t3 b3 u3=>?_);simp only[Bool.not_true,ZV,if_false];refine Ww (Wu ?_);rw[show(pendingOf t3).back? = none by rw[b3.pn];rfl];exact Ww (wpS_modify (Wv (.inr ⟨by lia,rfl,b3.pm,b3.fl,by show(pendingOf t3).push _=_;rw[b3.pn];rfl,u3⟩)))
   .rw[VZ g]
    have:m=z.size:=by lia
    subst this;refine Ww (Wu ?_);rw[show(pendingOf t2).back? = none by rw[b2.pn];rfl];exact Ww (wpS_modify (Wv (.inr ⟨by lia,rfl,b2.pm,b2.fl,by show(pendingOf t2).push _=_;rw[b2.pn];rfl,u2⟩)))
  .dsimp only
   rw[VY (zK _)];exact Wv ⟨rfl,d⟩
 .rintro c t' (⟨x,_,_⟩|⟨_,e,d⟩)
  .lia
  .exact⟨e,d⟩
 .rintro c t' ⟨rfl,p1,p2,p3,p4⟩
  dsimp only;refine Ww (wpS_mono (wpS_forRange (fun _ c t2=>t2=t'/\c=(none,())) (Q:=fun c t2=>t2=t'/\c=(none,())) ?_ (fun _ _ q=>q) ⟨rfl,rfl⟩) ?_)
  .rintro x c t2 _ _ ⟨rfl,rfl⟩
   refine Ww (Wu ?_);rw[VY (by rw[p3];exact zK 1)];exact Wv ⟨rfl,rfl⟩
  .rintro c t2 ⟨rfl,rfl⟩
   exact Wv (h _ p1 p2 p4)
end
section
variable{prog:WF}{w:WE}{A:WD}{E:WI->WG->Prop}{s:WG}
structure Cmp(prog:WF)(w:WE)(A:WD)(h:Wz)(os:OsState)(kd:SortKind)(κ:WI->Int)(vs:List WI):Prop where
 kind:∀(E:WI->WG->Prop) (s:WG) (Q:SortKind->WG->Prop),s.heap=h->Q kd s->WB (WA prog w) A (keyKind' vs.toArray) Q E s
 lt:∀(E:WI->WG->Prop) (s:WG) (p q:WI) (Q:Bool->WG->Prop),s.heap=h->p∈vs->q∈vs->Q (decide (κ p<κ q)) s->WB (WA prog w) A (keyLt' kd p q) Q E s
def pairs_mem{vs:List WI}(h:p∈(vs.toArray.zip vs.toArray).toList):p.1∈vs/\p.2=p.1:=by
 rw[Array.toList_zip]at h;simp at h;rw[List.zip_eq_zipWith,List.zipWith_self]at h;obtain⟨a,ha,e⟩:=yR.mp h;subst e;exact⟨ha,rfl⟩
def pairs_fst(vs:List WI):(vs.toArray.zip vs.toArray).toList.map (·.1)=vs:=by
 rw[Array.toList_zip];exact List.map_fst_zip (zK _)
def sort_by{vs:List WI}(ho:s.heap.get? a=some (seqObj "list" vs.toArray n))(h64:vs.length<64)(hd:(vs.map κ).Nodup)
 (hC:2<=vs.length->Cmp prog w A (((s.heap.update a (Xf fun _=>#[])).push (seqObj "tuple" vs.toArray 0)).push (seqObj "list" #[] 0)) s.os kd κ vs)
 (h:∀out:List WI,out.Perm vs->out.Pairwise (fun x y=>κ x<κ y)->P (.done (.ret .none)) { s with heap:=sortedHeap s.heap a vs out.toArray }) :
 WB (WA prog w) A (Builtin.«list.sort» ⟨[.ref a],[]⟩) P E s:=by
 rw[list_sort_plain];have la:a<s.heap.objs.size:=wu ho;refine zd (listItems_at ho rfl (zd (listUpdate_at ho rfl ?_ (hsz:=by rw[yX,ue];lia))));obtain⟨e1,ho1⟩:∃e,(s.heap.update a (Xf fun _=>#[])).get? a=some (seqObj "list" #[] e):=⟨_,get?_update_seq ho fun _=>#[]⟩;refine zd (seqEpoch_at ho1 rfl (zd (wpAny_newTuple (zd (wpAny_newList (YX ?_))) (by show vs.length<=_;rw[ue];lia))));have ho3:(((s.heap.update a (Xf fun _=>#[])).push (seqObj "tuple" vs.toArray 0)).push (seqObj "list" #[] 0)).get? a=some (seqObj "list" #[] e1):=
  Wr _ (Wr _ ho1)
 show WB (WA prog w) A _ P E { s with heap:=((s.heap.update a (Xf fun _=>#[])).push (seqObj "tuple" vs.toArray 0)).push (seqObj "list" #[] 0) };dsimp only;have fin:∀t:SortSt,(arrOf t).Perm (vs.toArray.zip vs.toArray)->failedOf t=none->Up (fun p=>κ p.1) (arrOf t) (vs.toArray.zip vs.toArray).size ->
  (((arrOf t).map (·.2)).toList.Perm vs/\((arrOf t).map (·.2)).toList.Pairwise fun x y=>κ x<κ y):=fun t pm _ u=>by
  have pl:=YM.mp pm;have e2:((arrOf t).map (·.2)).toList=(arrOf t).toList.map (·.1):=by
   rw[Array.toList_map];exact Zq fun p hp=>(pairs_mem (pl.mem_iff.mp hp)).2
  have p1:((arrOf t).map (·.2)).toList.Perm vs:=by
   rw[e2];have:=pl.map (·.1)
   rwa [pairs_fst]at this
  refine⟨p1,?_⟩;have nd:(((arrOf t).map (·.2)).toList.map κ).Nodup:=(p1.map κ).nodup_iff.mpr hd;rw[e2]at nd |-
  have sz:(arrOf t).size=(vs.toArray.zip vs.toArray).size:=pm.size_eq;refine YK.mpr fun i j hi hj hij=>?_;have hi':i<(arrOf t).size:=by simpa using hi
  have hj':j<(arrOf t).size:=by simpa using hj
  have l:=u i j (ZO hij) (by lia);rw[qv hi',qv hj']at l;have d:=YK.mp nd i j (by simpa using hi) (by simpa using hj) hij;simp at d l |-
  lia
 by_cases c2:vs.toArray.size<2
 .rw[VY c2,VY c2]
  refine zd (zJ ?_);rw[StateT.run_pure];refine zd (zJ ?_);dsimp only;refine zd (seqEpoch_at ho3 rfl ?_);obtain⟨f1,f2⟩:=fin (SortSt.mk' general' (vs.toArray.zip vs.toArray) #[] 7 none) (Array.Perm.refl _) rfl fun i j hij hj=>by
   have:i=j:=by simp at hj c2;lia
   subst this;exact ZA _
  have sz2:((vs.toArray.zip vs.toArray).map (·.2)).size<=WC+1:=by simp;rw[ue];lia
  refine zd (listUpdate_at ho3 rfl ?_ (hsz:=by rw[ue];decide) (hsz2:=sz2));simp only[bne_self_eq_false,ZV,if_false];exact zJ (h _ f1 f2)
 .rw[VZ c2,VZ c2]
  have C:=hC (by simp at c2;lia);refine zd (C.kind _ _ _ rfl ?_);have zs:(vs.toArray.zip vs.toArray).size=vs.length:=by simp
  have L:Lts prog w A { s with heap:=((s.heap.update a (Xf fun _=>#[])).push (seqObj "tuple" vs.toArray 0)).push (seqObj "list" #[] 0) } kd (fun p=>κ p.1) (vs.toArray.zip vs.toArray):=
   fun E p q Q hp hq k=>C.lt _ _ _ _ _ rfl (pairs_mem hp).1 (pairs_mem hq).1 k
  have D:eK (fun p=>κ p.1) (vs.toArray.zip vs.toArray):=by
   unfold eK;rw[show(vs.toArray.zip vs.toArray).toList.map (fun p=>κ p.1)=((vs.toArray.zip vs.toArray).toList.map (·.1)).map κ by rw[vN];rfl,pairs_fst];exact hd
  refine zd (Zf (Kj (z:=vs.toArray.zip vs.toArray) (t:=SortSt.mk' kd (vs.toArray.zip vs.toArray) #[] 7 none) (Q:=fun _ t'=>(arrOf t').Perm (vs.toArray.zip vs.toArray)/\failedOf t'=none/\Up (fun p=>κ p.1) (arrOf t') (vs.toArray.zip vs.toArray).size)
   L D ⟨Array.Perm.refl _,rfl,rfl,rfl⟩ (by rw[zs];simp at c2;lia) (by lia) fun t' a1 a2 a3=>⟨a1,a2,a3⟩) ?_ fun _ _ e=>e)
  rintro⟨⟨⟩,t'⟩ s' ⟨rfl,a1,a2,a3⟩;dsimp only;refine zd (seqEpoch_at ho3 rfl ?_);obtain⟨f1,f2⟩:=fin t' a1 a2 a3;have sz2:((arrOf t').map (·.2)).size<=WC+1:=by
   have:=f1.length_eq;rw[ZN]at this;rw[this,ue];lia
  refine zd (listUpdate_at ho3 rfl ?_ (hsz:=by rw[ue];decide) (hsz2:=sz2));rw[a2];simp only[bne_self_eq_false,ZV,if_false];exact zJ (h _ f1 f2)
end
end Srt
namespace Srt
open PySem PyProof.Rows
def Two(h:Wz)(p:WH)(x y:Int):Prop:=∃(o:Obj) (t u:Tok) (n:Nat),h.get? p=some o/\o.cls = .type "tuple" /\ o.data = .seq #[.int x t,.int y u] n
end Srt
namespace Srt
open PySem PyProof.Rows
section
variable{prog:WF}{w:WE}{A:WD}{E:WI->WG->Prop}{R:Result->WG->Prop}{s:WG}{I S ax:WH}{items:Array WI}{h₀:Wz}{κ:WI->Int}
def Prs(h:Wz)(κ:WI->Int)(lo:Int)(v:WI):Prop:=∃p x y,v = .ref p/\Two h p x y/\κ v=x*64+y/\lo<=y/\y<lo+64
end
end Srt
end L2
namespace L2
open PySem PyProof.Rows
section
variable{X:Cx}{WY:List (WH × Obj)}{σ:St}{H:Hp}{s:WG}
abbrev Pr:=WH × Int × Int
noncomputable def Ite(K:Ws)(a:WH):It:=
 ⟨fun i H=>∃xs x,SqL K H a xs/\xs[i]? = some x,fun i H x H'=>∃p y,H p=none/\x = .ref p/\H'=upd H p (.tup [.int i,y])/\∀xs,SqL K H a xs->xs[i]? = some y,fun i H=>∃xs,SqL K H a xs/\xs.length<=i⟩
def WL.turned2{h':Wz}(I:WL X WY σ H s)(ge:s.heap.get? e=some oe)(gi:s.heap.get? it=some oi)(ne:e≠it)(he:∃o,h'.get? e=some o/\o.isFreed=false)(hi:∃o,h'.get? it=some o/\o.isFreed=false)
 (k:∀b o,b≠e->b≠it->s.heap.get? b=some o->h'.get? b=some o) (fe:iN X WY H e) (fi:iN X WY H it):∃h2:Wz,h2.objs.size=s.heap.objs.size/\WL X WY σ H { s with heap:=h2,toks:=t' }/\∀b o,h2.get? b=some o->h'.get? b=some o:=by
 obtain⟨o1,g1,z1⟩:=he;obtain⟨o2,g2,z2⟩:=hi;refine⟨(s.heap.update it fun _=>o2).update e fun _=>o1,by rw[Heap.size_update,Heap.size_update],?_,?_⟩
 .have I1:WL X WY σ H { s with heap:=s.heap.update it fun _=>o2,toks:=t' }:=I.turned (fun b o hb q=>(Wp _ _ (Wc hb)).trans q) fi.1 fi.2.1 fi.2.2.2.1 fi.2.2.2.2.1 fi.2.2.2.2.2
  exact I1.turned (t':=t') (fun b o hb q=>(Wp _ _ (Wc hb)).trans q) fe.1 fe.2.1 fe.2.2.2.1 fe.2.2.2.2.1 fe.2.2.2.2.2
 .intro b o q
  by_cases b1:b=e
  .subst b1
   have ge':(s.heap.update it fun _=>o2).get? b=some oe:=(Wp _ _ (Wc ne)).trans ge;rw[Wo _ ge' z1]at q;cases q;exact g1
  .rw[Wp _ _ (Wc b1)]at q
   by_cases b2:b=it
   .subst b2
    rw[Wo _ gi z2]at q;cases q;exact g2
   .rw[Wp _ _ (Wc b2)]at q
    exact k b o b1 b2 q
def yA{P:WF}{w:WE}{K:Ws}{elts:List Expr}{cx:_}{pos:Pos}(a e it:WH)(ne:e≠it) :
 tE P w K (.Tuple elts cx pos) (Ite K a) [e,it] e (fun i h=>∃old,IsEnum h e it (i:Nat) old/\h.IsListIter it a i) where
 mem:=by simp
 obj:=fun i h st b hb=>by
  obtain⟨old,h1,o,h2,c,d⟩:=st;obtain rfl|hb:=z9.mp hb
  .exact⟨_,h1,fun v z=>by
    have z':XB _=Data.cell v:=z;cases z'⟩
  .have z:=zh.mp hb
   subst z;exact⟨o,h2,fun v z=>by rw[d]at z;cases z⟩
 keep:=fun i h h' st k=>by
  obtain⟨old,h1,h2⟩:=st;exact⟨old,k e (by simp) _ h1,h2.at fun o q=>k it (by simp) o q⟩
 item:=by
  intro X hP hw hK hc i WY s σ H E I hf st hg;subst hP hw hK;obtain⟨xs,x,hq,hx⟩:=hg;obtain⟨WV,rv,p,hz⟩:=I.list hq;obtain⟨u,hu,ru⟩:=rv.get hx;have fe:=hf e (by simp);have fi:=hf it (by simp);obtain⟨old,h1,h2⟩:=st;obtain⟨oi,gi,ci,di⟩:=id h2;refine wpAny_pyNext_enum_item h1 h2 p.isList (x:=u) (by simpa using hu) ne fun h' e1 i1 t1 z1 k1=>?_;obtain⟨oi',gi',ci',di'⟩:=id i1;obtain⟨h3,z3,I3,k3⟩:=I.turned2 (t':=s.toks+1) (h':=h') h1 gi ne ⟨_,e1,rfl⟩ ⟨_,gi',Yq di'⟩ k1 fe fi;have hn:=I.hok.fresh (zK s.heap.objs.size);have I4:WL X WY σ (upd H s.heap.objs.size (.tup [.int i,x])) { s with heap:=h',toks:=s.toks+1 }:=
   I3.laid (t':=s.toks+1) k3 (Nat.le_of_eq z3) (show WO X.prog X.w _ h' _ (.tup [.int i,x]) from⟨by show 2<=WC;rw[ue];decide,[.int i s.toks,u],.cons ⟨_,rfl⟩ (.cons ru .nil),⟨_,t1,rfl,0,rfl⟩⟩)
  have le:e<s.heap.objs.size:=wu h1;have li:it<s.heap.objs.size:=wu gi;have nH:∀b,b<s.heap.objs.size->upd H s.heap.objs.size (.tup [.int i,x]) b=H b:=fun b l=>ag (Zx l);refine⟨_,rfl,wpAny_letOwnedTupleGo_enum (s:={ s with heap:=h',toks:=s.toks+1 }) e1 fun h5 e5 s5=>?_⟩;have I5:WL X WY σ (upd H s.heap.objs.size (.tup [.int i,x])) { s with heap:=h5,toks:=s.toks+1 }:=
   I4.turned (t':=s.toks+1) (fun b o hb q=>(s5.2 b hb).trans q) ((nH e le).trans fe.1) fe.2.1 fe.2.2.2.1 fe.2.2.2.2.1 fe.2.2.2.2.2
  refine⟨.ref s.heap.objs.size,_,I5,rfl,⟨_,x,hn,rfl,rfl,fun ys hy=>by rw[I.list_inj hy hq];exact hx⟩,⟨u,e5,i1.at fun o q=>(s5.2 it (Wc ne)).trans q⟩,fun b hb=>?_⟩;obtain rfl|hb:=z9.mp hb
  .exact(nH _ le).trans fe.1
  .rw[zh.mp hb];exact(nH _ li).trans fi.1
 done:=by
  intro X hP hw hK hc i WY s σ H E I hf st hg;subst hP hw hK;obtain⟨xs,hq,hx⟩:=hg;obtain⟨WV,rv,p,hz⟩:=I.list hq;have fi:=hf it (by simp);have hl:=rv.length;obtain⟨old,h1,h2⟩:=st;exact wpAny_pyNext_enum_end (I.ok.hd hc) h1 h2 p.isList (by simp;lia) fun h' eb=>⟨rfl,I.turned (t':=s.toks) (fun b o hb q=>eb b o hb q) fi.1 fi.2.1 fi.2.2.2.1 fi.2.2.2.2.1 fi.2.2.2.2.2⟩
 self:=fun _ _ _ _ _ ⟨_,st,_⟩ h=>wpAny_pyIter_enum st h
def EO(K:Ws)(ta:TA):TI:=fun σ H R=>ta σ H fun vs H1=>∃a,vs=[.ref a]/\(∃xs,SqL K H1 a xs)/\R (Ite K a) H1
def Em{arg:Expr}{ta:TA}{p pos:Pos}{elts:List Expr}{cx:_}{tp:Pos}(K:Ws)(hg:Gl X "enumerate")(hm:X.mg "enumerate" = none)(ha:PA X [arg] ta)(hs:Wy [arg] X.env=[(false,eval arg X.env)]:=by rfl)(hK:X.K=K:=by rfl) :
 PI X (.Tuple elts cx tp) (.Call (.Name "enumerate" p) [arg] [] pos) (EO K ta):=by
 subst hK;intro WY s σ H R I h;refine Call_ (jD I hg hm PyProof.Rows.boot_enumerate (Yv (thn (ha pos WY s σ H _ I h) fun us s1 ⟨vs,H1,I1,r1,q1⟩=>?_) hs rfl));obtain⟨a,e,⟨xs,hq⟩,q⟩:=q1;subst e;obtain⟨u,rfl,ru⟩:=d8 r1;cases (show u=yJ a from ru);obtain⟨WV,rv,pl,hz⟩:=I1.list hq;refine call_enumerate_list pl.isList fun h' e1 i1 z1 k1=>wpAny_pyIter_enum (s:={ s1 with heap:=h' }) e1 ?_;refine⟨_,[s1.heap.objs.size+1,s1.heap.objs.size],_,_,H1,rfl,I1.kept (t':=s1.toks) k1,yA a _ _ (Nat.succ_ne_self _),⟨_,e1,i1⟩,fun b hb=>?_,q⟩;obtain rfl|hb:=z9.mp hb
 .exact I1.fpOk (Nat.le_succ _) (I1.hok.fresh (Nat.le_succ _))
 .rw[zh.mp hb];exact I1.fpOk (zK _) (I1.hok.fresh (zK _))
noncomputable def jd:WI->List Nat
 | .str x _=>x.cps.toList
 |_=>[]
def IsS(v:WI):Prop:=∃x t,v = .str x t
abbrev InO(ls:List (List Nat)):Prop:=ls.Pairwise fun a b=>¬ b<a
theorem uQ:∀ {a b:List (List Nat)},a.Perm b->InO a->InO b->a=b
 | [],_,p,_,_=>p.nil_eq
 |x::r,b,p,ha,hb=>by
  cases b with
  |nil=>exact VT p.length_eq (by simp)
  |cons y t=>
   have hx:x∈y::t:=p.mem_iff.mp (.head _);have hy:y∈x::r:=p.mem_iff.mpr (.head _);have e:x=y:=by
    obtain h|h:=z9.mp hx
    .exact h
    .obtain h'|h':=z9.mp hy
     .exact h'.symm
     .exact List.le_antisymm (List.not_lt.mp ((Xx.mp ha).1 y h')) (List.not_lt.mp ((Xx.mp hb).1 x h))
   subst e;rw[uQ (List.Perm.cons_inv p) (Xx.mp ha).2 (Xx.mp hb).2]
theorem oj:∀ {vs:List WI},(∀v∈vs,IsS v)->WP ((vs.map jd).map T) vs
 | [],_=>.nil
 |v::vs,h=>by
  obtain⟨x,t,rfl⟩:=h v (Yo ..);exact .cons ⟨t,rfl⟩ (oj fun u m=>h u (Zy _ m))
theorem oC:∀ {ls:List (List Nat)} {vs:List WI},WP (ls.map T) vs->(∀v∈vs,IsS v)/\vs.map jd=ls
 | [],_,.nil=>⟨(fun _ m=>nomatch m),rfl⟩
 |l::ls,_,.cons e t=>by
  obtain⟨k,rfl⟩:=e;obtain⟨a,b⟩:=oC t;refine⟨fun v m=>?_,by rw[yH,b];rfl⟩;obtain rfl|m:=z9.mp m
  .exact⟨_,_,rfl⟩
  .exact a v m
theorem oy:∀ {vs:List WI},(∀v∈vs,IsS v)->∃ss,StrsAre vs ss
 | [],_=>⟨[],.nil⟩
 |v::vs,h=>by
  obtain⟨x,t,rfl⟩:=h v (Yo ..);obtain⟨ss,r⟩:=oy fun u m=>h u (Zy _ m);exact⟨x::ss,.cons x t r⟩
def wO(hv:∀v∈vs,IsS v)(hp:xs.Perm (pairsOf vs))(hs:SortedToK strKind xs (pairsOf vs).size) :
 (xs.map (·.2)).toList.Perm vs/\InO ((xs.map (·.2)).toList.map jd):=by
 have pl:xs.toList.Perm (vs.toArray.zip vs.toArray).toList:=YM.mp hp;have e2:(xs.map (·.2)).toList=xs.toList.map (·.1):=by
  rw[Array.toList_map];exact Zq fun p m=>(Srt.pairs_mem (pl.mem_iff.mp m)).2
 have p1:(xs.map (·.2)).toList.Perm vs:=by
  rw[e2];have:=pl.map (·.1)
  rwa [Srt.pairs_fst]at this
 refine⟨p1,?_⟩;rw[e2,vN];have sz:xs.size=(pairsOf vs).size:=hp.size_eq;refine YK.mpr fun i j hi hj hij=>?_;have hi':i<xs.size:=by simpa using hi
 have hj':j<xs.size:=by simpa using hj
 have l:=hs i j (ZO hij) (by lia);have kk:∀k (h:k<xs.size),KK strKind xs k=jd xs[k].1:=fun k h=>by
  have m:xs[k]∈xs.toList:=by simp
  obtain⟨x,t,e⟩:=hv _ (Srt.pairs_mem (pl.mem_iff.mp m)).1;unfold KK;rw[Wh h];show(strKind.keyOf xs[k].1).getD strKind.dflt=_;rw[e];rfl
 rw[kk i hi',kk j hj']at l;have l':decide (jd xs[j].1<jd xs[i].1)=false:=l;simp only[List.getElem_map,Array.getElem_toList,Function.comp_apply];exact of_decide_eq_false l'
def z7(K:Ws):List V->Hp->VK->Prop
 | [.ref p],H,Q=>∃ls:List (List Nat),SqL K H p (ls.map T)/\ls.length<64/\∀out:List (List Nat),out.Perm ls->InO out->∀l,H l=none->Q (.ref l) (upd H l (.lst (out.map T)))
 |_,_,_=>False
def Bf(K:Ws)(hK:X.K=K:=by rfl):WN X (.builtin "sorted") (z7 K):=by
 subst hK;intro WY s σ H xs us Q I r h;obtain _|⟨e_1,r_1⟩:=xs
 .exact WZ h
 cases e_1 with
 |ref p=>
  cases r_1 with
  |nil=>
   obtain⟨ls,hq,h64,q⟩:=h;obtain⟨u,rfl,rx⟩:=d8 r;cases (show u=yJ p from rx);obtain⟨WV,r',pl,hz⟩:=I.list hq;obtain⟨hv,em⟩:=oC r';obtain⟨ss,hS⟩:=oy hv;have len:WV.length<64:=by have:=r'.length;rw[zV]at this;lia
   refine sortedK strKind_oneLt pl.isList hS.keysOf (fun v₁ v₂ rest e=>keyKind_strs (by rw[<- e];exact hS)) len fun st' hp hs=>?_;obtain⟨p1,o1⟩:=wO hv hp hs;generalize hout:(arrOf st').map (·.2)=out at p1 o1;obtain⟨c,ea⟩:=sortedAll_at s.heap WV out;have kp:∀b o,s.heap.get? b=some o->(sortedAll s.heap WV out).get? b=some o:=fun _ _ e=>sortedAll_old e;have hv2:∀v∈out.toList,IsS v:=fun v m=>hv v (p1.mem_iff.mp m);have pm:(out.toList.map jd).Perm ls:=by have:=p1.map jd;rwa [em]at this
   refine⟨.ref (s.heap.objs.size+1),_,I.laid (t':=s.toks) (a:=s.heap.objs.size+1) kp (Nat.le_succ _) (show WO X.prog X.w _ (sortedAll s.heap WV out) _ (.lst ((out.toList.map jd).map T)) from⟨?_,out.toList,c,oj hv2,by rw[Array.toArray_toList];exact ea⟩),rfl,q _ pm o1 _ (I.hok.fresh (Nat.le_succ _))⟩;rw[zV,pm.length_eq,ue];lia
  |cons=>exact WZ h
 |_=>exact WZ h
def Bq:List V->Hp->VK->Prop
 | [.ref d],H,Q=>∃WU:List (Key × V),H d=some (.dK WU)/\∀l,H l=none->Q (.ref l) (upd H l (.lst (WU.map fun e=>kV e.1)))
 |_,_,_=>False
theorem lP:∀ {vs:List (Key × WI)} {us:List WI},us.length=vs.length->(∀(j:Nat) (v:WI),us[j]? = some v->∃k x,vs[j]? = some (k,x)/\(bJ P w).is k v=true)->WP (vs.map fun e=>kV e.1) us
 | [],[],_,_=>.nil
 |e::vs,u::us,hl,h=>by
  obtain⟨k,x,e1,r⟩:=h 0 u rfl;simp at e1;subst e1;refine .cons ?_ (lP (by simpa using hl) fun j v q=>by simpa using h (j+1) v (by simpa using q));cases k with
  |inl i=>obtain⟨t,z⟩:=Value.isInt_shape r;exact⟨t,z⟩
  |inr x=>obtain⟨t,z⟩:=Value.isStrOf_shape r;exact⟨t,z⟩
 | [],_::_,hl,_=>by simp at hl
 |_::_,[],hl,_=>by simp at hl
def Jy(hc:X.calm=true):WN X (.type "list") Bq:=by
 intro WY s σ H xs us Q I r h;obtain _|⟨e_1,r_1⟩:=xs
 .exact WZ h
 cases e_1 with
 |ref d=>
  cases r_1 with
  |nil=>
   obtain⟨WU,hd,q⟩:=h;obtain⟨u,rfl,rx⟩:=d8 r;cases (show u=yJ d from rx);obtain⟨z,lo,vs,kv,D⟩:=tQ I.hok hd;obtain⟨ep,hat⟩:=D.dictAt;have len:vs.length=WU.length:=(KV.length kv).symm;refine PySem.W.kdl_call (PySem.W.kdl_dict (knd:=bJ X.prog X.w) (kvs:=vs) (ep:=ep) lo) (I.ok.hd hc) hat (by lia) fun h' tk acc c kp ea it=>?_;have ek:WU.map (fun e=>kV e.1)=vs.map fun e=>kV e.1:=by
    have:=VU (List.map kV) (KV.keys kv)
    simpa [vN,Function.comp_def] using this
   refine⟨.ref s.heap.objs.size,_,I.laid (t':=tk) kp (zK _) (show WO X.prog X.w _ h' _ (.lst (WU.map fun e=>kV e.1)) from⟨by rw[zV];exact z,acc.toList,c,?_,by rw[Array.toArray_toList];exact ea⟩),rfl,q _ (I.hok.fresh (zK _))⟩;rw[ek];exact lP (P:=X.prog) (w:=X.w) (by rw[ZN];exact it.1) fun j v e=>it.2 j v (by rw[<- We];exact e)
  |cons=>exact WZ h
 |_=>exact WZ h
def zY:List V->Hp->VK->Prop
 | [.ref d],H,Q=>∃(WU:List (Key × V)) (ls:List (List Nat)),H d=some (.dK WU)/\WU.map (fun e=>kV e.1)=ls.map T/\ls.length<64/\∀out:List (List Nat),out.Perm ls->InO out->∀l,H l=none->Q (.ref l) (upd H l (.lst (out.map T)))
 |_,_,_=>False
def uJ(hc:X.calm=true):WN X (.builtin "sorted") zY:=by
 intro WY s σ H xs us Q I r h;obtain _|⟨e_1,r_1⟩:=xs
 .exact WZ h
 cases e_1 with
 |ref d=>
  cases r_1 with
  |nil=>
   obtain⟨WU,ls,hd,hks,h64,q⟩:=h;obtain⟨u,rfl,rx⟩:=d8 r;cases (show u=yJ d from rx);obtain⟨z,lo,vs,kv,D⟩:=tQ I.hok hd;obtain⟨ep,hat⟩:=D.dictAt;have len:vs.length=WU.length:=(KV.length kv).symm;have ek:WU.map (fun e=>kV e.1)=vs.map fun e=>kV e.1:=by
    have:=VU (List.map kV) (KV.keys kv)
    simpa [vN,Function.comp_def] using this
   refine Calls.call_function_entry kind_sorted plain_sorted entry_sorted (args_sorted1 _) ?_;unfold Builtin.«sorted»;refine zd (m:=checkCount "sorted" 1 1 _) (zJ ?_);refine zd (PySem.W.kdu_collect (PySem.W.kdl_dict (knd:=bJ X.prog X.w) (kvs:=vs) (ep:=ep) lo) (I.ok.hd hc) hat (by lia) fun h' tk acc kp it=>?_);have rv:WP (ls.map T) acc.toList:=by
    rw[<- hks,ek];exact lP (P:=X.prog) (w:=X.w) (by rw[ZN];exact it.1) fun j v e=>it.2 j v (by rw[<- We];exact e)
   obtain⟨hv,em⟩:=oC rv;obtain⟨ss,hS⟩:=oy hv;have len2:acc.toList.length<64:=by have:=rv.length;rw[zV]at this;lia
   refine zd (wpAny_newList ?_);have hoL:(h'.push (seqObj "list" acc.toList.toArray 0)).get? h'.objs.size=some (seqObj "list" acc.toList.toArray 0):=Wq _ rfl;refine zd (YX (ZS slot_list_sort ⟨_,hoL,rfl⟩ entry_list_sort (list_sort_treeK strKind_oneLt hoL hS.keysOf (fun v₁ v₂ rest e=>keyKind_strs (by rw[<- e];exact hS)) len2 fun st' hp hs=>⟨_,rfl,?_⟩) (args_list_sort _)));refine zJ ⟨_,rfl,?_⟩;obtain⟨p1,o1⟩:=wO hv hp hs;generalize hout:(arrOf st').map (·.2)=out at p1 o1;obtain⟨c,ea⟩:=sortedHeap_at (out:=out) hoL;have I1:WL X WY σ H { s with heap:=h',toks:=tk }:=I.kept kp;have kp2:∀b o,h'.get? b=some o->(sortedHeap (h'.push (seqObj "list" acc.toList.toArray 0)) h'.objs.size acc.toList out).get? b=some o:=fun b o e=>by
    have l1:=wu e;rw[sortedHeap_old (Zx l1) (by rw[size_push'];exact Nat.lt_succ_of_lt l1),Heap.get?_push_ne _ _ _ (Zx l1)];exact e
   have hv2:∀v∈out.toList,IsS v:=fun v m=>hv v (p1.mem_iff.mp m);have pm:(out.toList.map jd).Perm ls:=by have:=p1.map jd;rwa [em]at this
   refine⟨.ref h'.objs.size,_,I1.laid (t':=tk) (a:=h'.objs.size) kp2 (zK _) (show WO X.prog X.w _ _ _ (.lst ((out.toList.map jd).map T)) from⟨?_,out.toList,c,oj hv2,by rw[Array.toArray_toList];exact ea⟩),rfl,q _ pm o1 _ (I1.hok.fresh (zK _))⟩;rw[zV,pm.length_eq,ue];lia
  |cons=>exact WZ h
 |_=>exact WZ h
def JQ(K:Ws):List V->Hp->VK->Prop
 | [.ref p],H,Q=>∃bs:List Bool,SqL K H p (bs.map V.bl)/\Q (.bl (bs.any id)) H
 |_,_,_=>False
def Ey(K:Ws)(hc:X.calm=true)(hK:X.K=K:=by rfl):WN X (.builtin "any") (JQ K):=by
 subst hK;intro WY s σ H xs us Q I r h;obtain _|⟨e_1,r_1⟩:=xs
 .exact WZ h
 cases e_1 with
 |ref p=>
  cases r_1 with
  |nil=>
   obtain⟨bs,hq,q⟩:=h;obtain⟨u,rfl,rx⟩:=d8 r;cases (show u=yJ p from rx);obtain⟨WV,rv,pl,hz⟩:=I.list hq;have hne:p≠s.heap.objs.size:=Zx (by obtain⟨_,e,_⟩:=pl.isList;exact wu e);have hb:LSm.BoolsAre WV bs:=kx rv;refine call_any_walk (wpAny_pyIter_list pl.isList ?_);refine⟨s.heap.objs.size,[s.heap.objs.size,p],[s.heap.objs.size],WV.toArray.size,_,_,fun i=>(bs[i]?).getD false,rfl,Walks.list (A:=X.A.in1) (I.ok.hd hc) _ p hne WV.toArray,
    ⟨⟨_,Wq _ rfl,rfl,rfl⟩,pl.isList.push _⟩,fun i v s' Q' E' hP hQ=>?_,fun h' tk hk=>?_⟩
   .obtain⟨b,e,rfl⟩:=hb.get i v (by simpa using hP)
    simp only[e,Option.getD_some]at hQ;exact ZL hQ
   .have e:((Zw WV.toArray.size).any fun i=>(bs[i]?).getD false)=bs.any id:=by
     rw[yX,hb.length];exact LSm.range_any bs
    rw[e];exact⟨.bl (bs.any id),H,I.kept (LSm.kept_iter hk),rfl,q⟩
  |cons=>exact WZ h
 |_=>exact WZ h
end
def Fb(K:Ws)(CH:WH)(tb:XKs->TS)(th:TS):TS:=fun D σ H=>
 tb (fun σ' C _ H'=>∃Ce,C = .ref Ce/\Z9 K (.ref Ce) (.ref CH)=some true/\th D σ' H') D σ H
def CQ
 (hg:Gl X x) (hm:X.mg x=some (.ref CH))
 (hex:X.ex=[]) (hst:X.stack=X.env::X.WX) (hfr:X.env.frame=some X.env.locals)
 (hb:∀(pn:List (WH × Obj)) (Ee:WI->WG->Prop) (Ex:XKs),ce (XE X.prog X.w) { X with pn:=pn,xe:=Ee } Ex->PSs { X with pn:=pn,xe:=Ee } body (tb Ex))
 (hh:∀e:WH,PSs (X.caught e) (b₀::suite) th) (hdb:(x==("__debug__":Str))=false:=by decide) :
 PS X (.Try body [.ExceptHandler (some (.Name x np)) none (b₀::suite) hpos] [] [] pos) (Fb X.K CH tb th):=by
 intro WY s σ H D I h;refine wpAny_Try_except ?_;have ok:=I.ok;refine Zf (hb (X.pn++WY) _ _ ?hP [] s σ H D (I.toPn _) h) (fun f s1 hf=>?_) (fun _ _ z=>z)
 case hP=>
  intro pins' σ' H1 s1 ev s1' I1 hq;obtain⟨e,C,rs,H',rfl,os,bare,un,hok,hrs,⟨her,a0,fl,g0⟩,⟨Ce,rfl,hmro,hth⟩⟩:=hq;have J1:=I1.call' os un hok bare (fun b z=>nomatch z);have J:WL X WY σ' H' s1':=J1.ofPn ok;have I0:WL X WY σ' H1 s1:=I1.ofPn ok;have hn0:∀b∈rs,X.s₀.heap.get? b=none/\H' b=none:=fun b hb=>by
   refine⟨?_,(hrs b hb).2⟩;cases q:X.s₀.heap.get? b with
   |none=>rfl
   |some o=>
    obtain⟨o',z⟩:=I0.base.there b o q (by rw[hex];simp);rw[(hrs b hb).1]at z;cases z
  have hpin:∀p∈X.pn++WY,p.1∉rs:=fun p hp z=>by
   have:=(I0.pin p hp).1;rw[(hrs _ z).1]at this;cases this
  have hstk:s1'.heap.FunFrames X.base (X.env::X.WX):=by rw[<- hst];exact J.stack
  rw[show X.stack=X.env::X.WX from hst]at fl;have hfrm:X.A.frames=some (X.env::X.WX):=by rw[<- hst];exact ok.frames
  show WB (WA X.prog X.w) X.A (noteFrame (.ref e) X.env) _ _ s1';refine cH (e:=e) (rW _ _) g0 (wpAny_looks_onW (base:=hid s1'.heap (X.env::X.WX) rs) hfrm hfr fl fun h₄ held up4 g4=>?_);refine cH (e:=e) (gX _ _) g4 (wpAny_landsW held fun h₅ fl5 up5 g5=>?_);have nin:∀b,b∉frs X.stack->b∉frs (X.env::X.WX):=fun b hb=>by rw[<- hst];exact hb
  have stay5:∀b o,s1'.heap.get? b=some o->b∉frs X.stack->b∉rs->h₅.get? b=some o:=fun b o z hb hr=>fl5.1 b o (ij z (nin b hb) hr);have I5:WL X WY σ' H' { s1' with heap:=h₅,toks:=s1'.toks }:=J.noted hn0 hpin stay5 (up4.trans up5);obtain⟨ob,hob,hobc⟩:=fl5.there;refine wpAny_handleBy_cons (codeAny_handlers_test (g_ (X:=X.caught e) (I5.toCaught e) hg hm (j_ I5.kIn hob hobc hmro ?_) hdb)) (by intro q;cases q);refine codeAny_handlers_suite (cH (e:=e) (gX _ _) g5 (lands_againW fl5 fun h₆ fl6 up6 g6=>?_));have stay6:∀b o,s1'.heap.get? b=some o->b∉frs X.stack->b∉rs->h₆.get? b=some o:=fun b o z hb hr=>fl6.1 b o (ij z (nin b hb) hr);have I6:WL X WY σ' H' { s1' with heap:=h₆,toks:=s1'.toks }:=J.noted hn0 hpin stay6 ((up4.trans up5).trans up6);refine Zf (hh e WY _ _ _ _ (I6.toCaught e) hth) (fun f s8 hf=>?_) (fun _ _ z=>z.elim);cases f with
  |next=>
   obtain⟨σ2,H2,J2,q⟩:=hf;exact⟨_,_,J2.ofCaught ok,q⟩
  |brk=>
   obtain⟨σ2,H2,J2,q⟩:=hf;exact⟨_,_,J2.ofCaught ok,q⟩
  |cont=>
   obtain⟨σ2,H2,J2,q⟩:=hf;exact⟨_,_,J2.ofCaught ok,q⟩
  |ret u=>
   obtain⟨v,σ2,H2,J2,r,q⟩:=hf;exact⟨v,_,_,J2.ofCaught ok,r,q⟩
 cases f with
 |next=>
  obtain⟨σ',H',J,q⟩:=hf;exact Xr ⟨σ',H',J.ofPn ok,q⟩
 |brk=>
  obtain⟨σ',H',J,q⟩:=hf;exact⟨σ',H',J.ofPn ok,q⟩
 |cont=>
  obtain⟨σ',H',J,q⟩:=hf;exact⟨σ',H',J.ofPn ok,q⟩
 |ret u=>
  obtain⟨v,σ',H',J,r,q⟩:=hf;exact⟨v,σ',H',J.ofPn ok,r,q⟩
open Lean Meta Simp
def DA:List Name:=Hq++[`L2.Ji,`L2.xB,`L2.Fd,`L2.Fb]
def Ed:List Name:=GF++[`L2.z7,`L2.zY,`L2.Bq,`L2.JQ,`L2.Jp,`L2.Je]
end L2
namespace L2
open PySem PyProof.Rows
def Ap(h:l≠[])(hc:c<256):Txt.count ⟨⟨l⟩⟩ ⟨#[c]⟩=((spN c l).length:Int)-1:=by
 have e:=VU Yl (tN l c);rw[zV]at e;have h1:(decide ((⟨⟨l⟩⟩:Str).length<(⟨#[c]⟩:Str).length) || decide (YY ⟨⟨l⟩⟩<YY ⟨#[c]⟩))=false:=by
  have a1:¬ (⟨⟨l⟩⟩:Str).length<(⟨#[c]⟩:Str).length:=by
   have:0<l.length:=Y4.mpr h;show ¬ l.length<1;lia
  have a2:YY ⟨#[c]⟩=1:=by
   unfold YY;rw[VY (by simp[hc])]
  have a3:¬ YY ⟨⟨l⟩⟩<1:=by
   unfold YY;split
   .decide
   .split <;> decide
  rw[a2,VW a1,VW a3];rfl
 unfold Txt.split at e;rw[VZ (ne_true_of_eq_false h1)]at e;unfold Txt.count;by_cases hf:(Builtin.Str.occurrences ⟨⟨l⟩⟩ ⟨#[c]⟩ 0 (⟨⟨l⟩⟩:Str).length ((⟨⟨l⟩⟩:Str).length+1)).isEmpty=true
 .rw[VY hf]at e
  rw[<- e,List.isEmpty_iff.mp hf];rfl
 .rw[VZ hf,length_partsBetween]at e
  rw[<- e];lia
section
variable{X:Cx}{WY:List (WH × Obj)}{σ:St}{H:Hp}{s:WG}
def Ir:V->List V->Hp->VK->Prop
 | .str x,[.str y],H,Q=>∃c,cs y=[c]/\c<256/\cs x≠[]/\Q (.int ((spN c (cs x)).length-1)) H
 |_,_,_,_=>False
def AC:MtR X "str.count" Ir:=by
 intro WY s σ H x xs v us Q I rx rs h;cases x with
 |str x=>
  obtain _|⟨e_1,r_1⟩:=xs
  .exact WZ h
  cases e_1 with
  |str y=>
   cases r_1 with
   |nil=>
    obtain⟨c,hc,h2,h0,q⟩:=h;obtain⟨t,rfl⟩:=rx;obtain⟨u,rfl,t',rfl⟩:=d8 rs;have hy:=wj hc;subst hy;obtain⟨⟨l⟩⟩:=x;refine SC.count ⟨.int _,H,I.kept (t':=s.toks+1) (fun b o e=>e),⟨_,rfl⟩,?_⟩;rw[Ap (l:=l) h0 h2];exact q
   |cons=>exact WZ h
  |_=>exact WZ h
 |_=>exact WZ h
end
namespace Srt
def KH(h:Wz)(p:WH)(x y z:Int):Prop:=∃(o:Obj) (t u r:Tok) (n:Nat),h.get? p=some o/\o.cls = .type "tuple" /\ o.data = .seq #[.int x t,.int y u,.int z r] n
end Srt
end L2
namespace L2
namespace Rv
open PySem PyProof.Rows
end Rv
open PySem PyProof.Rows
def FE(J:It)(g:TG)(tb:TS)(D:fo)(σ:St)(H:Hp):Prop:=∃W:Nat->Nat->St->Hp->Prop,(∃m,W 0 m σ H)/\∀i m σ H,W i m σ H ->
 (J.stop i H/\D.nx σ H)\/(J.go i H/\∃N:St->Hp->Prop,(∀σ' H',N σ' H'->∃m',m'<m/\W (i+1) m' σ' H')/\∀x H',J.yld i H x H'->g x σ H' fun σ2 H2=>tb { D with nx:=N,ct:=N,bk:=D.nx } σ2 H2)
def C3{K:Ws}{ta:TA}{g:TG}{tb:TS}{D:fo}{σ:St}{H:Hp}(h:ta σ H fun vs H1=>∃a,vs=[.ref a]/\(∃xs,SqL K H1 a xs)/\FE (Ite K a) g tb D σ H1):pI (EO K ta) g tb D σ H:=h
def Do{K:Ws}{a:WH}{xs:List V}{g:TG}{tb:TS}{D:fo}{σ:St}{H:Hp}(Pv:Nat->St->Hp->Prop)(h0:Pv 0 σ H)(hl:∀i σ H,i<=xs.length->Pv i σ H->SqL K H a xs)
 (hs:∀i x σ H p,xs[i]? = some x->H p=none->Pv i σ H->g (.ref p) σ (upd H p (.tup [.int i,x])) fun σ2 H2=>tb { D with nx:=Pv (i+1),ct:=Pv (i+1),bk:=D.nx } σ2 H2) (hd:∀σ H,Pv xs.length σ H->D.nx σ H):FE (Ite K a) g tb D σ H:=by
 refine⟨fun i m σ H=>m=xs.length-i/\i<=xs.length/\Pv i σ H,⟨_,rfl,tB _,h0⟩,?_⟩;rintro i m σ H ⟨rfl,hi,p⟩;have q:=hl i σ H hi p;obtain lt|ge:=YC i xs.length
 .refine .inr ⟨⟨xs,xs[i],q,by simp[lt]⟩,Pv (i+1),fun σ' H' p'=>⟨_,by lia,rfl,lt,p'⟩,?_⟩
  rintro x H' ⟨r,y,hr,rfl,rfl,hy⟩;exact hs i y σ H r (hy xs q) hr p
 .obtain rfl:i=xs.length:=YF hi ge
  exact .inl ⟨⟨xs,q,zK _⟩,hd σ H p⟩
def i_{J:It}{H1:Hp}{D:WH}{Q:VK}{σr:St}{tt:TT}{te:TE}(h:∃W:Nat->Nat->List V->Hp->Prop,(∃m,W 0 m [] (upd H1 D (.lst []))) /\
 ∀i m ys H2,W i m ys H2->H2 D=some (.lst ys)/\((J.stop i H2/\Q (.ref D) H2)\/(J.go i H2/\∀x H3,J.yld i H2 x H3 ->
  tt (some x::σr) H3 fun b H4=>if b=true then te (some x::σr) H4 fun y H5=>H5 D=some (.lst ys)/\ys.length<WC/\∃m',m'<m/\W (i+1) m' (ys++[y]) (upd H5 D (.lst (ys++[y])))
   else ∃m',m'<m/\W (i+1) m' ys H4))) :
 ∃W:Nat->Nat->List V->Hp->Prop,(∃m,W 0 m [] (upd H1 D (.lst []))) /\
  ∀i m ys H2,W i m ys H2->H2 D=some (.lst ys)/\((J.stop i H2/\Q (.ref D) H2)\/(J.go i H2/\∀x H3,J.yld i H2 x H3->∀zs:St,zs.length=1 ->
   eY 0 x (zs++σr) H3 fun σ4 H4=>(∃zs4:St,zs4.length=1/\σ4=zs4++σr) /\
    tt σ4 H4 fun b H5=>if b=true then te σ4 H5 fun y H6=>H6 D=some (.lst ys)/\ys.length<WC/\∃m',m'<m/\W (i+1) m' (ys++[y]) (upd H6 D (.lst (ys++[y])))
     else ∃m',m'<m/\W (i+1) m' ys H5)):=by
 obtain⟨W,h0,h⟩:=h;refine⟨W,h0,fun i m ys H2 w=>?_⟩;obtain⟨h1,h2⟩:=h i m ys H2 w;refine⟨h1,h2.imp id fun⟨g1,g2⟩=>⟨g1,fun x H3 y zs hz=>?_⟩⟩;obtain⟨z,rfl⟩:=ex1 hz;exact⟨⟨[some x],rfl,rfl⟩,g2 x H3 y⟩
def cmS{ks:List Nat}(C:Hp->Prop)(hC:∀D ys,H D=none->C (upd H D (.lst ys)))(l:List Nat)(p:Nat->Bool)(f:Nat->V)(hl:∀R:VK,R (T l) H->tl σ H R)(ha:∀c∈l,c<128)(hz:l.length<=WC)
 (hp:∀c∈l,∀H (R:Bool->Hp->Prop),C H->R (p c) H->tt (some (T [c])::ks.map fun k=>(σ[k]?).join) H R) (hf:∀c∈l,p c=true->∀H (R:VK),C H->R (f c) H->te (some (T [c])::ks.map fun k=>(σ[k]?).join) H R)
 (q:∀D,H D=none->Q (.ref D) (upd H D (.lst ((l.filter p).map f)))):cP (Iy tl) 1 (eY 0) ks tt te σ H Q:=by
 refine hl _ ⟨by simpa [cs] using ha,fun D hD=>?_⟩;have P:∀x∈l.map fun c=>T [c],∃c∈l,x=T [c]:=fun x hx=>by
  obtain⟨c,hc,rfl⟩:=yR.mp hx;exact⟨c,hc,rfl⟩
 let hd:V->Nat:=fun v=>match v with | .str y=>(cs y).headD 0|_=>0
 have hhd:∀c,hd (T [c])=c:=fun c=>rfl;refine i_ (ii C ((Bb l).c C) (fun v=>p (hd v)) (fun v=>f (hd v)) (by simpa using hz) (fun x hx H R c r=>?_) (fun x hx hb H R c r=>?_) D hD (fun ys=>hC D ys hD) ?_)
 .obtain⟨y,hy,rfl⟩:=P x hx
  exact hp y hy H R c r
 .obtain⟨y,hy,rfl⟩:=P x hx
  exact hf y hy hb H R c r
 .have e:((l.map fun c=>T [c]).filter fun v=>p (hd v)).map (fun v=>f (hd v))=(l.filter p).map f:=by
   rw[XM,vN]
   rfl
  rw[e];exact q D hD
def cmR{ks:List Nat}(C:Hp->Prop)(hC:∀D ys,H D=none->C (upd H D (.lst ys)))(n:Nat)(p:Nat->Bool)(f:Nat->V)(hl:∀R:List V->Hp->Prop,R [.int n] H->ta σ H R)(hz:n<=WC)
 (hp:∀k,k<n->∀H (R:Bool->Hp->Prop),C H->R (p k) H->tt (some (.int k)::ks.map fun k=>(σ[k]?).join) H R) (hf:∀k,k<n->p k=true->∀H (R:VK),C H->R (f k) H->te (some (.int k)::ks.map fun k=>(σ[k]?).join) H R)
 (q:∀D,H D=none->Q (.ref D) (upd H D (.lst (((Zw n).filter p).map f)))):cP (Cj ta) 1 (eY 0) ks tt te σ H Q:=by
 have hz':(n:Int)<2 ^ 62:=by
  have:WC<2 ^ 62:=by rw[ue];decide
  have h2:n<2 ^ 62:=by lia
  have e:((2 ^ 62:Nat):Int)=(2:Int) ^ 62:=by decide
  lia
 refine hl _ ⟨n,rfl,by lia,hz',?_⟩;rw[ZJ];intro D hD;have P:∀x∈(Zw n).map fun k=>V.int (k:Nat),∃k,k<n/\x = .int (k:Nat):=fun x hx=>by
  obtain⟨c,hc,rfl⟩:=yR.mp hx;exact⟨c,by simpa using hc,rfl⟩
 let hd:V->Nat:=fun v=>match v with | .int i=>i.toNat|_=>0
 have hhd:∀c:Nat,hd (.int c)=c:=fun c=>ZJ c;refine i_ (ii C ((B4 n).c C) (fun v=>p (hd v)) (fun v=>f (hd v)) (by simpa using hz) (fun x hx H R c' r=>?_) (fun x hx hb H R c' r=>?_) D hD (fun ys=>hC D ys hD) ?_)
 .obtain⟨c,hc,rfl⟩:=P x hx
  rw[hhd]at r;exact hp c hc H R c' r
 .obtain⟨c,hc,rfl⟩:=P x hx
  rw[hhd]at r hb;exact hf c hc hb H R c' r
 .have e:(((Zw n).map fun k=>V.int (k:Nat)).filter fun v=>p (hd v)).map (fun v=>f (hd v))=((Zw n).filter p).map f:=by
   rw[XM,vN];have e1:((fun v=>p (hd v)) ∘ fun k:Nat=>V.int (k:Nat))=p:=by funext k;simp only[Function.comp,hhd]
   have e2:((fun v=>f (hd v)) ∘ fun k:Nat=>V.int (k:Nat))=f:=by funext k;simp only[Function.comp,hhd]
   rw[e1,e2]
  rw[e];exact q D hD
def cmL{K:Ws}{tl:TE}{ks:List Nat}{σ:St}{H H1:Hp}{Q:VK}{tt:TT}{te:TE}(a:WH)(vs:List V)(C:Hp->Prop)(hC:∀D ys,H1 D=none->C (upd H1 D (.lst ys)))(hT:∀H,C H->SqL K H a vs)(p:V->Bool)(f:V->V)
 (hl:∀R:VK,R (.ref a) H1->tl σ H R) (h1:SqL K H1 a vs) (hz:vs.length<=WC)
 (hp:∀x∈vs,∀H (R:Bool->Hp->Prop),C H->R (p x) H->tt (some x::ks.map fun k=>(σ[k]?).join) H R) (hf:∀x∈vs,p x=true->∀H (R:VK),C H->R (f x) H->te (some x::ks.map fun k=>(σ[k]?).join) H R)
 (q:∀D,H1 D=none->Q (.ref D) (upd H1 D (.lst ((vs.filter p).map f)))):cP (mR K tl) 1 (eY 0) ks tt te σ H Q:=
 hl _ ⟨a,rfl,⟨vs,h1⟩,fun D hD=>i_ (ii C (Ar hT) p f hz hp hf D hD (fun ys=>hC D ys hD) (q D hD))⟩
def J_{ks:List Nat}(C:Hp->Prop)(hC:∀D ys,H D=none->C (upd H D (.lst ys)))(lo hi:Int)(n:Nat)(hn:(hi-lo).toNat=n)(p:V->Bool)(f:V->V)(hl:∀R:List V->Hp->Prop,R [.int lo,.int hi] H->ta σ H R)(hb:-(2 ^ 62)<=lo/\lo<2 ^ 62 /\ -(2 ^ 62)<=hi/\hi<2 ^ 62)(hz:n<=WC)
 (hp:∀k:Nat,k<n->∀H (R:Bool->Hp->Prop),C H->R (p (.int (lo+k))) H->tt (some (.int (lo+k))::ks.map fun k=>(σ[k]?).join) H R) (hf:∀k:Nat,k<n->p (.int (lo+k))=true->∀H (R:VK),C H->R (f (.int (lo+k))) H->te (some (.int (lo+k))::ks.map fun k=>(σ[k]?).join) H R)
 (q:∀D,H D=none->Q (.ref D) (upd H D (.lst ((((Zw n).map fun k:Nat=>V.int (lo+k)).filter p).map f)))):cP (BL ta) 1 (eY 0) ks tt te σ H Q:=by
 refine hl _ ⟨lo,hi,rfl,hb,?_⟩;rw[hn];intro D hD;have P:∀x∈(Zw n).map fun k:Nat=>V.int (lo+k),∃k:Nat,k<n/\x = .int (lo+k):=fun x hx=>by
  obtain⟨c,hc,rfl⟩:=yR.mp hx;exact⟨c,by simpa using hc,rfl⟩
 refine i_ (ii C ((zg lo n).c C) p f (by simpa using hz) (fun x hx H R c' r=>?_) (fun x hx hb H R c' r=>?_) D hD (fun ys=>hC D ys hD) (q D hD))
 .obtain⟨c,hc,rfl⟩:=P x hx
  exact hp c hc H R c' r
 .obtain⟨c,hc,rfl⟩:=P x hx
  exact hf c hc hb H R c' r
inductive A2 {α β:Type} (R:α->β->Prop):List α->List β->Prop
 |nil:A2 R [] []
 |cons {a:α} {b:β} {as:List α} {bs:List β}:R a b->A2 R as bs->A2 R (a::as) (b::bs)
namespace A2
variable{α β:Type}{R S:α->β->Prop}
def len(h:A2 R as bs):as.length=bs.length:=by
 induction h with
 |nil=>rfl
 |cons _ _ ih=>simp[ih]
def imp(h:A2 R as bs)(f:∀a b,a∈as->b∈bs->R a b->S a b):A2 S as bs:=by
 induction h with
 |nil=>exact .nil
 |cons r _ ih=>exact .cons (f _ _ (.head _) (.head _) r) (ih fun a b ha hb=>f a b (.tail _ ha) (.tail _ hb))
def at_(h:A2 R as bs):∀ {i:Nat} {a:α},as[i]? = some a->∃b,bs[i]? = some b/\R a b:=by
 induction h with
 |nil=>intro i a e;simp at e
 |cons r _ ih=>
  intro i a e;cases i with
  |zero=>cases e;exact⟨_,rfl,r⟩
  |succ i=>exact ih (i:=i) (by simpa using e)
def app{as:List α}{bs:List β}(h:A2 R as bs){cs:List α}{ds:List β}(g:A2 R cs ds):A2 R (as++cs) (bs++ds):=by
 induction h with
 |nil=>exact g
 |cons r _ ih=>exact .cons r ih
def snoc(h:A2 R as bs)(r:R a b):A2 R (as++[a]) (bs++[b]):=h.app (.cons r .nil)
end A2
def sp6(f:V->V->V->V->V->V->Hp->VK->XK->Prop):Sp:=fun vs H Q E=>match vs with
 | [x,y,z,u,v,a]=>f x y z u v a H Q E
 |_=>False
def sp6.inv{f}(h:sp6 f vs H Q E):∃x y z u v a,vs=[x,y,z,u,v,a]/\f x y z u v a H Q E:=by
 obtain _|⟨x,_|⟨y,_|⟨z,_|⟨u,_|⟨v,_|⟨a,_|⟨w,r⟩⟩⟩⟩⟩⟩⟩:=vs
 rotate_left 6
 .exact⟨_,_,_,_,_,_,rfl,h⟩
 all_goals exact WZ h
def sp6.len{f}(h:sp6 f vs H Q E):vs.length=6:=by obtain⟨_,_,_,_,_,_,rfl,_⟩:=sp6.inv h;rfl
def sp7(f:V->V->V->V->V->V->V->Hp->VK->XK->Prop):Sp:=fun vs H Q E=>match vs with
 | [x,y,z,u,v,a,b]=>f x y z u v a b H Q E
 |_=>False
open Lean Meta Simp
def Ew:List Name:=DA++[`L2.fm,`Option.join]
def Dh:List Name:=Ed++[`L2.Ir,`L2.gSortT,`L2.sp5,`L2.sp6,`L2.sp7]
def HI:Name->Bool
 | .str _ s=>s.startsWith "sp_"
 |_=>false
end L2
namespace L2
open PySem PyProof.Rows
section
variable{prog:WF}{w:WE}{A:WD}{E:WI->WG->Prop}{s:WG}{it d:WH}{i ep:Nat}{od:Obj}{es:Array YI}
def xJ(lo:(d==ZH)=false)(ho:s.heap.get? d=some od)(ex:od.ExactDict)(hd:od.data = .dict es ep)
 (q:Q (.ref s.heap.objs.size) { s with heap:=s.heap.push { cls:=.type "dict_keyiterator",data:=.fields #[.ref d,.int 0 0,.int es.size 0,.int ep 0] } }):WB (WA prog w) A (pyIter (.ref d)) Q E s:=by
 have ty:s.TypeIs (.ref d) "dict":=⟨od,ho,ex.1⟩;refine wpAny_pyIter_slot ty F.slot_dict_iter (ZS F.slot_dict_iter ty F.entry_dict_iter ?_ (F.args_dict_iter_1 _));unfold Builtin.«dict.__iter__» Builtin.Dict.dictSlotNone;refine zd (zd (wpAny_notOrdered_dict ty ?_));show WB _ _ (pure (yJ d)) _ _ s;refine zJ ?_;show WB _ _ (Xj d >>= _) _ _ s;unfold Xj;rw[VZ (by rw[lo];exact xl)];refine zd (zJ (zd (Yh ho hd (zd (Xq ho hd ?_)))));refine zd (Zc (zJ ⟨_,rfl,"dict_keyiterator",_,⟨_,Wq _ rfl,rfl⟩,Yb.lookup,by simpa [rawInt] using q⟩))
def xC(hi:s.heap.IsKeyIter it d i es.size ep)(hod:s.heap.get? d=some od)(hdd:od.data = .dict es ep)(hx:es[i]? = some e)
 (q:∀h',h'.IsKeyIter it d (i+1) es.size ep->Yz it s.heap h'->Q (some e.key) { s with heap:=h' }):WB (WA prog w) A (pyNext (.ref it)) Q E s:=by
 obtain⟨o,ho,hc,hd⟩:=id hi;have ty:=hi.typeIs;unfold pyNext;refine zd (XS (wpAny_callSpecial?_slot (name:=zR "__next__") ty Yb (ZS Yb ty F.entry_dict_keyiterator_next ?_ (F.args_dict_keyiterator_next_1 _))));refine zd (zJ (zd (zd ?_)))
 first|refine zd (Yj ty (zJ (zd (YQ ho hd ?_))))|refine zd (Y2 ty (zJ (zd (YQ ho hd ?_))))
 simp only[show Yy "dict_keyiterator" = false by decide,ZV,if_false];show WB _ _ (if (yJ d==Ze)=true then _ else _) _ _ s;rw[VZ (show ¬ ((yJ d==Ze)=true) from xl)];refine zd (zJ (zd (Yh hod hdd ?_)));rw[VZ (by simp)];refine zd (zJ (zd (Xq hod hdd ?_)));rw[VZ (by simp)];refine zJ ?_;have lt:i<es.size:=(Wg.mp hx).1;have ee:es[i]=e:=(Wg.mp hx).2;simp only[show ¬ ((i:Int)<0) from by lia,if_false,ZJ,Wh lt];refine zd ?_
 first|refine zd (Yj ty (zJ (zd (wpAny_isOneOf_keyiter ty ?_))))|refine zd (Y2 ty (zJ (zd (wpAny_isOneOf_keyiter ty ?_))))
 show WB _ _ (setField (.ref it) 1 (rawInt ((i:Int)+1)) >>= _) _ _ s;refine zd (wpAny_setField ho hd (by simp) ?_);have hi':(s.heap.update it (Obj.mapFields (·.setIfInBounds 1 (rawInt ((i:Int)+1))))).IsKeyIter it d (i+1) es.size ep:=⟨_,Wo _ ho (Yq (XH hd _)),(Obj.cls_mapFields ..).trans hc,by rw[XH hd];simp[rawInt]⟩;refine zd (YX (zd (wpAny_isOneOf_keyiter (s:={ s with heap:=s.heap.update it (Obj.mapFields (·.setIfInBounds 1 (rawInt ((i:Int)+1)))) }) hi'.typeIs ?_)));show WB _ _ (pure es[i].key) _ _ _;rw[ee];exact zJ (zJ ⟨_,rfl,zJ (q _ hi' (Z6 ..))⟩)
def zN(hh:A.handled=none)(hi:s.heap.IsKeyIter it d i es.size ep)(hod:s.heap.get? d=some od)(hdd:od.data = .dict es ep)(hx:es.size<=i)
 (q:∀h',Heap.ExtBut it s.heap h'->Q none { s with heap:=h' }):WB (WA prog w) A (pyNext (.ref it)) Q E s:=by
 obtain⟨o,ho,hc,hd⟩:=id hi;have ty:=hi.typeIs;unfold pyNext;refine zd (XS (wpAny_callSpecial?_slot (name:=zR "__next__") ty Yb (ZS Yb ty F.entry_dict_keyiterator_next ?_ (F.args_dict_keyiterator_next_1 _))));refine zd (zJ (zd (zd ?_)))
 first|refine zd (Yj ty (zJ (zd (YQ ho hd ?_))))|refine zd (Y2 ty (zJ (zd (YQ ho hd ?_))))
 simp only[show Yy "dict_keyiterator" = false by decide,ZV,if_false];show WB _ _ (if (yJ d==Ze)=true then _ else _) _ _ s;rw[VZ (show ¬ ((yJ d==Ze)=true) from xl)];refine zd (zJ (zd (Yh hod hdd ?_)));rw[VZ (by simp)];refine zd (zJ (zd (Xq hod hdd ?_)));rw[VZ (by simp)];refine zJ ?_;simp only[show ¬ ((i:Int)<0) from by lia,if_false,ZJ,Array.getElem?_eq_none hx];refine zd ?_
 first|refine zd (Yj ty (zJ ?_))|refine zd (Y2 ty (zJ ?_))
 show WB _ _ (setField (.ref it) 0 .none >>= _) _ _ s;refine zd (wpAny_setField ho hd (by simp) ?_);show WB _ _ (newExc (.type "StopIteration") [] >>= _) _ _ _;refine zd ?_;simp only[newExc,newTuple];refine zd (Zc ?_ (by size_fits));refine zd (m:=Xe _ _) (wpAny_of_eq (a:=Ze) (by first|rfl|(simp only[Xe];rfl)) (Zc ?_ (by size_fits)));simp only[raiseNew];refine zd (wpAny_handled ?_);rw[show A.in1.handled=none from hh];refine zd (zJ (wpAny_throw ?_));refine zd (wpAny_isInstance (T:="StopIteration") (b:=true) ⟨_,Wq _ rfl,rfl⟩ isSubtype_stop (zJ (q _ (((Z6 ..).extBut.push _).push _))))
def Ak(hh:A.handled=none)(I d:WH)(ne:d≠I)(od:Obj)(es:Array YI)(ep:Nat)(hdd:od.data = .dict es ep) :
 Walks prog w A I [I,d] [I] es.size (fun i v=>∃e,es[i]? = some e/\v=e.key) (fun i h=>h.IsKeyIter I d i es.size ep/\h.get? d=some od) where
 sub:=fun b hb=>by rw[zh.mp hb];exact .head _
 frame:=fun _ _ _ st hk=>⟨st.1.at fun o e=>hk I (.head _) o e,hk d (.tail _ (.head _)) _ st.2⟩
 item:=fun i s Q E hi st q=>by
  have hx:es[i]? = some es[i]:=by simp[hi]
  exact xC st.1 st.2 hdd hx fun h' a b=>q _ h' s.toks ⟨_,hx,rfl⟩ ⟨a,(b.2 d ne).trans st.2⟩ fun c o hc z=>(b.2 c fun y=>hc (by rw[y];exact .head _)).trans z
 done:=fun s Q E st q=>zN hh st.1 st.2 hdd (zK _) fun h' b=>q h' s.toks fun c o hc z=>b c o (fun y=>hc (by rw[y];exact .head _)) z
 self:=fun _ _ _ _ st q=>wpAny_pyIter_keyiter st.1 q
def Ft(lo:(d==ZH)=false)(ex:od.ExactDict)(hd:od.data = .dict es ep):PySem.W.KdlSrc prog w "dict" d d es.size (fun i v=>∃e,es[i]? = some e/\v=e.key) (fun h=>h.get? d=some od) where
 type:=fun _ h=>⟨od,h,ex.1⟩
 there:=fun _ h=>⟨wu h,wu h⟩
 keep:=fun _ _ h k=>k d (.inl rfl) _ h
 notList:=by decide
 notTuple:=by decide
 hint:=fun _ _ _ _ h q=>PySem.W.kdl_hint_dict ⟨od,h,ex.1⟩ q
 iter:=fun _ _ hh h=>⟨_,_,(fun _ _ q=>xJ lo h ex hd q),Ak hh _ d (Zx (wu h)) od es ep hd,⟨⟨_,Wq _ rfl,rfl,rfl⟩,Wr _ h⟩⟩
end
theorem AR{α:Type}{p q:α->Bool}(h:∀e,p e=true->q e=true):∀ {l:List α} {u:α},u∈l->q u=true->p u=false->l.countP p<l.countP q
 |x::r,u,m,hq,hp=>by
  rw[List.countP_cons,List.countP_cons];have le:r.countP p<=r.countP q:=List.countP_mono_left fun e _=>h e;obtain rfl|m:=z9.mp m
  .rw[VY hq,VZ (by rw[hp];decide)];lia
  .have:=AR h m hq hp
   by_cases c:p x=true
   .rw[VY c,VY (h x c)];lia
   .rw[VZ c];split <;> lia
abbrev Pt:=List Nat × List Nat
def ltP(a b:Pt):Prop:=a.1<b.1\/(a.1=b.1/\a.2<b.2)
instance (a b:Pt):Decidable (ltP a b):=by unfold ltP;infer_instance
def Cp(a:Pt):¬ ltP a a:=fun h=>h.elim (Y6 _) fun h=>Y6 _ h.2
def GI(h:ltP a b)(g:ltP b c):ltP a c:=by
 unfold ltP at *;obtain h|⟨h1,h2⟩:=h
 .obtain g|⟨g1,g2⟩:=g
  .exact .inl (List.lt_trans h g)
  .exact .inl (g1 ▸ h)
 .obtain g|⟨g1,g2⟩:=g
  .exact .inl (h1 ▸ g)
  .exact .inr ⟨h1.trans g1,List.lt_trans h2 g2⟩
def nJ(a b:List Nat):a<b\/a=b\/b<a:=by
 by_cases h:a<b
 .exact .inl h
 .by_cases g:b<a
  .exact .inr (.inr g)
  .exact .inr (.inl (List.le_antisymm (List.not_lt.mp g) (List.not_lt.mp h)))
def xN(a b:Pt):ltP a b\/a=b\/ltP b a:=by
 obtain⟨a1,a2⟩:=a;obtain⟨b1,b2⟩:=b;obtain h|rfl|h:=nJ a1 b1
 .exact .inl (.inl h)
 .obtain h|rfl|h:=nJ a2 b2
  .exact .inl (.inr ⟨rfl,h⟩)
  .exact .inr (.inl rfl)
  .exact .inr (.inr (.inr ⟨rfl,h⟩))
 .exact .inr (.inr (.inl h))
noncomputable def rnk(l:List Pt)(u:Pt):Nat:=l.countP fun e=>decide (ltP e u)
def Cf{l:List Pt}{u v:Pt}(mu:u∈l)(h:ltP u v):rnk l u<rnk l v:=
 AR (fun e he=>VX (GI (of_decide_eq_true he) h)) mu (VX h) (VW (Cp u))
def nE(mu:u∈l)(mv:v∈l):ltP u v↔(rnk l u:Int)<rnk l v:=by
 refine⟨fun h=>by have:=Cf mu h;lia,fun h=>?_⟩;obtain g|rfl|g:=xN u v
 .exact g
 .exact VT h (Int.lt_irrefl _)
 .have:=Cf mv g;lia
abbrev r9(l:List Pt):Prop:=l.Pairwise ltP
namespace Srt
def TwoS(h:Wz)(p:WH)(e:Pt):Prop:=∃(o:Obj) (t u:Tok) (n:Nat),h.get? p=some o/\o.cls = .type "tuple" /\ o.data = .seq #[.str ⟨⟨e.1⟩⟩ t,.str ⟨⟨e.2⟩⟩ u] n
section
variable{prog:WF}{w:WE}{A:WD}{E:WI->WG->Prop}{s:WG}
theorem uL:∀(vs:List WI),(∀v∈vs,∃p e,v = .ref p/\TwoS s.heap p e)->∀ {Q:List (Option WI)->WG->Prop},(∀fs ns,StrsAre fs ns->fs.length=vs.length->Q (fs.map some) s) ->
 WB (WA prog w) A (vs.mapM firstOfTuple') Q E s
 | [],_,Q,h=>by rw[List.mapM_nil];exact zJ (h [] [] .nil rfl)
 |v::vs,hv,Q,h=>by
  obtain⟨p,e,rfl,o,t,u,n,ho,hc,hd⟩:=hv v (Yo ..);rw[List.mapM_cons];refine zd ?_;show WB _ _ (typeOf (.ref p) >>= _) _ _ s;refine zd (wpAny_typeOf (⟨o,ho,hc⟩:s.TypeIs (.ref p) "tuple") ?_);rw[VZ (by decide)];refine zd (listItems_at ho hd (zJ ?_));show WB _ _ (vs.mapM firstOfTuple' >>= fun bs=>pure (some (XY ⟨⟨e.1⟩⟩ t)::bs)) Q E s;exact zd (uL vs (fun v hv'=>hv v (Zy _ hv')) fun fs ns hI hl=>zJ (h (.str ⟨⟨e.1⟩⟩ t::fs) (⟨⟨e.1⟩⟩::ns) (.cons _ t hI) (by simp[hl])))
def GA{vs:List WI}(hv:∀v∈vs,∃p e,v = .ref p/\TwoS s.heap p e)(h2:2<=vs.length)(h:Q (tuples' true) s):WB (WA prog w) A (keyKind' vs.toArray) Q E s:=by
 rw[keyKind'_eq,List.mapM_toArray,map_eq_pure_bind];refine zd (zd (uL vs hv fun fs ns hI hl=>zJ ?_));rw[VY (by simp)];refine zd (wpAny_rule ?_);have e:(fs.map some).toArray.filterMap id=fs.toArray:=by simp
 rw[e,oneTypeOnly'_eq,List.mapM_toArray,mapM_typeOf_strs hI];simp only[map_pure,pure_bind];have all:((fs.map fun _=>Xg "str").toArray.all fun x=>x==Xg "str")=true:=by
  simp only[List.all_toArray,List.all_map,Zk];exact fun _ _=>rfl
 have at0:(fs.map fun _=>Xg "str").toArray[0]? = some (Xg "str"):=by
  have:0<fs.length:=by lia
  simp[this]
 rw[at0];simp only[all,if_true,pure_bind];exact zJ h
def B8(h:x≠y):decide ((⟨⟨x⟩⟩:Str)=⟨⟨y⟩⟩)=false:=VW fun z=>h (by injection z with z;injection z)
def Kf(hp:TwoS s.heap p a)(hq:TwoS s.heap q b)(h:Q (decide (ltP a b)) s) :
 WB (WA prog w) A (keyLt' (tuples' true) (.ref p) (.ref q)) Q E s:=by
 obtain⟨x,y⟩:=a;obtain⟨x',y'⟩:=b;obtain⟨o,t,u,n,ho,hc,hd⟩:=hp;obtain⟨o',t',u',n',ho',hc',hd'⟩:=hq;show WB _ _ (Builtin.List.listItems (.ref p) >>= fun xs=>Builtin.List.listItems (.ref q) >>= fun ys=>_) _ _ s;refine zd (listItems_at ho hd (zd (listItems_at ho' hd' ?_)));show WB _ _ (forIn [((XY ⟨⟨x⟩⟩ t,XY ⟨⟨x'⟩⟩ t'),0),((XY ⟨⟨y⟩⟩ u,XY ⟨⟨y'⟩⟩ u'),1)] (none,()) _ >>= _) _ _ s;rw[List.forIn_cons];refine zd (zd (zd (wpAny_eqBool_str ?_)));by_cases e:x=x'
 .subst e
  simp only[decide_true,Bool.not_true,ZV,if_false];refine zJ ?_;simp only[List.forIn_cons];refine zd (zd (wpAny_eqBool_str ?_));by_cases e2:y=y'
  .subst e2
   simp only[decide_true,Bool.not_true,ZV,if_false];refine zJ ?_;simp only[List.forIn_nil];refine zJ (zJ ?_);rw[VW (Cp _)]at h;exact h
  .simp only[B8 e2,Bool.not_false,if_true]
   refine zd ?_;show WB _ _ (oneLt' false (.str ⟨⟨y⟩⟩ u) (.str ⟨⟨y'⟩⟩ u')) _ _ s;rw[oneLt'_eq];simp only[ZV,if_false];refine zd (PySem.P.lt_str (ZL (zJ (zJ (zJ ?_)))));rw[show decide (ltP (x,y) (x,y'))=decide (y<y') from decide_eq_decide.mpr ⟨fun z=>z.elim (fun z=>VT z (Y6 _)) (·.2),fun z=>.inr ⟨rfl,z⟩⟩]at h;exact h
 .simp only[B8 e,Bool.not_false,if_true]
  refine zd ?_;show WB _ _ (oneLt' true (.str ⟨⟨x⟩⟩ t) (.str ⟨⟨x'⟩⟩ t')) _ _ s;refine oneLt_str (zJ (zJ (zJ ?_)));rw[show decide (ltP (x,y) (x',y'))=decide (x<x') from decide_eq_decide.mpr ⟨fun z=>z.elim id fun z=>VT z.1 e,.inl⟩]at h;exact h
def cmp_S{h:Wz}{os:OsState}{vs:List WI}{κ:WI->Int}{f:WI->Pt}(h2:2<=vs.length)(hv:∀v∈vs,∃p,v = .ref p/\TwoS h p (f v))(hk:∀u∈vs,∀v∈vs,(ltP (f u) (f v)↔κ u<κ v)):Cmp prog w A h os (tuples' true) κ vs where
 kind E s Q e q:=by
  subst e;exact GA (fun v m=>let ⟨p,a,b⟩:=hv v m;⟨p,_,a,b⟩) h2 q
 lt E s u v Q e mu mv q:=by
  subst e;obtain⟨p,rfl,b⟩:=hv u mu;obtain⟨p',rfl,b'⟩:=hv v mv;refine Kf b b' ?_
  rwa [decide_eq_decide.mpr (hk _ mu _ mv)]
end
end Srt
section
variable{X:Cx}{WY:List (WH × Obj)}{σ:St}{H:Hp}{s:WG}
noncomputable abbrev tP(e:Pt):List V:=[T e.1,T e.2]
noncomputable abbrev kP(e:Pt):List Key:=[.inr ⟨⟨e.1⟩⟩,.inr ⟨⟨e.2⟩⟩]
def Io(e:Pt):(kP e).map kV=tP e:=rfl
def jO(h:kP a=kP b):a=b:=by
 obtain⟨a1,a2⟩:=a;obtain⟨b1,b2⟩:=b;simp only[kP,List.cons.injEq,and_true]at h;obtain⟨h1,h2⟩:=h;injection h1 with h1;injection h1 with h1;injection h1 with h1
 injection h2 with h2;injection h2 with h2;injection h2 with h2
 rw[h1,h2]
def FV(h:tP a=tP b):a=b:=jO (sQ (by rw[Io,Io,h]))
abbrev KAt(H:Hp)(a:WH)(e:Pt):Prop:=H a=some (.tup (tP e))
def Ig(r:KT H WU xs):∀ {ks:List Pt},WU.map (·.1)=ks.map kP ->
 ∃ps:List (WH × Pt),ps.map (·.2)=ks/\xs.map (fun x=>yJ x.2.1)=ps.map (fun e=>yJ e.1)/\(xs.map (·.1)=ks.map kP)/\∀e∈ps,KAt H e.1 e.2:=by
 induction r with
 |nil=>
  intro ks h;cases ks with
  |nil=>exact⟨[],rfl,rfl,rfl,fun _ m=>nomatch m⟩
  |cons=>simp at h
 | @cons p q ps qs h t ih=>
  intro ks e;cases ks with
  |nil=>simp at e
  |cons k ks=>
   rw[yH,yH]at e;injection e with e1 e2
   obtain⟨l,a1,a2,a3,a4⟩:=ih e2;obtain⟨h1,h2,_⟩:=h;rw[e1]at h1 h2;refine⟨(q.2.1,k)::l,by rw[yH,a1],by rw[yH,yH,a2],by rw[yH,yH,a3,h1],fun z m=>?_⟩;obtain rfl|m:=z9.mp m
   .exact h2
   .exact a4 z m
noncomputable def fOf(ps:List (WH × Pt)):WI->Pt
 | .ref a=>((ps.find? fun e=>e.1==a).map (·.2)).getD ([],[])
 |_=>([],[])
def AY(hp:∀e∈ps,KAt H e.1 e.2)(m:e∈ps):fOf ps (.ref e.1)=e.2:=by
 show((ps.find? fun z=>z.1==e.1).map (·.2)).getD ([],[])=e.2;cases f:ps.find? fun z=>z.1==e.1 with
 |none=>exact VT (Wi.mp f e m) (by simp)
 |some z=>
  have e1:z.1=e.1:=by simpa using List.find?_some f
  have t1:=hp z (List.mem_of_find?_eq_some f);have t2:=hp e m;rw[e1]at t1;have t3:=t1.symm.trans t2;injection t3 with t3;injection t3 with t3
  exact FV t3
theorem Fm(hp:∀e∈ps,KAt H e.1 e.2):∀ {out:List WI},(∀v∈out,v∈ps.map fun e=>yJ e.1)->∃as:List WH,WP (as.map V.ref) out/\A2 (KAt H) as (out.map (fOf ps))
 | [],_=>⟨[],.nil,.nil⟩
 |v::out,h=>by
  obtain⟨as,a1,a2⟩:=Fm hp fun u m=>h u (Zy _ m);obtain⟨e,m,rfl⟩:=yR.mp (h v (Yo ..));refine⟨e.1::as,.cons rfl a1,?_⟩;rw[yH,AY hp m];exact .cons (hp e m) a2
def WL.twoS(I:WL X WY σ H s)(h:KAt H p e):Srt.TwoS s.heap p e:=by
 obtain⟨_,WV,r0,o,ho,hc,n,hd⟩:=(show WO X.prog X.w H s.heap p (.tup (tP e)) from I.hok p _ h);have r:WP [T e.1,T e.2] WV:=r0;clear r0;cases r with
 |cons r1 r=>
  cases r with
  |cons r2 r=>
   cases r;obtain⟨t,rfl⟩:=r1;obtain⟨u,rfl⟩:=r2;exact⟨o,t,u,n,ho,hc,hd⟩
def Srt.TwoS.keep(x:Srt.TwoS h p e)(k:∀b o,h.get? b=some o->h'.get? b=some o):Srt.TwoS h' p e:=by
 obtain⟨o,t,u,n,ho,r⟩:=x;exact⟨o,t,u,n,k _ _ ho,r⟩
def xx:List V->Hp->VK->Prop
 | [.ref d],H,Q=>∃(WU:List (List Key × V)) (ks:List Pt),H d=some (.dT WU)/\WU.map (·.1)=ks.map kP/\ks.length<64 /\
  ∀(out:List Pt) (as:List WH),out.Perm ks->r9 out->A2 (KAt H) as out->∀l,H l=none->Q (.ref l) (upd H l (.lst (as.map V.ref)))
 |_,_,_=>False
def yQ(hc:X.calm=true):WN X (.builtin "sorted") xx:=by
 intro WY s σ H xs us Q I r h;obtain _|⟨e_1,r_1⟩:=xs
 .exact WZ h
 cases e_1 with
 |ref d=>
  cases r_1 with
  |nil=>
   obtain⟨WU,ks,hd,hks,h64,q⟩:=h;obtain⟨u,rfl,rx⟩:=d8 r;cases (show u=yJ d from rx);obtain⟨z,lo,xs,rel,o,es,ep,ho,ex,hdat,he,_,hn⟩:=zP I.hok hd;obtain⟨ps,p1,p2,p3,p4⟩:=Ig rel hks;have ndk:ks.Nodup:=by
    rw[p3]at hn;exact(Xi.mp hn).imp fun h e=>h (by rw[e])
   have len:es.size=ks.length:=by
    rw[<- ZN,he,zV,<- zV (f:=fun x=>yJ x.2.1),p2,zV,<- zV (f:=(·.2)),p1]
   refine Calls.call_function_entry kind_sorted plain_sorted entry_sorted (args_sorted1 _) ?_;unfold Builtin.«sorted»;refine zd (m:=checkCount "sorted" 1 1 _) (zJ ?_);refine zd (PySem.W.kdu_collect (Ft lo ex hdat) (I.ok.hd hc) ho (by rw[len,ue];lia) fun h' tk acc kp it=>?_);have ea:acc.toList=ps.map fun e=>yJ e.1:=by
    rw[<- p2];have ek:xs.map (fun x=>yJ x.2.1)=es.toList.map (·.key):=by rw[he,vN];rfl
    rw[ek];refine List.ext_getElem? fun j=>?_;rw[Wm,We,We];cases ej:acc[j]? with
    |none=>
     have:acc.size<=j:=Array.getElem?_eq_none_iff.mp ej;rw[it.1]at this;rw[Array.getElem?_eq_none this];rfl
    |some v=>
     obtain⟨e,g1,g2⟩:=it.2 j v ej;rw[g1,g2];rfl
   have inv:∀e∈ps,fOf ps (.ref e.1)=e.2:=fun e m=>AY p4 m;have em:(ps.map fun e=>yJ e.1).map (fOf ps)=ks:=by
    rw[vN,<- p1];exact Zq fun e m=>inv e m
   have mk:∀v∈ps.map (fun e=>yJ e.1),fOf ps v∈ks:=fun v m=>by rw[<- em];exact uO m
   have nd:((ps.map fun e=>yJ e.1).map fun v=>(rnk ks (fOf ps v):Int)).Nodup:=by
    rw[show(ps.map fun e=>yJ e.1).map (fun v=>(rnk ks (fOf ps v):Int))=((ps.map fun e=>yJ e.1).map (fOf ps)).map (fun e=>(rnk ks e:Int)) by simp only[vN];rfl,em];refine Xi.mpr (XQ (fun {a b} ma mb ne e=>?_) ndk);obtain g|g|g:=xN a b
    .have:=(nE ma mb).mp g;lia
    .exact ne g
    .have:=(nE mb ma).mp g;lia
   have lv:(ps.map fun e=>yJ e.1).length<64:=by rw[zV,<- zV (f:=(·.2)),p1];exact h64
   rw[ea];refine zd (wpAny_newList ?_ (by rw[ue];lia));have hoL:(h'.push (seqObj "list" (ps.map fun e=>yJ e.1).toArray 0)).get? h'.objs.size=some (seqObj "list" (ps.map fun e=>yJ e.1).toArray 0):=Wq _ rfl;have kL:∀b ob,s.heap.get? b=some ob->(((h'.push (seqObj "list" (ps.map fun e=>yJ e.1).toArray 0)).update h'.objs.size (Xf fun _=>#[])).push (seqObj "tuple" (ps.map fun e=>yJ e.1).toArray 0) |>.push (seqObj "list" #[] 0)).get? b=some ob:=fun b ob e=>by
    have l1:=wu (kp _ _ e);refine Wr _ (Wr _ ?_);rw[Heap.get?_update_ne _ _ _ _ (Zx l1)];exact Wr _ (kp _ _ e)
   refine zd (YX (ZS slot_list_sort ⟨_,hoL,rfl⟩ entry_list_sort (Srt.sort_by (kd:=tuples' true) (κ:=fun v=>(rnk ks (fOf ps v):Int)) hoL lv nd (fun h2=>Srt.cmp_S (f:=fOf ps) h2 (fun v m=>?_) fun u mu v mv=>nE (mk u mu) (mk v mv)) fun out pm sr=>⟨_,rfl,?_⟩) (args_list_sort _)))
   .obtain⟨e,me,rfl⟩:=yR.mp m
    refine⟨e.1,rfl,?_⟩;rw[inv e me];exact(I.twoS (p4 e me)).keep kL
   .refine zJ ⟨_,rfl,?_⟩
    obtain⟨c,el⟩:=sortedHeap_at (out:=out.toArray) hoL;have I1:WL X WY σ H { s with heap:=h',toks:=tk }:=I.kept kp;have kp2:∀b o,h'.get? b=some o->(sortedHeap (h'.push (seqObj "list" (ps.map fun e=>yJ e.1).toArray 0)) h'.objs.size (ps.map fun e=>yJ e.1) out.toArray).get? b=some o:=fun b o e=>by
     have l1:=wu e;rw[sortedHeap_old (Zx l1) (by rw[size_push'];exact Nat.lt_succ_of_lt l1),Heap.get?_push_ne _ _ _ (Zx l1)];exact e
    obtain⟨as,a1,a2⟩:=Fm p4 (out:=out) fun v m=>pm.mem_iff.mp m;have po:(out.map (fOf ps)).Perm ks:=by have:=pm.map (fOf ps);rwa [em]at this
    have so:r9 (out.map (fOf ps)):=Xi.mpr (XQ (fun {a b} ma mb l=>(nE (mk a (pm.mem_iff.mp ma)) (mk b (pm.mem_iff.mp mb))).mpr l) sr);refine⟨.ref h'.objs.size,_,I1.laid (t':=tk) (a:=h'.objs.size) kp2 (zK _) (show WO X.prog X.w _ _ _ (.lst (as.map V.ref)) from⟨?_,out,c,a1,el⟩),rfl,q _ as po so a2 _ (I1.hok.fresh (zK _))⟩;have:=a1.length;have:=pm.length_eq;rw[ue];lia
  |cons=>exact WZ h
 |_=>exact WZ h
def E6:V->List V->Hp->VK->Prop:=fun x vs H Q=>∃l b xs zs,x = .ref l/\vs=[.ref b]/\H l=some (.lst xs)/\H b=some (.tup zs)/\xs.length+zs.length<=WC/\Q .non (upd H l (.lst (xs++zs)))
def Ei:MtM X "list.extend" E6:=by
 intro WY s σ H x vs v us Q I rx rv h;obtain⟨l,b,xs,zs,rfl,rfl,hH,hB,hz,q⟩:=h;cases rx;obtain⟨u,rfl,ru⟩:=rv.one;cases ru;obtain⟨z,WV,n,r,hl,e⟩:=I.lstM hH;obtain⟨z2,its2,r2,⟨ob,eb,cb,n2,db⟩⟩:=(show WO X.prog X.w H s.heap b (.tup zs) from I.hok b _ hB);have hl2:=r2.length;have fin:WL X WY σ (upd H l (.lst (xs++zs))) { s with heap:=s.heap.update l (Xf (· ++ its2.toArray)) }:=I.lset (its':=WV++its2) hH e (by simp) (r.append r2) (by rw[zA];lia);refine ZS F.slot_list_extend ⟨_,e,rfl⟩ F.entry_list_extend ?_ (F.args_list_extend_2 _ _);show WB _ _ (Builtin.List.listExtendWith (.ref l) (.ref b) .none) _ _ s;unfold Builtin.List.listExtendWith;refine zd (wpAny_typeOf ⟨ob,eb,cb⟩ ?_);rw[VY (by rw[show(Xg "tuple" == Xg "tuple")=true by decide,Bool.or_true])];refine zd (listItems_at eb db (zd (listItems_at e rfl ?_)));have hsz:WV.toArray.size+its2.toArray.size<=WC:=by rw[yX,yX];lia
 rw[VZ (by rw[ua hsz,Bool.and_false];exact xl)];refine zd (listUpdate_at e rfl ?_ (hsz:=by rw[yX];lia) (hsz2:=by rw[Array.size_append];lia));exact zJ ⟨_,rfl,.non,_,fin,rfl,q⟩
end
def CEl(J:It)(n:Nat)(g:TG)(ks:List Nat)(tt:TT)(te:TE)(σ:St)(H1:Hp)(Q:VK):Prop:=∀D,H1 D=none->∃W:Nat->Nat->List V->Hp->Prop,(∃m,W 0 m [] (upd H1 D (.lst []))) /\
 ∀i m ys H2,W i m ys H2->H2 D=some (.lst ys)/\((J.stop i H2/\Q (.ref D) H2)\/(J.go i H2/\∀x H3,J.yld i H2 x H3->∀zs:St,zs.length=n ->
  g x (zs++ks.map fun k=>(σ[k]?).join) H3 fun σ4 H4=>(∃zs4:St,zs4.length=n/\σ4=zs4++ks.map fun k=>(σ[k]?).join) /\
   tt σ4 H4 fun b H5=>if b=true then te σ4 H5 fun y H6=>H6 D=some (.lst ys)/\ys.length<WC/\∃m',m'<m/\W (i+1) m' (ys++[y]) (upd H6 D (.lst (ys++[y])))
    else ∃m',m'<m/\W (i+1) m' ys H5))
def qi{K:Ws}{tl:TE}{n:Nat}{g:TG}{ks:List Nat}{tt:TT}{te:TE}{σ:St}{H:Hp}{Q:VK}(h:tl σ H fun x H1=>∃a,x = .ref a/\(∃xs,SqL K H1 a xs)/\CEl (Itl K a) n g ks tt te σ H1 Q):cP (mR K tl) n g ks tt te σ H Q:=h
def wY{K:Ws}{n:Nat}{g:TG}{ks:List Nat}{tt:TT}{te:TE}{σ:St}{H1:Hp}{Q:VK}(a:WH)(xs:List V)(P:WH->Nat->List V->Hp->Prop)(hz:xs.length<WC)
 (h0:∀D,H1 D=none->P D 0 [] (upd H1 D (.lst []))) (hD:∀D i ys H',P D i ys H'->H' D=some (.lst ys)/\SqL K H' a xs/\ys.length<=i)
 (hs:∀D i y ys H' (zs:St) (N1:VK) (N0:Hp->Prop),xs[i]? = some y->P D i ys H'->zs.length=n->(∀v H6,H6 D=some (.lst ys)->P D (i+1) (ys++[v]) (upd H6 D (.lst (ys++[v])))->N1 v H6)->(∀H6,P D (i+1) ys H6->N0 H6) ->
  g y (zs++ks.map fun k=>(σ[k]?).join) H' fun σ4 H4=>(∃zs4:St,zs4.length=n/\σ4=zs4++ks.map fun k=>(σ[k]?).join)/\tt σ4 H4 fun b H5=>if b=true then te σ4 H5 N1 else N0 H5)
 (hd:∀D ys H',P D xs.length ys H'->Q (.ref D) H'):CEl (Itl K a) n g ks tt te σ H1 Q:=by
 intro D hDn;refine⟨fun i m ys H'=>m=xs.length-i/\i<=xs.length/\P D i ys H',⟨_,rfl,tB _,h0 D hDn⟩,?_⟩;rintro i m ys H' ⟨rfl,hi,p⟩;obtain⟨d1,d2,d3⟩:=hD D i ys H' p;refine⟨d1,?_⟩;obtain lt|ge:=YC i xs.length
 .refine .inr ⟨⟨xs,xs[i],d2,by simp[lt]⟩,?_⟩
  rintro x H3 ⟨rfl,hx⟩ zs hzs;exact hs D i x ys _ zs _ _ (hx xs d2) p hzs (fun v H6 h6 p6=>⟨h6,by lia,_,by lia,rfl,lt,p6⟩) fun H6 p6=>⟨_,by lia,rfl,lt,p6⟩
 .obtain rfl:i=xs.length:=YF hi ge
  exact .inl ⟨⟨xs,d2,zK _⟩,hd D ys H' p⟩
open Lean Meta Simp
def DT:List Name:=Ew++[`L2.Ad,`L2.E6,`L2.tPar3]
def EE:List Name:=Dh++[`L2.xx,`L2.gRp]
def D9(e:Lean.Expr):MetaM (Option Lean.Expr):=do
 let .const n us:=e.getAppFn|return none
 let fr:=HI n || DT.contains n
 unless fr || EE.contains n do return none
 let some (.defnInfo d):=(<- getEnv).find? n|return none
 let v:=d.value.instantiateLevelParams d.levelParams us
 if e.getAppNumArgs<v.getNumHeadLambdas then return none
 let b:=v.beta e.getAppArgs
 if fr then return some b
 match <- reduceMatcher? b with
 | .reduced r=>return some r
 | .notMatcher=>return some b
 |_=>return none
end L2
namespace K19
open PySem L2
structure Row where
 pa:List Nat
 cu:List Nat
 am:Int
structure Bk where
 k:Int
 d:Int
 rs:List Row
noncomputable def sg(a s:Int)(k:Nat):Nat:=97+((a+s*k) % 26).toNat
noncomputable def wd(a s:Int)(n:Nat):List Nat:=(Zw n).map fun k=>sg a s k
noncomputable def nms(c:Int)(k:Nat):List Nat:=
 if k<6 then (wd (c / 250) (1+c / 10 % 25) (1+c % 10).toNat).take (c / 6500 % (1+c % 10+1)).toNat++[97+((c / 71500+3*k) % 26).toNat]++(wd (c / 250) (1+c / 10 % 25) (1+c % 10).toNat).drop (c / 6500 % (1+c % 10+1)).toNat
 else wd (c / 250) (1+c / 10 % 25) (1+c % 10).toNat
def Jn(a s:Int)(k:Nat):97<=sg a s k/\sg a s k<=122:=by unfold sg;lia
def iS:1<=(nms c k).length/\(nms c k).length<=11/\∀x∈nms c k,97<=x/\x<=122:=by
 have hw:(wd (c / 250) (1+c / 10 % 25) (1+c % 10).toNat).length=(1+c % 10).toNat:=by simp[wd]
 have hx:∀x∈wd (c / 250) (1+c / 10 % 25) (1+c % 10).toNat,97<=x/\x<=122:=fun x hx=>by
  obtain⟨k,_,rfl⟩:=yR.mp hx;exact Jn _ _ _
 unfold nms;generalize wd (c / 250) (1+c / 10 % 25) (1+c % 10).toNat=w at hw hx;split
 .have h2:=fun n=>VU Yl (List.take_append_drop n w)
  simp only[zA]at h2;refine⟨by rw[zA,zA,v6];lia,by rw[zA,zA,v6];have:=h2 (c / 6500 % (1+c % 10+1)).toNat;lia,fun x hm=>?_⟩;obtain h|h:=yy.mp hm
  .obtain h|h:=yy.mp h
   .exact hx x (ZI h)
   .rw[zh.mp h];lia
  .exact hx x (List.mem_of_mem_drop h)
 .exact⟨by lia,by lia,hx⟩
def Hr(c:Int):nms c 0≠nms c 6:=fun h=>by
 have:=VU Yl h;unfold nms at this;rw[VY (by decide),VZ (by decide),zA,zA,v6]at this;have h2:=VU Yl (List.take_append_drop (c / 6500 % (1+c % 10+1)).toNat (wd (c / 250) (1+c / 10 % 25) (1+c % 10).toNat));rw[zA]at h2;lia
inductive Pths (c:Int):List (List Nat)->Prop
 |two:Pths c [nms c 0,nms c 6]
 |more {ps:List (List Nat)} {u:List Nat} {k:Nat}:Pths c ps->u∈ps->u++58::nms c k∉ps->(spN 58 u).length<=5->Pths c (ps++[u++58::nms c k])
noncomputable def zv(d:List (Pt × Int))(k:Pt)(v:Int):List (Pt × Int):=if (d.any fun e=>decide (e.1=k))=true then d.map (fun e=>if e.1=k then (e.1,v) else e) else d++[(k,v)]
noncomputable def kK(d:List (Pt × Int))(k:Pt):Option Int:=(d.find? fun e=>decide (e.1=k)).map (·.2)
noncomputable def eP(e:Pt × Int):List Key × V:=(kP e.1,.int e.2)
def Ea(e:Pt × Int)(k:Pt):decide ((eP e).1=kP k)=decide (e.1=k):=decide_eq_decide.mpr ⟨fun h=>jO h,fun h=>by show kP e.1=kP k;rw[h]⟩
def nU(d:List (Pt × Int))(k:Pt)(v:Int):bD (d.map eP) (kP k) (.int v)=(zv d k v).map eP:=by
 unfold bD zv;have e1:((d.map eP).any fun kv=>decide (kv.1=kP k))=d.any fun e=>decide (e.1=k):=by
  rw[List.any_map];exact VU (d.any ·) (funext fun e=>Ea e k)
 rw[e1];split
 .rw[vN,vN]
  apply Zq;intro e _;show(if (eP e).1=kP k then ((eP e).1,V.int v) else eP e)=eP (if e.1=k then (e.1,v) else e);by_cases h:e.1=k
  .rw[VY h,VY (by show kP e.1=kP k;rw[h])];rfl
  .rw[VZ h];exact VZ fun z=>h (jO z)
 .rw[yE];rfl
theorem ei(k:Pt):∀d:List (Pt × Int),bG (d.map eP) (kP k)=(kK d k).map V.int
 | []=>rfl
 |e::r=>by
  have ih:=ei k r;by_cases h:e.1=k
  .rw[yH,bV (by show kP e.1=kP k;rw[h])]
   simp[kK,h,eP]
  .rw[yH,bW (fun z=>h (jO z)),ih]
   simp[kK,h]
noncomputable def stp(d:List (Pt × Int))(r:Row):List (Pt × Int):=zv d (r.pa,r.cu) ((kK d (r.pa,r.cu)).getD 0+r.am)
noncomputable def dk(rs:List Row):List (Pt × Int):=rs.foldl stp []
def nN(rs:List Row)(r:Row):dk (rs++[r])=stp (dk rs) r:=by unfold dk;rw[List.foldl_append];rfl
def zl(d:List (Pt × Int))(k:Pt)(v:Int):(zv d k v).map (·.1)=if k∈d.map (·.1) then d.map (·.1) else d.map (·.1)++[k]:=by
 unfold zv;have e:((d.any fun e=>decide (e.1=k))=true)↔k∈d.map (·.1):=by
  rw[Yw];constructor
  .rintro⟨x,hx,h⟩;exact yR.mpr ⟨x,hx,of_decide_eq_true h⟩
  .intro h
   obtain⟨x,hx,h⟩:=yR.mp h;exact⟨x,hx,VX h⟩
 by_cases h:k∈d.map (·.1)
 .rw[VY (e.mpr h),VY h,vN]
  apply Zq;intro x _;show(if x.1=k then (x.1,v) else x).1=x.1;split <;> rfl
 .rw[VZ fun z=>h (e.mp z),VZ h,yE];rfl
def DY:(dk (rs++[r])).map (·.1)=if (r.pa,r.cu)∈(dk rs).map (·.1) then (dk rs).map (·.1) else (dk rs).map (·.1)++[(r.pa,r.cu)]:=by
 rw[nN];exact zl _ _ _
def dD{α:Type}{P:List α->Prop}(h0:P [])(h1:∀l x,P l->P (l++[x]))(l:List α):P l:=by
 have:∀r:List α,P r.reverse:=by
  intro r
  induction r with
  |nil=>exact h0
  |cons x r ih=>rw[List.reverse_cons];exact h1 _ _ ih
 have h:=this l.reverse
 rwa [List.reverse_reverse]at h
def mH(rs:List Row):((dk rs).map (·.1)).Nodup/\(∀e∈(dk rs).map (·.1),∃r∈rs,e=(r.pa,r.cu))/\(dk rs).length<=rs.length:=by
 induction rs using dD with
 |h0=>exact⟨.nil,(fun _ m=>nomatch m),zK _⟩
 |h1 l x ih=>
  obtain⟨i1,i2,i3⟩:=ih;rw[<- zV (f:=(·.1)) (as:=dk (l++[x])),DY];rw[<- zV (f:=(·.1))]at i3;by_cases h:(x.pa,x.cu)∈(dk l).map (·.1)
  .rw[VY h]
   refine⟨i1,fun e m=>?_,by rw[zA];lia⟩;obtain⟨r,hr,g⟩:=i2 e m;exact⟨r,vS _ hr,g⟩
  .rw[VZ h]
   refine⟨Z8.mpr ⟨i1,Zj.mpr ⟨yW,ZQ⟩,fun a ha b hb=>by rw[zh.mp hb];rintro rfl;exact h ha⟩,fun e m=>?_,by rw[zA,zA,v6,v6];lia⟩;obtain m|m:=yy.mp m
   .obtain⟨r,hr,g⟩:=i2 e m
    exact⟨r,vS _ hr,g⟩
   .exact⟨x,by simp,zh.mp m⟩
def tq(h:k∈d.map (·.1)):∃n,kK d k=some n:=by
 obtain⟨e,he,rfl⟩:=yR.mp h;unfold kK;cases f:d.find? fun x=>decide (x.1=e.1) with
 |none=>exact VT (Wi.mp f e he) (by simp)
 |some z=>exact⟨z.2,rfl⟩
noncomputable def val(rs:List Row)(k:Pt):Int:=(kK (dk rs) k).getD 0
noncomputable def res(rs:List Row)(out:List Pt):List Row:=(out.filter fun k=>decide (val rs k≠0)).map fun k=>⟨k.1,k.2,val rs k⟩
def sw(rs:List Row)(out:List Pt):(res rs out).length<=out.length:=by unfold res;rw[zV];exact Zb _ _
def FR(h:k∈(dk rs).map (·.1)):kK (dk rs) k=some (val rs k):=by
 obtain⟨n,e⟩:=tq h;unfold val;rw[e];rfl
def oJ(rs:List Row)(out:List Pt)(k:Pt):res rs (out++[k])=res rs out++if val rs k≠0 then [⟨k.1,k.2,val rs k⟩] else []:=by
 unfold res;rw[ZW,yE]
 congr 1
 by_cases h:val rs k≠0
 .rw[VY h];simp[h]
 .rw[VZ h];simp at h;simp[h]
end K19
namespace K3
noncomputable def S(a:Int):Int:=
 if a<=0 then 0 else if a=1 then 31 else if a=2 then 59 else if a=3 then 90 else if a=4 then 120
 else if a=5 then 151 else if a=6 then 181 else if a=7 then 212 else if a=8 then 243 else if a=9 then 273
 else if a=10 then 304 else 334
noncomputable def LD(y:Int):Int:=(y+3) / 4-(y+99) / 100+(y+399) / 400
noncomputable def FD(m:Int):Int:=365*(m / 12)+(if m % 12 > 1 then LD (m / 12+1) else LD (m / 12))+S (m % 12)
noncomputable def LG(y m:Int):Int:=
 if m=2 then (if (y % 4=0/\y % 100≠0)\/y % 400=0 then 29 else 28)
 else if m=4\/m=6\/m=9\/m=11 then 30 else 31
def xX(h:m=12*y+a)(h0:0<=a)(h1:a<12) :
 FD m=365*y+(if a > 1 then LD (y+1) else LD y)+S a:=by
 have e1:m / 12=y:=by lia
 have e2:m % 12=a:=by lia
 unfold FD;rw[e1,e2]
def q4(y:Int):(y+4) / 4=(y+3) / 4+if y % 4=0 then 1 else 0:=by split <;> lia
def Kv(y:Int):(y+100) / 100=(y+99) / 100+if y % 100=0 then 1 else 0:=by split <;> lia
def JV(y:Int):(y+400) / 400=(y+399) / 400+if y % 400=0 then 1 else 0:=by split <;> lia
def xa(y:Int):LD (y+1)=LD y+(if (y % 4=0/\y % 100≠0)\/y % 400=0 then 1 else 0):=by
 unfold LD;rw[Y1,Y1,Y1];show(y+4) / 4-(y+100) / 100+(y+400) / 400=_;rw[q4,Kv,JV];generalize (y+3) / 4=A;generalize (y+99) / 100=B;generalize (y+399) / 400=C;by_cases a:y % 400=0
 .have b:y % 100=0:=by lia
  have c:y % 4=0:=by clear b;lia
  rw[VY a,VY b,VY c,VY (.inr a)];clear a b c;lia
 .by_cases b:y % 100=0
  .have c:y % 4=0:=by clear a;lia
   rw[VZ a,VY b,VY c,VZ (fun z=>z.elim (fun w=>w.2 b) a)];clear a b c;lia
  .by_cases c:y % 4=0
   .rw[VZ a,VZ b,VY c,VY (.inl ⟨c,b⟩)]
    clear a b c;lia
   .rw[VZ a,VZ b,VZ c,VZ (fun z=>z.elim (fun w=>c w.1) a)]
    clear a b c;lia
def HG:∀a:Nat,a<11->a≠1->S (a+1)=S a+LG 1 (1+a):=by decide
def GM(y z m:Int)(h:m≠2):LG y m=LG z m:=by unfold LG;rw[VZ h,VZ h]
def Hx(y:Int):LG (2000+y) 2=28+(LD (y+1)-LD y):=by
 have h:(((2000+y) % 4=0/\(2000+y) % 100≠0)\/(2000+y) % 400=0)↔((y % 4=0/\y % 100≠0)\/y % 400=0):=by
  have e (k:Int) (d:2000=k*(2000 / k)):(2000+y) % k=y % k:=by rw[Int.add_comm,d,Int.add_mul_emod_self_left]
  rw[e 4 rfl,e 100 rfl,e 400 rfl]
 rw[xa,LG,VY rfl];by_cases c:(y % 4=0/\y % 100≠0)\/y % 400=0
 .rw[VY c,VY (h.mpr c)];lia
 .rw[VZ c,VZ (fun q=>c (h.mp q))];lia
def Df(m:Int):FD (m+1)=FD m+LG (2000+m / 12) (1+m % 12):=by
 have b0:0<=m % 12:=Zt _ (by decide);have b1:m % 12<12:=Zu _ (by decide);have e:m=12*(m / 12)+m % 12:=(Int.mul_ediv_add_emod m 12).symm;have a1:=xX e b0 b1;generalize m / 12=y at *;generalize m % 12=z at *;obtain⟨a,rfl⟩:=Zi b0;by_cases c:a=11
 .subst c
  rw[a1,xX (m:=m+1) (y:=y+1) (a:=0) (by lia) (by decide) (by decide)];show _+LD (y+1)+0=_+LD (y+1)+334+31;lia
 .have a2:=xX (m:=m+1) (y:=y) (a:=a+1) (by lia) (by lia) (by lia)
  by_cases c1:a=1
  .subst c1
   rw[a1,a2];show _+LD (y+1)+59=_+LD y+31+LG (2000+y) 2;rw[Hx];lia
  .have s:=HG a (by lia) c1
   rw[a1,a2,GM _ 1 _ (by lia),s];by_cases c2:a=0
   .subst c2;exact(Y1 _ _ _).symm
   .rw[VY (by lia),VY (by lia)];lia
def I_(y m:Int):28<=LG y m/\LG y m<=31:=by
 unfold LG;repeat' split
 all_goals lia
def sX(m:Int):FD m+28<=FD (m+1)/\FD (m+1)<=FD m+31:=by
 have h:=Df m;have g:=I_ (2000+m / 12) (1+m % 12);lia
def uR(m:Int)(k:Nat):FD m+28*k<=FD (m+k):=by
 induction k with
 |zero=>simp
 |succ k ih=>
  have h:=sX (m+k);have e:m+((k+1:Nat):Int)=m+k+1:=by lia
  rw[e];lia
def rG(h:m<=n):FD m+28*(n-m)<=FD n:=by
 have g:=uR m (n-m).toNat;have e:m+((n-m).toNat:Int)=n:=by lia
 rw[e]at g;lia
def IY:FD 0=0:=by decide
def F_:FD 4800=146097:=by decide
def ET(h0:0<=m):0<=FD m:=by
 have:=rG h0;rw[IY]at this;lia
def zT(h1:m<=4799):FD (m+1)<=146097:=by
 have:=rG (show m+1<=4800 by lia);rw[F_]at this;lia
noncomputable def R10:List Int:=[31,30,31,30,31,31,30,31,30,31]
def Du:∀a:Nat,a<10->(R10.take a).sum+59=S ((a:Int)+2):=by decide
def II(m:Int):365*(m / 12)+LD (m / 12)+((31::(28+(LD (m / 12+1)-LD (m / 12)))::R10).take (m % 12).toNat).sum=FD m:=by
 have b0:0<=m % 12:=Zt _ (by decide);have b1:m % 12<12:=Zu _ (by decide);have a1:=xX (Int.mul_ediv_add_emod m 12).symm b0 b1;generalize m / 12=y at *;generalize m % 12=z at *;obtain⟨a,rfl⟩:=Zi b0;rw[a1]
 match a,b1 with
 |0,_=>rfl
 |1,_=>rfl
 |a+2,b1=>
  have s:=Du a (by lia);rw[VY (by lia)];show _+_+(31+(_+(R10.take a).sum))=_+S ((a:Int)+2);rw[<- s];lia
end K3
namespace K22
open PySem L2 K19
noncomputable def sm(rs:List Row)(k:Pt):Int:=match rs with
 | []=>0
 |r::q=>(if (r.pa,r.cu)=k then r.am else 0)+sm q k
theorem B5(k:Pt)(y:List Row):∀x:List Row,sm (x++y) k=sm x k+sm y k
 | []=>by rw[List.nil_append];simp[sm]
 |r::q=>by rw[YS,sm,sm,B5 k y q];lia
def Bl(k:Pt)(v:Int)(k':Pt)(d:List (Pt × Int)):kK (zv d k v) k'=if k'=k then some v else kK d k':=by
 have inj:∀ {x y:Option Int},x.map V.int=y.map V.int->x=y:=fun {x y} h=>by
  cases x <;> cases y <;> first|rfl|cases h
  rfl
 refine inj ?_;rw[<- ei,<- nU,BI];by_cases c:k'=k
 .rw[VY c,VY (by rw[c])];rfl
 .rw[VZ c,VZ (fun z=>c (jO z)),ei]
def Fv(rs:List Row)(k:Pt):val rs k=sm rs k:=by
 unfold val
 induction rs using dD with
 |h0=>rfl
 |h1 l x ih=>
  rw[nN,B5];unfold stp;rw[Bl];by_cases c:k=(x.pa,x.cu)
  .rw[VY c,<- c,<- ih];simp[sm,c]
  .rw[VZ c,ih,show sm [x] k=0 by simp only[sm];rw[VZ fun z=>c z.symm];rfl];lia
def ceA{K:Ws}{β γ:Type}{n:Nat}{g:TG}{ks:List Nat}{tt:TT}{te:TE}{σ:St}{H:Hp}{Q:VK}{S:Hp->V->γ->Prop}(hS:∀(G G':Hp) (v:V) (c:γ),(∀t l,G t=some (.tup l)->G' t=some (.tup l))->S G v c->S G' v c)
 (a:WH) (vs:List V) (R:List β) (Rel:V->β->Prop) (p:β->Bool) (f:β->γ) (ha:H a=some (.lst vs)) (hN:WM H) (hR:A2 Rel vs R) (hz:vs.length<WC)
 (hs:∀v b,b∈R->Rel v b->∀G (zs:St) (N1:VK) (N0:Hp->Prop),WT H G->WM G->zs.length=n->(p b=true->∀u G',WT G G'->WM G'->S G' u (f b)->N1 u G')->(p b=false->∀G',WT G G'->WM G'->N0 G') ->
  g v (zs++ks.map fun k=>(σ[k]?).join) G fun σ4 H4=>(∃zs4:St,zs4.length=n/\σ4=zs4++ks.map fun k=>(σ[k]?).join)/\tt σ4 H4 fun b H5=>if b=true then te σ4 H5 N1 else N0 H5)
 (q:∀D ws G,H D=none->WT H G->WM G->G D=some (.lst ws)->A2 (S G) ws ((R.filter p).map f)->Q (.ref D) G):CEl (Itl K a) n g ks tt te σ H Q:=by
 refine wY a vs (fun D i ys G=>H D=none/\WT H G/\WM G/\G D=some (.lst ys)/\ys.length<=i/\A2 (S G) ys (((R.take i).filter p).map f)) hz ?_ ?_ ?_ ?_
 .exact fun D hD=>⟨hD,aj _ hD,al hN rfl,aa,zK _,.nil⟩
 .rintro D i ys G ⟨hD,sm,_,gd,ly,_⟩
  exact⟨gd,az (sm _ _ ha),ly⟩
 .rintro D i y ys G zs N1 N0 hy ⟨hD,sm,nG,gd,ly,A⟩ hzs n1 n0
  obtain⟨b,hb,rb⟩:=hR.at_ hy;have mb:=yo hb;have et:R.take (i+1)=R.take i++[b]:=by rw[YN,hb];rfl
  rw[et,ZW,yE]at n1 n0;refine hs y b mb rb G zs N1 N0 sm nG hzs (fun pb u G' s' nG' hu=>?_) fun pb G' s' nG'=>n0 G' ⟨hD,sm.trans s',nG',s' _ _ gd,ZK ly,?_⟩
  .have gd':=s' _ _ gd
   have kt:∀t l,G' t=some (.tup l)->upd G' D (.lst (ys++[u])) t=some (.tup l):=fun t l e=>by
    rw[ag fun z=>by rw[z,gd']at e;cases e];exact e
   refine n1 _ _ gd' ⟨hD,fun c o e=>?_,al nG' rfl,aa,by rw[zA];exact YU ly,?_⟩
   .rw[ag (aq e hD)];exact s' _ _ (sm _ _ e)
   .rw[ZU pb,Yc]
    exact(A.imp fun _ _ _ _ h=>hS _ _ _ _ kt (hS _ _ _ _ (fun t l e=>s' _ _ e) h)).snoc (hS _ _ _ _ kt hu)
  .rw[ZT (by rw[pb];decide),Yc,YB,Za]
   exact A.imp fun _ _ _ _ h=>hS _ _ _ _ (fun t l e=>s' _ _ e) h
 .rintro D ys G ⟨hD,sm,nG,gd,_,A⟩
  rw[hR.len,Zp]at A;exact q D ys G hD sm nG gd A
end K22
namespace L2
open PySem PyProof.Rows
def tK(h:H a=some o):upd H a o=H:=by
 funext b;by_cases e:b=a
 .subst e;rw[aa,h]
 .rw[ag e]
noncomputable def isD:HO->Bool
 | .dK _=>true
 | .dT _=>true
 |_=>false
noncomputable def dF:HO->Nat
 | .dK WU=>WU.length
 | .dT WU=>WU.length
 |_=>0
def oZ(H:Hp)(u:HO)(i:Nat)(x v:V):Prop:=match u with
 | .dK WU=>∃k,WU[i]? = some (k,v)/\x=kV k
 | .dT WU=>∃k q,WU[i]? = some (k,v)/\x = .ref q/\H q=some (.tup (k.map kV))
 |_=>False
def Ds(h:(bJ P w).is k u=true):WQ (kV k) u:=by
 cases k with
 |inl i=>obtain⟨t,z⟩:=Value.isInt_shape h;exact⟨t,z⟩
 |inr x=>obtain⟨t,z⟩:=Value.isStrOf_shape h;exact⟨t,z⟩
def EY{α β:Type}{R:α->β->Prop}{xs:List α}{ys:List β}(h:Paired R xs ys):∀ {i:Nat} {y:β},ys[i]? = some y->∃x,xs[i]? = some x/\R x y:=by
 induction h with
 |nil=>intro i y e;simp at e
 |cons r _ ih=>
  intro i y e;cases i with
  |zero=>cases e;exact⟨_,rfl,r⟩
  |succ i=>exact ih (i:=i) (by simpa using e)
section
variable{X:Cx}{WY:List (WH × Obj)}{σ:St}{H:Hp}{s:WG}{a:WH}
def x_(I:WL X WY σ H s){u:HO}(hu:isD u=true)(x:WO X.prog X.w H s.heap a u):∃(o:Obj) (es:Array YI) (ep:Nat),s.heap.get? a=some o/\o.ExactDict/\o.data = .dict es ep/\(a==ZH)=false/\es.size=dF u /\
 ∀i e,es[i]? = some e->∃x v,oZ H u i x v/\WQ x e.key/\WQ v e.val:=by
 cases u with
 |dK WU=>
  obtain⟨z,lo,vs,rel,o,es,ep,ho,ex,hd,hk,hp,hn⟩:=x;have hl:es.size=vs.length:=by rw[<- hp.length];simp
  refine⟨o,es,ep,ho,ex,hd,lo,by rw[hl];exact rel.length.symm,fun i e he=>?_⟩;have hi:i<vs.length:=by rw[<- hl];exact(Wg.mp he).1
  obtain⟨p1,p2⟩:=hp.get? (e:=e) (k:=vs[i].1) (v:=vs[i].2) (by rw[We];exact he) (by simp[hi]);obtain⟨⟨k,v⟩,hx,e1,e2⟩:=EY rel (y:=vs[i]) (Wl hi);have e1':k=vs[i].1:=e1;refine⟨kV k,v,⟨k,hx,rfl⟩,by rw[e1'];exact Ds p1,by rw[p2];exact e2⟩
 |dT WU=>
  obtain⟨z,lo,xs,rel,o,es,ep,ho,ex,hd,he,hn⟩:=x;have hl:es.size=xs.length:=size_of_entries he;refine⟨o,es,ep,ho,ex,hd,lo,by rw[hl];exact(Xl rel).symm,fun i e h=>?_⟩;rw[entry_at he i]at h;obtain⟨q,hq,rfl⟩:=sx.mp h;obtain⟨⟨k,v⟩,hx,e1,e2,e3⟩:=EY rel hq;exact⟨.ref q.2.1,v,⟨k,q.2.1,hx,rfl,e2⟩,rfl,e3⟩
 |_=>cases hu
def WL.freeze(I:WL X WY σ H s)(hu:isD u=true)(e:Rd H a u):∃(o:Obj) (es:Array YI) (ep:Nat),s.heap.get? a=some o/\o.ExactDict/\o.data = .dict es ep/\(a==ZH)=false/\es.size=dF u/\(H a=some u\/H a=some (.frz o u))/\WL X WY σ (upd H a (.frz o u)) s:=by
 have x:=zW I.hok e;obtain⟨o,es,ep,ho,ex,hd,lo,hz,_⟩:=x_ I hu x;obtain e|⟨o',e⟩:=e
 .refine⟨o,es,ep,ho,ex,hd,lo,hz,.inl e,?_⟩
  have no:∀b w,H b=some w->isD w=false->b≠a:=fun b w q n z=>by rw[z,e]at q;cases q;rw[hu]at n;cases n
  exact I.write (x:=a) (e:=a) (t':=s.toks) (h':=s.heap) (by rw[e];cases u <;> first|exact Yx|cases hu) (.inl rfl) (fun _ _ _ q=>q) ⟨o,ho⟩ ⟨ho,x.stay (fun _ _ _ q=>q) (fun c z=>by rw[ag (no c _ z rfl)];exact z) fun c xs z=>by rw[ag (no c _ z rfl)];exact z⟩
 .have h1:=(show WO X.prog X.w H s.heap a (.frz o' u) from I.hok a _ e).1
  rw[ho]at h1;cases h1;refine⟨o,es,ep,ho,ex,hd,lo,hz,.inr e,?_⟩;rw[tK e];exact I
def WL.thaw(I:WL X WY σ H s)(e:H a=some (.frz o u))(nf:∀o' u',X.H₀ a≠some (.frz o' u')):WL X WY σ (upd H a u) s:=by
 have na:∀b,H b=none->b≠a:=fun b n z=>by rw[z,e]at n;cases n
 have no:∀b w,H b=some w->(∀o x,w ≠ .frz o x)->b≠a:=fun b w q n z=>by rw[z,e]at q;cases q;exact n _ _ rfl
 have own:∀ {d:WH} c,H c=some (.own d)->upd H a u c=some (.own d):=fun c z=>by rw[ag (no c _ z (by intro _ _ y;cases y))];exact z
 have tup:∀c xs,H c=some (.tup xs)->upd H a u c=some (.tup xs):=fun c xs z=>by rw[ag (no c _ z (by intro _ _ y;cases y))];exact z
 refine⟨I.ok,I.os,I.bare,⟨I.base.keep,I.base.slot,fun b ob q n hx=>?_,I.base.there,fun b xs q=>tup b xs (I.base.tups b xs q),fun b ob x q=>?_,fun b ps q=>?_⟩,I.loc,I.cell,?_,fun x c ec=>?_,fun p hp=>?_,fun b ob q=>?_,I.len⟩
 .have h:=I.base.free b ob q n hx
  rw[ag (na b h)];exact h
 .have h:=I.base.frzs b ob x q
  by_cases eb:b=a
  .subst eb;exact VT q (nf _ _)
  .rw[ag eb];exact h
 .obtain⟨m,h⟩:=I.base.tbls b ps q
  exact⟨m,by rw[ag (no b _ h (by intro _ _ z;cases z))];exact h⟩
 .rw[ag (na _ I.free)];exact I.free
 .have h:=I.freeC x c ec
  rw[ag (na _ h)];exact h
 .obtain⟨p1,p2,p3⟩:=I.pin p hp
  exact⟨p1,by rw[ag (na _ p2)];exact p2,p3⟩
 .by_cases eb:b=a
  .subst eb
   rw[aa]at q;cases q;exact(show WO X.prog X.w H s.heap b (.frz o u) from I.hok _ _ e).2.stay (fun _ _ _ z=>z) own tup
  .rw[ag eb]at q
   exact(I.hok b ob q).stay (fun _ _ _ z=>z) own tup
def Th(H H1:Hp)(P:Hp->Prop):Prop:=∃a o u,H1 a=some (.frz o u)/\((H a=some u/\isD u=true/\P (upd H1 a u))\/(H a=some (.frz o u)/\P H1))
def WL.th(I:WL X WY σ H s)(I1:WL X WY σ1 H1 s1)(h:Th H H1 P):∃H2,WL X WY σ1 H2 s1/\P H2:=by
 obtain⟨a,o,u,e1,⟨e2,hu,q⟩|⟨e2,q⟩⟩:=h
 .exact⟨_,I1.thaw e1 (fun o' u' z=>by rw[I.base.frzs _ _ _ z]at e2;cases e2;cases hu),q⟩
 .exact⟨_,I1,q⟩
def Ae(te:TE):TE:=fun σ H Q=>te σ H fun v H1=>Th H H1 (Q v)
def xg(ts:TS):TS:=fun D σ H=>ts { nx:=fun σ' H1=>Th H H1 (D.nx σ'),rt:=fun v H1=>Th H H1 (D.rt v),bk:=fun σ' H1=>Th H H1 (D.bk σ'),ct:=fun σ' H1=>Th H H1 (D.ct σ') } σ H
def nD{st:Stmt}{ts:TS}(h:PS X st ts):PS X st (xg ts):=by
 intro WY s σ H D I q;refine thn (h WY s σ H _ I q) fun f s1 hf=>?_;cases f with
 |next=>
  obtain⟨σ',H',I',z⟩:=hf;obtain⟨H2,I2,q2⟩:=I.th I' z;exact⟨σ',H2,I2,q2⟩
 |brk=>
  obtain⟨σ',H',I',z⟩:=hf;obtain⟨H2,I2,q2⟩:=I.th I' z;exact⟨σ',H2,I2,q2⟩
 |cont=>
  obtain⟨σ',H',I',z⟩:=hf;obtain⟨H2,I2,q2⟩:=I.th I' z;exact⟨σ',H2,I2,q2⟩
 |ret u=>
  obtain⟨v,σ',H',I',r,z⟩:=hf;obtain⟨H2,I2,q2⟩:=I.th I' z;exact⟨v,σ',H2,I2,r,q2⟩
noncomputable def Itk(a:WH)(o:Obj)(u:HO):It:=
 ⟨fun i H=>i<dF u/\H a=some (.frz o u),fun i H x H'=>H'=H/\∃v,oZ H u i x v,fun i H=>dF u<=i/\H a=some (.frz o u)⟩
def qD(I:WL X WY σ H s)(hu:isD u=true)(hd:o.data = .dict es ep)(e:H a=some (.frz o u)):s.heap.get? a=some o/\es.size=dF u/\∀i e,es[i]? = some e->∃x v,oZ H u i x v/\WQ x e.key/\WQ v e.val:=by
 obtain⟨ho,x⟩:=(show WO X.prog X.w H s.heap a (.frz o u) from I.hok a _ e);obtain⟨o',es',ep',ho',ex,hd',lo,hz,h⟩:=x_ I hu x;rw[ho]at ho';cases ho';rw[hd]at hd';injection hd' with h2 h3
 subst h2;exact⟨ho,hz,h⟩
def yT{P:WF}{w:WE}{K:Ws}{tg:Expr}(a it:WH)(o:Obj)(es:Array YI)(ep:Nat)(u:HO)(hu:isD u=true)(hd:o.data = .dict es ep):tE P w K tg (Itk a o u) [it] it (fun i h=>h.IsKeyIter it a i es.size ep) where
 mem:=by simp
 obj:=fun i h st b hb=>by
  have e:b=it:=by simpa using hb
  subst e;obtain⟨o,e,c,d⟩:=st;exact⟨o,e,fun v z=>by rw[d]at z;cases z⟩
 keep:=fun i h h' st k=>st.at fun o e=>k it (by simp) o e
 item:=by
  intro X hP hw hK hc i WY s σ H E I hf st hg;subst hP hw hK;obtain⟨hi,hq⟩:=hg;obtain⟨ho,hz,hen⟩:=qD I hu hd hq;obtain⟨f0,f1,f2,f3,f4,f5⟩:=hf it (by simp);have hx:es[i]? = some es[i]:=by simp[show i<es.size by lia]
  obtain⟨x,v,en,rx,rv⟩:=hen i _ hx;refine xC st ho hd hx fun h' st' sb=>?_;have I1:WL X WY σ H { s with heap:=h' }:=I.turned (t':=s.toks) (fun b o hb e=>(sb.2 b hb).trans e) f0 f1 f3 f4 f5;obtain⟨oi,e,c,d⟩:=id st';exact⟨_,rfl,oB (s:={ s with heap:=h' }) e c d (by decide) ⟨x,H,I1,rx,⟨rfl,v,en⟩,st',fun b hb=>(hf b hb).1⟩⟩
 done:=by
  intro X hP hw hK hc i WY s σ H E I hf st hg;subst hP hw hK;obtain⟨hi,hq⟩:=hg;obtain⟨ho,hz,hen⟩:=qD I hu hd hq;obtain⟨f0,f1,f2,f3,f4,f5⟩:=hf it (by simp);exact zN (I.ok.hd hc) st ho hd (by lia) fun h' eb=>⟨rfl,I.turned (t':=s.toks) (fun b o hb e=>eb b o hb e) f0 f1 f3 f4 f5⟩
 self:=fun _ _ _ _ _ st h=>wpAny_pyIter_keyiter st h
def qg(td:TE):TI:=fun σ H R=>td σ H fun x H1=>∃b u,x = .ref b/\isD u=true/\Rd H1 b u/\∀o,(H1 b=some u\/H1 b=some (.frz o u))->R (Itk b o u) (upd H1 b (.frz o u))
def sV{tg l:Expr}{td:TE}(hl:PE X l td):PI X tg l (qg td):=by
 intro WY s σ H R I h;refine thn (hl WY s σ H _ I h) fun v s1 hq_=>?_;obtain⟨x,H1,I1,rx,b,u,ex,hu,hr,q⟩:=hq_;subst ex;cases (show v=yJ b from rx);obtain⟨o,es,ep,ho,ex,hd,lo,hz,hor,I2⟩:=I1.freeze hu hr;refine xJ lo ho ex hd ?_;refine⟨s1.heap.objs.size,[s1.heap.objs.size],_,Itk b o u,_,rfl,I2.kept (t':=s1.toks) (fun c ob e=>Wr _ e),yT b _ o es ep u hu hd,⟨_,Wq _ rfl,rfl,rfl⟩,fun c hc=>?_,q o hor⟩;rw[zh.mp hc];exact I2.fpOk (zK _) (I2.hok.fresh (zK _))
end
def Jr(h:td σ H fun x H1=>∃b u,x = .ref b/\isD u=true/\Rd H1 b u/\∀o,(H1 b=some u\/H1 b=some (.frz o u))->CEl (Itk b o u) n g ks tt te σ (upd H1 b (.frz o u)) fun v H2=>Th H H2 (Q v)):Ae (cP (qg td) n g ks tt te) σ H Q:=h
def Iu(b:WH)(o:Obj)(u:HO)(P:WH->Nat->List V->Hp->Prop)(hz:dF u<WC)
 (h0:∀D,H1 D=none->P D 0 [] (upd H1 D (.lst []))) (hD:∀D i ys H',P D i ys H'->H' D=some (.lst ys)/\H' b=some (.frz o u)/\ys.length<=i)
 (hs:∀D i y v ys H' (zs:St) (N1:VK) (N0:Hp->Prop),i<dF u->oZ H' u i y v->P D i ys H'->zs.length=n->(∀v H6,H6 D=some (.lst ys)->P D (i+1) (ys++[v]) (upd H6 D (.lst (ys++[v])))->N1 v H6)->(∀H6,P D (i+1) ys H6->N0 H6) ->
  g y (zs++ks.map fun k=>(σ[k]?).join) H' fun σ4 H4=>(∃zs4:St,zs4.length=n/\σ4=zs4++ks.map fun k=>(σ[k]?).join)/\tt σ4 H4 fun b H5=>if b=true then te σ4 H5 N1 else N0 H5)
 (hd:∀D ys H',P D (dF u) ys H'->Q (.ref D) H'):CEl (Itk b o u) n g ks tt te σ H1 Q:=by
 intro D hDn;refine⟨fun i m ys H'=>m=dF u-i/\i<=dF u/\P D i ys H',⟨_,rfl,tB _,h0 D hDn⟩,?_⟩;rintro i m ys H' ⟨rfl,hi,p⟩;obtain⟨d1,d2,d3⟩:=hD D i ys H' p;refine⟨d1,?_⟩;obtain lt|ge:=YC i (dF u)
 .refine .inr ⟨⟨lt,d2⟩,?_⟩
  rintro x H3 ⟨rfl,v,hx⟩ zs hzs;exact hs D i x v ys _ zs _ _ lt hx p hzs (fun v H6 h6 p6=>⟨h6,by lia,_,by lia,rfl,lt,p6⟩) fun H6 p6=>⟨_,by lia,rfl,lt,p6⟩
 .obtain rfl:i=dF u:=YF hi ge
  exact .inl ⟨⟨zK _,d2⟩,hd D ys H' p⟩
def cmK(b:WH)(WU:List (Key × V))(p:V->Bool)(f:V->V)(hl:∀R:VK,R (.ref b) H->td σ H R)(hr:Rd H b (.dK WU))(hz:WU.length<WC)
 (hp:∀x∈WU.map (fun e=>kV e.1),∀D ys o (R:Bool->Hp->Prop),H D=none->D≠b->R (p x) (upd (upd H b (.frz o (.dK WU))) D (.lst ys))->tt (some x::ks.map fun k=>(σ[k]?).join) (upd (upd H b (.frz o (.dK WU))) D (.lst ys)) R)
 (hf:∀x∈WU.map (fun e=>kV e.1),p x=true->∀D ys o (R:VK),H D=none->D≠b->R (f x) (upd (upd H b (.frz o (.dK WU))) D (.lst ys))->te (some x::ks.map fun k=>(σ[k]?).join) (upd (upd H b (.frz o (.dK WU))) D (.lst ys)) R)
 (q:∀D,H D=none->Q (.ref D) (upd H D (.lst (((WU.map fun e=>kV e.1).filter p).map f)))):Ae (cP (qg td) 1 (eY 0) ks tt te) σ H Q:=by
 have hb:∃u,H b=some u:=by obtain e|⟨o,e⟩:=hr <;> exact⟨_,e⟩
 obtain⟨u,hb⟩:=hb;refine Jr (hl _ ⟨b,.dK WU,rfl,rfl,hr,fun o hor=>Iu b o (.dK WU) (fun D i ys G=>G=upd (upd H b (.frz o (.dK WU))) D (.lst ys)/\H D=none/\ys=(((WU.map fun e=>kV e.1).take i).filter p).map f) hz (fun D hD=>⟨rfl,?_,by simp⟩) ?_ ?_ ?_⟩)
 .have nb:D≠b:=fun z=>by rw[z,aa]at hD;cases hD
  rwa [ag nb]at hD
 .rintro D i ys G ⟨rfl,hD,rfl⟩
  have nb:b≠D:=aq hb hD;refine⟨aa,(ag nb).trans aa,?_⟩;rw[zV];exact wG (Zb _ _) (by rw[Zv];lia)
 .rintro D i y vv ys G zs N1 N0 hi ⟨kk,hk,rfl⟩ ⟨rfl,hD,rfl⟩ hzs n1 n0
  have hy:(WU.map fun e=>kV e.1)[i]? = some (kV kk):=by rw[Wm,hk];rfl
  generalize kV kk=y at hy;obtain⟨z,rfl⟩:=ex1 hzs;have nb:D≠b:=Wc (aq hb hD);have my:=yo hy;have et:(WU.map fun e=>kV e.1).take (i+1)=(WU.map fun e=>kV e.1).take i++[y]:=by rw[YN,hy];rfl
  rw[et,ZW]at n1 n0;refine⟨⟨[some y],rfl,rfl⟩,hp y my D _ o _ hD nb ?_⟩;cases py:p y with
  |true=>
   rw[VY rfl];refine hf y my py D _ o _ hD nb (n1 _ _ aa ⟨i6,hD,?_⟩);rw[ZU py,yE];rfl
  |false=>
   rw[VZ (by decide)];refine n0 _ ⟨rfl,hD,?_⟩;rw[ZT (by rw[py];decide),Yc,Za]
 .rintro D ys G ⟨rfl,hD,rfl⟩
  rw[show dF (.dK WU)=WU.length from rfl,ZP (by rw[zV];exact zK _)];have nb:b≠D:=aq hb hD;have q1:=q D hD;refine⟨b,o,.dK WU,(ag nb).trans aa,?_⟩;have e1:∀w z,upd (upd (upd H b w) D z) b u=upd H D z:=fun w z=>by
   funext c;by_cases h1:c=b
   .subst h1;rw[aa,ag nb,hb]
   .rw[ag h1]
    by_cases h2:c=D
    .subst h2;rw[aa,aa]
    .rw[ag h2,ag h1,ag h2]
  obtain e|e:=hor
  .refine .inl ⟨e,rfl,?_⟩
   rw[hb]at e;cases e;rw[e1];exact q1
  .refine .inr ⟨e,?_⟩
   rw[tK e];exact q1
section
variable{X:Cx}
noncomputable def El:WI->Bool
 | .bool b=>b
 |_=>false
def vP{bs:List Bool}{WV:List WI}(r:WP (bs.map V.bl) WV):∀y,y∈WV.toArray->SeqAt.EqAt A s y (.bool true) (El y):=fun y hy=>by
 obtain⟨j,hj⟩:=List.getElem?_of_mem (by simpa using hy);obtain⟨b,_,rfl⟩:=(kx r).get j y hj;have:=SeqAt.EqAt.bool_bool (A:=A) (s:=s) b true
 rwa [show(b==true)=El (.bool b) by cases b <;> rfl]at this
def Jx(K:Ws):V->List V->Hp->VK->Prop:=fun x vs H Q=>∃(p:WH) (bs:List Bool) (j:Nat),x = .ref p/\vs=[.bl true]/\SqL K H p (bs.map V.bl)/\bs[j]? = some true/\(∀i,i<j->bs[i]? = some false)/\Q (.int j) H
theorem sB:∀ {bs:List Bool} {WV:List WI},WP (bs.map V.bl) WV->∀ {j:Nat} {b:Bool},bs[j]? = some b->∃h:j<WV.length,El WV[j]=b
 | [],_,.nil,j,b,h=>by simp at h
 |c::r,_,.cons e t,j,b,h=>by
  cases (show _=Value.bool c from e);cases j with
  |zero=>cases h;exact⟨by simp,rfl⟩
  |succ j=>
   obtain⟨h1,h2⟩:=sB t (j:=j) (by simpa using h);exact⟨by simp;lia,by simpa using h2⟩
def Ej(K:Ws)(hK:X.K=K:=by rfl):MtM X "list.index" (Jx K):=by
 subst hK;intro WY s σ H x vs v us Q I rx rv h;obtain⟨p,bs,j,rfl,rfl,hq,hj,hi,q⟩:=h;cases rx;obtain⟨u,rfl,ru⟩:=rv.one;cases (show u=Value.bool true from ru);obtain⟨WV,r,pl,hz⟩:=I.list hq;obtain⟨⟨oc,od,ot,os⟩,e,c,n,d⟩:=pl.isList;simp only at c d;subst c;subst d;obtain⟨jl,jt⟩:=sB r hj;have hl:=r.length;refine call_meets F.slot_list_index ⟨_,e,rfl⟩ F.entry_list_index (F.args_list_index_2 _ _) (SeqAt.list_indexAt p WV.toArray n od os (.bool true) El j (by simpa using jl) (by have:WC<2 ^ 62:=(by rw[ue];decide);lia) (by simpa using jt) fun m hm lt=>?_) ⟨e,vP r,?_⟩
 .obtain⟨_,h2⟩:=sB r (hi m lt)
  simpa using h2
 .exact⟨.int _,H,I.tok _,⟨_,rfl⟩,q⟩
end
end L2
namespace L2
open PySem
def Gf(h:td σ H fun x H1=>∃b u,x = .ref b/\isD u=true/\Rd H1 b u/\∀o,(H1 b=some u\/H1 b=some (.frz o u))->FE (Itk b o u) g tb { nx:=fun σ' H2=>Th H H2 (D.nx σ'),rt:=fun v H2=>Th H H2 (D.rt v),bk:=fun σ' H2=>Th H H2 (D.bk σ'),ct:=fun σ' H2=>Th H H2 (D.ct σ') } σ (upd H1 b (.frz o u))):xg (pI (qg td) g tb) D σ H:=h
def HA(Pv:Nat->St->Hp->Prop)(h0:Pv 0 σ H)(hl:∀i σ H,Pv i σ H->H b=some (.frz o u))
 (hs:∀i x v σ H,i<dF u->oZ H u i x v->Pv i σ H->g x σ H fun σ2 H2=>tb { D with nx:=Pv (i+1),ct:=Pv (i+1),bk:=D.nx } σ2 H2) (hd:∀σ H,Pv (dF u) σ H->D.nx σ H):FE (Itk b o u) g tb D σ H:=by
 refine⟨fun i m σ H=>m=dF u-i/\i<=dF u/\Pv i σ H,⟨_,rfl,tB _,h0⟩,?_⟩;rintro i m σ H ⟨rfl,hi,p⟩;have q:=hl i σ H p;obtain lt|ge:=YC i (dF u)
 .refine .inr ⟨⟨lt,q⟩,Pv (i+1),fun σ' H' p'=>⟨_,by lia,rfl,lt,p'⟩,?_⟩
  rintro y H' ⟨rfl,v,en⟩;exact hs i y v σ _ lt en p
 .obtain rfl:i=dF u:=YF hi ge
  exact .inl ⟨⟨zK _,q⟩,hd σ H p⟩
end L2
namespace L2
open PySem PyProof.Rows
section
variable{prog:WF}{w:WE}{A:WD}{E:WI->WG->Prop}{s:WG}{it d:WH}{i ep:Nat}{od:Obj}{es:Array YI}
def z8(lo:(d==ZH)=false)(ho:s.heap.get? d=some od)(ex:od.ExactDict)
 (q:Q (.ref s.heap.objs.size) { s with heap:=s.heap.push { cls:=.type "dict_items",data:=.fields #[.ref d] } }):WB (WA prog w) A (call (.builtin "dict.items") [.ref d]) Q E s:=by
 have ty:s.TypeIs (.ref d) "dict":=⟨od,ho,ex.1⟩;refine ZS PySem.F.slot_dict_items ty PySem.F.entry_dict_items ?_ (PySem.F.args_dict_items_1 _);unfold Builtin.«dict.items» Builtin.Dict.noArgs;refine zd (zd (wpAny_notOrdered_dict ty ?_));show WB _ _ (pure d) _ _ s;refine zJ ?_;show WB _ _ (Xj d >>= _) _ _ s;unfold Xj;rw[VZ (by rw[lo];exact xl)];exact zd (zJ (zd (Zc (zJ ⟨_,rfl,q⟩))))
def qV(hv:s.heap.IsItemsView v d)(ho:s.heap.get? d=some od)(hd:od.data = .dict es ep)
 (q:Q (.ref s.heap.objs.size) { s with heap:=s.heap.push { cls:=.type "dict_itemiterator",data:=.fields #[.none,.bool false,.ref d,.int 0 0,.int es.size 0,.int ep 0,.none,.none] } }):WB (WA prog w) A (pyIter (.ref v)) Q E s:=by
 obtain⟨ov,hov,hcv,hdv⟩:=id hv;refine wpAny_pyIter_slot hv.typeIs F.slot_dict_items_iter (ZS F.slot_dict_items_iter hv.typeIs F.entry_dict_items_iter ?_ (F.args_dict_items_iter_1 _));unfold Builtin.«dict_items.__iter__» Builtin.Dict_items.dictOf Builtin.Dict_items.newIterator;refine zd (zJ (zd (zd (YE hov hdv (x:=.ref d) rfl (zJ (zd (zd (Yh ho hd (zd (Xq ho hd ?_)))))))) ));simp only[show Yy "dict_itemiterator" = true by decide,if_true];refine Zc (zJ ⟨_,rfl,"dict_itemiterator",_,⟨_,Wq _ rfl,rfl⟩,Yi.lookup,by simpa [rawInt,Builtin.Dict_items.ownedTupleFields] using q⟩)
  (by simp only[sizeOk,Builtin.Dict_items.ownedTupleFields,yX,zA,vZ,Xo,ue];lia)
def Dv(hit:XI s.heap it d i es.size ep ok ov)(hod:s.heap.get? d=some od)(hdd:od.data = .dict es ep)(hx:es[i]? = some e)
 (q:∀h',IsItemIterOut h' it d (i+1) es.size ep e.key e.val s.heap.objs.size->h'.get? s.heap.objs.size=some { cls:=.type "tuple",data:=.seq #[e.key,e.val] }->h'.objs.size=s.heap.objs.size+1 ->
  (∀b o,b≠it->s.heap.get? b=some o->h'.get? b=some o)->Q (some (.ref s.heap.objs.size)) { s with heap:=h' }):WB (WA prog w) A (pyNext (.ref it)) Q E s:=by
 obtain⟨hp,g,dr,tk,os⟩:=s;have ty:Shared.TypeIs ⟨hp,g,dr,tk,os⟩ (.ref it) "dict_itemiterator":=⟨_,hit,rfl⟩;unfold pyNext;refine zd (XS (wpAny_callSpecial?_slot (name:=zR "__next__") ty Yi (ZS Yi ty F.entry_dict_itemiterator_next ?_ (F.args_dict_itemiterator_next_1 _))));refine zd (zJ (zd (zd ?_)))
 first|refine zd (Ym ty (zJ (zd (YQ hit rfl ?_))))|refine zd (YL ty (zJ (zd (YQ hit rfl ?_))))
 simp only[show Yy "dict_itemiterator" = true by decide,if_true];show WB _ _ (if (yJ d==Ze)=true then _ else _) _ _ _;rw[VZ (show ¬ ((yJ d==Ze)=true) from xl)];refine zd (zJ (zd (Yh hod hdd ?_)));rw[VZ (by simp)];refine zd (zJ (zd (Xq hod hdd ?_)));rw[VZ (by simp)];refine zJ ?_;have lt:i<es.size:=(Wg.mp hx).1;have ee:es[i]=e:=(Wg.mp hx).2;simp only[show ¬ ((i:Int)<0) from by lia,if_false,ZJ,Wh lt];refine zd ?_
 first|refine zd (Ym ty (zJ (zd (Xw ty ?_))))|refine zd (YL ty (zJ (zd (Xw ty ?_))))
 show WB _ _ (setField (.ref it) 3 (rawInt ((i:Int)+1)) >>= _) _ _ ⟨hp,g,dr,tk,os⟩;refine zd (Xz hit (by simp) fun a1 n1 b1=>?_)
 replace b1:Yz it hp a1:=b1
 replace n1:XI a1 it d (i+1) es.size ep ok ov:=by
  have z:((i+1:Nat):Int)=(i:Int)+1:=by lia
  unfold XI;rw[z];simpa [rawInt] using n1
 have ty1:Shared.TypeIs ⟨a1,g,dr,tk,os⟩ (.ref it) "dict_itemiterator":=⟨_,n1,rfl⟩;refine zd (YX (zd (Xw ty1 (zd (Xw ty1 ?_)))));show WB _ _ (Builtin.Dict_items.pairFromOwner (.ref it) 6 es[i].key es[i].val) _ _ ⟨a1,g,dr,tk,os⟩;rw[ee];unfold Builtin.Dict_items.pairFromOwner;refine zd (wpAny_newTuple ?_);have n2:XI (a1.push { cls:=.type "tuple",data:=.seq #[e.key,e.val] }) it d (i+1) es.size ep ok ov:=Wr _ n1;generalize ha:a1.push { cls:=.type "tuple",data:=.seq #[e.key,e.val] }=a2 at n2;have z1:a1.objs.size=hp.objs.size:=b1.1;have il:it<hp.objs.size:=wu hit;have t2:a2.get? hp.objs.size=some { cls:=.type "tuple",data:=.seq #[e.key,e.val] }:=by rw[<- ha,<- z1];exact Wq _ rfl
 have z2:a2.objs.size=hp.objs.size+1:=by rw[<- ha,Heap.size_push,z1]
 have k2:∀b o,b≠it->hp.get? b=some o->a2.get? b=some o:=fun b o hb z=>by rw[<- ha];exact Wr _ (b1.extBut b o hb z)
 show WB _ _ (Builtin.Dict_items.ownedTupleIsFree (.ref it) >>= _) _ _ ⟨a2,g,dr,tk,os⟩;rw[z1];clear ha n1 b1 ty1 z1 a1;refine zd ?_;unfold Builtin.Dict_items.ownedTupleIsFree;refine zd (YE n2 rfl (x:=.none) rfl (zJ ?_));simp only[if_true];refine zd (YE n2 rfl (x:=ok) rfl (zd (YE n2 rfl (x:=ov) rfl (zd (Xz n2 (by simp) fun a3 n3 b3=>?_)))))
 replace b3:Yz it a2 a3:=b3
 replace n3:XI a3 it d (i+1) es.size ep e.key ov:=n3
 refine zd (Xz n3 (by simp) fun a4 n4 b4=>?_)
 replace b4:Yz it a3 a4:=b4
 replace n4:XI a4 it d (i+1) es.size ep e.key e.val:=n4
 refine zd (Xz n4 (by simp) fun a5 n5 b5=>?_)
 replace b5:Yz it a4 a5:=b5
 replace n5:IsItemIterOut a5 it d (i+1) es.size ep e.key e.val hp.objs.size:=n5
 refine zd (Xz n5 (by simp) fun a6 n6 b6=>?_)
 replace b6:Yz it a5 a6:=b6
 replace n6:IsItemIterOut a6 it d (i+1) es.size ep e.key e.val hp.objs.size:=n6
 have up:∀b o,b≠it->a2.get? b=some o->a6.get? b=some o:=fun b o hb z=>b6.extBut b o hb (b5.extBut b o hb (b4.extBut b o hb (b3.extBut b o hb z)));exact zd (wpAny_letGo (zJ (zJ ⟨_,rfl,zJ (q a6 n6 (up _ _ (Nat.ne_of_gt il) t2) (by show a6.objs.size=hp.objs.size+1;rw[b6.1,b5.1,b4.1,b3.1,z2]) fun b o hb z=>up b o hb (k2 b o hb z))⟩)))
def vU(hh:A.handled=none)(hit:XI s.heap it d i es.size ep ok ov)(hod:s.heap.get? d=some od)(hdd:od.data = .dict es ep)(hx:es.size<=i)
 (q:∀h',Heap.ExtBut it s.heap h'->Q none { s with heap:=h' }):WB (WA prog w) A (pyNext (.ref it)) Q E s:=by
 have ty:s.TypeIs (.ref it) "dict_itemiterator":=⟨_,hit,rfl⟩;unfold pyNext;refine zd (XS (wpAny_callSpecial?_slot (name:=zR "__next__") ty Yi (ZS Yi ty F.entry_dict_itemiterator_next ?_ (F.args_dict_itemiterator_next_1 _))));refine zd (zJ (zd (zd ?_)))
 first|refine zd (Ym ty (zJ (zd (YQ hit rfl ?_))))|refine zd (YL ty (zJ (zd (YQ hit rfl ?_))))
 simp only[show Yy "dict_itemiterator" = true by decide,if_true];show WB _ _ (if (yJ d==Ze)=true then _ else _) _ _ s;rw[VZ (show ¬ ((yJ d==Ze)=true) from xl)];refine zd (zJ (zd (Yh hod hdd ?_)));rw[VZ (by simp)];refine zd (zJ (zd (Xq hod hdd ?_)));rw[VZ (by simp)];refine zJ ?_;simp only[show ¬ ((i:Int)<0) from by lia,if_false,ZJ,Array.getElem?_eq_none hx];refine zd ?_
 first|refine zd (Ym ty (zJ ?_))|refine zd (YL ty (zJ ?_))
 show WB _ _ (setField (.ref it) 2 .none >>= _) _ _ s;refine zd (wpAny_setField hit rfl (by simp) ?_);show WB _ _ (newExc (.type "StopIteration") [] >>= _) _ _ _;refine zd ?_;simp only[newExc,newTuple];refine zd (Zc ?_ (by size_fits));refine zd (m:=Xe _ _) (wpAny_of_eq (a:=Ze) (by first|rfl|(simp only[Xe];rfl)) (Zc ?_ (by size_fits)));simp only[raiseNew];refine zd (wpAny_handled ?_);rw[show A.in1.handled=none from hh];refine zd (zJ (wpAny_throw ?_));refine zd (wpAny_isInstance (T:="StopIteration") (b:=true) ⟨_,Wq _ rfl,rfl⟩ isSubtype_stop (zJ (q _ (((Z6 ..).extBut.push _).push _))))
end
section
variable{X:Cx}{WY:List (WH × Obj)}{σ:St}{H:Hp}{s:WG}
def WL.turned1{h':Wz}(I:WL X WY σ H s)(gi:s.heap.get? it=some oi)(hi:∃o,h'.get? it=some o/\o.isFreed=false)
 (k:∀b o,b≠it->s.heap.get? b=some o->h'.get? b=some o) (fi:iN X WY H it):∃h2:Wz,h2.objs.size=s.heap.objs.size/\WL X WY σ H { s with heap:=h2,toks:=t' }/\∀b o,h2.get? b=some o->h'.get? b=some o:=by
 obtain⟨o2,g2,z2⟩:=hi;refine⟨s.heap.update it fun _=>o2,by rw[Heap.size_update],I.turned (fun b o hb q=>(Wp _ _ (Wc hb)).trans q) fi.1 fi.2.1 fi.2.2.2.1 fi.2.2.2.2.1 fi.2.2.2.2.2,fun b o q=>?_⟩;by_cases b2:b=it
 .subst b2
  rw[Wo _ gi z2]at q;cases q;exact g2
 .rw[Wp _ _ (Wc b2)]at q
  exact k b o b2 q
noncomputable def Iti(a:WH)(o:Obj)(u:HO):It:=
 ⟨fun i H=>i<dF u/\H a=some (.frz o u),fun i H y H'=>∃p x v,H p=none/\y = .ref p/\oZ H u i x v/\H'=upd H p (.tup [x,v]),fun i H=>dF u<=i/\H a=some (.frz o u)⟩
def vH{P:WF}{w:WE}{K:Ws}{elts:List Expr}{cx:_}{pos:Pos}(a it:WH)(o:Obj)(es:Array YI)(ep:Nat)(u:HO)(hu:isD u=true)(hd:o.data = .dict es ep) :
 tE P w K (.Tuple elts cx pos) (Iti a o u) [it] it (fun i h=>∃ok ov,XI h it a i es.size ep ok ov) where
 mem:=by simp
 obj:=fun i h st b hb=>by
  have e:b=it:=by simpa using hb
  subst e;obtain⟨ok,ov,e⟩:=st;exact⟨_,e,fun v z=>by
   have z':XB _=Data.cell v:=z;cases z'⟩
 keep:=fun i h h' st k=>by
  obtain⟨ok,ov,e⟩:=st;exact⟨ok,ov,k it (by simp) _ e⟩
 item:=by
  intro X hP hw hK hc i WY s σ H E I hf st hg;subst hP hw hK;obtain⟨hi,hq⟩:=hg;obtain⟨ho,hz,hen⟩:=qD I hu hd hq;have fi:=hf it (by simp);obtain⟨ok,ov,st⟩:=st;have hx:es[i]? = some es[i]:=by simp[show i<es.size by lia]
  obtain⟨x,v,en,rx,rv⟩:=hen i _ hx;refine Dv st ho hd hx fun h' n1 t1 z1 k1=>?_;obtain⟨h3,z3,I3,k3⟩:=I.turned1 (t':=s.toks) (h':=h') st ⟨_,n1,rfl⟩ k1 fi;have hn:=I.hok.fresh (zK s.heap.objs.size);have I4:WL X WY σ (upd H s.heap.objs.size (.tup [x,v])) { s with heap:=h',toks:=s.toks }:=
   I3.laid (t':=s.toks) k3 (Nat.le_of_eq z3) (show WO X.prog X.w _ h' _ (.tup [x,v]) from⟨by show 2<=WC;rw[ue];decide,[es[i].key,es[i].val],.cons rx (.cons rv .nil),⟨_,t1,rfl,0,rfl⟩⟩)
  have li:it<s.heap.objs.size:=wu st;have nH:upd H s.heap.objs.size (.tup [x,v]) it=H it:=ag (Zx li);refine⟨_,rfl,wpAny_letOwnedTupleGo_items (s:={ s with heap:=h' }) n1 fun h5 e5 s5=>?_⟩;have I5:WL X WY σ (upd H s.heap.objs.size (.tup [x,v])) { s with heap:=h5,toks:=s.toks }:=
   I4.turned (t':=s.toks) (fun b o hb q=>(s5.2 b hb).trans q) (nH.trans fi.1) fi.2.1 fi.2.2.2.1 fi.2.2.2.2.1 fi.2.2.2.2.2
  refine⟨.ref s.heap.objs.size,_,I5,rfl,⟨_,x,v,hn,rfl,en,rfl⟩,⟨_,_,e5⟩,fun b hb=>?_⟩;rw[zh.mp hb];exact nH.trans fi.1
 done:=by
  intro X hP hw hK hc i WY s σ H E I hf st hg;subst hP hw hK;obtain⟨hi,hq⟩:=hg;obtain⟨ho,hz,hen⟩:=qD I hu hd hq;have fi:=hf it (by simp);obtain⟨ok,ov,st⟩:=st;exact vU (I.ok.hd hc) st ho hd (by lia) fun h' eb=>⟨rfl,I.turned (t':=s.toks) (fun b o hb q=>eb b o hb q) fi.1 fi.2.1 fi.2.2.2.1 fi.2.2.2.2.1 fi.2.2.2.2.2⟩
 self:=fun _ _ s Q E st h=>by
  obtain⟨ok,ov,st⟩:=st;exact PySem.W.kcp_self st h
def Bt(td:TE):TI:=fun σ H R=>td σ H fun x H1=>∃b u,x = .ref b/\isD u=true/\Rd H1 b u/\∀o,(H1 b=some u\/H1 b=some (.frz o u))->R (Iti b o u) (upd H1 b (.frz o u))
def zE{o:Expr}{td:TE}{apos cpos tp:Pos}{elts:List Expr}{cx:_}(ho:PE X o td)
 (hbase:XR o "items" X.env (eval o X.env)=eval o X.env:=by rfl) (hline:(apos.endLine==cpos.line)=true:=by rfl):PI X (.Tuple elts cx tp) (.Call (.Attribute o "items" apos) [] [] cpos) (Bt td):=by
 intro WY s σ H R I h;refine wpAny_Call_method0_late hbase hline (thn (ho WY s σ H _ I h) fun v s1 ⟨x,H1,I1,rx,b,u,ex,hu,hr,q⟩=>?_);subst ex;cases (show v=yJ b from rx);obtain⟨oo,es,ep,hob,ex,hd,lo,hz,hor,I2⟩:=I1.freeze hu hr;refine⟨"dict","dict.items",XA,PySem.F.slot_dict_items,PySem.F.type_dict_items,⟨oo,hob,ex.1⟩,fun a e=>by cases e;exact⟨oo,hob,ex.2.1⟩,Xs rfl (PySem.evalArgs_none (z8 lo hob ex ?_))⟩;refine qV (s:={ s1 with heap:=_ }) ⟨_,Wq _ rfl,rfl,rfl⟩ (Wr _ hob) hd ?_;have I3:WL X WY σ (upd H1 b (.frz oo u)) { s1 with heap:=s1.heap.push { cls:=.type "dict_items",data:=.fields #[.ref b] } }:=I2.kept (t':=s1.toks) fun c ob e=>Wr _ e;refine⟨_,[_],_,Iti b oo u,_,rfl,I3.kept (t':=s1.toks) (fun c ob e=>Wr _ e),vH b _ oo es ep u hu hd,⟨_,_,Wq _ rfl⟩,fun c hc=>?_,q oo hor⟩;rw[zh.mp hc];exact I3.fpOk (zK _) (I3.hok.fresh (zK _))
def C8(h:td σ H fun x H1=>∃b u,x = .ref b/\isD u=true/\Rd H1 b u/\∀o,(H1 b=some u\/H1 b=some (.frz o u))->FE (Iti b o u) g tb { nx:=fun σ' H2=>Th H H2 (D.nx σ'),rt:=fun v H2=>Th H H2 (D.rt v),bk:=fun σ' H2=>Th H H2 (D.bk σ'),ct:=fun σ' H2=>Th H H2 (D.ct σ') } σ (upd H1 b (.frz o u))):xg (pI (Bt td) g tb) D σ H:=h
def EG(Pv:Nat->St->Hp->Prop)(h0:Pv 0 σ H)(hl:∀i σ H,Pv i σ H->H b=some (.frz o u))
 (hs:∀i x v σ H p,i<dF u->oZ H u i x v->H p=none->Pv i σ H->g (.ref p) σ (upd H p (.tup [x,v])) fun σ2 H2=>tb { D with nx:=Pv (i+1),ct:=Pv (i+1),bk:=D.nx } σ2 H2) (hd:∀σ H,Pv (dF u) σ H->D.nx σ H):FE (Iti b o u) g tb D σ H:=by
 refine⟨fun i m σ H=>m=dF u-i/\i<=dF u/\Pv i σ H,⟨_,rfl,tB _,h0⟩,?_⟩;rintro i m σ H ⟨rfl,hi,p⟩;have q:=hl i σ H p;obtain lt|ge:=YC i (dF u)
 .refine .inr ⟨⟨lt,q⟩,Pv (i+1),fun σ' H' p'=>⟨_,by lia,rfl,lt,p'⟩,?_⟩
  rintro y H' ⟨r,x,v,hr,rfl,en,rfl⟩;exact hs i x v σ H r lt en hr p
 .obtain rfl:i=dF u:=YF hi ge
  exact .inl ⟨⟨zK _,q⟩,hd σ H p⟩
end
section
variable{prog:WF}{w:WE}{A:WD}{E:WI->WG->Prop}{s:WG}{d:WH}
def Hw{K:Type}[DecidableEq K]{knd:KeyKind prog w K}{WU:List (K × WI)}{k:K}{key dflt:WI}{Q:WI->WG->Prop}(hkey:knd.is k key=true)(hm:s.heap.DictOf knd d WU)(hv:valueAt WU k=none)(hsz:WU.length<=WC)
 (q:∀h',h'.DictOf knd d (stored WU k dflt)->Yz d s.heap h'->Q dflt { s with heap:=h',toks:=s.toks+1 }):WB (WA prog w) A (Xd d key dflt) Q E s:=by
 obtain⟨o,es,ep,ho,hc,hd,hk,hp,hn⟩:=id hm;have hes:es.size<=WC:=by have e1:=hp.length;rw[ZN]at e1;lia
 have hidx:(es.findIdx? fun e=>knd.is k e.key)=WU.findIdx? fun kv=>decide (kv.1=k):=by rw[<- hp.findIdx k];obtain⟨l⟩:=es;simp
 have hany:(WU.any fun kv=>decide (kv.1=k))=false:=by
  cases c:WU.any fun kv=>decide (kv.1=k) with
  |false=>rfl
  |true=>
   exfalso
   unfold valueAt at hv;rw[Option.map_eq_none_iff,Wi]at hv;obtain⟨kv,m,e⟩:=Yw.mp c;exact hv kv m e
 have hno:(WU.findIdx? fun kv=>decide (kv.1=k))=none:=by
  rw[List.findIdx?_eq_none_iff];intro x hx;cases c:decide (x.1=k) with
  |false=>rfl
  |true=>rw[Yw.mpr ⟨x,hx,c⟩]at hany;cases hany
 have hnot:k∉WU.map (·.1):=not_mem_of_findIdx_none hno;unfold Xd
 try with_reducible refine YX ?_
 refine zd (knd.pyHash hkey (zd (wpAny_dictFind_of (s:={ s with toks:=s.toks+1 }) hkey ho hd hk ?_)));rw[hidx,hno];refine zd (wpAny_rule (zd (wpAny_updateDictKeys (hz:=hes) (s:={ s with toks:=s.toks+1 }) ho hd (zJ (q _ ⟨_,_,ep+1,Wo _ ho (Obj.isFreed_of_dict (Xb hd _)),hc.mapDictKeys _,Xb hd _,hk.push hkey _,?_,?_⟩ (Z6 ..))))))
 .rw[stored,VZ (by rw[hany];decide)]
  have:=hp.append hkey (knd.hash k) dflt;obtain⟨l⟩:=es
  simpa using this
 .rw[stored,VZ (by rw[hany];decide),yE]
  exact Z8.mpr ⟨hn,by simp,fun a ha b hb=>by simp at hb;rw[hb];rintro rfl;exact hnot ha⟩
def xn{K:Type}[DecidableEq K]{knd:HeapKind prog w K}{a:WH}{xs:List (K × WH × WI)}{k:K}{dflt:WI}{Q:WI->WG->Prop}(hu:knd.room A)(hkey:knd.is s.heap k a)(hm:s.heap.DictOfH knd d xs)(hsz:xs.length<=WC)
 (q1:∀p,atKey xs k=some p->Q p.2 { s with toks:=s.toks+knd.draws k })
 (q2:atKey xs k=none->∀h',h'.DictOfH knd d (storedH xs k a dflt)->Yz d s.heap h'->Q dflt { s with heap:=h',toks:=s.toks+knd.draws k }):WB (WA prog w) A (Xd d (.ref a) dflt) Q E s:=by
 obtain⟨o,es,ep,ho,hc,hd,he,his,hn⟩:=id hm;unfold Xd
 try with_reducible refine YX ?_
 refine zd (knd.pyHash hu hkey (zd (wpAny_dictFind_heap (s:={ s with toks:=s.toks+knd.draws k }) hu hkey ho hd he his hn ?_ ?_)))
 .intro hno
  have hnot:k∉xs.map (·.1):=not_mem_keys_of_get hno;have en:=atKey_none_of_get hno;refine zd (wpAny_rule (zd (wpAny_updateDictKeys (hz:=by have e:=size_of_entries he;lia) (s:={ s with toks:=s.toks+knd.draws k }) ho hd (zJ (q2 en _ ⟨_,_,ep+1,Wo _ ho (Obj.isFreed_of_dict (Xb hd _)),hc.mapDictKeys _,Xb hd _,?_,?_,?_⟩ (Z6 ..))))))
  .rw[storedH_new en];simp[he,entryOfKey]
  .rw[storedH_new en]
   intro x hx;obtain hx|hx:=yy.mp hx
   .exact knd.keeps (his x hx) ho hd (Z6 ..)
   .rw[zh.mp hx];exact knd.keeps hkey ho hd (Z6 ..)
  .rw[storedH_new en,yE]
   exact Z8.mpr ⟨hn,by simp,fun a ha b hb=>by simp at hb;rw[hb];rintro rfl;exact hnot ha⟩
 .intro j p hj
  refine zd (Yh (s:={ s with toks:=s.toks+knd.draws k }) ho hd ?_);rw[entry_at he j,hj];exact zd (wpAny_rule (zJ (q1 p (atKey_of_get hn hj))))
def nC{key dflt:WI}{Q:WI->WG->Prop}(lo:(d==ZH)=false)(ty:s.TypeIs (.ref d) "dict")(h:∀E':WI->WG->Prop,WB (WA prog w) A.in1 (Xd d key dflt) Q E' s):WB (WA prog w) A (call (.builtin "dict.setdefault") [.ref d,key,dflt]) Q E s:=by
 refine ZS PySem.F.slot_dict_setdefault ty PySem.F.entry_dict_setdefault ?_ (PySem.F.args_dict_setdefault_3 _ _ _);unfold Builtin.«dict.setdefault» Builtin.Dict.keyAndDefault;refine zd (zd (wpAny_notOrdered_dict ty ?_));show WB _ _ (pure (d,key,some dflt)) _ _ s;refine zJ ?_;show WB _ _ (if (d==ZH)=true then _ else (Xd d key dflt >>= _)) _ _ s;rw[VZ (by rw[lo];exact xl)];exact zd (Zf (h _) (fun v s' z=>zJ ⟨v,rfl,z⟩) fun _ _ z=>z)
end
section
variable{X:Cx}{o e f:Expr}{apos cpos:Pos}{td ty tx:TE}
def JP(td ty tx:TE):TE:=fun σ H Q=>td σ H fun x H1=>∃a,x = .ref a/\IsD H1 a/\ty σ H1 fun y H2=>tx σ H2 fun z H3=>(∃v,DGet H3 a y (some v)/\Q v H3)\/(DGet H3 a y none/\∃H4,DPut H3 a y z H4/\Q z H4)
def xR(hu:X.A.units+1<cLine)(ho:PE X o td)(he:PE X e ty)(hf:PE X f tx)(m:M2 X o "setdefault" apos e f cpos):PE X (.Call (.Attribute o "setdefault" apos) [e,f] [] cpos) (JP td ty tx):=by
 intro WY s σ H Q I h;refine wpAny_Call_method m.base m.few m.line XA PySem.F.slot_dict_setdefault PySem.F.type_dict_setdefault (thn (ho WY s σ H _ I h) fun u s1 ⟨x,H1,I1,rx,a,ex,d,q1⟩=>?_);subst ex;obtain rfl:u=yJ a:=rx;obtain⟨t1,t2,_⟩:=Ba I1 d;refine⟨t1,t2,?_⟩;rw[m.trees];refine Xs rfl (Xa (Yn (thn (he WY s1 σ H1 _ I1 q1) fun iv s2 ⟨y,H2,I2,ry,q2⟩=>
  Yn (thn (hf WY s2 σ H2 _ I2 q2) fun fv s3 ⟨z,H3,I3,rz,q3⟩=>Calls.spliced_nil ?_))))
 obtain⟨v,g,q⟩|⟨g,H4,p,q⟩:=q3
 .obtain⟨WU,k,er,ey,l⟩|⟨WU,k,b,er,ey,eb,l⟩:=g
  .subst ey
   obtain⟨zz,lo,vs,rel,dd⟩:=mt I3.hok er;obtain⟨v',hv',rv⟩:∃v',valueAt vs k=some v'/\WQ v v':=by
    have r:=rel.val k;rw[<- l]at r;cases c:valueAt vs k with
    |none=>rw[c]at r;exact(show False from r).elim
    |some v'=>rw[c]at r;exact⟨v',rfl,r⟩
   refine nC lo dd.typeIs fun E'=>wpAny_dictSetDefault_of (f:=valueAt vs) (ko ry) dd.mapOf (fun v2 e2=>?_) (fun e2=>by rw[hv']at e2;cases e2) (hz:=?_)
   .rw[hv']at e2;cases e2
    exact⟨v,H3,I3.tok _,rv,q⟩
   .obtain⟨o1,es,ep,h1,_,h3,_,hp,_⟩:=dd
    intro o2 es2 ep2 g1 g2;rw[h1]at g1;cases g1;rw[h3]at g2;injection g2 with g2 _
    subst g2;have e1:=hp.length;rw[ZN]at e1;rw[rel.length]at zz;lia
  .subst ey
   cases (show iv=yJ b from ry);obtain⟨zz,lo,xs,rel,dd⟩:=mG I3.hok er;have r:=rel.val k;rw[<- l]at r;refine nC lo dd.typeIs fun E'=>xn (Yp hu) (iI I3.hok eb) dd (by rw[<- Xl rel];exact zz) (fun p e2=>?_) (fun e2=>by rw[e2]at r;exact(show False from r).elim);rw[e2]at r;exact⟨v,H3,I3.tok _,r,q⟩
 .obtain⟨WU,k,er,ey,hl,eH⟩|⟨WU,k,b,er,ey,eb,hl,eH⟩:=p
  .subst ey eH
   obtain⟨zz,lo,vs,rel,dd⟩:=tQ I3.hok er;have hv:valueAt vs k=none:=by
    obtain⟨kvs2,k2,er2,ey2,l2⟩|⟨_,_,b2,_,ey2,_,_⟩:=g
    .have ek:=Cn ey2
     subst ek;obtain er2|⟨o2,er2⟩:=er2
     .rw[er]at er2;cases er2
      have r:=rel.val k;rw[<- l2]at r;exact RelO.none_of r
     .rw[er]at er2;cases er2
    .cases k <;> cases ey2
   have hz:vs.length<=WC:=by rw[<- rel.length];exact zz
   have hl2:(bD WU k z).length<=WC:=by have:=cG WU k z;lia
   refine nC lo dd.typeIs fun E'=>Hw (ko ry) dd hv hz fun h' dd' hs=>⟨z,_,?_,rz,q⟩;have hx:∃q,h'.get? a=some q:=let ⟨q,_,_,hq,_⟩:=dd';⟨q,hq⟩;exact kJ I3 (by rw[er];exact Yx) hs hx (v7 hl2 lo (rel.put k rz) dd')
  .subst ey eH
   cases (show iv=yJ b from ry);obtain⟨zz,lo,xs,rel,dd⟩:=zP I3.hok er;have hv:atKey xs k=none:=by
    obtain⟨kvs2,k2,er2,ey2,l2⟩|⟨kvs2,k2,b2,er2,ey2,eb2,l2⟩:=g
    .cases k2 <;> cases ey2
    .cases ey2
     rw[eb]at eb2;injection eb2 with eb2;injection eb2 with eb2
     have ek:=sQ eb2;subst ek;obtain er2|⟨o2,er2⟩:=er2
     .rw[er]at er2;cases er2
      have r:=rel.val k;rw[<- l2]at r;exact Option.map_eq_none_iff.mp (RelO.none_of r)
     .rw[er]at er2;cases er2
   have hl2:(bD WU k z).length<=WC:=by have:=cG WU k z;lia
   refine nC lo dd.typeIs fun E'=>xn (Yp hu) (iI I3.hok eb) dd (by rw[<- Xl rel];exact zz) (fun p e2=>by rw[hv]at e2;cases e2) fun _ h' dd' hs=>⟨z,_,?_,rz,q⟩;obtain⟨qo,es,ep,hq,h2,h3,h4,_,h5⟩:=dd';refine kJ I3 (by rw[er];exact Yx) hs ⟨qo,hq⟩ ⟨hl2,lo,_,(rel.put k eb rz).keeps fun c ys ec=>?_,qo,es,ep,hq,h2,h3,h4,h5⟩;rw[ag (gL ec er (fun z=>nomatch z))];exact ec
end
namespace Srt
end Srt
section
variable{X:Cx}
def ID(K:Ws):List V->Hp->VK->Prop
 | [.ref p],H,Q=>∃ns:List Int,SqL K H p (ns.map V.int)/\ns≠[]/\∀m∈ns,(∀n∈ns,n<=m)->Q (.int m) H
 |_,_,_=>False
def oh(h:ys[i]? = some y):numAt ys i=y.1:=by simp[numAt,h]
def xp(K:Ws)(hc:X.calm=true)(hK:X.K=K:=by rfl):WN X (.builtin "max") (ID K):=by
 subst hK;intro WY s σ H xs us Q I r h;obtain _|⟨e_1,r_1⟩:=xs
 .exact WZ h
 cases e_1 with
 |ref p=>
  cases r_1 with
  |nil=>
   obtain⟨ns,hq,ne,q⟩:=h;obtain⟨u,rfl,rx⟩:=d8 r;cases (show u=yJ p from rx);obtain⟨WV,r',pl,hz⟩:=I.list hq;have hi:=v5 r';obtain⟨ys,hy⟩:=hi.allInts.items;have hn:numsOf WV.toArray.toList=ns:=by rw[show WV.toArray.toList=WV from rfl,hi.numsOf]
   have pl':=pl.isList;rw[hy]at pl' hn;rw[nums_intItems]at hn;have hs:0<ys.size:=by
    obtain z|z:=Nat.eq_zero_or_pos ys.size
    .exact VT (by rw[<- hn];simp[Array.eq_empty_of_size_eq_zero z]) ne
    .exact z
   refine max_intList (I.ok.hd hc) pl' hs fun v h' tk hv hk=>?_;obtain⟨b1,b2⟩:=argBest_gt (numAt ys) (ys.size-1);generalize argBest (fun i j=>decide (numAt ys i > numAt ys j)) (ys.size-1)=m at hv b1 b2;obtain⟨t,rfl⟩:=intItems_at hv;have hm:m<ys.size:=by lia
   refine⟨.int (numAt ys m),H,I.kept hk,⟨_,rfl⟩,q _ ?_ fun n mn=>?_⟩
   .rw[<- hn,oh (Wh hm)]
    exact yR.mpr ⟨_,XZ.mpr (Array.getElem_mem hm),rfl⟩
   .rw[<- hn]at mn
    obtain⟨y,my,rfl⟩:=yR.mp mn;obtain⟨j,hj,ej⟩:=Array.mem_iff_getElem.mp (XZ.mp my);have:=b2 j (by lia);rw[oh (Wh hj),ej]at this;exact this
  |cons=>exact WZ h
 |_=>exact WZ h
end
open Lean Meta Simp
end L2
namespace L2
section
variable{κ:Type}[DecidableEq κ]
def i8{WU:List (κ × V)}{k:κ}{v:V}(h:bG WU k=some v):(k,v)∈WU:=by
 unfold bG at h;obtain⟨e,he,rfl⟩:=sx.mp h;have h1:=List.find?_some he;have h2:=List.mem_of_find?_eq_some he;have h3:=of_decide_eq_true h1;subst h3;exact h2
def ic{WU:List (κ × V)}{k:κ}(h:bG WU k=none){v:V}:(k,v)∉WU:=fun m=>by
 unfold bG at h;have h1:=Wi.mp (Option.map_eq_none_iff.mp h) _ m;exact h1 (VX rfl)
def Av{WU:List (κ × V)}{k:κ}{v:V}(h:(k,v)∈WU):∃v',bG WU k=some v'/\(k,v')∈WU:=by
 cases e:bG WU k with
 |none=>exact VT h (ic e)
 |some v'=>exact⟨v',rfl,i8 e⟩
def vY{WU:List (κ × V)}(nd:(WU.map (·.1)).Nodup)(h:(k,v)∈WU)(h':(k,v')∈WU):v=v':=by
 induction WU with
 |nil=>cases h
 |cons p r ih=>
  rw[yH,Zj]at nd;obtain e|m:=z9.mp h
  .obtain e'|m':=z9.mp h'
   .rw[<- e]at e';exact(ZC e').2.symm
   .exact VT (yR.mpr ⟨_,m',rfl⟩) (by rw[<- e]at nd;exact nd.1)
  .obtain e'|m':=z9.mp h'
   .exact VT (yR.mpr ⟨_,m,rfl⟩) (by rw[<- e']at nd;exact nd.1)
   .exact ih nd.2 m m'
def cC{WU:List (κ × V)}{k:κ}{v:V}{x:κ × V}:x∈bD WU k v↔x=(k,v)\/(x∈WU/\x.1≠k):=by
 unfold bD;split
 .rename_i h
  obtain⟨e,me,he⟩:=Yw.mp h;have he:=of_decide_eq_true he;constructor
  .intro m
   obtain⟨z,mz,rfl⟩:=yR.mp m;split
   .rename_i q;exact .inl (by rw[q])
   .rename_i q;exact .inr ⟨mz,q⟩
  .rintro(rfl|⟨m,n⟩)
   .exact yR.mpr ⟨e,me,by rw[VY he,he]⟩
   .exact yR.mpr ⟨x,m,by rw[VZ n]⟩
 .rename_i h
  rw[yy,zh];constructor
  .rintro(m|e)
   .refine .inr ⟨m,fun z=>h (Yw.mpr ⟨x,m,VX z⟩)⟩
   .exact .inl e
  .rintro(e|⟨m,_⟩)
   .exact .inr e
   .exact .inl m
def xD(WU:List (κ × V))(k:κ)(v:V):(bD WU k v).map (·.1)=if (WU.any fun kv=>decide (kv.1=k))=true then WU.map (·.1) else WU.map (·.1)++[k]:=by
 unfold bD;split
 .rw[vN]
  apply Zq;intro e _;show(if e.1=k then (e.1,v) else e).1=e.1;split <;> rfl
 .rw[yE];rfl
def uZ{WU:List (κ × V)}(nd:(WU.map (·.1)).Nodup):((bD WU k v).map (·.1)).Nodup:=by
 rw[xD];split
 .exact nd
 .rename_i h
  rw[Z8];refine⟨nd,by simp,fun x mx y my=>?_⟩;rw[zh.mp my];rintro rfl;obtain⟨e,me,rfl⟩:=yR.mp mx;exact h (Yw.mpr ⟨e,me,VX rfl⟩)
def rA(WU:List (κ × V))(k:κ)(v:V):(bD WU k v).length<=WU.length+1:=by
 unfold bD;split
 .rw[zV];lia
 .rw[zA];exact zK _
end
structure Qr where
 d:Int
 a:List Nat
 p:Int
 b:List Nat
 q:Int
abbrev Wt:=Int × Int
noncomputable def hit(r:Qr)(x y:List Nat):Option Wt:=if r.a=x/\r.b=y then some (r.p,r.q) else if r.a=y/\r.b=x then some (r.q,r.p) else none
noncomputable def lH(r:Qr)(x y:List Nat)(D:Int)(o:Option Wt):Option Wt:=if r.d=D then (hit r x y).or o else o
noncomputable def val(R:List Qr)(x y:List Nat)(D:Int):Option Wt:=R.foldl (fun o r=>lH r x y D o) none
def ez(R:List Qr)(r:Qr)(x y:List Nat)(D:Int):val (R++[r]) x y D=lH r x y D (val R x y D):=by
 unfold val;rw[List.foldl_append];rfl
noncomputable def swp(w:Wt):Wt:=(w.2,w.1)
def eK(R:List Qr):Prop:=∀r∈R,r.a≠r.b
def AX(n:r.a≠r.b)(x y:List Nat):hit r y x=(hit r x y).map swp:=by
 unfold hit;by_cases h1:r.a=x/\r.b=y
 .rw[VY h1,VZ (fun z=>n (z.1.trans h1.2.symm)),VY h1];rfl
 .by_cases h2:r.a=y/\r.b=x
  .rw[VY h2,VZ h1,VY h2];rfl
  .rw[VZ h2,VZ h1,VZ h1,VZ h2];rfl
def dD{α:Type}{P:List α->Prop}(h0:P [])(h1:∀l x,P l->P (l++[x])):∀l,P l:=fun l=>by
 rw[<- List.reverse_reverse l];generalize l.reverse=m
 induction m with
 |nil=>exact h0
 |cons x m ih=>rw[List.reverse_cons];exact h1 _ _ ih
def AM(x y:List Nat)(D:Int):∀R:List Qr,eK R->val R y x D=(val R x y D).map swp:=by
 refine dD (fun _=>rfl) fun R r ih n=>?_;have ih:=ih fun z m=>n z (vS _ m);have nr:=n r (wq _ (.head _));rw[ez,ez,ih];unfold lH;split
 .rw[AX nr]
  cases hit r x y <;> rfl
 .rfl
def D7(x:List Nat)(D:Int):∀R:List Qr,eK R->val R x x D=none:=by
 refine dD (fun _=>rfl) fun R r ih n=>?_;have ih:=ih fun z m=>n z (vS _ m);have nr:=n r (wq _ (.head _));have h:hit r x x=none:=by
  unfold hit;rw[VZ fun z=>nr (z.1.trans z.2.symm),VZ fun z=>nr (z.1.trans z.2.symm)]
 rw[ez,ih];unfold lH;rw[h];split <;> rfl
def eh(f:Int->Option Wt)(d:Int):Option (Int × Wt)->Prop
 |none=>∀D,D<=d->f D=none
 |some e=>e.1<=d/\f e.1=some e.2/\∀D,D<=d->f D≠none->D<=e.1
theorem AB:∀ {o o':Option (Int × Wt)},eh f d o->eh f d o'->o=o'
 |none,none,_,_=>rfl
 |none,some e,h,h'=>by have:=h _ h'.1;rw[h'.2.1]at this;cases this
 |some e,none,h,h'=>by have:=h' _ h.1;rw[h.2.1]at this;cases this
 |some e,some e',h,h'=>by
  have h1:=h.2.2 e'.1 h'.1 (by rw[h'.2.1];exact fun z=>nomatch z);have h2:=h'.2.2 e.1 h.1 (by rw[h.2.1];exact fun z=>nomatch z);have e1:e.1=e'.1:=by lia
  have e2:=h.2.1;rw[e1,h'.2.1]at e2;exact VU some (Prod.ext e1 (Zs e2).symm)
theorem CT(h:∀D,g D=(f D).map t):∀ {o:Option (Int × Wt)},eh f d o->eh g d (o.map fun e=>(e.1,t e.2))
 |none,n=>fun D l=>by rw[h,n D l];rfl
 |some e,n=>⟨n.1,by rw[h,n.2.1];rfl,fun D l z=>n.2.2 D l fun q=>z (by rw[h,q];rfl)⟩
noncomputable def nxt(r:Qr)(x y:List Nat)(d:Int)(o:Option (Int × Wt)):Option (Int × Wt):=
 if r.d<=d/\(∀e,o=some e->e.1<=r.d) then (match hit r x y with|some w=>some (r.d,w)|none=>o) else o
def EH(h:eh (val R x y) d o):eh (val (R++[r]) x y) d (nxt r x y d o):=by
 have hv:∀D,val (R++[r]) x y D=lH r x y D (val R x y D):=fun D=>ez R r x y D;unfold nxt;cases e:hit r x y with
 |none=>
  have hv:val (R++[r]) x y=val R x y:=by
   funext D;rw[hv];unfold lH;rw[e];split <;> rfl
  rw[hv];split <;> exact h
 |some w=>
  have v1:val (R++[r]) x y r.d=some w:=by rw[hv];unfold lH;rw[VY rfl,e];rfl
  have v2:∀D,D≠r.d->val (R++[r]) x y D=val R x y D:=fun D n=>by rw[hv];unfold lH;rw[VZ (Wc n)]
  split
  .rename_i c
   refine⟨c.1,v1,fun D l z=>?_⟩;show D<=r.d;by_cases hD:D=r.d
   .lia
   .rw[v2 D hD]at z
    cases o with
    |none=>exact VT (h D l) z
    |some b=>
     have:=h.2.2 D l z;have:=c.2 b rfl;lia
  .rename_i c
   cases o with
   |none=>
    intro D l;by_cases hD:D=r.d
    .exact VT ⟨by lia,fun _ z=>nomatch z⟩ c
    .rw[v2 D hD];exact h D l
   |some b=>
    have hb:b.1≠r.d:=fun z=>c ⟨by rw[<- z];exact h.1,fun e' he=>by cases he;lia⟩;refine⟨h.1,by rw[v2 _ hb];exact h.2.1,fun D l z=>?_⟩;by_cases hD:D=r.d
    .by_cases hl:r.d<=d
     .have:¬ ∀e',some b=some e'->e'.1<=r.d:=fun q=>c ⟨hl,q⟩
      have:¬ b.1<=r.d:=fun q=>this fun e' he=>by cases he;exact q
      lia
     .lia
    .rw[v2 D hD]at z;exact h.2.2 D l z
def zx(hh:(r.a=a/\r.b=b/\r.p=p/\r.q=q)\/(r.a=b/\r.b=a/\r.p=q/\r.q=p))(ab:a<b)(x y:List Nat)(xy:x<y)(D:Int)(o:Option Wt) :
 lH r x y D o=if x=a/\y=b/\D=r.d then some (p,q) else o:=by
 have nab:a≠b:=fun z=>Y6 _ (z ▸ ab);have nlt:¬ b<a:=fun z=>Y6 _ (List.lt_trans ab z);have n1:¬ (a=y/\b=x):=fun z=>nlt (by rw[z.1,z.2];exact xy);unfold lH hit;obtain⟨h1,h2,h3,h4⟩|⟨h1,h2,h3,h4⟩:=hh
 .rw[h1,h2,h3,h4,VZ n1]
  by_cases c:x=a/\y=b/\D=r.d
  .rw[VY c,VY c.2.2.symm,VY ⟨c.1.symm,c.2.1.symm⟩];rfl
  .rw[VZ c]
   by_cases cd:r.d=D
   .rw[VY cd,VZ fun z=>c ⟨z.1.symm,z.2.symm,cd.symm⟩];rfl
   .rw[VZ cd]
 .rw[h1,h2,h3,h4]
  have n2:¬ (b=x/\a=y):=fun z=>n1 ⟨z.2,z.1⟩;rw[VZ n2];by_cases c:x=a/\y=b/\D=r.d
  .rw[VY c,VY c.2.2.symm,VY ⟨c.2.1.symm,c.1.symm⟩];rfl
  .rw[VZ c]
   by_cases cd:r.d=D
   .rw[VY cd,VZ fun z=>c ⟨z.2.symm,z.1.symm,cd.symm⟩];rfl
   .rw[VZ cd]
def Gi(h:Ae (cP (qg td) n g ks tt te) σ H fun v H1=>D.nx (σ.set i (some v)) H1):xg (vD (cP (qg td) n g ks tt te) (eY i)) D σ H:=h
theorem jE{α:Type}[DecidableEq α]:∀ {l l':List α},l.Nodup->(∀x∈l,x∈l')->l.length<=l'.length
 | [],_,_,_=>tB _
 |x::r,l',nd,s=>by
  rw[Zj]at nd;have m:=s x (.head _);have ih:=jE (l:=r) (l':=l'.erase x) nd.2 fun y my=>(List.mem_erase_of_ne (fun e:y=x=>nd.1 (e ▸ my))).mpr (s y (.tail _ my));rw[List.length_erase_of_mem m]at ih;have:=List.length_pos_of_mem m;rw[vZ];lia
def Ez{x y:List Nat}{D:Int}:∀(R:List Qr) {w:Wt},val R x y D=some w->∃r∈R,r.d=D/\((r.a=x/\r.b=y)\/(r.a=y/\r.b=x)):=by
 refine dD (fun h=>nomatch h) fun R r ih w h=>?_;rw[ez]at h;have old:val R x y D=some w->∃r'∈R++[r],r'.d=D/\((r'.a=x/\r'.b=y)\/(r'.a=y/\r'.b=x)):=fun h=>by
  obtain⟨r',m,q⟩:=ih h;exact⟨r',vS _ m,q⟩
 unfold lH at h;split at h
 .rename_i e
  unfold hit at h;by_cases h1:r.a=x/\r.b=y
  .exact⟨r,wq _ (.head _),e,.inl h1⟩
  .by_cases h2:r.a=y/\r.b=x
   .exact⟨r,wq _ (.head _),e,.inr h2⟩
   .rw[VZ h1,VZ h2]at h;exact old h
 .exact old h
end L2
namespace L2
open PySem PyProof.Rows
def nM(s:WT H H')(h:H D=none):WT H (upd H' D o):=fun c z e=>by
 rw[ag (aq e h)];exact s c z e
def sJ{α:Type}{l:List α}{i:Nat}{x:α}(h:l[i]? = some x):l.take (i+1)=l.take i++[x]:=by rw[YN,h];rfl
def AE(tk tv:TE):TE:=fun σ H Q=>∀p,H p=none->tk σ (upd H p (.dK [])) fun x H1=>tv σ H1 fun y H2=>H2 p=some (.dK [])/\∃WU:List (Key × V),[(x,y)]=WU.map (fun kv=>(kV kv.1,kv.2))/\WU.length<=15/\Q (.ref p) (upd H2 p (.dK (iC [] WU)))
def uN(hk:PE X k tk)(hv:PE X v tv):PE X (.Dict [some k] [v] pos) (AE tk tv):=fun WY s σ H Q I h=>xj (trs:=[(tk,tv)]) (j2 hk hv xI) rfl rfl (by simp) (show 1<=15 by decide) WY s σ H Q I h
open Lean Meta Simp
end L2
namespace L2
section
variable{N:Type}{A:N->N->Prop}{g:N}
def Wk(A:N->N->Prop)(g:N):Nat->N->Prop
 |0,x=>x=g
 |k+1,x=>∃y,Wk A g k y/\A y x
def Far(A:N->N->Prop)(g:N)(k:Nat)(x:N):Prop:=Wk A g k x/\∀j,j<k -> ¬ Wk A g j x
def Far.uniq{k j:Nat}{x:N}(h:Far A g k x)(h':Far A g j x):k=j:=by
 obtain l|e|l:=Nat.lt_trichotomy k j
 .exact VT h.1 (h'.2 k l)
 .exact e
 .exact VT h'.1 (h.2 j l)
def gs{x:N}:Far A g 0 x↔x=g:=⟨fun h=>h.1,fun h=>⟨h,fun j l=>VT l (Nat.not_lt_zero _)⟩⟩
def Far.prev{k:Nat}{x:N}(h:Far A g (k+1) x):∃y,Far A g k y/\A y x:=by
 obtain⟨y,hy,a⟩:=h.1;exact⟨y,⟨hy,fun j l w=>h.2 (j+1) (Nat.succ_lt_succ l) ⟨y,w,a⟩⟩,a⟩
def Gm{x:N}:∀ {k:Nat},Wk A g k x->∃j,j<=k/\Far A g j x:=fun {k}=>by
 induction k using Nat.strongRecOn with
 |_ k ih=>
  intro w;by_cases h:∃j,j<k/\Wk A g j x
  .obtain⟨j,l,w'⟩:=h
   obtain⟨i,l',f⟩:=ih j l w';exact⟨i,wG l' (ZO l),f⟩
  .exact⟨k,zK _,w,fun j l w'=>h ⟨j,l,w'⟩⟩
def Far.step{k:Nat}{x y:N}(h:Far A g k y)(a:A y x):∃j,j<=k+1/\Far A g j x:=Gm ⟨y,h.1,a⟩
def BV{k:Nat}{x:N}:Far A g (k+1) x↔(∃y,Far A g k y/\A y x)/\∀j,j<=k -> ¬ Far A g j x:=by
 constructor
 .intro h
  exact⟨h.prev,fun j l f=>by have:=h.uniq f;lia⟩
 .rintro⟨⟨y,f,a⟩,n⟩
  obtain⟨j,l,fj⟩:=f.step a;obtain l|e:=Nat.lt_or_eq_of_le l
  .exact VT fj (n j (by lia))
  .rw[<- e];exact fj
theorem Far.down{k:Nat}:∀ {d:Nat} {x:N},Far A g (k+d) x->∃y,Far A g k y
 |0,x,h=>⟨x,h⟩
 |d+1,x,h=>by obtain⟨y,f,_⟩:=h.prev;exact Far.down f
def Ah{k:Nat}(h:∀x,¬ Far A g k x){j:Nat}(l:k<=j){x:N}:¬ Far A g j x:=fun f=>by
 obtain⟨y,fy⟩:=Far.down (k:=k) (d:=j-k) (x:=x) (by rw[Nat.add_sub_cancel' l];exact f);exact h y fy
def Far.line{k:Nat}{x:N}(h:Far A g k x):∃l:List N,l.length=k+1/\l.Nodup/\∀y∈l,∃j,j<=k/\Far A g j y:=by
 induction k generalizing x with
 |zero=>exact⟨[x],rfl,by simp,fun y m=>⟨0,zK _,by rw[zh.mp m];exact h⟩⟩
 |succ k ih=>
  obtain⟨y,f,_⟩:=h.prev;obtain⟨l,len,nd,hl⟩:=ih f;refine⟨x::l,by rw[vZ,len],Zj.mpr ⟨fun m=>?_,nd⟩,fun z m=>?_⟩
  .obtain⟨j,le,fj⟩:=hl x m
   have:=h.uniq fj;lia
  .obtain rfl|m:=z9.mp m
   .exact⟨k+1,zK _,h⟩
   .obtain⟨j,le,fj⟩:=hl z m
    exact⟨j,by lia,fj⟩
end
section
variable{A:List Nat->List Nat->Prop}{g:List Nat}
def Nx(A:List Nat->List Nat->Prop)(g x y:List Nat):Prop:=∃k,Far A g (k+1) x/\Far A g k y/\A x y/\∀z,Far A g k z->A x z -> ¬ z<y
def Nx.uniq{x y y':List Nat}(h:Nx A g x y)(h':Nx A g x y'):y=y':=by
 obtain⟨k,f1,f2,a,n⟩:=h;obtain⟨k',f1',f2',a',n'⟩:=h';obtain rfl:k=k':=by have:=f1.uniq f1';lia
 exact List.le_antisymm (List.not_lt.mp (n _ f2' a')) (List.not_lt.mp (n' _ f2 a))
def Chn(A:List Nat->List Nat->Prop)(g:List Nat):List (List Nat)->Prop
 | []=>False
 | [x]=>x=g
 |x::y::r=>Nx A g x y/\Chn A g (y::r)
theorem Chn.far:∀ {r:List (List Nat)} {x:List Nat},Chn A g (x::r)->Far A g r.length x
 | [],x,h=>gs.mpr h
 |y::r,x,h=>by
  obtain⟨⟨k,f1,f2,_⟩,h2⟩:=h;have:=f2.uniq h2.far;rw[vZ,<- this];exact f1
theorem Chn.uniq:∀ {r r':List (List Nat)} {x:List Nat},Chn A g (x::r)->Chn A g (x::r')->r=r'
 | [],[],_,_,_=>rfl
 | [],y::r',x,h,h'=>by have:=h.far.uniq h'.far;simp at this
 |y::r,[],x,h,h'=>by have:=h.far.uniq h'.far;simp at this
 |y::r,y'::r',x,h,h'=>by
  obtain rfl:=h.1.uniq h'.1;rw[Chn.uniq h.2 h'.2]
theorem Chn.at_:∀ {l:List (List Nat)} {i:Nat} {x y:List Nat},Chn A g l->l[i]? = some x->l[i+1]? = some y->Nx A g x y
 | [],i,x,y,h,_,_=>h.elim
 | [z],0,x,y,h,_,e=>by simp at e
 | [z],i+1,x,y,h,_,e=>by simp at e
 |a::b::r,0,x,y,h,e1,e2=>by
  simp at e1 e2;subst e1 e2;exact h.1
 |a::b::r,i+1,x,y,h,e1,e2=>by
  simp only[List.getElem?_cons_succ]at e1 e2;exact Chn.at_ (l:=b::r) (i:=i) h.2 e1 (by simpa using e2)
end
section
variable{N:Type}{A:N->N->Prop}{g:N}
def Up(A:N->N->Prop)(g:N)(k:Nat)(F:List N)(x:N)(n:Nat):Prop:=(n<=k/\Far A g n x)\/(n=k+1/\x∈F)
def C7(A:N->N->Prop)(g:N)(x:N)(n:Nat):Up A g 0 [] x n↔x=g/\n=0:=by
 constructor
 .rintro(⟨l,f⟩|⟨_,m⟩)
  .obtain rfl:n=0:=by lia
   exact⟨gs.mp f,rfl⟩
  .cases m
 .rintro⟨rfl,rfl⟩
  exact .inl ⟨zK _,gs.mpr rfl⟩
def Et{k:Nat}{F:List N}(h1:∀y∈F,Far A g (k+1) y)(h2:∀y,Far A g (k+1) y->y∈F){x:N}{n:Nat}:Up A g k F x n↔Up A g (k+1) [] x n:=by
 constructor
 .rintro(⟨l,f⟩|⟨e,m⟩)
  .exact .inl ⟨by lia,f⟩
  .exact .inl ⟨by lia,by rw[e];exact h1 x m⟩
 .rintro(⟨l,f⟩|⟨e,m⟩)
  .by_cases e:n=k+1
   .exact .inr ⟨e,h2 x (e ▸ f)⟩
   .exact .inl ⟨by lia,f⟩
  .cases m
def HM{k:Nat}(h:∀x n,Far A g n x->n<=k){x:N}{n:Nat}:Up A g k [] x n↔Far A g n x:=by
 constructor
 .rintro(⟨_,f⟩|⟨_,m⟩)
  .exact f
  .cases m
 .exact fun f=>.inl ⟨h x n f,f⟩
def BA{k:Nat}{F:List N}{x:N}{n:Nat}(h1:∀y∈F,Far A g (k+1) y)(h:Up A g k F x n):Far A g n x:=by
 obtain⟨_,f⟩|⟨e,m⟩:=h
 .exact f
 .rw[e];exact h1 x m
def Fw{k:Nat}{F:List N}{c y:N}(fc:Far A g k c)(a:A c y)(h:∀n,¬ Up A g k F y n):Far A g (k+1) y:=
 BV.mpr ⟨⟨c,fc,a⟩,fun j l f=>h j (.inl ⟨l,f⟩)⟩
def xq{k:Nat}{F:List N}{y x:N}{n:Nat}:Up A g k (F++[y]) x n↔Up A g k F x n\/(x=y/\n=k+1):=by
 unfold Up;rw[yy,zh];constructor
 .rintro(h|⟨e,m|m⟩)
  .exact .inl (.inl h)
  .exact .inl (.inr ⟨e,m⟩)
  .exact .inr ⟨m,e⟩
 .rintro((h|⟨e,m⟩)|⟨m,e⟩)
  .exact .inl h
  .exact .inr ⟨e,.inl m⟩
  .exact .inr ⟨e,.inr m⟩
end
def pr(r:Qr)(x y:List Nat):Prop:=(r.a=x/\r.b=y)\/(r.a=y/\r.b=x)
def pr.symm{r:Qr}{x y:List Nat}(h:pr r x y):pr r y x:=h.elim .inr .inl
def Lk(R:List Qr)(d:Int)(x y:List Nat):Prop:=∃r∈R,r.d<=d/\pr r x y
def Lk.symm{R:List Qr}{d:Int}{x y:List Nat}(h:Lk R d x y):Lk R d y x:=let ⟨r,m,l,p⟩:=h;⟨r,m,l,p.symm⟩
noncomputable def lkB(R:List Qr)(d:Int)(x y:List Nat):Bool:=R.any fun r=>decide (r.d<=d)&&(decide (r.a=x/\r.b=y) || decide (r.a=y/\r.b=x))
def xE{R:List Qr}{d:Int}{x y:List Nat}:lkB R d x y=true↔Lk R d x y:=by
 unfold lkB Lk pr;rw[Yw];simp only[ZR,Bool.or_eq_true,decide_eq_true_eq]
def GS{r:Qr}{x y:List Nat}(h:pr r x y):hit r x y≠none:=by
 unfold hit;by_cases h1:r.a=x/\r.b=y
 .rw[VY h1];exact fun z=>nomatch z
 .rw[VZ h1,VY (h.resolve_left h1)];exact fun z=>nomatch z
def Fh{α:Type}{a b:Option α}(h:a≠none\/b≠none):a.or b≠none:=by
 cases a with
 |none=>exact h.resolve_left fun z=>z rfl
 |some x=>exact fun z=>nomatch z
def G_{x y:List Nat}:∀(R:List Qr) {r:Qr},r∈R->pr r x y->val R x y r.d≠none:=by
 refine dD (fun m=>nomatch m) fun R r ih r' m h=>?_;rw[ez];unfold lH;obtain m|m:=yy.mp m
 .have:=ih m h
  split
  .exact Fh (.inr this)
  .exact this
 .obtain rfl:=zh.mp m
  rw[VY rfl];exact Fh (.inl (GS h))
def BW{R:List Qr}{d:Int}{x y:List Nat}:Lk R d x y↔∃D,D<=d/\val R x y D≠none:=by
 constructor
 .rintro⟨r,m,l,p⟩
  exact⟨r.d,l,G_ R m p⟩
 .rintro⟨D,l,n⟩
  cases e:val R x y D with
  |none=>exact VT e n
  |some w=>
   obtain⟨r,m,rd,p⟩:=Ez R e;exact⟨r,m,by lia,p⟩
def vK{R:List Qr}{d:Int}{x y:List Nat}{o:Option (Int × Wt)}(h:eh (val R x y) d o):o≠none↔Lk R d x y:=by
 rw[BW];cases o with
 |none=>exact⟨fun z=>VT rfl z,fun⟨D,l,n⟩=>VT (h D l) n⟩
 |some e=>exact⟨fun _=>⟨e.1,h.1,by rw[h.2.1];exact fun z=>nomatch z⟩,fun _ z=>nomatch z⟩
def Nbr(R:List Qr)(x y:List Nat):Prop:=∃r∈R,pr r x y
def Lk.nbr{R:List Qr}{d:Int}{x y:List Nat}(h:Lk R d x y):Nbr R x y:=let ⟨r,m,_,p⟩:=h;⟨r,m,p⟩
def BN{R:List Qr}{r:Qr}{x y:List Nat}:Nbr (R++[r]) x y↔Nbr R x y\/pr r x y:=by
 constructor
 .rintro⟨z,m,h⟩
  obtain m|m:=yy.mp m
  .exact .inl ⟨z,m,h⟩
  .rw[zh.mp m]at h;exact .inr h
 .rintro(⟨z,m,h⟩|h)
  .exact⟨z,vS _ m,h⟩
  .exact⟨r,wq _ (.head _),h⟩
def Cov(R:List Qr)(C:List (List Nat)):Prop:=∀r∈R,r.a∈C/\r.b∈C
def Cov.lk{R:List Qr}{C:List (List Nat)}(h:Cov R C){d:Int}{x y:List Nat}(l:Lk R d x y):x∈C/\y∈C:=by
 obtain⟨r,m,_,⟨rfl,rfl⟩|⟨rfl,rfl⟩⟩:=l
 .exact h r m
 .exact(h r m).symm
theorem Cov.far{R:List Qr}{C:List (List Nat)}(h:Cov R C){d:Int}{g x:List Nat}(hg:g∈C):∀ {k:Nat},Far (Lk R d) g k x->x∈C
 |0,f=>(gs.mp f) ▸ hg
 |k+1,f=>by obtain⟨y,_,l⟩:=f.prev;exact(h.lk l).2
def Cov.few{R:List Qr}{C:List (List Nat)}(h:Cov R C){d:Int}{g x:List Nat}(hg:g∈C){k:Nat}(f:Far (Lk R d) g k x):k<C.length:=by
 obtain⟨l,len,nd,hl⟩:=f.line;have:=jE nd fun y m=>let ⟨_,_,fy⟩:=hl y m;h.far hg fy;lia
structure SD(m:List (Key × V))(P:List Nat->Nat->Prop):Prop where
 nd:(m.map (·.1)).Nodup
 to:∀k v,(k,v)∈m->∃(x:List Nat) (n:Nat),k = .inr ⟨⟨x⟩⟩/\v = .int n/\P x n
 fr:∀x (n:Nat),P x n->((.inr ⟨⟨x⟩⟩:Key),V.int n)∈m
def fN{x y:List Nat}(h:(Sum.inr ⟨⟨x⟩⟩:Key)=Sum.inr ⟨⟨y⟩⟩):x=y:=by
 have q:=Sum.inr.inj h;injection q with q;injection q
def SD.get{m:List (Key × V)}{P:List Nat->Nat->Prop}(h:SD m P){x:List Nat}{n:Nat}(p:P x n):bG m (.inr ⟨⟨x⟩⟩)=some (.int n):=by
 obtain⟨v',e,mv⟩:=Av (h.fr x n p);rw[e,vY h.nd mv (h.fr x n p)]
def SD.no{m:List (Key × V)}{P:List Nat->Nat->Prop}(h:SD m P){x:List Nat}(p:∀n,¬ P x n):bG m (.inr ⟨⟨x⟩⟩)=none:=by
 cases e:bG m (.inr ⟨⟨x⟩⟩) with
 |none=>rfl
 |some v=>
  obtain⟨x',n,e1,_,p'⟩:=h.to _ _ (i8 e);obtain rfl:=fN e1;exact VT p' (p n)
def SD.or{m:List (Key × V)}{P:List Nat->Nat->Prop}(h:SD m P)(x:List Nat):(bG m (.inr ⟨⟨x⟩⟩)=none/\∀n,¬ P x n)\/∃n:Nat,bG m (.inr ⟨⟨x⟩⟩)=some (.int n)/\P x n:=by
 by_cases c:∃n,P x n
 .obtain⟨n,p⟩:=c
  exact .inr ⟨n,h.get p,p⟩
 .have c':∀n,¬ P x n:=fun n p=>c ⟨n,p⟩
  exact .inl ⟨h.no c',c'⟩
def SD.cg{m:List (Key × V)}{P P':List Nat->Nat->Prop}(h:SD m P)(k:∀x n,P x n↔P' x n):SD m P':=
 ⟨h.nd,fun k1 v m1=>let ⟨x,n,e1,e2,p⟩:=h.to k1 v m1;⟨x,n,e1,e2,(k x n).mp p⟩,fun x n p=>h.fr x n ((k x n).mpr p)⟩
def SD.put{m:List (Key × V)}{P:List Nat->Nat->Prop}{x:List Nat}{n:Nat}(h:SD m P)(no:∀n,¬ P x n):SD (bD m (.inr ⟨⟨x⟩⟩) (.int n)) (fun y j=>P y j\/(y=x/\j=n)):=by
 refine⟨uZ h.nd,fun k v m1=>?_,fun y j p=>?_⟩
 .obtain e|⟨m2,_⟩:=cC.mp m1
  .obtain⟨rfl,rfl⟩:=ZC e
   exact⟨x,n,rfl,rfl,.inr ⟨rfl,rfl⟩⟩
  .obtain⟨y,j,e1,e2,p⟩:=h.to k v m2
   exact⟨y,j,e1,e2,.inl p⟩
 .obtain p|⟨rfl,rfl⟩:=p
  .refine cC.mpr (.inr ⟨h.fr y j p,fun z=>?_⟩)
   obtain rfl:=fN z;exact no j p
  .exact cC.mpr (.inl rfl)
def SD.len{m:List (Key × V)}{P:List Nat->Nat->Prop}(h:SD m P){S:List (List Nat)}(hs:∀x n,P x n->x∈S):m.length<=S.length:=by
 have:=jE (l':=S.map fun x=>(Sum.inr ⟨⟨x⟩⟩:Key)) h.nd fun k mk=>by
  obtain⟨⟨k,v⟩,mk',rfl⟩:=yR.mp mk;obtain⟨x,n,e1,_,p⟩:=h.to k v mk';exact yR.mpr ⟨x,hs x n p,e1.symm⟩
 rwa [zV,zV]at this
def SD.one(g:List Nat){P:List Nat->Nat->Prop}(h:∀x n,P x n↔x=g/\n=0):SD [((.inr ⟨⟨g⟩⟩:Key),V.int ((0:Nat):Int))] P:=by
 refine⟨by simp,fun k v m=>?_,fun x n p=>?_⟩
 .obtain⟨rfl,rfl⟩:=ZC (zh.mp m)
  exact⟨g,0,rfl,rfl,(h g 0).mpr ⟨rfl,rfl⟩⟩
 .obtain⟨rfl,rfl⟩:=(h x n).mp p
  exact .head _
noncomputable def nms(R:List Qr):List (List Nat):=R.flatMap fun r=>[r.a,r.b]
def qU(R:List Qr)(g:List Nat):Cov R (g::nms R):=fun r m=>⟨.tail _ (XU.mpr ⟨r,m,.head _⟩),.tail _ (XU.mpr ⟨r,m,.tail _ (.head _)⟩)⟩
def kW(R:List Qr):(nms R).length=2*R.length:=by
 unfold nms
 induction R with
 |nil=>rfl
 |cons r R ih=>rw[Ye,zA,ih,vZ];simp;lia
def Rows(R:List Qr)(C:List (List Nat)):Prop:=∀r∈R,(0<=r.d/\r.d<=146096)/\r.a∈C/\r.b∈C/\r.a≠r.b/\(1<=r.p/\r.p<=1000000000)/\1<=r.q/\r.q<=1000000000
def Rows.cov{R:List Qr}{C:List (List Nat)}(h:Rows R C):Cov R C:=fun r m=>⟨(h r m).2.1,(h r m).2.2.1⟩
def Rows.apart{R:List Qr}{C:List (List Nat)}(h:Rows R C):eK R:=fun r m=>(h r m).2.2.2.1
end L2
namespace L2
open PySem PyProof.Rows
def sp8(f:V->V->V->V->V->V->V->V->Hp->VK->XK->Prop):Sp:=fun vs H Q E=>match vs with
 | [x,y,z,u,v,a,b,c]=>f x y z u v a b c H Q E
 |_=>False
structure ZlAt(h:Wz)(z TI TO i1 i2 l1 l2:WH)(k:Nat):Prop where
 zp:IsZip h z TI TO .none
 ti:IsPair h TI (.ref i1) (.ref i2)
 to:∃a b,IsPair h TO a b
 t1:h.IsListIter i1 l1 k
 t2:h.IsListIter i2 l2 k
section
variable{X:Cx}{WY:List (WH × Obj)}{σ:St}{H:Hp}{s:WG}
def WL.turnedN{h':Wz}(I:WL X WY σ H s):∀ch:List WH,(∀b∈ch,iN X WY H b/\(∃o,s.heap.get? b=some o)/\∃o,h'.get? b=some o/\o.isFreed=false) ->
 ∃h2:Wz,h2.objs.size=s.heap.objs.size/\WL X WY σ H { s with heap:=h2,toks:=t' }/\(∀b∈ch,h2.get? b=h'.get? b)/\∀b,b∉ch->h2.get? b=s.heap.get? b
 | [],_=>⟨s.heap,rfl,I.tok t',(fun _ m=>nomatch m),fun _ _=>rfl⟩
 |c::r,h=>by
  obtain⟨h2,z2,I2,e2,k2⟩:=I.turnedN (h':=h') (t':=t') r fun b m=>h b (.tail _ m);obtain⟨fc,⟨oc,gc⟩,o,g,fr⟩:=h c (.head _);have gh:∃o2,h2.get? c=some o2:=by
   by_cases m:c∈r
   .exact⟨o,(e2 c m).trans g⟩
   .exact⟨oc,(k2 c m).trans gc⟩
  obtain⟨o2,gh⟩:=gh;refine⟨h2.update c fun _=>o,by rw[Heap.size_update];exact z2,I2.turned (t':=t') (fun b o hb q=>(Wp _ _ (Wc hb)).trans q) fc.1 fc.2.1 fc.2.2.2.1 fc.2.2.2.2.1 fc.2.2.2.2.2,fun b m=>?_,fun b m=>?_⟩
  .by_cases e:b=c
   .subst e
    rw[Wo _ gh fr,g]
   .rw[Wp _ _ (Wc e)]
    exact e2 b ((z9.mp m).resolve_left e)
  .rw[Wp _ _ (fun e=>m (by rw[e];exact .head _))]
   exact k2 b fun z=>m (.tail _ z)
def WL.turnedC{h':Wz}{t':Nat}{ch:List WH}(I:WL X WY σ H s)(k:∀b o,b∉ch->s.heap.get? b=some o->h'.get? b=some o)(hf:∀b∈ch,iN X WY H b):WL X WY σ H { s with heap:=h',toks:=t' }:=by
 have nit:∀b u,H b=some u->b∉ch:=fun b u e m=>by rw[(hf b m).1]at e;cases e
 refine I.step (g':=s.gens) (d':=s.drawn) (ch:=ch) (fun b hb=>?_) (fun b o _ _ hc e _=>k b o hc e) (fun b o _ _ hc e _=>⟨o.slots,k b o hc e⟩) (fun _ _ _ _ n=>n)
  (fun b o hc e=>⟨o,k b o hc e⟩) (fun _ _ e=>e) (fun _ _ _ e=>e) (fun b ps e=>⟨#[],by rw[e];simp⟩) (fun m hm=>?_) (fun b u e=>?_) I.bare
 .have f:=hf b hb
  exact⟨f.2.2.2.1,f.2.1,f.2.2.2.2.1,f.2.2.2.2.2⟩
 .obtain⟨o,es,ep,ho,r⟩:=hm
  exact⟨o,es,ep,k _ o (fun m=>(hf _ m).2.1 rfl) ho,r⟩
 .refine(I.hok b u e).stay (fun c v hc q=>k c v ?_ q) (fun _ q=>q) fun _ _ q=>q
  obtain z|z:=hc
  .rw[z];exact nit b u e
  .exact nit c _ z
noncomputable def EA(K:Ws)(a b:WH):It:=
 ⟨fun i H=>∃xs ys x y,SqL K H a xs/\SqL K H b ys/\xs[i]? = some x/\ys[i]? = some y,fun i H v H'=>∃p x y,H p=none/\v = .ref p/\H'=upd H p (.tup [x,y])/\(∀xs,SqL K H a xs->xs[i]? = some x)/\∀ys,SqL K H b ys->ys[i]? = some y,fun i H=>∃xs ys,SqL K H a xs/\SqL K H b ys/\(xs.length<=i\/ys.length<=i)⟩
def zfp{h:Wz}{z TI TO i1 i2 l1 l2:WH}{f x y a b:WI}{k:Nat}(zp:IsZip h z TI TO f)(ti:IsPair h TI x y)(to:IsPair h TO a b)(t1:h.IsListIter i1 l1 k)(t2:h.IsListIter i2 l2 k):∀b∈[z,TI,TO,i1,i2],∃o,h.get? b=some o/\(∀v,o.data ≠ .cell v)/\o.isFreed=false:=by
 obtain⟨o1,g1,_,d1⟩:=t1;obtain⟨o2,g2,_,d2⟩:=t2;intro b hb;simp only[z9,yW,or_false]at hb;obtain rfl|rfl|rfl|rfl|rfl:=hb
 .exact⟨_,zp,(fun v z=>nomatch z),rfl⟩
 .exact⟨_,ti,(fun v z=>nomatch z),rfl⟩
 .exact⟨_,to,(fun v z=>nomatch z),rfl⟩
 .exact⟨_,g1,(fun v z=>by rw[d1]at z;cases z),Yq d1⟩
 .exact⟨_,g2,(fun v z=>by rw[d2]at z;cases z),Yq d2⟩
def ZlAt.fp{h:Wz}{z TI TO i1 i2 l1 l2:WH}{k:Nat}(Z:ZlAt h z TI TO i1 i2 l1 l2 k):∀b∈[z,TI,TO,i1,i2],∃o,h.get? b=some o/\(∀v,o.data ≠ .cell v)/\o.isFreed=false:=by
 obtain⟨zp,ti,⟨a,b,to⟩,t1,t2⟩:=Z;exact zfp zp ti to t1 t2
def ZlAt.mv{h h':Wz}{z TI TO i1 i2 l1 l2:WH}{k:Nat}(Z:ZlAt h z TI TO i1 i2 l1 l2 k)(e:∀b∈[z,TI,TO,i1,i2],∀o,h.get? b=some o->h'.get? b=some o):ZlAt h' z TI TO i1 i2 l1 l2 k:=by
 obtain⟨zp,ti,⟨a,b,to⟩,t1,t2⟩:=Z;exact⟨e z (by simp) _ zp,e TI (by simp) _ ti,⟨a,b,e TO (by simp) _ to⟩,t1.at fun o q=>e i1 (by simp) o q,t2.at fun o q=>e i2 (by simp) o q⟩
def yS{P:WF}{w:WE}{K:Ws}{elts:List Expr}{cx:_}{pos:Pos}{a b z TI TO i1 i2:WH}(D:ZipApart z TI TO i1 i2 a b) :
 tE P w K (.Tuple elts cx pos) (EA K a b) [z,TI,TO,i1,i2] z (fun i h=>ZlAt h z TI TO i1 i2 a b i) where
 mem:=by simp
 obj:=fun i h Z c hc=>by
  obtain⟨o,g,n,_⟩:=Z.fp c hc;exact⟨o,g,n⟩
 keep:=fun i h h' Z k=>Z.mv k
 item:=by
  intro X hP hw hK hc i WY s σ H E I hf Z hg;subst hP hw hK;obtain⟨xs,ys,x,y,q1,q2,hx,hy⟩:=hg;obtain⟨v1,r1,p1,_⟩:=I.list q1;obtain⟨v2,r2,p2,_⟩:=I.list q2;obtain⟨u1,hu1,ru1⟩:=r1.get hx;obtain⟨u2,hu2,ru2⟩:=r2.get hy;have lt:∀c∈[z,TI,TO,i1,i2],c<s.heap.objs.size:=fun c hc=>by
   obtain⟨o,g,_⟩:=Z.fp c hc;exact wu g
  obtain⟨zp,ti,⟨ca,cb,to⟩,it1,it2⟩:=Z;have Z:ZlAt s.heap z TI TO i1 i2 a b i:=⟨zp,ti,⟨ca,cb,to⟩,it1,it2⟩;refine wpAny_pyNext_zip_item D zp ti to it1 it2 (p1.isList:s.heap.IsList a v1.toArray) (p2.isList:s.heap.IsList b v2.toArray) (x:=u1) (y:=u2) (by simpa using hu1) (by simpa using hu2) fun h' zz w2 w3 w4 t1 n1 k1=>?_;have ti1:IsPair h' TI (.ref i1) (.ref i2):=k1 _ _ D.TIz D.TITO D.TIi1 D.TIi2 ti;obtain⟨h3,z3,I3,e3,k3⟩:=I.turnedN (h':=h') (t':=s.toks) [z,TI,TO,i1,i2] fun c hc=>by
   obtain⟨o,g,_⟩:=Z.fp c hc;obtain⟨o',g',_,f'⟩:=zfp zz ti1 w2 w3 w4 c hc;exact⟨hf c hc,⟨o,g⟩,o',g',f'⟩
  have kk:∀c o,h3.get? c=some o->h'.get? c=some o:=fun c o q=>by
   by_cases hc:c∈[z,TI,TO,i1,i2]
   .rw[e3 c hc]at q;exact q
   .rw[k3 c hc]at q
    simp only[z9,yW,or_false,not_or]at hc;exact k1 c o hc.1 hc.2.2.1 hc.2.2.2.1 hc.2.2.2.2 q
  have hn:=I.hok.fresh (zK s.heap.objs.size);have I4:WL X WY σ (upd H s.heap.objs.size (.tup [x,y])) { s with heap:=h',toks:=s.toks }:=
   I3.laid (t':=s.toks) kk (Nat.le_of_eq z3) (show WO X.prog X.w _ h' _ (.tup [x,y]) from⟨by show 2<=WC;rw[ue];decide,[u1,u2],.cons ru1 (.cons ru2 .nil),⟨_,t1,rfl,0,rfl⟩⟩)
  have nH:∀c,c<s.heap.objs.size->upd H s.heap.objs.size (.tup [x,y]) c=H c:=fun c l=>ag (Zx l);have fz:=hf z (by simp);refine⟨_,rfl,wpAny_letOwnedTupleGo_zip (s:={ s with heap:=h' }) zz fun h5 e5 s5=>?_⟩;have I5:WL X WY σ (upd H s.heap.objs.size (.tup [x,y])) { s with heap:=h5,toks:=s.toks }:=
   I4.turned (t':=s.toks) (fun c o hb q=>(s5.2 c hb).trans q) ((nH z (lt z (by simp))).trans fz.1) fz.2.1 fz.2.2.2.1 fz.2.2.2.2.1 fz.2.2.2.2.2
  have ex:=s5.extBut;refine⟨.ref s.heap.objs.size,_,I5,rfl,⟨_,x,y,hn,rfl,rfl,(fun zs hz=>by rw[I.list_inj hz q1];exact hx),fun zs hz=>by rw[I.list_inj hz q2];exact hy⟩,⟨e5,ex _ _ D.TIz ti1,⟨_,_,ex _ _ D.TOz w2⟩,w3.extBut ex D.i1z,w4.extBut ex D.i2z⟩,fun c hc=>(nH c (lt c hc)).trans (hf c hc).1⟩
 done:=by
  intro X hP hw hK hc i WY s σ H E I hf Z hg;subst hP hw hK;obtain⟨xs,ys,hq,hq2,hx⟩:=hg;obtain⟨WV,rv,p,_⟩:=I.list hq;obtain⟨its2,rv2,p2,_⟩:=I.list hq2;have hl:=rv.length;have hl2:=rv2.length;obtain⟨zp,ti,⟨ca,cb,to⟩,it1,it2⟩:=Z;exact wpAny_pyNext_zip_end (I.ok.hd hc) D zp ti to it1 it2 (p.isList:s.heap.IsList a WV.toArray) (p2.isList:s.heap.IsList b its2.toArray) (by simp;lia) fun h' k1=>⟨rfl,I.turnedC (ch:=[z,TI,TO,i1,i2]) (t':=s.toks) (fun c o hc e=>k1 c o (fun y=>hc (by simp[y])) (fun y=>hc (by simp[y])) (fun y=>hc (by simp[y])) (fun y=>hc (by simp[y])) e) hf⟩
 self:=fun _ _ _ _ _ Z h=>wpAny_pyIter_zip Z.zp h
def E4(K:Ws)(ta tb:TE):TI:=fun σ H R=>ta σ H fun x H1=>tb σ H1 fun y H2=>∃a b,x = .ref a/\y = .ref b/\(∃xs,SqL K H2 a xs)/\(∃ys,SqL K H2 b ys)/\R (EA K a b) H2
def DK{x y:Expr}{ta tb:TE}{p pos:Pos}{elts:List Expr}{cx:_}{tp:Pos}(K:Ws)(hg:Gl X "zip")(hm:X.mg "zip" = none)(ha:PE X x ta)(hb:PE X y tb)(hs:Wy [x,y] X.env=(false,eval x X.env)::Wy [y] X.env:=by rfl)(hs2:Wy [y] X.env=[(false,eval y X.env)]:=by rfl)(hpl:(Wx pos (Wy [y] X.env)).any (·.1)=false:=by rfl)(hK:X.K=K:=by rfl) :
 PI X (.Tuple elts cx tp) (.Call (.Name "zip" p) [x,y] [] pos) (E4 K ta tb):=by
 subst hK;intro WY s σ H R I h;refine Call_ (jD I hg hm (show ZY "zip" = some (.type "zip") by decide +kernel) (Yv ?_ hs hpl));rw[hs,hs2];refine Yn (thn (ha WY s σ H _ I h) fun v s1 ⟨x,H1,I1,rx,q1⟩=>Yn (thn (hb WY s1 σ H1 _ I1 q1) fun v2 s2 ⟨y,H2,I2,ry,a,b,ex,ey,⟨xs,hx⟩,⟨ys,hy⟩,q⟩=>?_));subst ex ey;cases (show v=yJ a from rx);cases (show v2=yJ b from ry);obtain⟨i1,r1,p1,_⟩:=I2.list hx;obtain⟨i2,r2,p2,_⟩:=I2.list hy;have t1:s2.heap.IsList a i1.toArray:=p1.isList;have t2:s2.heap.IsList b i2.toArray:=p2.isList;have l1:a<s2.heap.objs.size:=by obtain⟨_,e,_⟩:=t1;exact wu e
 have l2:b<s2.heap.objs.size:=by obtain⟨_,e,_⟩:=t2;exact wu e
 refine Calls.spliced_nil (call_zip_2 t1 t2 fun h' z1 z2 z3 z4 z5 z6 k=>wpAny_pyIter_zip (s:={ s2 with heap:=h' }) z1 ?_);refine⟨_,_,_,_,_,rfl,I2.kept (t':=s2.toks) k,yS (zipApart_new l1 l2),⟨z1,z2,⟨_,_,z3⟩,z4,z5⟩,fun c hc=>?_,q⟩;have le:s2.heap.objs.size<=c:=by
  simp only[z9,yW,or_false]at hc;obtain rfl|rfl|rfl|rfl|rfl:=hc
  .exact Nat.le_add_right _ _
  .exact Nat.le_add_right _ _
  .exact Nat.le_add_right _ _
  .exact zK _
  .exact Nat.le_add_right _ _
 exact I2.fpOk le (I2.hok.fresh le)
def D5{K:Ws}{ta tb:TE}{g:TG}{t:TS}{D:fo}{σ:St}{H:Hp}(h:ta σ H fun x H1=>tb σ H1 fun y H2=>∃a b,x = .ref a/\y = .ref b/\(∃xs,SqL K H2 a xs)/\(∃ys,SqL K H2 b ys)/\FE (EA K a b) g t D σ H2):pI (E4 K ta tb) g t D σ H:=h
def C6{K:Ws}{a b:WH}{xs ys:List V}{g:TG}{tb:TS}{D:fo}{σ:St}{H:Hp}(hlen:ys.length<=xs.length)(Pv:Nat->St->Hp->Prop)(h0:Pv 0 σ H)(hl:∀i σ H,Pv i σ H->SqL K H a xs/\SqL K H b ys)
 (hs:∀i x y σ H p,xs[i]? = some x->ys[i]? = some y->H p=none->Pv i σ H->g (.ref p) σ (upd H p (.tup [x,y])) fun σ2 H2=>tb { D with nx:=Pv (i+1),ct:=Pv (i+1),bk:=D.nx } σ2 H2) (hd:∀σ H,Pv ys.length σ H->D.nx σ H):FE (EA K a b) g tb D σ H:=by
 refine⟨fun i m σ H=>m=ys.length-i/\i<=ys.length/\Pv i σ H,⟨_,rfl,tB _,h0⟩,?_⟩;rintro i m σ H ⟨rfl,hi,p⟩;obtain⟨q1,q2⟩:=hl i σ H p;obtain lt|ge:=YC i ys.length
 .have lt2:i<xs.length:=by lia
  refine .inr ⟨⟨xs,ys,xs[i],ys[i],q1,q2,by simp[lt2],by simp[lt]⟩,Pv (i+1),fun σ' H' p'=>⟨_,by lia,rfl,lt,p'⟩,?_⟩;rintro v H' ⟨r,x,y,hr,rfl,rfl,hx,hy⟩;exact hs i x y σ H r (hx xs q1) (hy ys q2) hr p
 .obtain rfl:i=ys.length:=YF hi ge
  exact .inl ⟨⟨xs,ys,q1,q2,.inr (zK _)⟩,hd σ H p⟩
end
def A_(i j:Int):Prop:=i.natAbs<2 ^ 1000/\j.natAbs<2 ^ 1000
def rX{X:Cx}:OpR X (binaryOp .Mult) (gIC A_ fun i j=>.int (i*j)):=by
 have h:OpR X (binaryOp .Mult) (rI A_ fun i j=>.int (i*j)):=opI fun i j _ _ _ _ _ hc q=>
  mul_int q (IntMulOk.of_bits (wG (intBits_le hc.1) (by decide)) (wG (intBits_le hc.2) (by decide)))
 exact h.imp lS
end L2
namespace L2
open PySem PySem.Spec PyProof.Rows
section
variable{prog:WF}{w:WE}{A:WD}{E:WI->WG->Prop}{s:WG}
def px:entryFor table "proto.unchain" = some Builtin.«proto.unchain»:=entryFor_of_fast (by kernel_rfl)
def tZ{α:Type}{a e:WH}{oa:Obj}{va:Array WI}{Q:α->WG->Prop}(hh:A.handled=some (.ref e))(ne:e≠a)(f2:F2 s.heap e)(ha:s.heap.get? a=some oa)(hd:oa.data = .fields va)(h2:2<va.size)
 (h:∀h',Yz a s.heap h'->(∃o,h'.get? a=some o/\o.cls=oa.cls)->E (.ref a) { s with heap:=h' }):WB (WA prog w) A (raiseNew (.ref a):Sem α) Q E s:=by
 obtain⟨oe,vs,he,hde,h0⟩:=f2;simp only[raiseNew];refine zd (wpAny_handled ?_);rw[hh];dsimp only;rw[VY (show(yJ e != yJ a)=true by simpa using ne)];refine zd (YX (wpAny_runValue (codeAny_builtin px ?_)));show WB _ _ (field (.ref e) 2 >>= _) _ _ s;refine zd (YE he hde h0 ?_);rw[VY (show(Ze==Ze)=true from rfl)];refine zd (zJ (zJ ?_));show WB _ _ (setField (.ref a) 2 (.ref e) >>= _) _ _ s;refine zd (wpAny_setField ha hd h2 (wpAny_throw (h _ (Z6 ..) ?_)));exact⟨_,Wo _ ha (Yq (XH hd _)),Obj.cls_mapFields ..⟩
def lx{it l e:WH}{i:Nat}{items:Array WI}{Q:Option WI->WG->Prop}(hh:A.handled=some (.ref e))(f2:F2 s.heap e)(ni:e≠it)
 (hit:s.heap.IsListIter it l i) (hl:s.heap.IsList l items) (hx:items[i]? = none)
 (hQ:∀h',Heap.ExtBut it s.heap h'->Q none { s with heap:=h' }):WB (WA prog w) A (pyNext (.ref it)) Q E s:=by
 obtain⟨o,ho,hc,hd⟩:=id hit;obtain⟨ol,hol,_,nl,hdl⟩:=hl;unfold pyNext;refine zd (XS (wpAny_callSpecial?_slot (name:=zR "__next__") hit.typeIs slot_listiter_next (ZS slot_listiter_next hit.typeIs entry_listiter_next ?_ (args_listiter_next _))));show WB _ _ (field (.ref it) 0 >>= _) _ _ s;refine zd (YE ho hd (x:=.ref l) rfl ?_);show WB _ _ (if (yJ l==Ze)=true then _ else _) _ _ s;rw[VZ (show ¬ ((yJ l==Ze)=true) from xl)];show WB _ _ (field (.ref it) 1 >>= _) _ _ s;refine zd (YE ho hd (x:=.int i 0) rfl ?_);show WB _ _ (seqItems? (.ref l) >>= _) _ _ s;refine zd (wpAny_seqItems hol hdl ?_);simp only[ZJ,hx];refine zd (wpAny_rule (zd (wpAny_setField ho hd (by simp) ?_)));show WB _ _ (newExc (.type "StopIteration") [] >>= _) _ _ _;refine zd ?_;simp only[newExc,newTuple];refine zd (Zc ?_ (by size_fits));refine zd (m:=Xe _ _) (wpAny_of_eq (a:=Ze) (by first|rfl|(simp only[Xe];rfl)) ?_);refine Zc ?_ (by size_fits);have f3:F2 (s.heap.update it (Obj.mapFields (·.setIfInBounds 0 Ze))) e:=by
  obtain⟨oe,vs,h1,h2,h3⟩:=f2;exact⟨oe,vs,(Wp _ _ (Wc ni)).trans h1,h2,h3⟩
 have hz:∀(h:Wz) (o1 o2:Obj),F2 h e->e≠(h.push o1).objs.size:=fun h o1 o2 ⟨oe,_,h1,_⟩=>Zx (wu (Wr _ h1));refine tZ (e:=e) (show A.in1.handled=some (.ref e) from hh) (hz _ _ default f3) ((f3.push _).push _) (Wq _ rfl) rfl (by rw[Array.size_append];show 2<6+_;lia) fun h' sb ⟨o',q1,q2⟩=>?_;refine zd (wpAny_isInstance (T:="StopIteration") (b:=true) ⟨o',q1,q2⟩ isSubtype_stop ?_);refine zJ (hQ _ fun b o2 hb hq=>?_);have g0:(s.heap.update it (Obj.mapFields (·.setIfInBounds 0 Ze))).get? b=some o2:=(Wp _ _ (Wc hb)).trans hq;have g1:=Wr (h:=s.heap.update it (Obj.mapFields (·.setIfInBounds 0 Ze))) { cls:=.type "tuple",data:=.seq ([]:List WI).toArray } g0;exact(sb.2 b (Zx (wu g1))).trans (Wr _ g1)
end
def Hdl(e:WH)(X:Cx):Prop:=X.A.handled=some (.ref e)
noncomputable def Bh(K:Ws)(a e:WH):It:=⟨(Itl K a).go,(Itl K a).yld,fun i H=>(Itl K a).stop i H/\∃C,H e=some (dP C e)⟩
def JI(I:WL X WY σ H s)(h:H e=some (dP C e)):F2 s.heap e:=by
 obtain⟨⟨o,vs,h1,_,h2,h3⟩,_,_⟩:=(show WO X.prog X.w H s.heap e (dP C e) from I.hok e _ h);exact⟨o,vs,h1,h2,h3⟩
def vQ{P:WF}{w:WE}{K:Ws}{tg:Expr}(a it e:WH):EU (Hdl e) P w K tg (Bh K a e) [it] it (fun i h=>h.IsListIter it a i) where
 mem:=by simp
 obj:=(lX (P:=P) (w:=w) (K:=K) (tg:=tg) a it).obj
 keep:=(lX (P:=P) (w:=w) (K:=K) (tg:=tg) a it).keep
 item:=by
  intro X hP hw hK hc i WY s σ H E I hf st hg;subst hP hw hK;obtain⟨xs,x,hq,hx⟩:=hg;obtain⟨WV,rv,p,hz⟩:=I.list hq;obtain⟨u,hu,ru⟩:=rv.get hx;obtain⟨f0,f1,f2,f3,f4,f5⟩:=hf it (by simp);refine wpAny_pyNext_list_item st p.isList (x:=u) (by simpa using hu) fun h' st' sb=>?_;have I1:WL X WY σ H { s with heap:=h' }:=I.turned (t':=s.toks) (fun b o hb e=>(sb.2 b hb).trans e) f0 f1 f3 f4 f5;obtain⟨o,e,c,d⟩:=id st';exact⟨u,rfl,oB (s:={ s with heap:=h' }) e c d (by decide) ⟨x,H,I1,ru,⟨rfl,fun ys hy=>by rw[I.list_inj hy hq];exact hx⟩,st',fun b hb=>(hf b hb).1⟩⟩
 done:=by
  intro X hP hw hK hc i WY s σ H E I hf st hg;subst hP hw hK;obtain⟨⟨xs,hq,hx⟩,C,hC⟩:=hg;obtain⟨WV,rv,p,hz⟩:=I.list hq;obtain⟨f0,f1,f2,f3,f4,f5⟩:=hf it (by simp);have hl:=rv.length;have ni:e≠it:=fun z=>by rw[z,f0]at hC;cases hC
  exact lx hc (JI I hC) ni st p.isList (by simp;lia) fun h' eb=>⟨rfl,I.turned (t':=s.toks) (fun b o hb e=>eb b o hb e) f0 f1 f3 f4 f5⟩
 self:=fun _ _ _ _ _ st h=>wpAny_pyIter_listiter st h
def v_(K:Ws)(e:WH)(tl:TE):TI:=fun σ H R=>tl σ H fun x H1=>∃a,x = .ref a/\(∃xs,SqL K H1 a xs)/\R (Bh K a e) H1
section
variable{X:Cx}{tg:Expr}
def Ck{l:Expr}{tl:TE}{e:WH}(K:Ws)(hl:PE X l tl)(hK:X.K=K:=by rfl):PIG (Hdl e) X tg l (v_ K e tl):=by
 subst hK;intro WY s σ H R I h;refine thn (hl WY s σ H _ I h) fun v s1 hq_=>?_;obtain⟨x,H1,I1,r1,q1⟩:=hq_;obtain⟨a,ex,⟨xs,hq⟩,q⟩:=q1;subst ex;cases r1;obtain⟨WV,rv,p,hz⟩:=I1.list hq;refine wpAny_pyIter_list p.isList ?_;refine⟨s1.heap.objs.size,[s1.heap.objs.size],_,_,H1,rfl,I1.kept (t':=s1.toks) fun b o e=>Wr _ e,vQ a _ e,⟨_,Wq _ rfl,rfl,rfl⟩,fun b hb=>?_,q⟩;have e:b=s1.heap.objs.size:=by simpa using hb
 subst e;exact I1.fpOk (zK _) (I1.hok.fresh (zK _))
def AS(K:Ws)(hh:X.A.handled=some (.ref e))(S:CompScope X WJ cl x fr)
 (hks:ks.map (fun k=>X.N[k]?)=fr.map some) (hi:PE X iter tl) (hg:∀C s₂ H₂ ex pn,PG (da X (xs++fr) WJ cl C s₂ H₂ ex pn) tg g)
 (ht:∀C s₂ H₂ ex pn,PTs (da X (xs++fr) WJ cl C s₂ H₂ ex pn) ifs tt) (he:∀C s₂ H₂ ex pn,PE (da X (xs++fr) WJ cl C s₂ H₂ ex pn) elt te)
 (hs:∀x,Yg iter X.env x=pure x:=by intro _;rfl) (hK:X.K=K:=by rfl):PE X (.ListComp elt [⟨tg,iter,ifs,0⟩] WJ pos) (cP (v_ K e tl) xs.length g ks tt te):=by
 intro WY s σ H Q I h;rw[eval_ListComp];refine yV (gd:=Hdl e) (fun _ _ _ _ _=>hh) S hks (Ck K hi hK) hg ht he hs I h none _ fun D C H' s' mC f J fp hn q=>⟨mC,hn,fun h' sb=>?_⟩;obtain⟨f0,f1,f2,f3,f4,f5⟩:=fp;exact⟨.ref D,H',J.turned (t':=s'.toks) (fun b o hb e=>(sb.2 b hb).trans e) f0 f1 f3 f4 f5,rfl,q⟩
end
def yM{X:Cx}:(X.caught e).A.handled=some (.ref e):=rfl
noncomputable abbrev Ib:List WI:=[.type "ValueError",.type "Exception",.type "BaseException",.type "object"]
noncomputable def FY:List WI->Bool
 | .ref _::r=>FY r
 |l=>l==Ib
section
variable{prog:WF}{w:WE}{A:WD}{E:WI->WG->Prop}{h:Wz}{g:Array GenState}{d:Drawn}{t:Nat}{os:OsState}
variable{nm q:Str}{C N:WH}{bs bm bmB:List WI}{hdct:Bool}{sn:List Str}{sub:List WI}{ab:Bool}{col:Option Bool}{dd:Option WH}{k0 k1 k2 k3 k5:Option WI}{B newId initId:String}
noncomputable def KM(h:Wz)(C:WH)(rest:List WI):Wz:=(h.push { cls:=.type "tuple",data:=.seq rest.toArray }).push { cls:=.ref C,data:=.fields #[.ref h.objs.size,.none,.none,.none,.bool false,.none] }
end
def Tp(H:Hp)(xs:List V)(Q:VK):Prop:=∀p H',H' p=some (.tup xs)->WT H H'->(WM H->WM H')->Q (.ref p) H'
end L2
namespace L2
open PySem PyProof.Rows
section
variable{P:WF}{w:WE}{A:WD}{E:WI->WG->Prop}{s:WG}
abbrev skd(P:WF)(w:WE):=PySem.strKind P w
def KI(P:WF)(w:WE)(h:Wz)(a:WH)(ls:List (List Nat))(ld:Bool):Prop:=∃o es ep t,h.get? a=some o/\o.ExactSet/\o.data = .set es ep t/\ElemsOf (skd P w) es.toList/\es.size<scanBound/\t.fits es.size=true/\t.led=ld/\(0<es.size->t.plain=false)/\(es.toList.map fun e=>jd e.2).Nodup/\∀l,l∈es.toList.map (fun e=>jd e.2)↔l∈ls
end
section
variable{P:WF}{w:WE}{A:WD}{E:WI->WG->Prop}{s:WG}{a:WH}{ls:List (List Nat)}
def KL(ls:List (List Nat))(vs:List WI):Prop:=(∀v∈vs,IsS v)/\(vs.map jd).Nodup/\(∀l,l∈vs.map jd↔l∈ls)/\vs.length<scanBound
end
end L2
namespace L2
open PySem
noncomputable def kI:Key->Int
 | .inl i=>i
 | .inr _=>0
noncomputable def vI:V->Int
 | .int i=>i
 |_=>0
noncomputable def sE(P:Int->Bool):List (Key × V)->Int
 | []=>0
 |e::m=>(if P (kI e.1)=true then vI e.2 else 0)+sE P m
noncomputable def gM(m:List (Key × V))(d:Int):Int:=match bG m (.inl d) with
 |some v=>vI v
 |none=>0
def KA(m:List (Key × V)):Prop:=∀k v,(k,v)∈m->∃D a,k = .inl D/\v = .int a
abbrev PR:=Int × List Nat × List Nat × Int
noncomputable def sR(x y:List Nat)(P:Int->Bool):List PR->Int
 | []=>0
 |z::R=>(if z.2.1=x/\z.2.2.1=y/\P z.1=true then z.2.2.2 else 0)+sR x y P R
structure MM(m:List (Key × V))(x y:List Nat)(R:List PR):Prop where
 nd:(m.map (·.1)).Nodup
 it:KA m
 sm:∀P,sE P m=sR x y P R
def FX{α β:Type}{R:α->β->Prop}{xs:List α}{ys:List β}(h:A2 R xs ys):∀ {i:Nat} {x:α},xs[i]? = some x->∃y,ys[i]? = some y/\R x y:=by
 induction h with
 |nil=>intro i x e;simp at e
 |cons r _ ih=>
  intro i x e;cases i with
  |zero=>cases e;exact⟨_,rfl,r⟩
  |succ i=>exact ih (by simpa using e)
def ER{K:Ws}{β:Type}{tl:TE}{ks:List Nat}{tt:TT}{te:TE}{σ:St}{H:Hp}{Q:VK}(a:WH)(vs:List V)(R:List β)(Rel:V->β->Prop)(p:β->Bool)(f:V->β->V)
 (hl:∀k:VK,k (.ref a) H->tl σ H k) (ha:H a=some (.lst vs)) (hR:A2 Rel vs R) (hz:vs.length<WC)
 (hp:∀v b,b∈R->Rel v b->∀G (k:Bool->Hp->Prop),WT H G->k (p b) G->tt (some v::ks.map fun k=>(σ[k]?).join) G k)
 (hf:∀v b,b∈R->Rel v b->p b=true->∀G (k:VK),WT H G->k (f v b) G->te (some v::ks.map fun k=>(σ[k]?).join) G k)
 (q:∀D ws,H D=none->A2 (fun y b=>∃v,Rel v b/\y=f v b) ws (R.filter p)->Q (.ref D) (upd H D (.lst ws))):cP (mR K tl) 1 (eY 0) ks tt te σ H Q:=by
 refine qi (hl _ ⟨a,rfl,⟨vs,az ha⟩,wY a vs (fun D i ys G=>G=upd H D (.lst ys)/\H D=none/\ys.length<=i/\A2 (fun y b=>∃v,Rel v b/\y=f v b) ys ((R.take i).filter p)) hz ?_ ?_ ?_ ?_⟩)
 .exact fun D hD=>⟨rfl,hD,zK _,.nil⟩
 .rintro D i ys G ⟨rfl,hD,ly,_⟩
  exact⟨aa,az ((ag (aq ha hD)).trans ha),ly⟩
 .rintro D i y ys G zs N1 N0 hy ⟨rfl,hD,ly,A⟩ hzs n1 n0
  obtain⟨z,rfl⟩:=ex1 hzs;obtain⟨b,hb,rb⟩:=FX hR hy;have mb:=yo hb;have et:R.take (i+1)=R.take i++[b]:=by rw[YN,hb];rfl
  rw[et,ZW]at n1 n0;have sm:WT H (upd H D (.lst ys)):=aj _ hD;refine⟨⟨[some y],rfl,rfl⟩,hp y b mb rb _ _ sm ?_⟩;cases c:p b with
  |true=>
   rw[VY rfl];refine hf y b mb rb c _ _ sm (n1 _ _ aa ⟨?_,hD,by rw[zA];exact YU ly,?_⟩)
   .exact i6
   .rw[ZU (by exact c),Yc]
    exact A.snoc ⟨y,rb,rfl⟩
  |false=>
   rw[VZ xl];refine n0 _ ⟨rfl,hD,ZK ly,?_⟩;rw[ZT (by rw[c];decide),Yc,Za];exact A
 .rintro D ys G ⟨rfl,hD,_,A⟩
  rw[hR.len,Zp]at A;exact q D ys hD A
def CB:∀ {a b:List (List Nat)},InO a->InO b->a.Nodup->b.Nodup->(∀c,c∈a↔c∈b)->a=b:=fun {a b} ia ib na nb h=>uQ ((List.perm_ext_iff_of_nodup na nb).mpr h) ia ib
def KO{β:Type}(mk:β->List V)(H:Hp)(v:V)(b:β):Prop:=∃t,v = .ref t/\H t=some (.tup (mk b))
end L2
namespace K22
open PySem L2 K19
end K22
namespace L2
open PySem PyProof.Rows
def DfN(K:Ws)(mg:Str->Option WI)(x:Str)(st:Stmt):Prop:=∃f fd,mg x=some (.ref f)/\Fun K x x st f fd
def DfM(K:Ws)(C:WH)(m q:Str)(st:Stmt):Prop:=∃f fd,Bm K C m f/\Fun K m q st f fd
def Fo(P:WF)(w:WE)(K:Ws)(mg:Str->Option WI)(base:Wz)(x:Str)(k:Nat)(sp:Sp):Prop:=
 ∃f fd ps,mg x=some (.ref f)/\Yk K (.ref f)=true/\Binds K fd ps []/\iz P w K mg base (XE P w) k f fd ps sp
def Mo(P:WF)(w:WE)(K:Ws)(mg:Str->Option WI)(base:Wz)(C:WH)(m:Str)(k:Nat)(sp:Sp):Prop:=
 ∃f fd ps,Bm K C m f/\Binds K fd ps []/\iz P w K mg base (XE P w) k f fd ps sp
def MkC(K:Ws)(C:WH):Prop:=PySem.W.makesIn K C=true/\Yk K (.ref C)=true
section
variable{P:WF}{w:WE}{K:Ws}{mg:Str->Option WI}{base:Wz}{x m WK:Str}{st:Stmt}{C:WH}{N:List Str}{n k:Nat}{sp:Sp}
def uy(x WK:Str)(st:Stmt)(ps:List Str):Prop:=∀(kV doc pm:WI) (an:Option WH) (WW ct:WI) (us:List WI),us.length=ps.length->bindArgs (YD x WK (hG st) (bh st) (ak st) .none kV doc pm an WW ct) ⟨us,[]⟩=pure (ps.zip us)
section
variable(P:WF)(w:WE)(K:Ws)(mg:Str->Option WI)(base:Wz)(N:List Str)(WK:Str)(st:Stmt)(k:Nat)
def AH(sp:Sp):Prop:=
 ∀(f:WH) (WW:WI) (A:WD) (WX:List Env) (s:WG) (H:Hp) (vs:List V) (Q:VK) (E:XK),N.Nodup->(A.deeper (envOfC WK (ak st) s.heap.objs.size f WW)).units+100<cLine->Room k (A.deeper (envOfC WK (ak st) s.heap.objs.size f WW))->sp vs H Q E ->
  WM H/\∃t,PSs (cJ (XE P w) P w K mg base N WK (ak st) f WW A WX s H (gcE H E)) (bh st) t/\t { nx:=fun _ H'=>∃G,Gc H G H'/\Q .non G,rt:=fun v H'=>∃G,Gc H G H'/\Q v G } (fm N vs) H
def BK(sp:Sp):Prop:=
 ∀(f:WH) (WW:WI) (A:WD) (WX:List Env) (s:WG) (H:Hp) (vs:List V) (Q:VK) (E:XK),N.Nodup->(A.deeper (envOfC WK (ak st) s.heap.objs.size f WW)).units+100<cLine->Room k (A.deeper (envOfC WK (ak st) s.heap.objs.size f WW))->sp vs H Q E ->
  ∃t,PSs (cJ (XE P w) P w K mg base N WK (ak st) f WW A WX s H E) (bh st) t/\t { nx:=fun _ H'=>Q .non H',rt:=Q } (fm N vs) H
end
def DfN.okG(F:DfN K mg x st)(N:List Str)(n:Nat)(S:cX N (N.take n) (ak st))(b:uy x x st (N.take n))(len:∀vs H Q E,sp vs H Q E->vs.length=(N.take n).length)
 (h:AH P w K mg base N x st k sp):Fo P w K mg base x (k+1) sp:=by
 obtain⟨f,fd,m,F⟩:=F;exact⟨f,fd,_,m,F.kp,F.binds b,F.okG S len fun WW A WX s H vs Q E hr hs=>h f WW A WX s H vs Q E S.nd (cT hr) hr hs⟩
def DfN.okX(F:DfN K mg x st)(N:List Str)(n:Nat)(S:cX N (N.take n) (ak st))(b:uy x x st (N.take n))(len:∀vs H Q E,sp vs H Q E->vs.length=(N.take n).length)
 (h:BK P w K mg base N x st k sp):Fo P w K mg base x (k+1) sp:=by
 obtain⟨f,fd,m,F⟩:=F;exact⟨f,fd,_,m,F.kp,F.binds b,F.okX S len fun WW A WX s H vs Q E hr hs=>h f WW A WX s H vs Q E S.nd (cT hr) hr hs⟩
def DfM.okG(F:DfM K C m WK st)(N:List Str)(n:Nat)(S:cX N (N.take n) (ak st))(b:uy m WK st (N.take n))(len:∀vs H Q E,sp vs H Q E->vs.length=(N.take n).length)
 (h:AH P w K mg base N WK st k sp):Mo P w K mg base C m (k+1) sp:=by
 obtain⟨f,fd,m,F⟩:=F;exact⟨f,fd,_,m,F.binds b,F.okG S len fun WW A WX s H vs Q E hr hs=>h f WW A WX s H vs Q E S.nd (cT hr) hr hs⟩
def DfM.okX(F:DfM K C m WK st)(N:List Str)(n:Nat)(S:cX N (N.take n) (ak st))(b:uy m WK st (N.take n))(len:∀vs H Q E,sp vs H Q E->vs.length=(N.take n).length)
 (h:BK P w K mg base N WK st k sp):Mo P w K mg base C m (k+1) sp:=by
 obtain⟨f,fd,m,F⟩:=F;exact⟨f,fd,_,m,F.binds b,F.okX S len fun WW A WX s H vs Q E hr hs=>h f WW A WX s H vs Q E S.nd (cT hr) hr hs⟩
end
section
variable{X:Cx}{k:Nat}{C:WH}{sp:Sp}{E:XKs}{x m:Str}{p pos apos:Pos}{e o:Expr}{es:List Expr}{ta:TE}{t:TA}
def IS(F:Fo X.prog X.w X.K X.mg X.base x k sp)(hr:Room k X.A)(hg:Gl X x)(hx:ce (XE X.prog X.w) X E)
 (ha:PA X (e::es) t) (hdb:(x==("__debug__":Str))=false:=by decide) (he:Wy (e::es) X.env=(false,eval e X.env)::Wy es X.env:=by rfl) (hpl:(Wx pos (Wy es X.env)).any (·.1)=false:=by rfl) :
 PE X (.Call (.Name x p) (e::es) [] pos) (sT sp [] E t):=by
 obtain⟨f,fd,ps,m,kp,b,F⟩:=F;exact Cu F hr hg m kp b .nil hx ha hdb he hpl
def cZ{pl:Sem Bool}(he:PE X o ta)(c:Cls X.K C)(F:Mo X.prog X.w X.K X.mg X.base C m k sp)(hr:Room k X.A)(hx:ce (XE X.prog X.w) X E)(ha:PA X (e::es) t)
 (hst:Wy (e::es) X.env=(false,eval e X.env)::Wy es X.env:=by rfl) (hpl:(Wx pos (Wy es X.env)).any (·.1)=false:=by rfl)
 (ht:eval (.Call (.Attribute o m apos) (e::es) [] pos) X.env=(do
  let ov <- eval o X.env
  standAt apos.atName
  let (f,first) <- holding [ov] (getMethod ov m pl)
  callWith pos f first (Wx pos (Wy (e::es) X.env)) (backToKw pos (XC [] X.env))):=by rfl) :
 PE X (.Call (.Attribute o m apos) (e::es) [] pos) (ow C m sp [] E ta t):=by
 obtain⟨f,fd,ps,mm,b,F⟩:=F;exact Bd he c mm F hr b .nil hx ha hst hpl ht
def CD{pl:Sem Bool}(he:PE X o ta)(c:Cls X.K C)(F:Mo X.prog X.w X.K X.mg X.base C m k sp)(hr:Room k X.A)(hx:ce (XE X.prog X.w) X E)
 (ht:eval (.Call (.Attribute o m apos) [] [] pos) X.env=(do
  let ov <- eval o X.env
  standAt apos.atName
  let (f,first) <- holding [ov] (getMethod ov m pl)
  callWith pos f first (Wx pos (Wy [] X.env)) (backToKw pos (XC [] X.env))):=by rfl) :
 PE X (.Call (.Attribute o m apos) [] [] pos) (ow C m sp [] E ta mh):=by
 obtain⟨f,fd,ps,mm,b,F⟩:=F;exact zr he c mm F hr b .nil hx ht
def Fj(M:MkC X.K C)(F:Mo X.prog X.w X.K X.mg X.base C "__init__" k sp)(hr:Room (k+1) X.A)(hg:Gl X x)(hm:X.mg x=some (.ref C))(hx:ce (XE X.prog X.w) X E)
 (ha:PA X (e::es) t) (hdb:(x==("__debug__":Str))=false:=by decide) (he:Wy (e::es) X.env=(false,eval e X.env)::Wy es X.env:=by rfl) (hpl:(Wx pos (Wy es X.env)).any (·.1)=false:=by rfl) :
 PE X (.Call (.Name x p) (e::es) [] pos) (oN C sp [] E t):=by
 obtain⟨f,fd,ps,mm,b,F⟩:=F;exact AN ⟨M.1,mm.at_,mm.fn,M.2⟩ F hr hg hm b .nil hx ha hdb he hpl
def vx(M:MkC X.K C)(F:Mo X.prog X.w X.K X.mg X.base C "__init__" k sp)(hr:Room (k+1) X.A)(hg:Gl X x)(hm:X.mg x=some (.ref C))(hx:ce (XE X.prog X.w) X E)
 (hdb:(x==("__debug__":Str))=false:=by decide):PE X (.Call (.Name x p) [] [] pos) (oN C sp [] E mh):=by
 obtain⟨f,fd,ps,mm,b,F⟩:=F;exact yc ⟨M.1,mm.at_,mm.fn,M.2⟩ F hr hg hm b .nil hx hdb
end
section
variable{X:Cx}{k j i:Nat}{C:WH}{sp:Sp}{E:XKs}{x m:Str}{p pos pos' apos:Pos}{e o a b:Expr}{es:List Expr}{ta tb te:TE}{t:TA}
def aF(F:Fo X.prog X.w X.K X.mg X.base x k sp)(hr:Room j X.A)(hx:ce (XE X.prog X.w) X E)(ha:PA X (e::es) t)(hk:k<=j:=by decide)(hg:Gl X x:=by rfl)(hdb:(x==("__debug__":Str))=false:=by decide)(he:Wy (e::es) X.env=(false,eval e X.env)::Wy es X.env:=by rfl)(hpl:(Wx pos (Wy es X.env)).any (·.1)=false:=by rfl):PE X (.Call (.Name x p) (e::es) [] pos) (sT sp [] E t):=IS F (hr.mono hk) hg hx ha hdb he hpl
def aE(i:Nat){e:Expr}(hN:X.N.Nodup)(he:PE X e te)(hi:X.N[i]? = some x:=by rfl)(hx:Loc X.env.scope x:=by first|exact Wb rfl|exact Wa rfl)(hs:swapsWith e (some (.Name x pos')) pos.line X.env=pure false:=by rfl)(hf:X.fn x=true\/X.env.scope.names.lookup x=some .local:=by first|exact .inl rfl|exact .inr rfl|assumption):PS X (.Assign [.Name x pos'] e pos) (vD te (eY i)):=FG hN hi hx he hs hf
def aH(K:Ws)(ha:PE X a ta)(hb:PE X b tb)(hs:sM b:=by exact fun _ _=>rfl)(hK:X.K=K:=by rfl):PE X (.Subscript a b pos) (tOp (gIx K) ta tb):=IU (Da K hK) ha hb hs
def aX{op:CmpOp}{r:R2}(ho:OpR X (Zd op) r)(ha:PE X a ta)(hb:PE X b tb)(hm:YW op b=false:=by exact dY _):PT X (.Compare a [op] [b] pos) (tU (tOp r ta tb)):=sU ho ha hb hm
def fa1{e0:Expr}{t0:TE}(h0:PE X e0 t0)(n0:cV e0=true:=by rfl):PA X [e0] (dJ t0 mh):=FA.pa (aU h0 c_ n0)
def fa2{e0 e1:Expr}{t0 t1:TE}(h0:PE X e0 t0)(h1:PE X e1 t1)(n0:cV e0=true:=by rfl)(n1:cV e1=true:=by rfl):PA X [e0,e1] (dJ t0 (dJ t1 mh)):=FA.pa (aU h0 (aU h1 c_ n1) n0)
def fa3{e0 e1 e2:Expr}{t0 t1 t2:TE}(h0:PE X e0 t0)(h1:PE X e1 t1)(h2:PE X e2 t2)(n0:cV e0=true:=by rfl)(n1:cV e1=true:=by rfl)(n2:cV e2=true:=by rfl):PA X [e0,e1,e2] (dJ t0 (dJ t1 (dJ t2 mh))):=FA.pa (aU h0 (aU h1 (aU h2 c_ n2) n1) n0)
def fa4{e0 e1 e2 e3:Expr}{t0 t1 t2 t3:TE}(h0:PE X e0 t0)(h1:PE X e1 t1)(h2:PE X e2 t2)(h3:PE X e3 t3)(n0:cV e0=true:=by rfl)(n1:cV e1=true:=by rfl)(n2:cV e2=true:=by rfl)(n3:cV e3=true:=by rfl):PA X [e0,e1,e2,e3] (dJ t0 (dJ t1 (dJ t2 (dJ t3 mh)))):=FA.pa (aU h0 (aU h1 (aU h2 (aU h3 c_ n3) n2) n1) n0)
def fa5{e0 e1 e2 e3 e4:Expr}{t0 t1 t2 t3 t4:TE}(h0:PE X e0 t0)(h1:PE X e1 t1)(h2:PE X e2 t2)(h3:PE X e3 t3)(h4:PE X e4 t4)(n0:cV e0=true:=by rfl)(n1:cV e1=true:=by rfl)(n2:cV e2=true:=by rfl)(n3:cV e3=true:=by rfl)(n4:cV e4=true:=by rfl):PA X [e0,e1,e2,e3,e4] (dJ t0 (dJ t1 (dJ t2 (dJ t3 (dJ t4 mh))))):=FA.pa (aU h0 (aU h1 (aU h2 (aU h3 (aU h4 c_ n4) n3) n2) n1) n0)
def jz{E:XKs}{msg:Str}{j1}{p1 np cpos:Pos}(O:PySem.W.excIn X.K C Ib "ValueError.__new__" = true)(hm:X.mg x=some (.ref C))(hx:wn X E)(hc:X.calm=true:=by rfl)(hg:Gl X x:=by rfl)(hdb:(x==("__debug__":Str))=false:=by decide):PS X (.Raise (some (.Call (.Name x np) [.Constant (.str msg) j1 p1] [] cpos)) none pos) (we C E (dJ (tC (.str msg)) mh)):=CK O PySem.F.excBase_ValueError hc hg hm hx (fa1 Af) hdb
end
section
variable(P:WF)(w:WE)(K:Ws)(mg:Str->Option WI)(base:Wz)(N:List Str)(WK:Str)(st:Stmt)(k:Nat)
def BdG(vs:List V)(r:Hp->VK->XK->Prop):Prop:=∀(fA:WH) (WW:WI) (A:WD) (WX:List Env) (s:WG) (H:Hp) (Q:VK) (E:XK),N.Nodup->(A.deeper (envOfC WK (ak st) s.heap.objs.size fA WW)).units+100<cLine->Room k (A.deeper (envOfC WK (ak st) s.heap.objs.size fA WW))->r H Q E->WM H/\∃t,PSs (cJ (XE P w) P w K mg base N WK (ak st) fA WW A WX s H (gcE H E)) (bh st) t/\t { nx:=fun _ H'=>∃G,Gc H G H'/\Q .non G,rt:=fun v H'=>∃G,Gc H G H'/\Q v G } (fm N vs) H
def BdX(vs:List V)(r:Hp->VK->XK->Prop):Prop:=∀(fA:WH) (WW:WI) (A:WD) (WX:List Env) (s:WG) (H:Hp) (Q:VK) (E:XK),N.Nodup->(A.deeper (envOfC WK (ak st) s.heap.objs.size fA WW)).units+100<cLine->Room k (A.deeper (envOfC WK (ak st) s.heap.objs.size fA WW))->r H Q E->∃t,PSs (cJ (XE P w) P w K mg base N WK (ak st) fA WW A WX s H E) (bh st) t/\t { nx:=fun _ H'=>Q .non H',rt:=Q } (fm N vs) H
def BX(n:Nat)(sp:Sp):Prop:=(∀vs H Q E,sp vs H Q E->vs.length=n)/\BK P w K mg base N WK st k sp
def BG(n:Nat)(sp:Sp):Prop:=(∀vs H Q E,sp vs H Q E->vs.length=n)/\AH P w K mg base N WK st k sp
end
section
variable{P:WF}{w:WE}{K:Ws}{mg:Str->Option WI}{base:Wz}{x m WK:Str}{st:Stmt}{C:WH}{k:Nat}
section
variable{sp:Sp}{n:Nat}
def DfN.hg(F:DfN K mg x st)(N:List Str)(h:BG P w K mg base N x st k n sp)(S:cX N (N.take n) (ak st):=by exact⟨rfl,rfl,rfl,by decide +kernel,rfl,by decide +kernel,by decide +kernel⟩)(b:uy x x st (N.take n):=by walk_at "b")(l:(N.take n).length=n:=by rfl):Fo P w K mg base x (k+1) sp:=F.okG N n S b (fun vs H Q E z=>(h.1 vs H Q E z).trans l.symm) h.2
def DfN.hx(F:DfN K mg x st)(N:List Str)(h:BX P w K mg base N x st k n sp)(S:cX N (N.take n) (ak st):=by exact⟨rfl,rfl,rfl,by decide +kernel,rfl,by decide +kernel,by decide +kernel⟩)(b:uy x x st (N.take n):=by walk_at "b")(l:(N.take n).length=n:=by rfl):Fo P w K mg base x (k+1) sp:=F.okX N n S b (fun vs H Q E z=>(h.1 vs H Q E z).trans l.symm) h.2
def DfM.hg(F:DfM K C m WK st)(N:List Str)(h:BG P w K mg base N WK st k n sp)(S:cX N (N.take n) (ak st):=by exact⟨rfl,rfl,rfl,by decide +kernel,rfl,by decide +kernel,by decide +kernel⟩)(b:uy m WK st (N.take n):=by walk_at "b")(l:(N.take n).length=n:=by rfl):Mo P w K mg base C m (k+1) sp:=F.okG N n S b (fun vs H Q E z=>(h.1 vs H Q E z).trans l.symm) h.2
def DfM.hx(F:DfM K C m WK st)(N:List Str)(h:BX P w K mg base N WK st k n sp)(S:cX N (N.take n) (ak st):=by exact⟨rfl,rfl,rfl,by decide +kernel,rfl,by decide +kernel,by decide +kernel⟩)(b:uy m WK st (N.take n):=by walk_at "b")(l:(N.take n).length=n:=by rfl):Mo P w K mg base C m (k+1) sp:=F.okX N n S b (fun vs H Q E z=>(h.1 vs H Q E z).trans l.symm) h.2
end
variable{N:List Str}
def gG1{f:V->Hp->VK->XK->Prop}(h:∀x0,BdG P w K mg base N WK st k [x0] (f x0)):BG P w K mg base N WK st k 1 (sp1 f):=⟨fun vs H Q E h=>sp1.len h,fun fA WW A WX s H vs Q E ND HU hr hs=>by obtain⟨x0,rfl,hs⟩:=sp1.inv hs;exact h x0 fA WW A WX s H Q E ND HU hr hs⟩
def gX1{f:V->Hp->VK->XK->Prop}(h:∀x0,BdX P w K mg base N WK st k [x0] (f x0)):BX P w K mg base N WK st k 1 (sp1 f):=⟨fun vs H Q E h=>sp1.len h,fun fA WW A WX s H vs Q E ND HU hr hs=>by obtain⟨x0,rfl,hs⟩:=sp1.inv hs;exact h x0 fA WW A WX s H Q E ND HU hr hs⟩
def gG2{f:V->V->Hp->VK->XK->Prop}(h:∀x0 x1,BdG P w K mg base N WK st k [x0,x1] (f x0 x1)):BG P w K mg base N WK st k 2 (sp2 f):=⟨fun vs H Q E h=>sp2.len h,fun fA WW A WX s H vs Q E ND HU hr hs=>by obtain⟨x0,x1,rfl,hs⟩:=sp2.inv hs;exact h x0 x1 fA WW A WX s H Q E ND HU hr hs⟩
def gX2{f:V->V->Hp->VK->XK->Prop}(h:∀x0 x1,BdX P w K mg base N WK st k [x0,x1] (f x0 x1)):BX P w K mg base N WK st k 2 (sp2 f):=⟨fun vs H Q E h=>sp2.len h,fun fA WW A WX s H vs Q E ND HU hr hs=>by obtain⟨x0,x1,rfl,hs⟩:=sp2.inv hs;exact h x0 x1 fA WW A WX s H Q E ND HU hr hs⟩
def gG3{f:V->V->V->Hp->VK->XK->Prop}(h:∀x0 x1 x2,BdG P w K mg base N WK st k [x0,x1,x2] (f x0 x1 x2)):BG P w K mg base N WK st k 3 (sp3 f):=⟨fun vs H Q E h=>sp3.len h,fun fA WW A WX s H vs Q E ND HU hr hs=>by obtain⟨x0,x1,x2,rfl,hs⟩:=sp3.inv hs;exact h x0 x1 x2 fA WW A WX s H Q E ND HU hr hs⟩
def gX3{f:V->V->V->Hp->VK->XK->Prop}(h:∀x0 x1 x2,BdX P w K mg base N WK st k [x0,x1,x2] (f x0 x1 x2)):BX P w K mg base N WK st k 3 (sp3 f):=⟨fun vs H Q E h=>sp3.len h,fun fA WW A WX s H vs Q E ND HU hr hs=>by obtain⟨x0,x1,x2,rfl,hs⟩:=sp3.inv hs;exact h x0 x1 x2 fA WW A WX s H Q E ND HU hr hs⟩
def gG4{f:V->V->V->V->Hp->VK->XK->Prop}(h:∀x0 x1 x2 x3,BdG P w K mg base N WK st k [x0,x1,x2,x3] (f x0 x1 x2 x3)):BG P w K mg base N WK st k 4 (sp4 f):=⟨fun vs H Q E h=>sp4.len h,fun fA WW A WX s H vs Q E ND HU hr hs=>by obtain⟨x0,x1,x2,x3,rfl,hs⟩:=sp4.inv hs;exact h x0 x1 x2 x3 fA WW A WX s H Q E ND HU hr hs⟩
def gX4{f:V->V->V->V->Hp->VK->XK->Prop}(h:∀x0 x1 x2 x3,BdX P w K mg base N WK st k [x0,x1,x2,x3] (f x0 x1 x2 x3)):BX P w K mg base N WK st k 4 (sp4 f):=⟨fun vs H Q E h=>sp4.len h,fun fA WW A WX s H vs Q E ND HU hr hs=>by obtain⟨x0,x1,x2,x3,rfl,hs⟩:=sp4.inv hs;exact h x0 x1 x2 x3 fA WW A WX s H Q E ND HU hr hs⟩
def gX5{f:V->V->V->V->V->Hp->VK->XK->Prop}(h:∀x0 x1 x2 x3 x4,BdX P w K mg base N WK st k [x0,x1,x2,x3,x4] (f x0 x1 x2 x3 x4)):BX P w K mg base N WK st k 5 (sp5 f):=⟨fun vs H Q E h=>sp5.len h,fun fA WW A WX s H vs Q E ND HU hr hs=>by obtain⟨x0,x1,x2,x3,x4,rfl,hs⟩:=sp5.inv hs;exact h x0 x1 x2 x3 x4 fA WW A WX s H Q E ND HU hr hs⟩
def gX6{f:V->V->V->V->V->V->Hp->VK->XK->Prop}(h:∀x0 x1 x2 x3 x4 x5,BdX P w K mg base N WK st k [x0,x1,x2,x3,x4,x5] (f x0 x1 x2 x3 x4 x5)):BX P w K mg base N WK st k 6 (sp6 f):=⟨fun vs H Q E h=>sp6.len h,fun fA WW A WX s H vs Q E ND HU hr hs=>by obtain⟨x0,x1,x2,x3,x4,x5,rfl,hs⟩:=sp6.inv hs;exact h x0 x1 x2 x3 x4 x5 fA WW A WX s H Q E ND HU hr hs⟩
end
end L2
namespace L2
open PySem
section
variable{X:Cx}{st:Stmt}{rest:List Stmt}{t u:TS}
def KJ(b:TS)(D:fo)(σ:St)(H:Hp):Prop:=b D σ H
end
end L2
namespace L2
def HB{p q r:Prop}{C:Prop}(z:p/\q/\r)(k:p->q->r->C):C:=by obtain⟨h0,h1,h2⟩:=z;exact k h0 h1 h2
def bE{α:Type}{p q:α->Prop}{C:Prop}(z:∃a,p a/\q a)(k:∀a,p a->q a->C):C:=by obtain⟨a,h0,h1⟩:=z;exact k a h0 h1
def fL{α:Type}{p q r:α->Prop}{C:Prop}(z:∃a,p a/\q a/\r a)(k:∀a,p a->q a->r a->C):C:=by obtain⟨a,h0,h1,h2⟩:=z;exact k a h0 h1 h2
def bQ{α:Type}{p q r s:α->Prop}{C:Prop}(z:∃a,p a/\q a/\r a/\s a)(k:∀a,p a->q a->r a->s a->C):C:=by obtain⟨a,h0,h1,h2,h3⟩:=z;exact k a h0 h1 h2 h3
def IH{α β γ δ ε ζ η θ:Type}{p:α->β->γ->δ->ε->ζ->η->θ->Prop}{C:Prop}(z:∃a b c d e f g h,p a b c d e f g h)(k:∀a b c d e f g h,p a b c d e f g h->C):C:=by obtain⟨a,b,c,d,e,f,g,h,h0⟩:=z;exact k a b c d e f g h h0
end L2
namespace K17
open PySem L2
noncomputable def wi(l o:List Nat):Bool:=decide (l=o) || Ia l (o++[58])
structure Row where
 pa:List Nat
 cu:List Nat
 am:Int
structure Bk where
 k:Int
 d:Int
 rs:List Row
def Num(bs:List Bk):Prop:=bs.map (·.k)=(Zw bs.length).map fun i:Nat=>(i:Int)
noncomputable def sg(a s:Int)(k:Nat):Nat:=97+((a+s*k) % 26).toNat
noncomputable def wd(a s:Int)(n:Nat):List Nat:=(Zw n).map fun k=>sg a s k
noncomputable def nms(c:Int)(k:Nat):List Nat:=
 if k<6 then (wd (c / 250) (1+c / 10 % 25) (1+c % 10).toNat).take (c / 6500 % (1+c % 10+1)).toNat++[97+((c / 71500+3*k) % 26).toNat]++(wd (c / 250) (1+c / 10 % 25) (1+c % 10).toNat).drop (c / 6500 % (1+c % 10+1)).toNat
 else wd (c / 250) (1+c / 10 % 25) (1+c % 10).toNat
noncomputable def Bp:List Nat:=[110,111,98,111,100,121]
noncomputable def vC:List Nat:=[122,108,97,116,101,122]
noncomputable def apl(l:List Nat):Bool:=(Zw 5).all fun k=>match l[k]?,l[k+1]?,l[k+2]? with
 |some x,some y,some z=>decide ((2*(y:Int)-x-z) % 26=0)
 |_,_,_=>true
def ap3(a s:Int)(k:Nat):(2*(sg a s (k+1):Int)-sg a s k-sg a s (k+2)) % 26=0:=by
 unfold sg;have e1:s*((k+1:Nat):Int)=s*k+s:=by rw[Int.natCast_add,Int.mul_add];simp
 have e2:s*((k+2:Nat):Int)=s*k+s*2:=by rw[Int.natCast_add,Int.mul_add];rfl
 rw[e1,e2];generalize s*(k:Int)=t;have m:∀x:Int,((x % 26).toNat:Int)=x % 26:=fun x=>Int.toNat_of_nonneg (Zt x (by decide));simp only[Int.natCast_add,m]
 omega
def wA(a s:Int)(n k:Nat):(wd a s n)[k]? = if k<n then some (sg a s k) else none:=by
 split
 .rename_i h;simp[wd,h]
 .rename_i h;simp[wd];omega
def Fs(a s:Int)(n:Nat):apl (wd a s n)=true:=by
 unfold apl;rw[Zk];intro k _;rw[wA,wA,wA];by_cases h:k+2<n
 .rw[VY h,VY (Nat.lt_of_succ_lt h),VY (Nat.lt_of_succ_lt (Nat.lt_of_succ_lt h))]
  exact VX (ap3 a s k)
 .rw[VZ h]
  split
  .rename_i h3;cases h3
  .rfl
def D_(w:List Nat)(t g:Nat):∃i,i<=w.length/\(w.take t++[g]++w.drop t).eraseIdx i=w:=by
 obtain h|h:=YC w.length t
 .refine⟨w.length,zK _,?_⟩
  rw[ZP (ZO h),List.drop_of_length_le (ZO h),Za,List.eraseIdx_append_of_length_le (zK _),Nat.sub_self];simp
 .refine⟨t,h,?_⟩
  have e:(w.take t).length=t:=by rw[Zv];exact Xp h
  rw[Y0,List.eraseIdx_append_of_length_le (Nat.le_of_eq e),e,Nat.sub_self];simp
def xu{a s:Int}{n g t:Nat}(r:List Nat)(hr:r=Bp\/r=vC):(wd a s n).take t++[g]++(wd a s n).drop t≠r/\wd a s n≠r:=by
 have q:∀i,i<7->apl (r.eraseIdx i)=false:=by
  obtain rfl|rfl:=hr <;> decide
 have q0:apl r=false:=by obtain rfl|rfl:=hr <;> decide
 have ap:=Fs a s n;refine⟨fun h=>?_,fun h=>?_⟩
 .obtain⟨i,hi,e⟩:=D_ (wd a s n) t g
  rw[h]at e;have l:(wd a s n).length<7:=by
   rw[<- e];refine ZZ (List.length_eraseIdx_le ..) ?_;obtain rfl|rfl:=hr <;> decide
  rw[<- e,q i (ZZ hi l)]at ap;cases ap
 .rw[h,q0]at ap;cases ap
def En{c:Int}{k:Nat}{r:List Nat}(hr:r=Bp\/r=vC):nms c k≠r:=by
 unfold nms;split
 .exact(xu r hr).1
 .exact(xu (g:=0) (t:=0) r hr).2
inductive Pths (c:Int):List (List Nat)->Prop
 |two:Pths c [nms c 0,nms c 6]
 |more {ps:List (List Nat)} {u:List Nat} {k:Nat}:Pths c ps->u∈ps->u++58::nms c k∉ps->(spN 58 u).length<=5->Pths c (ps++[u++58::nms c k])
end K17
namespace L2
open PySem PyProof.Rows
section
variable{X:Cx}
def tFz(te:TE):TE:=fun σ H Q=>∃b u,isD u=true/\H b=some u/\∀o,te σ (upd H b (.frz o u)) fun v H1=>H1 b=some (.frz o u)/\Q v (upd H1 b u)
def Ix{e:Expr}{te:TE}(he:PE X e te):PE X e (tFz te):=by
 intro WY s σ H Q I h;obtain⟨b,u,hu,hb,h⟩:=h;obtain⟨o,_,_,_,_,_,_,_,_,I1⟩:=I.freeze hu (.inl hb);refine thn (he WY s σ _ _ I1 (h o)) fun v s1 hq_=>?_;obtain⟨v,H1,I2,r,e,q⟩:=hq_;exact⟨v,_,I2.thaw e (fun o' u' z=>by rw[I.base.frzs _ _ _ z]at hb;cases hb;cases hu),r,q⟩
def sFz(ts:TS):TS:=fun D σ H=>∃b u,isD u=true/\H b=some u/\∀o,ts { nx:=fun σ' H1=>H1 b=some (.frz o u)/\D.nx σ' (upd H1 b u),rt:=fun v H1=>H1 b=some (.frz o u)/\D.rt v (upd H1 b u),bk:=fun σ' H1=>H1 b=some (.frz o u)/\D.bk σ' (upd H1 b u),ct:=fun σ' H1=>H1 b=some (.frz o u)/\D.ct σ' (upd H1 b u) } σ (upd H b (.frz o u))
def fE{st:Stmt}{ts:TS}(h:PS X st ts):PS X st (sFz ts):=by
 intro WY s σ H D I q;obtain⟨b,u,hu,hb,q⟩:=q;obtain⟨o,_,_,_,_,_,_,_,_,I1⟩:=I.freeze hu (.inl hb);have nf:∀o' u',X.H₀ b≠some (.frz o' u'):=fun o' u' z=>by rw[I.base.frzs _ _ _ z]at hb;cases hb;cases hu
 refine thn (h WY s σ _ _ I1 (q o)) fun f s1 hf=>?_;cases f with
 |next=>
  obtain⟨σ',H',I',e,z⟩:=hf;exact⟨σ',_,I'.thaw e nf,z⟩
 |brk=>
  obtain⟨σ',H',I',e,z⟩:=hf;exact⟨σ',_,I'.thaw e nf,z⟩
 |cont=>
  obtain⟨σ',H',I',e,z⟩:=hf;exact⟨σ',_,I'.thaw e nf,z⟩
 |ret u=>
  obtain⟨v,σ',H',I',r,e,z⟩:=hf;exact⟨v,σ',_,I'.thaw e nf,r,z⟩
end
def iq{X:Cx}{st:Stmt}:PS X st (fun _ _ _=>False):=fun _ _ _ _ _ _ h=>h.elim
end L2
namespace L2
open Lean Meta Simp PySem
def FC(e:Lean.Expr):MetaM (Option Lean.Expr):=do
 let .const n _:=e.getAppFn|return none
 let as:=e.getAppArgs
 match n with
 | `L2.ka=>
  if as.size<6 then return none
  let h (e:Lean.Expr):Name:=match e.getAppFn with | .const m _=>if m == `L2.T then `L2.V.str else m|_=>.anonymous
  let p:=(h as[2]!,h as[3]!)
  let some th:=[((`L2.V.int,`L2.V.int),`L2.Dy),((`L2.V.bl,`L2.V.bl),`L2.GZ),((`L2.V.str,`L2.V.str),`L2.C1),((`L2.V.ref,`L2.V.ref),`L2.CP),((`L2.V.non,`L2.V.non),`L2.GD),((`L2.V.non,`L2.V.int),`L2.GJ),((`L2.V.int,`L2.V.non),`L2.Gq),((`L2.V.int,`L2.V.str),`L2.HF),((`L2.V.str,`L2.V.int),`L2.Ge)].lookup p|return none
  let c <- mkConstWithFreshMVarLevels th
  let (_,_,b) <- forallMetaTelescope (<- inferType c)
  let some (_,l,r):=b.eq? | return none
  if <- isDefEq l e then return some (<- instantiateMVars r) else return none
 | `HSub.hSub | `HAdd.hAdd=>
  if as.size != 6 then return none
  unless as[0]!.isConstOf `Nat do return none
  let some a:=as[4]!.nat? | return none
  let some b:=as[5]!.nat? | return none
  return some (mkNatLit (if n == `HSub.hSub then a-b else a+b))
 | `id=>return if as.size==2 then some as[1]! else none
 | `List.length=>
  if as.size != 2 then return none
  let mut l:=as[1]!
  let mut k:=0
  while l.isAppOfArity `List.cons 3 do
   k:=k+1
   l:=l.appArg!
  if l.isAppOfArity `List.nil 1 then return some (mkNatLit k)
  if k==0 then return none
  let mut r:=mkApp (e.appFn!) l
  for _ in [0:k] do r:=mkNatAdd r (mkNatLit 1)
  return some r
 | `List.map | `List.set | `List.replicate | `L2.fm=>nl e
 | `HAppend.hAppend=>if as.size==6&&(as[0]!.isAppOf `List || as[0]!.isConstOf `L2.St) then nl e else return none
 | `Option.bind=>
  if as.size != 4 then return none
  if as[2]!.isAppOfArity `Option.some 2 then return some (mkApp as[3]! as[2]!.appArg!).headBeta
  if as[2]!.isAppOfArity `Option.none 1 then return some (mkApp (mkConst `Option.none [e.getAppFn.constLevels![1]!]) as[1]!)
  return none
 | `GetElem?.getElem?=>
  if as.size != 7 then return none
  unless as[0]!.isAppOf `List || as[0]!.isConstOf `L2.St do return none
  let some k:=as[6]!.nat? | return none
  let mut l:=as[5]!
  let mut k:=k
  while l.isAppOfArity `List.cons 3 do
   if k==0 then return some (mkApp2 (mkConst `Option.some [l.getAppFn.constLevels![0]!]) (l.getArg! 0) (l.getArg! 1))
   k:=k-1
   l:=l.appArg!
  if l.isAppOfArity `List.nil 1 then return some (mkApp (mkConst `Option.none [l.getAppFn.constLevels![0]!]) (l.getArg! 0))
  return none
 |_=>return none
where
 nl (e:Lean.Expr):MetaM (Option Lean.Expr):=do
  let r <- norm 200 e
  return if r.isAppOfArity `List.cons 3 || r.isAppOfArity `List.nil 1 then some r else none
 norm (k:Nat) (e:Lean.Expr):MetaM Lean.Expr:=do
  let k+1:=k|return e
  let r <- whnfD e
  if r.isAppOfArity `List.cons 3 then
   return mkApp3 r.getAppFn (r.getArg! 0) (r.getArg! 1).headBeta (<- norm k r.appArg!)
  if r.isAppOfArity `List.nil 1 then return r
  if e.isAppOfArity `List.append 3 then return <- mkAppM `HAppend.hAppend #[e.getArg! 1,e.getArg! 2]
  return e
def F8:List Name:=[`L2.gLstU,`L2.tRaiseI,`L2.sFldE,`L2.gPutE,`L2.gCatU,`L2.gSlU,`L2.tSeqH,`L2.rIns,`L2.rIdxS,`L2.tFz,`L2.sFz,`L2.rExtL]
def Dp(e:Lean.Expr):MetaM (Option Lean.Expr):=do
 if let some r <- D9 e then return some r
 let .const n us:=e.getAppFn|return none
 unless F8.contains n do return <- FC e
 let some (.defnInfo d):=(<- getEnv).find? n|return none
 let v:=d.value.instantiateLevelParams d.levelParams us
 if e.getAppNumArgs<v.getNumHeadLambdas then return none
 let b:=v.beta e.getAppArgs
 match <- reduceMatcher? b with
 | .reduced r=>return some r
 | .notMatcher=>return some b
 |_=>return none
dsimproc_decl o_ (_):=fun e=>do
 match <- Dp e with
 |some r=>return .visit r
 |none=>return .continue
def rdY:(∀i j:Int,(V.int i=V.int j)=(i=j))/\(∀p q:WH,(V.ref p=V.ref q)=(p=q))/\(∀ {α:Type} (l:List α),l++[]=l)/\(∀ {α:Type} (a:α) (l:List α) (b:α) (m:List α),(a::l=b::m)=(a=b/\l=m))/\(∀ {α:Type} {p:α->Prop} {a':α},(∃a,a'=a/\p a)↔p a')/\(∀ {α:Type} {p:α->Prop} {a':α},(∃a,a=a'/\p a)↔p a')/\(∀ {α:Type} (a:α),(a=a)=True)/\(∀(p:Prop) [Decidable p] (x y:Prop),ite (¬ p) x y=ite p y x):=
 ⟨V.int.injEq,V.ref.injEq,Za,List.cons.injEq,exists_eq_left',exists_eq_left,eq_self,ite_not⟩
end L2
namespace L2
def Cc{p q:Prop}{C:Prop}(z:p/\q)(k:p->q->C):C:=by obtain⟨h0,h1⟩:=z;exact k h0 h1
def Aj{α β γ:Type}{p q:α->β->γ->Prop}{C:Prop}(z:∃a b c,p a b c/\q a b c)(k:∀a b c,p a b c->q a b c->C):C:=by obtain⟨a,b,c,h0,h1⟩:=z;exact k a b c h0 h1
def Gs{α β γ:Type}{p q r s:α->β->γ->Prop}{C:Prop}(z:∃a b c,p a b c/\q a b c/\r a b c/\s a b c)(k:∀a b c,p a b c->q a b c->r a b c->s a b c->C):C:=by obtain⟨a,b,c,h0,h1,h2,h3⟩:=z;exact k a b c h0 h1 h2 h3
def Js{α β γ δ:Type}{p q:α->β->γ->δ->Prop}{C:Prop}(z:∃a b c d,p a b c d/\q a b c d)(k:∀a b c d,p a b c d->q a b c d->C):C:=by obtain⟨a,b,c,d,h0,h1⟩:=z;exact k a b c d h0 h1
def IQ{α β γ δ:Type}{p q r:α->β->γ->δ->Prop}{C:Prop}(z:∃a b c d,p a b c d/\q a b c d/\r a b c d)(k:∀a b c d,p a b c d->q a b c d->r a b c d->C):C:=by obtain⟨a,b,c,d,h0,h1,h2⟩:=z;exact k a b c d h0 h1 h2
def yr{α β γ δ:Type}{p q r s:α->β->γ->δ->Prop}{C:Prop}(z:∃a b c d,p a b c d/\q a b c d/\r a b c d/\s a b c d)(k:∀a b c d,p a b c d->q a b c d->r a b c d->s a b c d->C):C:=by obtain⟨a,b,c,d,h0,h1,h2,h3⟩:=z;exact k a b c d h0 h1 h2 h3
def Ks{α β γ δ:Type}{p q r s t u v w x y:α->β->γ->δ->Prop}{C:Prop}(z:∃a b c d,p a b c d/\q a b c d/\r a b c d/\s a b c d/\t a b c d/\u a b c d/\v a b c d/\w a b c d/\x a b c d/\y a b c d)(k:∀a b c d,p a b c d->q a b c d->r a b c d->s a b c d->t a b c d->u a b c d->v a b c d->w a b c d->x a b c d->y a b c d->C):C:=by obtain⟨a,b,c,d,h0,h1,h2,h3,h4,h5,h6,h7,h8,h9⟩:=z;exact k a b c d h0 h1 h2 h3 h4 h5 h6 h7 h8 h9
def JY{α β γ δ ε:Type}{p q r s t u v w x:α->β->γ->δ->ε->Prop}{C:Prop}(z:∃a b c d e,p a b c d e/\q a b c d e/\r a b c d e/\s a b c d e/\t a b c d e/\u a b c d e/\v a b c d e/\w a b c d e/\x a b c d e)(k:∀a b c d e,p a b c d e->q a b c d e->r a b c d e->s a b c d e->t a b c d e->u a b c d e->v a b c d e->w a b c d e->x a b c d e->C):C:=by obtain⟨a,b,c,d,e,h0,h1,h2,h3,h4,h5,h6,h7,h8⟩:=z;exact k a b c d e h0 h1 h2 h3 h4 h5 h6 h7 h8
def Fx{α β:Type}{p q r:α->β->Prop}{C:Prop}(z:∃a b,p a b/\q a b/\r a b)(k:∀a b,p a b->q a b->r a b->C):C:=by obtain⟨a,b,h0,h1,h2⟩:=z;exact k a b h0 h1 h2
def JA{α β:Type}{p q r s t u v:α->β->Prop}{C:Prop}(z:∃a b,p a b/\q a b/\r a b/\s a b/\t a b/\u a b/\v a b)(k:∀a b,p a b->q a b->r a b->s a b->t a b->u a b->v a b->C):C:=by obtain⟨a,b,h0,h1,h2,h3,h4,h5,h6⟩:=z;exact k a b h0 h1 h2 h3 h4 h5 h6
def JO{α β γ:Type}{p:α->β->γ->Prop}{C:Prop}(z:∃a b c,p a b c)(k:∀a b c,p a b c->C):C:=by obtain⟨a,b,c,h0⟩:=z;exact k a b c h0
def IA{α β γ:Type}{p q r:α->β->γ->Prop}{C:Prop}(z:∃a b c,p a b c/\q a b c/\r a b c)(k:∀a b c,p a b c->q a b c->r a b c->C):C:=by obtain⟨a,b,c,h0,h1,h2⟩:=z;exact k a b c h0 h1 h2
def qO{α β γ:Type}{p q r s t u:α->β->γ->Prop}{C:Prop}(z:∃a b c,p a b c/\q a b c/\r a b c/\s a b c/\t a b c/\u a b c)(k:∀a b c,p a b c->q a b c->r a b c->s a b c->t a b c->u a b c->C):C:=by obtain⟨a,b,c,h0,h1,h2,h3,h4,h5⟩:=z;exact k a b c h0 h1 h2 h3 h4 h5
def zF{α β γ δ:Type}{p q r s t u:α->β->γ->δ->Prop}{C:Prop}(z:∃a b c d,p a b c d/\q a b c d/\r a b c d/\s a b c d/\t a b c d/\u a b c d)(k:∀a b c d,p a b c d->q a b c d->r a b c d->s a b c d->t a b c d->u a b c d->C):C:=by obtain⟨a,b,c,d,h0,h1,h2,h3,h4,h5⟩:=z;exact k a b c d h0 h1 h2 h3 h4 h5
def KB{α β γ δ:Type}{p q r s t u v w:α->β->γ->δ->Prop}{C:Prop}(z:∃a b c d,p a b c d/\q a b c d/\r a b c d/\s a b c d/\t a b c d/\u a b c d/\v a b c d/\w a b c d)(k:∀a b c d,p a b c d->q a b c d->r a b c d->s a b c d->t a b c d->u a b c d->v a b c d->w a b c d->C):C:=by obtain⟨a,b,c,d,h0,h1,h2,h3,h4,h5,h6,h7⟩:=z;exact k a b c d h0 h1 h2 h3 h4 h5 h6 h7
def Dc{α β γ δ ε:Type}{p q r s t u v w x y:α->β->γ->δ->ε->Prop}{C:Prop}(z:∃a b c d e,p a b c d e/\q a b c d e/\r a b c d e/\s a b c d e/\t a b c d e/\u a b c d e/\v a b c d e/\w a b c d e/\x a b c d e/\y a b c d e)(k:∀a b c d e,p a b c d e->q a b c d e->r a b c d e->s a b c d e->t a b c d e->u a b c d e->v a b c d e->w a b c d e->x a b c d e->y a b c d e->C):C:=by obtain⟨a,b,c,d,e,h0,h1,h2,h3,h4,h5,h6,h7,h8,h9⟩:=z;exact k a b c d e h0 h1 h2 h3 h4 h5 h6 h7 h8 h9
def Iq{α β γ δ ε ζ:Type}{p q:α->β->γ->δ->ε->ζ->Prop}{C:Prop}(z:∃a b c d e f,p a b c d e f/\q a b c d e f)(k:∀a b c d e f,p a b c d e f->q a b c d e f->C):C:=by obtain⟨a,b,c,d,e,f,h0,h1⟩:=z;exact k a b c d e f h0 h1
def J7{α β γ δ ε ζ:Type}{p q r s t u v w x:α->β->γ->δ->ε->ζ->Prop}{C:Prop}(z:∃a b c d e f,p a b c d e f/\q a b c d e f/\r a b c d e f/\s a b c d e f/\t a b c d e f/\u a b c d e f/\v a b c d e f/\w a b c d e f/\x a b c d e f)(k:∀a b c d e f,p a b c d e f->q a b c d e f->r a b c d e f->s a b c d e f->t a b c d e f->u a b c d e f->v a b c d e f->w a b c d e f->x a b c d e f->C):C:=by obtain⟨a,b,c,d,e,f,h0,h1,h2,h3,h4,h5,h6,h7,h8⟩:=z;exact k a b c d e f h0 h1 h2 h3 h4 h5 h6 h7 h8
def Kr{α β γ δ ε ζ η:Type}{p q r s t u v w x y:α->β->γ->δ->ε->ζ->η->Prop}{C:Prop}(z:∃a b c d e f g,p a b c d e f g/\q a b c d e f g/\r a b c d e f g/\s a b c d e f g/\t a b c d e f g/\u a b c d e f g/\v a b c d e f g/\w a b c d e f g/\x a b c d e f g/\y a b c d e f g)(k:∀a b c d e f g,p a b c d e f g->q a b c d e f g->r a b c d e f g->s a b c d e f g->t a b c d e f g->u a b c d e f g->v a b c d e f g->w a b c d e f g->x a b c d e f g->y a b c d e f g->C):C:=by obtain⟨a,b,c,d,e,f,g,h0,h1,h2,h3,h4,h5,h6,h7,h8,h9⟩:=z;exact k a b c d e f g h0 h1 h2 h3 h4 h5 h6 h7 h8 h9
end L2
namespace L2
open PySem PyProof.Rows
def IB{K:Ws}{e:WH}{tl:TE}{n:Nat}{g:TG}{ks:List Nat}{tt:TT}{te:TE}{σ:St}{H:Hp}{Q:VK}(h:tl σ H fun x H1=>∃a,x = .ref a/\(∃xs,SqL K H1 a xs)/\CEl (Bh K a e) n g ks tt te σ H1 Q):cP (v_ K e tl) n g ks tt te σ H Q:=h
def Ip{K:Ws}{e:WH}{n:Nat}{g:TG}{ks:List Nat}{tt:TT}{te:TE}{σ:St}{H1:Hp}{Q:VK}(a:WH)(xs:List V)(P:WH->Nat->List V->Hp->Prop)(hz:xs.length<WC)
 (h0:∀D,H1 D=none->P D 0 [] (upd H1 D (.lst []))) (hD:∀D i ys H',P D i ys H'->H' D=some (.lst ys)/\SqL K H' a xs/\ys.length<=i) (hE:∀D i ys H',P D i ys H'->∃C,H' e=some (dP C e))
 (hs:∀D i y ys H' (zs:St) (N1:VK) (N0:Hp->Prop),xs[i]? = some y->P D i ys H'->zs.length=n->(∀v H6,H6 D=some (.lst ys)->P D (i+1) (ys++[v]) (upd H6 D (.lst (ys++[v])))->N1 v H6)->(∀H6,P D (i+1) ys H6->N0 H6) ->
  g y (zs++ks.map fun k=>(σ[k]?).join) H' fun σ4 H4=>(∃zs4:St,zs4.length=n/\σ4=zs4++ks.map fun k=>(σ[k]?).join)/\tt σ4 H4 fun b H5=>if b=true then te σ4 H5 N1 else N0 H5)
 (hd:∀D ys H',P D xs.length ys H'->Q (.ref D) H'):CEl (Bh K a e) n g ks tt te σ H1 Q:=by
 intro D hDn;refine⟨fun i m ys H'=>m=xs.length-i/\i<=xs.length/\P D i ys H',⟨_,rfl,tB _,h0 D hDn⟩,?_⟩;rintro i m ys H' ⟨rfl,hi,p⟩;obtain⟨d1,d2,d3⟩:=hD D i ys H' p;refine⟨d1,?_⟩;obtain lt|ge:=YC i xs.length
 .refine .inr ⟨⟨xs,xs[i],d2,by simp[lt]⟩,?_⟩
  rintro x H3 ⟨rfl,hx⟩ zs hzs;exact hs D i x ys _ zs _ _ (hx xs d2) p hzs (fun v H6 h6 p6=>⟨h6,by omega,_,by omega,rfl,lt,p6⟩) fun H6 p6=>⟨_,by omega,rfl,lt,p6⟩
 .obtain rfl:i=xs.length:=YF hi ge
  exact .inl ⟨⟨⟨xs,d2,zK _⟩,hE D _ ys H' p⟩,hd D ys H' p⟩
def JR{K:Ws}{e:WH}{C:WI}{ks:List Nat}{tt:TT}{te:TE}{σ:St}{H1:Hp}{Q:VK}(a:WH)(xs:List V)(p:V->Bool)(v:V)(hC:H1 e=some (dP C e))(ha:H1 a=some (.lst xs))(hz:xs.length<WC)
 (hp:∀x∈xs,∀G (R:Bool->Hp->Prop),R (p x) G->tt ([some x]++ks.map fun k=>(σ[k]?).join) G R)
 (he:∀x∈xs,∀G (R:VK),R v G->te ([some x]++ks.map fun k=>(σ[k]?).join) G R)
 (k:∀D,H1 D=none->Q (.ref D) (upd H1 D (.lst ((xs.filter p).map fun _=>v)))):CEl (Bh K a e) 1 (eY 0) ks tt te σ H1 Q:=by
 refine Ip a xs (fun D i ys G=>H1 D=none/\G=upd H1 D (.lst ys)/\ys=((xs.take i).filter p).map fun _=>v) hz ?_ ?_ ?_ ?_ ?_
 .exact fun D hD=>⟨hD,rfl,rfl⟩
 .rintro D i ys G ⟨hD,rfl,rfl⟩
  exact⟨aa,az ((aj _ hD) _ _ ha),by rw[zV];exact wG (Zb _ _) (by rw[Zv];omega)⟩
 .rintro D i ys G ⟨hD,rfl,rfl⟩
  exact⟨C,(aj _ hD) _ _ hC⟩
 .rintro D i y ys G zs N1 N0 hy ⟨hD,rfl,rfl⟩ hzs n1 n0
  have my:=yo hy;obtain⟨z1,rfl⟩:=ex1 hzs;have et:xs.take (i+1)=xs.take i++[y]:=by rw[YN,hy];rfl
  rw[et,ZW,yE]at n1 n0;refine⟨⟨[_],rfl,rfl⟩,hp y my _ _ ?_⟩;cases e:p y with
  |false=>
   rw[ZT (by simp[e]),Yc,YB,Za]at n0;rw[VZ xl];exact n0 _ ⟨hD,rfl,rfl⟩
  |true=>
   rw[ZU (by simp[e]),Yc]at n1;rw[VY rfl];exact he y my _ _ (n1 _ _ aa ⟨hD,by rw[i6],rfl⟩)
 .rintro D ys G ⟨hD,rfl,rfl⟩
  rw[Zp];exact k D hD
end L2
open L2 renaming T -> VS
namespace K20
open PySem L2
noncomputable abbrev nO:List Str:=["_law_script","_law_base","_law_paths_here","_law_currencies_here","_law_made","_law_late","_law_last","_law_k","_law_rows_here","_law_day_here","_law_one","_law_other","_law_query"]
structure Adr where
 eA:WH
 eQ:WH
 yi:WH
 bN:WH
 aW:WH
 yn:WH
 zq:WH
 dA:WH
 Dr:WH
 ym:WH
 vA:WH
 eX:WH
 bq:WH
 vq:WH
 aN:WH
 a7:WH
 bg:WH
 aM:WH
 jT:WH
abbrev zzK(K:Ws)(a b:WH)(c:Bool):Prop:=Zo K (.ref a) (.ref b)=some c
abbrev zzX(K:Ws)(a:WH):Prop:=PySem.W.excIn K a [.type "ValueError",.type "Exception",.type "BaseException",.type "object"] "ValueError.__new__" = true
structure Txt(K:Ws)(mg:Str->Option WI)(a:Adr):Prop where
 ww:DfN K mg "is_whole" (top 16)
 vz:DfN K mg "is_among" (top 17)
 ur:DfN K mg "signs_lie" (top 18)
 yf:DfN K mg "is_name" (top 19)
 Cg:DfN K mg "is_day" (top 21)
 pi:DfN K mg "is_currency" (top 23)
 y3:DfN K mg "rounded" (top 25)
 wL:DfN K mg "steps_to" (top 27)
 Eg:DfN K mg "chain" (top 28)
 lQ:DfN K mg "common_measure" (top 29)
 Gu:DfN K mg "rate" (top 30)
 uX:DfN K mg "converted" (top 31)
 uj:DfN K mg "are_names" (top 33)
 zB:DfN K mg "is_path" (top 34)
 wB:DfN K mg "names_of" (top 35)
 C_:DfN K mg "above" (top 36)
 zt:DfN K mg "sums_of" (top 38)
 yD:DfN K mg "rows_of" (top 40)
 lK:DfN K mg "bookings_up_to" (top 41)
 vX:DfN K mg "balances" (top 42)
 rD:DfN K mg "own_values" (top 44)
 m8:DfN K mg "values_within" (top 45)
 CF:DfN K mg "valued" (top 46)
 mT:DfN K mg "is_coin_count" (top 54)
 n8:DfN K mg "_law_cell_at" (top 57)
 rK:DfN K mg "_law_mixed" (top 58)
 ri:DfN K mg "_law_whole" (top 59)
 rg:DfN K mg "_law_names" (top 60)
 qS:DfN K mg "_law_paths" (top 61)
 qE:DfN K mg "_law_chart" (top 62)
 kA:DfN K mg "_law_currencies" (top 63)
 rS:DfN K mg "_law_first" (top 64)
 wC:DfN K mg "_law_day" (top 65)
 rP:DfN K mg "_law_coins" (top 66)
 pO:DfN K mg "_law_amount" (top 67)
 rY:DfN K mg "_law_rates" (top 68)
 sY:DfN K mg "_law_rows" (top 69)
 tT:DfN K mg "_law_near" (top 70)
 tG:DfN K mg "_law_owns" cO
 uW:DfN K mg "_law_word" (top 72)
 u9:DfN K mg "_law_told" bw
 vg:DfN K mg "_law_ends" cF
 Ie:∃fd,Fun K "law" "law" c9 a.eA fd
 jG:DfM K a.aN "__init__" "Account.__init__" (bT (top 49) 0)
 jg:DfM K a.aN "stands_on" "Account.stands_on" (bT (top 49) 1)
 hX:DfM K a.aN "stands_later" "Account.stands_later" (bT (top 49) 2)
 l9:DfM K a.a7 "__init__" "Chart.__init__" (bT (top 50) 0)
 mZ:DfM K a.a7 "add_top" "Chart.add_top" (bT (top 50) 1)
 t6:DfM K a.a7 "add" "Chart.add" fQ
 qP:DfM K a.a7 "shut" "Chart.shut" (bT (top 50) 3)
 uD:DfM K a.a7 "has" "Chart.has" (bT (top 50) 4)
 m7:DfM K a.a7 "account" "Chart.account" (bT (top 50) 5)
 lU:DfM K a.a7 "accounts" "Chart.accounts" (bT (top 50) 11)
 jH:DfM K a.bg "__init__" "Journal.__init__" (bT (top 52) 0)
 pQ:DfM K a.bg "put" "Journal.put" (bT (top 52) 1)
 mW:DfM K a.bg "every" "Journal.every" (bT (top 52) 4)
 lJ:DfM K a.aM "__init__" "Rates.__init__" (bT (top 55) 0)
 pB:DfM K a.aM "quote" "Rates.quote" (bT (top 55) 1)
 rm:DfM K a.aM "keep" "Rates.keep" eO
 rH:DfM K a.aM "link" "Rates.link" (bT (top 55) 3)
 fF:DfM K a.aM "newest" "Rates.newest" dM
 jN:DfM K a.aM "neighbours" "Rates.neighbours" (bT (top 55) 5)
 qL:mg "HouseError" = some (.ref a.eQ)
 HW:mg "BadName" = some (.ref a.yi)
 gr:mg "BadDay" = some (.ref a.bN)
 df:mg "BadCurrency" = some (.ref a.aW)
 HX:mg "BadPath" = some (.ref a.yn)
 HR:mg "BadKind" = some (.ref a.zq)
 tX:mg "NoAccount" = some (.ref a.dA)
 JU:mg "Twice" = some (.ref a.Dr)
 HV:mg "NotOpen" = some (.ref a.ym)
 FT:mg "HasBelow" = some (.ref a.vA)
 yI:mg "BadRate" = some (.ref a.eX)
 o5:mg "NoRate" = some (.ref a.bq)
 Fl:mg "NoBooking" = some (.ref a.vq)
 p8:mg "Account" = some (.ref a.aN)
 DZ:mg "Chart" = some (.ref a.a7)
 zn:mg "Journal" = some (.ref a.bg)
 Db:mg "Rates" = some (.ref a.aM)
 br:Cls K a.aN
 iG:NoAttr K a.aN "kind"
 jK:NoAttr K a.aN "currency"
 eI:NoAttr K a.aN "first"
 b_:NoAttr K a.aN "until"
 eB:NoAttr K a.aN "below"
 o8:MkC K a.aN
 bR:Cls K a.a7
 bI:NoAttr K a.a7 "by_path"
 A8:MkC K a.a7
 cQ:Cls K a.bg
 cI:NoAttr K a.bg "bookings"
 fK:NoAttr K a.bg "undoings"
 wa:MkC K a.bg
 bK:Cls K a.aM
 eF:NoAttr K a.aM "by_pair"
 fJ:NoAttr K a.aM "beside"
 zM:MkC K a.aM
 d7:zzX K a.aW
 pP:dH K a.aW
 fU:Z9 K (.ref a.aW) (.ref a.eQ)=some true
 tO:Z9 K (.ref a.aW) (.ref a.bq)=some false
 fM:zzK K a.aW a.aW true
 iH:zzK K a.aW a.bN false
 iA:zzK K a.aW a.eX false
 gY:zzK K a.aW a.dA false
 iP:zzK K a.aW a.bq false
 fY:Zo K (.ref a.aW) (.type "ValueError")=some true
 iM:zzX K a.bN
 Bu:dH K a.bN
 jm:Z9 K (.ref a.bN) (.ref a.eQ)=some true
 zC:Z9 K (.ref a.bN) (.ref a.bq)=some false
 iT:zzK K a.bN a.aW false
 mU:zzK K a.bN a.bN true
 mq:zzK K a.bN a.eX false
 jJ:zzK K a.bN a.dA false
 mV:zzK K a.bN a.bq false
 jk:Zo K (.ref a.bN) (.type "ValueError")=some true
 B9:zzX K a.bq
 Co:dH K a.bq
 jh:Z9 K (.ref a.bq) (.ref a.eQ)=some true
 mX:Z9 K (.ref a.bq) (.ref a.bq)=some true
 iR:zzK K a.bq a.aW false
 m9:zzK K a.bq a.bN false
 l_:zzK K a.bq a.eX false
 jL:zzK K a.bq a.dA false
 m_:zzK K a.bq a.bq true
 ji:Zo K (.ref a.bq) (.type "ValueError")=some true
 DE:mg "KINDS" = some (.ref a.jT)
 jT:∃(o:Obj) (WV:Array WI) (n:Nat),K.lookup a.jT=some o/\o.cls = .type "tuple" /\ o.data = .seq WV n/\WV.size<=WC/\WP (([[104,97,118,101],[111,119,101],[111,119,110],[103,97,105,110],[99,111,115,116]]:List (List Nat)).map T) WV.toList
 se:mg "ValueError" = none
 Ac:mg "all" = none
 Id:mg "any" = none
 Ch:mg "bool" = none
 t_:mg "enumerate" = none
 ul:mg "int" = none
 bf:mg "isinstance" = none
 eJ:mg "len" = none
 ra:mg "list" = none
 z0:mg "max" = none
 Jz:mg "min" = none
 d6:mg "range" = none
 jU:mg "sorted" = none
 xk:mg "str" = none
 xG:mg "tuple" = none
 IT:mg "zip" = none
def pE:ZY "ValueError" = some (.type "ValueError"):=by decide +kernel
def wl:ZY "all" = some (.builtin "all"):=by decide +kernel
def Fu:ZY "any" = some (.builtin "any"):=by decide +kernel
def wZ:ZY "bool" = some (.type "bool"):=by decide +kernel
def pd:ZY "int" = some (.type "int"):=by decide +kernel
def aY:ZY "isinstance" = some (.builtin "isinstance"):=by decide +kernel
def de:ZY "len" = some (.builtin "len"):=by decide +kernel
def nL:ZY "list" = some (.type "list"):=by decide +kernel
def vR:ZY "max" = some (.builtin "max"):=by decide +kernel
def Hs:ZY "min" = some (.builtin "min"):=by decide +kernel
def i5:ZY "sorted" = some (.builtin "sorted"):=by decide +kernel
def rj:ZY "str" = some (.type "str"):=by decide +kernel
def uv:ZY "tuple" = some (.type "tuple"):=by decide +kernel
def iU:cX ["_law_script","_law_base","_law_paths_here","_law_currencies_here","_law_made","_law_late","_law_last","_law_k","_law_rows_here","_law_day_here","_law_one","_law_other","_law_query"] ["_law_script"] (ak c9):=⟨rfl,rfl,rfl,by decide +kernel,rfl,by decide +kernel,by decide +kernel⟩
seal L2.PE L2.PT L2.PW L2.PA L2.PS L2.PSs L2.PI L2.PG L2.PGs L2.PO
open PySem L2 K19 K22
local macro_rules | `(tactic| walk_at "k") => `(tactic| exact ⟨rfl, by decide +kernel, rfl, by decide +kernel, rfl, cw rfl, rfl, aV rfl, aV (k := fun y => qW y _) rfl, cv rfl⟩)
local macro_rules | `(tactic| walk_at "c") => `(tactic| exact ⟨rfl, rfl, rfl, by decide +kernel, rfl, by decide +kernel, by decide +kernel⟩)
local macro_rules | `(tactic| walk_at "b") => `(tactic| (intro _ _ _ _ _ _ us hl; first | (obtain ⟨_, e⟩ := ex1 hl; subst e; rfl) | (obtain ⟨_, _, e⟩ := ex2 hl; subst e; rfl) | (obtain ⟨_, _, _, e⟩ := ex3 hl; subst e; rfl) | (obtain ⟨_, _, _, _, e⟩ := ex4 hl; subst e; rfl) | (obtain ⟨_, _, _, _, _, e⟩ := ex5 hl; subst e; rfl) | (obtain ⟨_, _, _, _, _, _, e⟩ := ex6 hl; subst e; rfl) | (obtain ⟨_, _, _, _, _, _, _, e⟩ := ex7 hl; subst e; rfl) | (obtain ⟨_, _, _, _, _, _, _, _, e⟩ := ex8 hl; subst e; rfl)))
local macro_rules | `(tactic| walk_at "d") => `(tactic| try simp only [o_, rdI, rdY, Int.reduceLT, Int.reduceLE, Int.reducePow, Int.reduceNeg, Nat.reducePow, if_false, if_true, ↓reduceIte, forall_const])
local macro_rules | `(tactic| walk_at "o") => `(tactic| first | exact wG (by decide) (by assumption : 1000 <= WC) | lia)
section
variable{pS:WH}{ns:List Int}{P:WF}{w:WE}{K:Ws}{mg:Str->Option WI}{base:Wz}{a:Adr}
def szl:1000<=WC:=by rw[ue];decide
def KN:1000<WC:=by rw[ue];decide
def itp{c:Prop}[Decidable c]{t e:Prop}(h:c)(x:t):ite c t e:=by rw[VY h];exact x
def itn{c:Prop}[Decidable c]{t e:Prop}(h:¬ c)(x:e):ite c t e:=by rw[VZ h];exact x
def sp_tS:Sp:=sp1 fun x H Q _=>WM H/\asK H x fun _=>Q (.bl (isI x)) H
def u_(T:Txt K mg a):Fo P w K mg base "is_whole" 1 sp_tS:=by
 refine T.ww.hg ["thing"] (gG1 fun x0 fA WW A WX s H Q E ND HU hr h=>?_);obtain⟨hN,h1⟩:=h;obtain⟨t,ht,hb,k⟩:=jP h1;refine⟨hN,_,(ah (aB (dX (aI (cr K) rfl T.bf aY (fa2 (fv 0) (dN (v:=.ty "int") rfl T.ul pd rfl))) (dO (v8 (aI (cr K) rfl T.bf aY (fa2 (fv 0) (dN (v:=.ty "bool") rfl T.Ch wZ rfl)))))))),?_⟩;walk_at "d";simp only[ht];rw[<- Cr ht]at k;obtain rfl|rfl|rfl|rfl|rfl|rfl|rfl:=hb
 all_goals first
  |exact Hm k
  |exact HE k
noncomputable def amg(x:V)(lo hi:Int):Bool:=match x with
 | .int i=>decide (lo<=i)&&decide (i<=hi)
 |_=>false
def D8{x:V}{lo hi:Int}(h:isI x=false):amg x lo hi=false:=by
 unfold amg;split
 .cases h
 .rfl
def sp_tB:Sp:=sp3 fun x y z H Q _=>WM H/\asI y fun lo=>asI z fun hi=>asK H x fun _=>Q (.bl (amg x lo hi)) H
def mE(T:Txt K mg a):Fo P w K mg base "is_among" 2 sp_tB:=by
 refine T.vz.hg ["thing","least","most"] (gG3 fun x0 x1 x2 fA WW A WX s H Q E ND HU hr h=>?_);obtain⟨hN,h1⟩:=h;obtain⟨lo,rfl,h2⟩:=ba h1;obtain⟨hi,rfl,h3⟩:=ba h2;obtain⟨t,ht,hb,k⟩:=jP h3;refine⟨hN,_,(ah (aB (dX (aF (u_ T) hr av (fa1 (fv 0))) (dO (kH fO fO (fv 1) (fv 0) (fv 2)))))),?_⟩;walk_at "d";refine⟨hN,asK.of ht ?_⟩;cases e:isI x0 with
 |false=>
  rw[D8 e]at k;exact HE k
 |true=>
  cases x0 with
  |int i=>
   refine Hm ?_;walk_at "d";split
   .rename_i h1
    have e:amg (.int i) lo hi=decide (i<=hi):=by simp[amg,h1]
    rw[e]at k;exact k
   .rename_i h1
    have e:amg (.int i) lo hi=false:=by simp[amg,h1]
    rw[e]at k;exact k
  |_=>cases e
def sp_yE:Sp:=sp1 fun x H Q _=>WM H/\asK H x fun _=>Q (.bl (amg x 0 146096)) H
def gg(T:Txt K mg a):Fo P w K mg base "is_day" 3 sp_yE:=by
 refine T.Cg.hg ["thing"] (gG1 fun x0 fA WW A WX s H Q E ND HU hr h=>?_);obtain⟨hN,h1⟩:=h;refine⟨hN,_,(ah (aB (aF (mE T) hr av (fa3 (fv 0) ae ae)))),?_⟩;walk_at "d";exact⟨hN,h1⟩
def Hu(a b:Nat):leN [a] [b]=decide (a<=b):=by
 unfold leN;have h:([b]<[a])↔b<a:=by
  rw[List.cons_lt_cons_iff];simp
 rw[decide_eq_decide.mpr h];by_cases h2:b<a
 .rw[VX h2,VW (by walk_at "o")];rfl
 .rw[VW h2,VX (by walk_at "o")];rfl
local macro_rules | `(tactic| walk_at "d") => `(tactic| try simp only [o_, rdI, rdY, Int.reduceLT, Int.reduceLE, Int.reducePow, Int.reduceNeg, Nat.reducePow, if_false, if_true, ↓reduceIte, forall_const, Hu])
def ok(l:List Nat):Prop:=(∀c∈l,c<128)/\l.length<=1000
def sC{l:List Nat}(h:ok l):l.length<=WC:=wG h.2 (by rw[ue];decide)
noncomputable def lie(l:List Nat)(a b:Nat):Bool:=l.all fun c=>decide (a<=c)&&decide (c<=b)
def sp_qW:Sp:=sp3 fun x y z H Q _=>WM H/\asT x fun l=>asT y fun lo=>asT z fun hi=>ok l/\∃a b,lo=[a]/\hi=[b]/\Q (.bl (lie l a b)) H
def j9(T:Txt K mg a):Fo P w K mg base "signs_lie" 1 sp_qW:=by
 refine T.ur.hg ["text","least","most"] (gG3 fun x0 x1 x2 fA WW A WX s H Q E ND HU hr h=>?_);obtain⟨hN,h1⟩:=h;obtain⟨l,rfl,h2⟩:=bt h1;obtain⟨lo,rfl,h3⟩:=bt h2;refine fL (bt h3) fun hi yy1 hl yz=>Fx yz fun a b yy2 yy3 k=>?_;subst yy1 yy2 yy3;refine⟨hN,_,(ah (aB (aI (r_ K rfl) rfl T.Ac wl (fa1 (cL rfl (cl:=_) (x:="sign") (xs:=["sign"]) (fr:=["least","most"]) (ks:=[1,2]) (by walk_at "k") rfl (F6 (fv 0)) (fun _ _ _ _ _=>(aK (i:=0) (d_ (l:=["sign","least","most"]) (by decide)) rfl (Wb rfl))) (fun _ _ _ _ _=>eR) (fun _ _ _ _ _=>(kH fO fO (fv 1) (fv 0) (fv 2)))))))),?_⟩;walk_at "d";refine cmS (fun _=>True) (fun _ _ _=>trivial) l (fun _=>true) (fun c=>.bl (decide (a<=c)&&decide (c<=b))) (fun R r=>r) hl.1 (sC hl) (fun c _ H R _ r=>r) (fun c _ _ H R _ r=>?_) (fun D hD=>?_)
 .walk_at "d"
  by_cases h1:a<=c
  .simp only[h1,decide_true,Bool.true_and]at r |-
   exact r
  .simp only[h1,decide_false,Bool.false_and]at r |-
   exact r
 .refine⟨l.map fun c=>decide (a<=c)&&decide (c<=b),az (by rw[aa,Z5.mpr (by simp),vN];rfl),H,Gc.none (aj _ hD),?_⟩
  have e:(l.map fun c=>decide (a<=c)&&decide (c<=b)).all id=lie l a b:=by
   rw[List.all_map];rfl
  rw[e];exact k
def okV(x:V):Prop:=∀l,x = .str ⟨⟨l⟩⟩->ok l
def CW{H:Hp}{x:V}{t:String}(ht:c0 H x=some t)(h:¬ ∃l,x = .str ⟨⟨l⟩⟩):b9 t "str" = false:=by
 unfold c0 at ht;split at ht
 case h_4 y=>exact VT ⟨y.cps.toList,rfl⟩ h
 case h_5=>split at ht <;> cases ht <;> decide
 all_goals (cases ht <;> decide)
noncomputable def cur(l:List Nat):Bool:=decide (l.length=3)&&lie l 65 90
noncomputable def j5:V->Bool
 | .str y=>cur (cs y)
 |_=>false
def zL{x:V}(h:¬ ∃l,x = .str ⟨⟨l⟩⟩):j5 x=false:=by
 cases x with
 |str y=>exact VT ⟨y.cps.toList,rfl⟩ h
 |_=>rfl
def sp_yH:Sp:=sp1 fun x H Q _=>WM H/\okV x/\asK H x fun _=>Q (.bl (j5 x)) H
def cE(T:Txt K mg a):Fo P w K mg base "is_currency" 2 sp_yH:=by
 refine T.pi.hg ["thing"] (gG1 fun x0 fA WW A WX s H Q E ND HU hr h=>?_);obtain⟨hN,ho,h1⟩:=h;obtain⟨t,ht,hb,k⟩:=jP h1;refine⟨hN,_,(ah (aB (dX (aI (cr K) rfl T.bf aY (fa2 (fv 0) (dN (v:=.ty "str") rfl T.xk rj rfl))) (dX (dl (bS K HU) (aI (cq K) rfl T.eJ de (fa1 (fv 0))) ae (dY _)) (dO (aF (j9 T) hr av (fa3 (fv 0) (ay [65]) (ay [90])))))))),?_⟩;by_cases hs:∃l,x0 = .str ⟨⟨l⟩⟩
 .obtain⟨l,rfl⟩:=hs
  have hl:=ho l rfl;have k':Q (.bl (cur l)) H:=k;unfold cur at k';walk_at "d";refine⟨sC hl,?_⟩;split
  .rename_i h1
   rw[VX (by lia:l.length=3)]at k';exact⟨hN,hl,65,90,rfl,rfl,k'⟩
  .rename_i h1
   rw[VW (by lia:¬ l.length=3)]at k';exact k'
 .rw[zL hs]at k
  walk_at "d";simp only[ht,CW ht hs]
  first|exact k|exact HE k
noncomputable def nm(l:List Nat):Bool:=decide (1<=l.length)&&decide (l.length<=12)&&lie l 97 122
def sp_wG:Sp:=sp1 fun x H Q _=>WM H/\asT x fun l=>ok l/\Q (.bl (nm l)) H
def oO(T:Txt K mg a):Fo P w K mg base "is_name" 2 sp_wG:=by
 refine T.yf.hg ["thing"] (gG1 fun x0 fA WW A WX s H Q E ND HU hr h=>?_);obtain⟨hN,h1⟩:=h;obtain⟨l,rfl,hl,k⟩:=bt h1;refine⟨hN,_,(ah (aB (dX (aI (cr K) rfl T.bf aY (fa2 (fv 0) (dN (v:=.ty "str") rfl T.xk rj rfl))) (dX (kH fO fO ae (aI (cq K) rfl T.eJ de (fa1 (fv 0))) ae) (dO (aF (j9 T) hr av (fa3 (fv 0) (ay [97]) (ay [122])))))))),?_⟩;walk_at "d";refine⟨sC hl,?_⟩;unfold nm at k;split
 .rename_i h1
  rw[VX (by lia:1<=l.length)]at k;split
  .rename_i h2
   rw[VX (by lia:l.length<=12)]at k;exact⟨hN,hl,97,122,rfl,rfl,k⟩
  .rename_i h2
   rw[VW (by lia:¬ l.length<=12)]at k;exact k
 .rename_i h1
  rw[VW (by lia:¬ 1<=l.length)]at k;exact k
def sp_sx(K:Ws):Sp:=sp1 fun x H Q _=>asR x fun p=>WM H/\∃ls:List (List Nat),SqL K H p (ls.map VS)/\ls.length<=300/\(∀l∈ls,ok l)/\Q (.bl (decide (1<=ls.length)&&decide (ls.length<=6)&&ls.all nm)) H
def qG(T:Txt K mg a):Fo P w K mg base "are_names" 3 (sp_sx K):=by
 refine T.uj.hg ["names"] (gG1 fun x0 fA WW A WX s H Q E ND HU hr h=>?_);refine fL (aQ h) fun p yy1 hN yz=>bQ yz fun ls hS hl hx k=>?_;subst yy1;refine⟨hN,_,(ah (aB (dX (kH fO fO ae (aI (cq K) rfl T.eJ de (fa1 (fv 0))) ae) (dO (aI (r_ K rfl) rfl T.Ac wl (fa1 (cL rfl (cl:=_) (x:="name") (xs:=["name"]) (fr:=[]) (ks:=[]) (by walk_at "k") rfl (bA K (fv 0)) (fun _ _ _ _ _=>(aK (i:=0) (d_ (l:=["name"]) (by decide)) rfl (Wb rfl))) (fun _ _ _ _ _=>eR) (fun _ _ _ _ _=>(aF (oO T) hr AL (fa1 (fv 0))))))))))),?_⟩;walk_at "d";refine⟨_,.inl hS,?_⟩;have sz:=szl;rw[zV];split
 .rename_i h1
  rw[VX (by lia:1<=ls.length)]at k;split
  .rename_i h2
   rw[VX (by lia:ls.length<=6)]at k;refine cmL p (ls.map VS) (fun H'=>WM H'/\SqL K H' p (ls.map VS)) (fun D ys hD=>⟨al hN rfl,hS.same (aj _ hD)⟩) (fun H' c=>c.2) (fun _=>true) (fun x=>match x with | .str y=>.bl (nm y.cps.toList)|_=>.non) (fun R r=>r) hS (by rw[zV];lia) (fun x _ H' R _ r=>r) (fun x hx' _ H' R c r=>?_) (fun D hD=>?_)
   .obtain⟨l,ml,rfl⟩:=yR.mp hx'
    walk_at "d";exact⟨c.1,hx l ml,r⟩
   .refine⟨ls.map nm,az (by rw[aa,Z5.mpr (by simp),vN,vN];rfl),H,Gc.none (aj _ hD),?_⟩
    rw[List.all_map];exact k
  .rename_i h2
   rw[VW (by lia:¬ ls.length<=6)]at k;exact k
 .rename_i h1
  rw[VW (by lia:¬ 1<=ls.length)]at k;exact k
noncomputable def iW(l:List Nat):Bool:=decide (1<=(spN 58 l).length)&&decide ((spN 58 l).length<=6)&&(spN 58 l).all nm
def sp_vZ:Sp:=sp1 fun x H Q _=>WM H/\asT x fun l=>((∀c∈l,c<128)/\l.length<=199)/\Q (.bl (iW l)) H
def nS(T:Txt K mg a):Fo P w K mg base "is_path" 4 sp_vZ:=by
 refine T.zB.hg ["thing"] (gG1 fun x0 fA WW A WX s H Q E ND HU hr h=>?_);obtain⟨hN,h1⟩:=h;obtain⟨l,rfl,hl,k⟩:=bt h1;refine⟨hN,_,(ah (aB (dX (aI (cr K) rfl T.bf aY (fa2 (fv 0) (dN (v:=.ty "str") rfl T.xk rj rfl))) (dO (aF (qG T) hr av (fa1 (cD K ZG Xu Xv k9 (fv 0) (fa1 (ay [58]))))))))),?_⟩;walk_at "d";have sz:=szl;have sl:=kM 58 l;refine⟨by walk_at "o",fun p hp=>⟨al hN rfl,_,az aa,by lia,fun q hq=>?_,H,Gc.none (aj _ hp),k⟩⟩;obtain⟨m1,m2⟩:=jc 58 l q hq;exact⟨fun c hc=>hl.1 c (m2 c hc),by lia⟩
noncomputable def tx(ls:List (List Nat)):HO:=.lst (ls.map VS)
def sp_ue:Sp:=sp1 fun x H Q _=>WM H/\asT x fun l=>((∀c∈l,c<128)/\l.length<=199)/\iW l=true/\∀p,H p=none->Q (.ref p) (upd H p (tx (spN 58 l)))
def uo(T:Txt K mg a):Fo P w K mg base "names_of" 5 sp_ue:=by
 refine T.wB.hg ["path"] (gG1 fun x0 fA WW A WX s H Q E ND HU hr h=>?_);obtain⟨hN,h1⟩:=h;refine bQ (bt h1) fun l yy1 hl e k=>?_;subst yy1;refine⟨hN,_,(af (bi (bP (bM (aF (nS T) hr av (fa1 (fv 0))))) (ah iq) aL)
  (ah (aB (cD K ZG Xu Xv k9 (fv 0) (fa1 (ay [58])))))),?_⟩
 walk_at "d";have sz:=szl;refine⟨hN,hl,itn (by rw[e];decide) ⟨by walk_at "o",fun p hp=>⟨_,Gc.one (aj _ hp) hp aa rfl,k p hp⟩⟩⟩
def FQ{l:List Nat}(h:nm l=true):1<=l.length/\l.length<=12/\∀c∈l,97<=c/\c<=122:=by
 unfold nm lie at h;simp only[ZR,decide_eq_true_eq,Zk]at h;exact⟨h.1.1,h.1.2,fun c hc=>h.2 c hc⟩
def Im(xs:List V){i:Int}(h:0<=i):fX xs none (some i)=xs.take i.toNat:=by
 unfold fX;have e:i=((i.toNat:Nat):Int):=by walk_at "o"
 rw[e,HT.sIx_none,HT.sIx_nat,List.drop_zero,Nat.sub_zero];by_cases hl:i.toNat<=xs.length
 .rw[Xp hl];rfl
 .rw[Nat.min_eq_right (by walk_at "o"),ZP (by walk_at "o"),ZP (by simp;lia)]
theorem xz(n:Nat):∀(ls:List (List Nat)),(∀l∈ls,l.length<=n)->(ls.map Yl).sum<=n*ls.length
 | [],_=>by simp
 |l::r,h=>by
  have:=xz n r fun x hx=>h x (Zy _ hx);have h1:=h l (by simp);simp only[yH,Xk,vZ,Nat.mul_add,Nat.mul_one];lia
def uH{ls:List (List Nat)}(h:∀l∈ls,l.length<=1000)(hl:ls.length<=1000):B0 [58] ls:=by
 have:=xz 1000 ls h;have h2:1000*ls.length<=1000*1000:=Nat.mul_le_mul_left _ hl;unfold B0;simp only[vZ,Xo];lia
noncomputable def abN(l:List Nat):List (List Nat):=(Zw ((spN 58 l).length-1)).map fun k=>bU [58] ((spN 58 l).take (k+1))
def sp_AV:Sp:=sp1 fun x H Q _=>WM H/\asT x fun l=>((∀c∈l,c<128)/\l.length<=199)/\∀p,H p=none->Q (.ref p) (upd H p (tx (abN l)))
def uu(T:Txt K mg a):Fo P w K mg base "above" 1 sp_AV:=by
 refine T.C_.hg ["path","names"] (gG1 fun x0 fA WW A WX s H Q E ND HU hr h=>?_);obtain⟨hN,h1⟩:=h;obtain⟨l,rfl,hl,k⟩:=bt h1;refine⟨hN,_,(af (aE 1 ND (cD K ZG Xu Xv k9 (fv 0) (fa1 (ay [58]))))
  (ah (aB (cL rfl (cl:=_) (x:="many") (xs:=["many"]) (fr:=["names"]) (ks:=[1]) (by walk_at "k") rfl (qB rfl T.d6 (fa2 ae (aI (cq K) rfl T.eJ de (fa1 (fv 1))))) (fun _ _ _ _ _=>(aK (i:=0) (d_ (l:=["many","names"]) (by decide)) rfl (Wb rfl))) (fun _ _ _ _ _=>eR) (fun _ _ _ _ _=>(Fg (cD K ZG PySem.F.slot_str_join PySem.F.type_str_join (oX K) (ay [58]) (fa1 (cU (iK K) (fv 1) dI (dQ (fv 0))))))))))),?_⟩
 walk_at "d";have sz:=szl;have sl:=kM 58 l;refine⟨by walk_at "o",fun p hp=>?_⟩;have sm:=aj (HO.lst (List.map VS (spN 58 l))) hp;have nb:((spN 58 l).length:Int)<2 ^ 62:=by
  have:(400:Int)<2 ^ 62:=by decide
  lia
 refine J_ (fun H'=>WM H'/\SqL K H' p (List.map VS (spN 58 l))) (fun D ys hD=>⟨al (al hN rfl) rfl,SqL.same (aj _ hD) (az aa)⟩) 1 (spN 58 l).length ((spN 58 l).length-1) (by walk_at "o") (fun _=>true)
  (fun v=>match v with | .int i=>VS (bU [58] ((spN 58 l).take i.toNat))|_=>.non) (fun R r=>?_) ⟨by decide,by decide,by walk_at "o",nb⟩ (by walk_at "o") (fun x _ H' R _ r=>r) (fun j hj _ H' R c r=>?_) (fun D hD=>?_)
 .walk_at "d"
  exact⟨_,.inl (az aa),by rw[zV];exact r⟩
 .walk_at "d"
  refine⟨c.1,p,_,rfl,c.2,fun q hq=>⟨(spN 58 l).take (1+(j:Int)).toNat,az (by rw[aa,Im _ (by walk_at "o"),List.map_take]),uH (fun x hx=>?_) (by rw[Zv];lia),H',Gc.none (aj _ hq),r⟩⟩;have:=(jc 58 l x (ZI hx)).1;lia
 .refine⟨_,Gc.one (sm.trans (aj _ hD)) (sm.free hD) aa rfl,?_⟩
  have e:(List.map (fun v=>match v with|V.int i=>VS (bU [58] (List.take i.toNat (spN 58 l)))|_=>V.non) (List.filter (fun _=>true) (List.map (fun k:Nat=>V.int (1+(k:Int))) (Zw ((spN 58 l).length-1)))))=(abN l).map VS:=by
   rw[Z5.mpr (by simp),vN];unfold abN;rw[vN];apply Zq;intro k _;show VS (bU [58] (List.take (1+(k:Int)).toNat (spN 58 l)))=VS (bU [58] (List.take (k+1) (spN 58 l)));rw[show(1+(k:Int)).toNat=k+1 by walk_at "o"]
  rw[e];exact k D (sm.free hD)
def WS(S:List WH)(H H':Hp):Prop:=∀c z,H c=some z->c∉S->H' c=some z
def WS.refl{S:List WH}{H:Hp}:WS S H H:=fun _ _ e _=>e
def WS.trans{S:List WH}{H H1 H2:Hp}(x:WS S H H1)(y:WS S H1 H2):WS S H H2:=fun c z e n=>y c z (x c z e n) n
def WS.mono{S S':List WH}{H H':Hp}(x:WS S H H')(h:∀c,c∈S->c∈S'):WS S' H H':=fun c z e n=>x c z e fun m=>n (h c m)
def WS.new{S:List WH}{H H1:Hp}{p:WH}{o:HO}(x:WS S H H1)(h:H1 p=none):WS S H (upd H1 p o):=fun c z e n=>by
 rw[ag (aq (x c z e n) h)];exact x c z e n
def WS.put{S:List WH}{H H1:Hp}{p:WH}{o:HO}(x:WS S H H1)(h:p∈S):WS S H (upd H1 p o):=fun c z e n=>by
 rw[ag (by rintro rfl;exact n h)];exact x c z e n
def bL{S:List WH}{H H':Hp}(x:WT H H'):WS S H H':=fun c z e _=>x c z e
def gK{H:Hp}{p q:WH}{x y:HO}(h:H p=some x)(g:H q=some y)(n:x≠y:=by intro z;cases z):p≠q:=by
 rintro rfl;rw[h]at g;cases g;exact n rfl
noncomputable def cl:Option Int->V
 |none=>.non
 |some m=>.int m
structure Acc where
 pa:List Nat
 ob:WH
 bl:WH
 ki:V
 cu:V
 fi:Int
 un:Option Int
 be:List (List Nat)
noncomputable def hZ(k c f u b:V):List (Str × V):=[("kind",k),("currency",c),("first",f),("until",u),("below",b)]
def fk(k c f u b:V):qW (zR "kind") (hZ k c f u b)=some k:=iY
def ff(k c f u b:V):qW (zR "first") (hZ k c f u b)=some f:=by unfold hZ;rw[aZ (by decide +kernel),aZ (by decide +kernel)];exact iY
def fu(k c f u b:V):qW (zR "until") (hZ k c f u b)=some u:=by unfold hZ;rw[aZ (by decide +kernel),aZ,aZ (by decide +kernel)];exact iY
def fb(k c f u b:V):qW (zR "below") (hZ k c f u b)=some b:=by unfold hZ;rw[aZ (by decide +kernel),aZ,aZ (by decide +kernel),aZ (by decide +kernel)];exact iY
def Kl(k c f u b:V):qW (zR "stands_on") (hZ k c f u b)=none:=by unfold hZ;rw[aZ (by decide +kernel),aZ,aZ (by decide +kernel),aZ,aZ (by decide +kernel)];rfl
def JT(k c f u b v:V):cW (zR "until") v (hZ k c f u b)=hZ k c f v b:=by
 have q1:¬ (zR "kind" = zR "until"):=by decide +kernel
 have q2:¬ (zR "currency" = zR "until"):=by decide +kernel
 have q3:¬ (zR "first" = zR "until"):=by decide +kernel
 simp[cW,hZ,q1,q2,q3]
def Gd(k c f u b:V):cW (zR "below") b (cW (zR "until") u (cW (zR "first") f (cW (zR "currency") c (cW (zR "kind") k []))))=hZ k c f u b:=by
 have q1:¬ (zR "kind" = zR "until"):=by decide +kernel
 have q2:¬ (zR "currency" = zR "until"):=by decide +kernel
 have q3:¬ (zR "first" = zR "until"):=by decide +kernel
 have q4:¬ (zR "kind" = zR "first"):=by decide +kernel
 have q5:¬ (zR "currency" = zR "first"):=by decide +kernel
 have q6:¬ (zR "kind" = zR "currency"):=by decide +kernel
 have q7:¬ (zR "kind" = zR "below"):=by decide +kernel
 have q8:¬ (zR "currency" = zR "below"):=by decide +kernel
 have q9:¬ (zR "first" = zR "below"):=by decide +kernel
 have q0:¬ (zR "until" = zR "below"):=by decide +kernel
 simp[cW,hZ,q1,q2,q3,q4,q5,q6,q7,q8,q9,q0]
def sp_zh(A:WH):Sp:=sp4 fun x k c f H Q _=>WM H/\asR x fun p=>∃dx,H p=some (.ins A dx [])/\∀b H',H b=none->H' p=some (.ins A dx (hZ k c f .non (.ref b)))->H' b=some (.lst [])->WS [p] H H'->WM H'->Q .non H'
def eL(T:Txt K mg a):Mo P w K mg base a.aN "__init__" 1 (sp_zh a.aN):=by
 refine T.jG.hx ["self","kind","currency","first"] (gX4 fun x0 x1 x2 x3 fA WW A WX s H Q E ND HU hr h=>?_);obtain⟨hN,h1⟩:=h;obtain⟨p,rfl,dx,hp,k⟩:=aQ h1;refine⟨_,(af (dS K (fv 0) (fv 1))
  (af (dS K (fv 0) (fv 2))
  (af (dS K (fv 0) (fv 3))
  (af (dS K (fv 0) eC)
  (ah (dS K (fv 0) (cy (FA.pa c_)))))))),?_⟩
 walk_at "d";refine⟨_,_,_,hp,T.br,T.iG,by decide,_,_,_,aa,T.br,T.jK,by show 1<1000;decide,_,_,_,aa,T.br,T.eI,by show 2<1000;decide,_,_,_,aa,T.br,T.b_,by show 3<1000;decide,tB _,fun b hb=>?_⟩;rw[i6,i6,i6]at hb |-
 have np:p≠b:=fun q=>by rw[<- q,aa]at hb;cases hb
 have hb0:H b=none:=by rw[ag (Wc np)]at hb;exact hb
 refine⟨_,_,_,(ag np).trans aa,T.br,T.eB,by show 4<1000;decide,?_⟩;rw[Gd];refine k b _ hb0 aa ?_ ?_ ?_
 .rw[ag (Wc np),aa]
 .exact((WS.refl.put (zh.2 rfl)).new hb).put (zh.2 rfl)
 .exact al (al (al hN rfl) rfl) rfl
noncomputable def lat(u:Option Int)(d:Int):Bool:=match u with
 |none=>true
 |some t=>decide (d<t)
noncomputable def opn(f:Int)(u:Option Int)(d:Int):Bool:=decide (f<=d)&&lat u d
def sp_on(A:WH):Sp:=sp2 fun x y H Q _=>WM H/\asR x fun p=>asI y fun d=>∃dx k c f u b,H p=some (.ins A dx (hZ k c (.int f) (cl u) b))/\Q (.bl (opn f u d)) H
def iO(T:Txt K mg a):Mo P w K mg base a.aN "stands_on" 1 (sp_on a.aN):=by
 refine T.jg.hg ["self","day"] (gG2 fun x0 x1 fA WW A WX s H Q E ND HU hr h=>?_);obtain⟨hN,h1⟩:=h;obtain⟨p,rfl,h2⟩:=aQ h1;refine bE (ba h2) fun d yy1 yz=>Iq yz fun dx k c f u b hp q=>?_;subst yy1;refine⟨hN,_,(ah (aB (dX (dl fO (bx K (fv 0)) (fv 1) (dY _)) (dO (xP (BM (sH (bx K (fv 0)))) (dO (dl qk (fv 1) (bx K (fv 0)) (dY _)))))))),?_⟩;walk_at "d";refine⟨_,_,_,_,hp,T.br,T.eI,ff ..,?_⟩;walk_at "d";split
 .rename_i h1
  refine⟨_,_,_,_,hp,T.br,T.b_,fu ..,?_⟩;have e:opn f u d=lat u d:=by unfold opn;rw[VX h1];rfl
  rw[e]at q;cases u with
  |none=>exact q
  |some t=>
   rw[VZ (by intro z;cases z)];exact⟨_,_,_,_,hp,T.br,T.b_,fu ..,⟨H,Gc.refl,q⟩⟩
 .rename_i h1
  have e:opn f u d=false:=by unfold opn;rw[VW h1];rfl
  rw[e]at q;exact q
def sp_yO:Sp:=sp2 fun _ _ _ _ _=>False
def gu(T:Txt K mg a):Mo P w K mg base a.aN "stands_later" 1 sp_yO:=by
 refine T.hX.hg ["self","day"] (gG2 fun x0 x1 fA WW A WX s H Q E ND HU hr h=>?_);exact h.elim
noncomputable def kyA(c:Acc):Key × V:=(.inr ⟨⟨c.pa⟩⟩,.ref c.ob)
structure AAt(A:WH)(H:Hp)(c:Acc):Prop where
 ob:∃dx,H c.ob=some (.ins A dx (hZ c.ki c.cu (.int c.fi) (cl c.un) (.ref c.bl)))
 ls:H c.bl=some (.lst (c.be.map VS))
structure CAt(C A:WH)(H:Hp)(p d:WH)(cs:List Acc):Prop where
 ob:∃dx,H p=some (.ins C dx [("by_path",.ref d)])
 dc:H d=some (.dK (cs.map kyA))
 ac:∀c∈cs,AAt A H c
 np:(cs.map (·.pa)).Nodup
 na:(cs.map (·.ob)).Nodup
 nb:(cs.map (·.bl)).Nodup
def CAt.keep{C A:WH}{S:List WH}{H H':Hp}{p d:WH}{cs:List Acc}(j:CAt C A H p d cs)(x:WS S H H')(hp:p∉S)(hd:d∉S)(hc:∀c∈cs,c.ob∉S/\c.bl∉S):CAt C A H' p d cs:=
 ⟨by obtain⟨dx,e⟩:=j.ob;exact⟨dx,x _ _ e hp⟩,x _ _ j.dc hd,fun c hm=>⟨by obtain⟨dx,e⟩:=(j.ac c hm).ob;exact⟨dx,x _ _ e (hc c hm).1⟩,x _ _ (j.ac c hm).ls (hc c hm).2⟩,j.np,j.na,j.nb⟩
def CAt.same{C A:WH}{H H':Hp}{p d:WH}{cs:List Acc}(j:CAt C A H p d cs)(x:WT H H'):CAt C A H' p d cs:=
 j.keep (S:=[]) (bL x) yW yW fun _ _=>⟨yW,yW⟩
noncomputable def fnd(cs:List Acc)(l:List Nat):Option Acc:=cs.find? fun c=>decide (c.pa=l)
theorem iZ(l:List Nat):∀cs:List Acc,bG (cs.map kyA) (.inr ⟨⟨l⟩⟩)=(fnd cs l).map fun c=>.ref c.ob
 | []=>rfl
 |c::r=>by
  have ih:=iZ l r;by_cases h:c.pa=l
  .rw[yH,bV (by show Sum.inr _=Sum.inr _;rw[h])]
   simp[fnd,h,kyA]
  .rw[yH,bW (fun z=>h (by simpa [kyA] using z)),ih]
   simp[fnd,h]
def Dj{cs:List Acc}{l:List Nat}{c:Acc}(h:fnd cs l=some c):c∈cs/\c.pa=l:=
 ⟨List.mem_of_find?_eq_some h,by simpa using List.find?_some h⟩
def on{cs:List Acc}{l:List Nat}(h:fnd cs l=none):∀c∈cs,c.pa≠l:=fun c hc=>by
 simpa using Wi.mp h c hc
theorem i7{β:Type}{f:Acc->β}:∀ {cs:List Acc} {c c':Acc},(cs.map f).Nodup->c∈cs->c'∈cs->f c=f c'->c=c'
 | [],_,_,_,h,_,_=>nomatch h
 |x::r,c,c',hn,h,h',e=>by
  rw[yH,Zj]at hn;obtain h1|h1:=z9.mp h
  .obtain h2|h2:=z9.mp h'
   .rw[h1,h2]
   .subst h1
    exact VT (by rw[e];exact uO h2) hn.1
  .obtain h2|h2:=z9.mp h'
   .subst h2
    exact VT (by rw[<- e];exact uO h1) hn.1
   .exact i7 hn.2 h1 h2 e
def Ci{cs:List Acc}(hn:(cs.map (·.pa)).Nodup){c:Acc}(hc:c∈cs):fnd cs c.pa=some c:=by
 cases e:fnd cs c.pa with
 |none=>exact VT rfl (on e c hc)
 |some c'=>
  obtain⟨h1,h2⟩:=Dj e;rw[i7 hn h1 hc h2]
def lkp(x:V):qW (zR "by_path") [(zR "by_path",x)]=some x:=iY
def sp_yo(C A:WH):Sp:=sp1 fun x H Q _=>WM H/\asR x fun p=>∃dx,H p=some (.ins C dx [])/\∀d H',H d=none->CAt C A H' p d []->WS [p] H H'->WM H'->Q .non H'
def j6(T:Txt K mg a):Mo P w K mg base a.a7 "__init__" 1 (sp_yo a.a7 a.aN):=by
 refine T.l9.hx ["self"] (gX1 fun x0 fA WW A WX s H Q E ND HU hr h=>?_);obtain⟨hN,h1⟩:=h;obtain⟨p,rfl,dx,hp,k⟩:=aQ h1;refine⟨_,(ah (dS K (fv 0) dq)),?_⟩;walk_at "d";intro d hd;have np:p≠d:=aq hp hd;refine⟨_,_,_,(ag np).trans hp,T.bR,T.bI,by show 0<1000;decide,?_⟩;refine k d _ hd ⟨⟨dx,?_⟩,?_,(fun _ h=>nomatch h),.nil,.nil,.nil⟩ ?_ ?_
 .rw[aa];simp[cW]
 .rw[ag (Wc np),aa];rfl
 .exact(WS.refl.new hd).put (zh.2 rfl)
 .exact al (al hN rfl) rfl
def sp_G9(C A:WH):Sp:=sp2 fun x y H Q _=>WM H/\asR x fun p=>asT y fun l=>∃d cs,CAt C A H p d cs/\Q (.bl (fnd cs l).isSome) H
def sh(T:Txt K mg a):Mo P w K mg base a.a7 "has" 1 (sp_G9 a.a7 a.aN):=by
 refine T.uD.hg ["self","path"] (gG2 fun x0 x1 fA WW A WX s H Q E ND HU hr h=>?_);obtain⟨hN,h1⟩:=h;obtain⟨p,rfl,h2⟩:=aQ h1;obtain⟨l,rfl,d,cs,J,k⟩:=bt h2;obtain⟨dx,hp⟩:=J.ob;refine⟨hN,_,(ah (aB (dX (aI (cr K) rfl T.bf aY (fa2 (fv 1) (dN (v:=.ty "str") rfl T.xk rj rfl))) (dO (BM (wK (Zz HU) (fv 1) (bx K (fv 0))) (by with_unfolding_all rfl)))))),?_⟩;walk_at "d";refine⟨_,_,_,_,hp,T.bR,T.bI,lkp _,d,_,rfl,DGet.k (k:=.inr ⟨⟨l⟩⟩) J.dc,?_⟩;rw[iZ,YA];exact k
def sp_vS(C A:WH):Sp:=sp2 fun x y H Q _=>WM H/\asR x fun p=>asT y fun l=>∃d cs c,CAt C A H p d cs/\c∈cs/\c.pa=l/\Q (.ref c.ob) H
def FW(x:V):qW (zR "has") [(zR "by_path",x)]=none:=by rw[aZ (by decide +kernel)];rfl
def oR(x:V):qW (zR "account") [(zR "by_path",x)]=none:=by rw[aZ (by decide +kernel)];rfl
def gB(T:Txt K mg a):Mo P w K mg base a.a7 "account" 2 (sp_vS a.a7 a.aN):=by
 refine T.m7.hg ["self","path"] (gG2 fun x0 x1 fA WW A WX s H Q E ND HU hr h=>?_);obtain⟨hN,h1⟩:=h;obtain⟨p,rfl,h2⟩:=aQ h1;refine bE (bt h2) fun l yy1 yz=>Gs yz fun d cs c J hc yy2 k=>?_;subst yy1 yy2;obtain⟨dx,hp⟩:=J.ob;refine⟨hN,_,(af (bi (bP (bM (cZ (fv 0) T.bR (sh T) hr.mono av (fa1 (fv 1))))) (ah iq) aL)
  (ah (aB (aT (Zz HU) (bx K (fv 0)) (fv 1) (fun _ _=>rfl))))),?_⟩
 walk_at "d";refine⟨_,_,hp,FW _,hN,d,cs,J,?_⟩;have g:=DGet.k (k:=.inr ⟨⟨c.pa⟩⟩) J.dc;rw[iZ,Ci J.np hc]at g;rw[Ci J.np hc,VZ (by intro z;cases z)];exact⟨_,_,_,_,hp,T.bR,T.bI,lkp _,d,.ref c.ob,rfl,g,k⟩
end
local macro_rules | `(tactic| walk_at "q") => `(tactic| ((try with_reducible refine goH ?_); (try dsimp only [↓o_]); walk_at "d"))
section
variable{pS:WH}{ns:List Int}{P:WF}{w:WE}{K:Ws}{mg:Str->Option WI}{base:Wz}{a:Adr}
def dU{β:Type}{l:List β}{x:β}(h:l.Nodup)(n:x∉l):(l++[x]).Nodup:=
 Z8.mpr ⟨h,Zj.mpr ⟨yW,ZQ⟩,fun a ha b hb=>by rw[zh.mp hb];rintro rfl;exact n ha⟩
def CAt.bl_d{C A:WH}{H:Hp}{p d:WH}{cs:List Acc}(J:CAt C A H p d cs){c:Acc}(hc:c∈cs):c.bl≠d:=gK (J.ac c hc).ls J.dc
def CAt.ob_d{C A:WH}{H:Hp}{p d:WH}{cs:List Acc}(J:CAt C A H p d cs){c:Acc}(hc:c∈cs):c.ob≠d:=by
 obtain⟨dx,e⟩:=(J.ac c hc).ob;exact gK e J.dc
def CAt.p_d{C A:WH}{H:Hp}{p d:WH}{cs:List Acc}(J:CAt C A H p d cs):p≠d:=by
 obtain⟨dx,e⟩:=J.ob;exact gK e J.dc
def CAt.p_bl{C A:WH}{H:Hp}{p d:WH}{cs:List Acc}(J:CAt C A H p d cs){c:Acc}(hc:c∈cs):p≠c.bl:=by
 obtain⟨dx,e⟩:=J.ob;exact gK e (J.ac c hc).ls
def CAt.ob_bl{C A:WH}{H:Hp}{p d:WH}{cs:List Acc}(J:CAt C A H p d cs){c c':Acc}(hc:c∈cs)(hc':c'∈cs):c.ob≠c'.bl:=by
 obtain⟨dx,e⟩:=(J.ac c hc).ob;exact gK e (J.ac c' hc').ls
def uE{cs:List Acc}{l:List Nat}(h:fnd cs l=none)(c:Acc)(e:c.pa=l):bD (cs.map kyA) (.inr ⟨⟨l⟩⟩) (.ref c.ob)=(cs++[c]).map kyA:=by
 rw[j8 _ (by rw[iZ,h];rfl),yE,<- e];rfl
def CAt.more{C A:WH}{H H':Hp}{p d:WH}{cs:List Acc}(J:CAt C A H p d cs)(kp:WS [] H H'){c:Acc}(hf:fnd cs c.pa=none)(h0:H c.ob=none)(h1:H c.bl=none)(hc:AAt A H' c) :
 CAt C A (upd H' d (.dK ((cs++[c]).map kyA))) p d (cs++[c]):=by
 have J1:=J.keep kp yW yW fun _ _=>⟨yW,yW⟩;have dn:=J1.dc;obtain⟨dc,eo⟩:=hc.ob;have n1:c.ob≠d:=gK eo dn;have n2:c.bl≠d:=gK hc.ls dn;refine⟨?_,aa,fun z hz=>?_,?_,?_,?_⟩
 .obtain⟨dx,e⟩:=J1.ob
  exact⟨dx,(ag J1.p_d).trans e⟩
 .obtain hz|hz:=yy.mp hz
  .obtain⟨dz,e⟩:=(J1.ac z hz).ob
   exact⟨⟨dz,(ag (J1.ob_d hz)).trans e⟩,(ag (J1.bl_d hz)).trans (J1.ac z hz).ls⟩
  .rw[zh.mp hz]
   exact⟨⟨dc,(ag n1).trans eo⟩,(ag n2).trans hc.ls⟩
 .rw[yE]
  refine dU J.np fun h=>?_;obtain⟨z,hz,e⟩:=yR.mp h;exact on hf z hz e
 .rw[yE]
  refine dU J.na fun h=>?_;obtain⟨z,hz,e⟩:=yR.mp h;obtain⟨dz,eo⟩:=(J.ac z hz).ob;rw[e,h0]at eo;cases eo
 .rw[yE]
  refine dU J.nb fun h=>?_;obtain⟨z,hz,e⟩:=yR.mp h;have eo:=(J.ac z hz).ls;rw[e,h1]at eo;cases eo
def gA{H H':Hp}{x dx:WH}{o o':HO}(hx:H x=none)(hd:H dx=none)(kp:WS [x] (upd (upd H dx o) x o') H'):WS [] H H':=fun c z e _=>by
 have n1:c≠x:=aq e hx;have n2:c≠dx:=aq e hd;exact kp c z (by rw[ag n1,ag n2];exact e) (by simpa using n1)
def dB{H:Hp}{x dx b:WH}{o o':HO}(h:upd (upd H dx o) x o' b=none):H b=none:=by
 have n1:b≠x:=fun z=>by rw[z,aa]at h;cases h
 rw[ag n1]at h;have n2:b≠dx:=fun z=>by rw[z,aa]at h;cases h
 rw[ag n2]at h;exact h
noncomputable abbrev KDS:List (List Nat):=[[104,97,118,101],[111,119,101],[111,119,110],[103,97,105,110],[99,111,115,116]]
def sp_wu(C A:WH):Sp:=sp3 fun x y z H Q _=>WM H/\asR x fun p=>asT y fun l=>nm l=true/\asT z fun kd=>kd∈KDS/\∃d cs,CAt C A H p d cs/\cs.length<=100/\fnd cs l=none /\
 (∀c H',c.pa=l->c.cu = .non->c.fi=0->c.un=none->c.be=[]->H c.ob=none->H c.bl=none->CAt C A H' p d (cs++[c])->WS [d] H H'->WM H'->Q .non H')
def Am{l:List Nat}(h:l∈KDS):inV (VS l) (KDS.map VS)=true:=by
 simp only[z9,yW,or_false]at h;obtain rfl|rfl|rfl|rfl|rfl:=h <;> decide
def JK{l:List Nat}(h:nm l=true):ok l:=by
 obtain⟨_,h2,h3⟩:=FQ h;exact⟨fun c hc=>by have:=h3 c hc;lia,by lia⟩
def lA(T:Txt K mg a):Mo P w K mg base a.a7 "add_top" 4 (sp_wu a.a7 a.aN):=by
 refine T.mZ.hx ["self","name","kind"] (gX3 fun x0 x1 x2 fA WW A WX s H Q E ND HU hr h=>?_);obtain⟨hN,h1⟩:=h;obtain⟨p,rfl,h2⟩:=aQ h1;obtain⟨l,rfl,e,h3⟩:=bt h2;obtain⟨kd,rfl,hz,d,cs,J,len,ef,k⟩:=bt h3;obtain⟨dx,hp⟩:=J.ob;refine⟨_,(af (bi (bP (bM (aF (oO T) hr av (fa1 (fv 1))))) (ah iq) aL)
  (af (bi (sU (qa K) (fv 2) (ja (v:=.ref a.jT) rfl T.DE rfl) (by with_unfolding_all rfl)) (ah iq) aL)
  (af (bi (gZ (wK (Zz HU) (fv 1) (bx K (fv 0))) (by with_unfolding_all rfl)) (ah iq) aL)
  (ah (cj (Zz HU) (bx K (fv 0)) (fv 1) (Fj T.o8 (eL T) hr.mono rfl T.p8 av (fa3 (fv 2) eC ae)) rfl))))),?_⟩
 walk_at "q";refine⟨hN,JK e,itn (by rw[e];decide) ?_⟩;refine⟨_,.inr (.inr T.jT),rfl,by decide,?_⟩;rw[show inV (VS kd) _=true from Am hz,VZ (by decide)];refine⟨_,_,_,_,hp,T.bR,T.bI,lkp _,d,_,rfl,DGet.k (k:=.inr ⟨⟨l⟩⟩) J.dc,?_⟩;rw[iZ,YA,ef,VZ (by intro z;cases z)];intro x dx hx hdx ne;refine⟨al (al hN rfl) rfl,_,aa,fun b H' hb h1 h2 kp hN'=>?_⟩;have kp0:=gA hx hdx kp;have J1:=J.keep kp0 yW yW fun _ _=>⟨yW,yW⟩;obtain⟨dx1,hp1⟩:=J1.ob
 let c:Acc:=⟨l,x,b,VS kd,.non,0,none,[]⟩
 have smk:(cs.map kyA).length<WC:=by rw[zV,ue];lia
 refine⟨_,_,_,_,hp1,T.bR,T.bI,lkp _,d,_,rfl,DPut.k (k:=.inr ⟨⟨l⟩⟩) J1.dc smk,?_⟩;rw[uE ef c rfl];exact k c _ rfl rfl rfl rfl rfl hx (dB hb) (J.more kp0 ef hx (dB hb) ⟨⟨dx,h1⟩,h2⟩) ((kp0.mono (fun _ h=>nomatch h)).put (.head _)) (al hN' rfl)
theorem nX(s x:List Nat):∀(r:List (List Nat)),r≠[]->bU s (r++[x])=bU s r++s++x
 | [],h=>VT rfl h
 | [y],_=>by simp[bU]
 |y::z::r,_=>by
  have:=nX s x (z::r) (by simp);rw[YS,YS,bU,<- YS,this,bU];simp
def hV{v n:List Nat}(hn:58∉n):spN 58 (v++58::n)=spN 58 v++[n]:=by
 have h:=oY 58 (spN 58 v++[n]) (by simp) fun p hp=>by
  obtain h|h:=yy.mp hp
  .exact i9 58 v p h
  .rw[zh.mp h];exact hn
 rw[nX _ _ _ (iV 58 v),gv]at h;rw[<- h];simp
def j4{v n:List Nat}(hn:58∉n):abN (v++58::n)=abN v++[v]:=by
 unfold abN;rw[hV hn,zA,v6,Nat.add_sub_cancel];have hp:0<(spN 58 v).length:=Y4.mpr (iV 58 v);obtain⟨m,hm⟩:∃m,(spN 58 v).length=m+1:=⟨(spN 58 v).length-1,by lia⟩;rw[hm,List.range_succ,yE,Nat.add_sub_cancel]
 congr 1
 .apply Zq
  intro k hk;have:=List.mem_range.mp hk;rw[List.take_append_of_le_length (by lia)]
 .rw[XG,<- hm,List.take_left',gv]
  rfl
noncomputable def je(cs:List Acc)(l:List Nat)(f:Acc->Acc):List Acc:=cs.map fun z=>if z.pa=l then f z else z
def cK{β:Type}{cs:List Acc}{l:List Nat}{f:Acc->Acc}(g:Acc->β)(h:∀z,g (f z)=g z):(je cs l f).map g=cs.map g:=by
 unfold je;rw[vN];apply Zq;intro z _;show g (if z.pa=l then f z else z)=g z;split
 .exact h z
 .rfl
def d9{cs:List Acc}{l:List Nat}{f:Acc->Acc}{z:Acc}(h:z∈je cs l f):∃y∈cs,z=if y.pa=l then f y else y:=by
 obtain⟨y,hy,e⟩:=yR.mp h;exact⟨y,hy,e.symm⟩
noncomputable def grw(l:List Nat)(z:Acc):Acc:={ z with be:=z.be++[l] }
noncomputable def shu(t:Int)(z:Acc):Acc:={ z with un:=some t }
def CAt.grow{C A:WH}{H:Hp}{p d:WH}{cs:List Acc}(J:CAt C A H p d cs){u:Acc}(hu:u∈cs)(l:List Nat):CAt C A (upd H u.bl (.lst (u.be.map VS++[VS l]))) p d (je cs u.pa (grw l)):=by
 refine⟨?_,?_,fun z hz=>?_,?_,?_,?_⟩
 .obtain⟨dx,e⟩:=J.ob
  exact⟨dx,(ag (J.p_bl hu)).trans e⟩
 .rw[cK (f:=grw l) kyA fun _=>rfl,ag (Wc (J.bl_d hu))];exact J.dc
 .obtain⟨y,hy,e⟩:=d9 hz
  obtain⟨dy,ho⟩:=(J.ac y hy).ob;by_cases h:y.pa=u.pa
  .have:y=u:=i7 J.np hy hu h
   subst this;rw[VY rfl]at e;subst e;exact⟨⟨dy,(ag (J.ob_bl hy hu)).trans ho⟩,by show upd H y.bl _ y.bl=some (.lst ((y.be++[l]).map VS));rw[aa,yE];rfl⟩
  .rw[VZ h]at e
   subst e;have nb:z.bl≠u.bl:=fun q=>h (by rw[i7 J.nb hy hu q]);exact⟨⟨dy,(ag (J.ob_bl hy hu)).trans ho⟩,(ag nb).trans (J.ac z hy).ls⟩
 .rw[cK (f:=grw l) _ fun _=>rfl];exact J.np
 .rw[cK (f:=grw l) _ fun _=>rfl];exact J.na
 .rw[cK (f:=grw l) _ fun _=>rfl];exact J.nb
def AF{cs:List Acc}{v l:List Nat}{f:Acc->Acc}(hf:∀z,(f z).pa=z.pa)(h:fnd cs l=none):fnd (je cs v f) l=none:=by
 refine Wi.mpr fun z hz=>?_;obtain⟨y,hy,e⟩:=d9 hz;have:=on h y hy;subst e;split
 .simpa [hf] using this
 .simpa using this
def sp_F5(C A:WH):Sp:=sp4 fun x y z t H Q _=>WM H/\asR x fun p=>asT y fun l=>((∀c∈l,c<128)/\l.length<=199)/\z = .non/\asI t fun day=>(0<=day/\day<=146096)/\∃v n d cs u,l=v++58::n/\58∉n/\iW l=true/\CAt C A H p d cs/\cs.length<=100/\(∀c∈cs,c.be.length<=100) /\
 fnd cs l=none/\u∈cs/\u.pa=v/\u.un=none/\u.fi<=day /\
 ∀c H',c.pa=l->c.cu=z->c.fi=day->c.un=none->c.be=[]->H c.ob=none->H c.bl=none->CAt C A H' p d (je cs v (grw l)++[c])->WS (d::cs.map (·.bl)) H H'->WM H'->Q .non H'
def jZ(T:Txt K mg a):Mo P w K mg base a.a7 "add" 7 (sp_F5 a.a7 a.aN):=by
 refine T.t6.hx ["self","path","currency","day","upper"] (gX4 fun x0 x1 x2 x3 fA WW A WX s H Q E ND HU hr h=>?_);obtain⟨hN,h1⟩:=h;obtain⟨p,rfl,h2⟩:=aQ h1;refine bQ (bt h2) fun l yy1 hl hz h3=>?_;subst yy1;refine fL (ba h3) fun day yy1 hd yz=>Dc yz fun v n d cs u el hn e J len lb ef hu pu yz=>HB yz fun un uf k=>?_;subst yy1;obtain⟨dx,hp⟩:=J.ob
 skip
 have c4:∃z,PSs (cJ (XE P w) P w K mg base ["self","path","currency","day","upper"] "Chart.add" (ak fQ) fA WW A WX s H E) (ZE 4 (bh fQ)) z/\z { nx:=fun _ H'=>Q .non H',rt:=Q } [some (.ref p),some (VS l),some x2,some (.int day),none] H:=by
  refine⟨_,(af (aE 4 ND (cZ (fv 0) T.bR (gB T) hr.mono av (fa1 (Fg (aH K (aF (uu T) hr av (fa1 (fv 1))) (oQ jI ae))))))
   (af (bi (L2.PW.pt (gm (gZ (kg (bx K (fv 4)))) (f8 (bP (bM (cZ (fv 4) T.br (iO T) hr.mono av (fa1 (fv 3)))))))) (ah iq) aL)
   (af (bH (cD K Zm Zg Zh cz (bx K (fv 4)) (fa1 (fv 1))))
   (ah (cj (Zz HU) (bx K (fv 0)) (fv 1) (Fj T.o8 (eL T) hr.mono rfl T.p8 av (fa3 (bx K (fv 4)) (fv 2) (fv 3))) rfl))))),?_⟩
  walk_at "q";refine⟨_,_,hp,oR _,hN,hN,hl,fun q2 hq2=>⟨_,VS v,.inl (az aa),?_,?_⟩⟩
  .rw[el,j4 hn,yE];exact oU _ _
  refine⟨H,Gc.none (aj _ hq2),hN,?_⟩;walk_at "q";refine⟨d,cs,u,J,hu,pu,?_⟩;obtain⟨du,ho⟩:=(J.ac u hu).ob;refine⟨_,_,_,_,ho,T.br,T.b_,fu ..,?_⟩;rw[un];have eo:opn u.fi u.un day=true:=by rw[un];unfold opn;rw[VX uf];rfl
  refine itp rfl ⟨_,_,ho,Kl ..,hN,_,_,_,_,_,_,ho,?_⟩;rw[eo];have sml:(u.be.map VS).length<WC:=by have:=lb u hu;rw[zV,ue];lia
  refine itn (by decide) ⟨_,_,_,_,ho,T.br,T.eB,fb ..,.inl ⟨rfl,_,az (J.ac u hu).ls⟩,u.bl,_,_,rfl,rfl,(J.ac u hu).ls,sml,?_⟩;have J1:=J.grow hu l;have N1:WM (upd H u.bl (.lst (u.be.map VS++[VS l]))):=al hN rfl;have ho1:=(ag (o:=.lst (u.be.map VS++[VS l])) (J.ob_bl hu hu)).trans ho;have K1:WS (d::cs.map (·.bl)) H (upd H u.bl (.lst (u.be.map VS++[VS l]))):=WS.refl.put (.tail _ (uO hu));have n58:∀q,upd H u.bl (.lst (u.be.map VS++[VS l])) q=none->H q=none:=fun q hq=>by
   by_cases hc:q=u.bl
   .rw[hc,aa]at hq;cases hq
   .rw[ag hc]at hq;exact hq
  generalize upd H u.bl (.lst (u.be.map VS++[VS l]))=H1 at J1 N1 ho1 K1 n58 |-
  refine⟨_,_,_,_,ho1,T.br,T.iG,fk ..,fun x dx1 hx hdx ne=>?_⟩;refine⟨al (al N1 rfl) rfl,_,aa,fun b H' hb h1 h2 kp hN'=>?_⟩;have kp0:=gA hx hdx kp;have J2:=J1.keep kp0 yW yW fun _ _=>⟨yW,yW⟩;obtain⟨dx2,hp2⟩:=J2.ob
  let c:Acc:=⟨l,x,b,u.ki,x2,day,none,[]⟩
  have smk:((je cs u.pa (grw l)).map kyA).length<WC:=by rw[cK (f:=grw l) kyA fun _=>rfl,zV,ue];lia
  have ef1:fnd (je cs u.pa (grw l)) l=none:=AF (fun _=>rfl) ef;refine⟨_,_,_,_,hp2,T.bR,T.bI,lkp _,d,_,rfl,DPut.k (k:=.inr ⟨⟨l⟩⟩) J2.dc smk,?_⟩;rw[uE ef1 c rfl];have J3:=J1.more kp0 (c:=c) ef1 hx (dB hb) ⟨⟨dx1,h1⟩,h2⟩;rw[pu]at J3 |-
  exact k c _ rfl rfl rfl rfl rfl (n58 _ hx) (n58 _ (dB hb)) J3 ((K1.trans (kp0.mono (fun _ h=>nomatch h))).put (.head _)) (al hN' rfl)
 obtain⟨u4,hu4,c4⟩:=c4;refine⟨_,(af (bi (EQ (aX (bS K HU) (aI (cq K) rfl T.eJ de (fa1 (aF (uo T) hr av (fa1 (fv 1))))) ae)) (ah iq) aL)
  (af (bi (L2.PW.pt (rl (gZ (kg (fv 2))) (nA (bP (bM (aF (cE T) hr av (fa1 (fv 2)))))))) (ah (jz T.d7 T.df d5)) aL)
  (af (bi (bP (bM (aF (gg T) hr av (fa1 (fv 3))))) (ah (jz T.iM T.gr d5)) aL)
  (af (bi (gZ (wK (Zz HU) (fv 1) (bx K (fv 0))) (by with_unfolding_all rfl)) (ah iq) aL)
  hu4)))),?_⟩
 walk_at "q";refine⟨hN,hN,hl,e,fun q hq=>?_⟩;refine⟨_,.inl (az aa),H,Gc.none (aj _ hq),?_⟩;rw[zV,el,hV hn,zA,VZ (by
  have hp:0<(spN 58 v).length:=Y4.mpr (iV 58 v);simp only[v6];lia)]
 rw[<- el];refine itp hz ?_;have ed:amg (.int day) 0 146096=true:=by show(decide (0<=day)&&decide (day<=146096))=true;rw[VX hd.1,VX hd.2];rfl
 rw[ed];refine⟨hN,itn (by decide) ⟨_,_,_,_,hp,T.bR,T.bI,lkp _,d,_,rfl,DGet.k (k:=.inr ⟨⟨l⟩⟩) J.dc,?_⟩⟩;rw[iZ,YA,ef,VZ (by intro z;cases z)];exact c4
end
section
variable{P:WF}{w:WE}{K:Ws}{mg:Str->Option WI}{base:Wz}{a:Adr}
def CAt.shutA{C A:WH}{H:Hp}{p d:WH}{cs:List Acc}(J:CAt C A H p d cs){u:Acc}(hu:u∈cs)(t:Int){dx:WH}(ho:H u.ob=some (.ins A dx (hZ u.ki u.cu (.int u.fi) (cl u.un) (.ref u.bl)))):CAt C A (upd H u.ob (.ins A dx (hZ u.ki u.cu (.int u.fi) (.int t) (.ref u.bl)))) p d (je cs u.pa (shu t)):=by
 have pob:p≠u.ob\/p=u.ob:=(Decidable.em _).symm;refine⟨?_,?_,fun z hz=>?_,?_,?_,?_⟩
 .obtain⟨dp,e⟩:=J.ob
  have:p≠u.ob:=gK e ho;exact⟨dp,(ag this).trans e⟩
 .rw[cK (f:=shu t) kyA fun _=>rfl,ag (Wc (J.ob_d hu))];exact J.dc
 .obtain⟨y,hy,e⟩:=d9 hz
  obtain⟨dy,hoy⟩:=(J.ac y hy).ob;by_cases h:y.pa=u.pa
  .have:y=u:=i7 J.np hy hu h
   subst this;rw[VY rfl]at e;subst e;exact⟨⟨dx,aa⟩,(ag (Wc (J.ob_bl hy hu))).trans (J.ac y hy).ls⟩
  .rw[VZ h]at e
   subst e;have nb:z.ob≠u.ob:=fun q=>h (by rw[i7 J.na hy hu q]);exact⟨⟨dy,(ag nb).trans hoy⟩,(ag (Wc (J.ob_bl hu hy))).trans (J.ac z hy).ls⟩
 .rw[cK (f:=shu t) _ fun _=>rfl];exact J.np
 .rw[cK (f:=shu t) _ fun _=>rfl];exact J.na
 .rw[cK (f:=shu t) _ fun _=>rfl];exact J.nb
def sp_DB(C A:WH):Sp:=sp3 fun x y z H Q _=>WM H/\asR x fun p=>asT y fun l=>((∀c∈l,c<128)/\l.length<=199)/\asI z fun day=>(0<=day/\day<=146096)/\∃d cs u,CAt C A H p d cs/\u∈cs/\u.pa=l/\iW l=true/\u.un=none/\u.fi<day/\u.be=[] /\
 ∀H',CAt C A H' p d (je cs l (shu day))->WS (cs.map (·.ob)) H H'->WM H'->Q .non H'
def pw(T:Txt K mg a):Mo P w K mg base a.a7 "shut" 6 (sp_DB a.a7 a.aN):=by
 refine T.qP.hx ["self","path","day","account"] (gX3 fun x0 x1 x2 fA WW A WX s H Q E ND HU hr h=>?_);obtain⟨hN,h1⟩:=h;obtain⟨p,rfl,h2⟩:=aQ h1;obtain⟨l,rfl,hl,h3⟩:=bt h2;obtain⟨day,rfl,hd,d,cs,u,J,hu,pu,e,un,uf,ub,k⟩:=ba h3;obtain⟨dx,hp⟩:=J.ob;refine⟨_,(af (bi (bP (bM (aF (nS T) hr av (fa1 (fv 1))))) (ah iq) aL)
  (af (aE 3 ND (cZ (fv 0) T.bR (gB T) hr.mono av (fa1 (fv 1))))
  (af (bi (L2.PW.pt (gm (bP (bM (aF (gg T) hr av (fa1 (fv 2))))) (f8 (aX fO (fv 2) (bx K (fv 3)))))) (ah (jz T.iM T.gr d5)) aL)
  (af (bi (gZ (kg (bx K (fv 3)))) (ah iq) aL)
  (af (bi (EQ (bM (aI (Ey K rfl) rfl T.Id Fu (fa1 (cL rfl (cl:=_) (x:="lower") (xs:=["lower"]) (fr:=["day","self"]) (ks:=[2,0]) (by walk_at "k") rfl (bA K (bx K (fv 3))) (fun _ _ _ _ _=>(aK (i:=0) (d_ (l:=["lower","day","self"]) (by decide)) rfl (Wb rfl))) (fun _ _ _ _ _=>eR) (fun _ _ _ _ _=>(cZ (aT (Zz HU) (bx K (fv 2)) (fv 0) (fun _ _=>rfl)) T.br (gu T) hr.mono AL (fa1 (fv 1))))))))) (ah iq) aL)
  (ah (dS K (fv 3) (fv 2)))))))),?_⟩
 walk_at "d";refine⟨hN,hl,itn (by rw[e];decide) ?_⟩;refine⟨_,_,hp,oR _,hN,d,cs,u,J,hu,pu,?_⟩;obtain⟨du,ho⟩:=(J.ac u hu).ob;refine⟨hN,?_⟩;have ed:amg (.int day) 0 146096=true:=by show(decide (0<=day)&&decide (day<=146096))=true;rw[VX hd.1,VX hd.2];rfl
 rw[ed];refine itn (by decide) ⟨_,_,_,_,ho,T.br,T.eI,ff ..,?_⟩;walk_at "d";refine itn (by lia) ⟨_,_,_,_,ho,T.br,T.b_,fu ..,?_⟩;rw[un];refine itp rfl ⟨hN,?_⟩;have hb:SqL K H u.bl []:=az (by rw[(J.ac u hu).ls,ub];rfl);refine cmL u.bl [] (fun H'=>SqL K H' u.bl []) (fun D ys hD=>hb.same (aj _ hD)) (fun H' c=>c) (fun _=>true) (fun x=>x) (fun R r=>?_) hb (tB _) (fun x hx=>nomatch hx) (fun x hx=>nomatch hx) (fun D hD=>?_)
 .walk_at "d"
  exact⟨_,_,_,_,ho,T.br,T.eB,fb ..,r⟩
 .refine⟨[],az aa,H,Gc.none (aj _ hD),itn (by decide) ⟨_,_,_,ho,T.br,T.b_,by show 5<1000;decide,?_⟩⟩
  rw[JT];have J1:=J.shutA hu day ho;rw[pu]at J1;exact k _ J1 (WS.refl.put (uO hu)) (al hN rfl)
end
local macro_rules | `(tactic| walk_at "z") => `(tactic| ((try with_reducible refine goH ?_); (try dsimp only [↓o_]); (try dsimp only [Int.reduceNeg, Int.reducePow, Nat.reducePow, o_])))
section
variable{P:WF}{w:WE}{K:Ws}{mg:Str->Option WI}{base:Wz}{a:Adr}
open K3
noncomputable def JF(C dx b u:WH):HO:=.ins C dx [("bookings",.ref b),("undoings",.ref u)]
def lkb(x y:V):qW (zR "bookings") [(zR "bookings",x),(zR "undoings",y)]=some x:=by simp[qW]
def lku(x y:V):qW (zR "undoings") [(zR "bookings",x),(zR "undoings",y)]=some y:=by rw[aZ (by decide +kernel)];exact iY
structure JAt(C:WH)(H:Hp)(p b u:WH)(bs:List V)(WU:List (Key × V)):Prop where
 ob:∃dx,H p=some (JF C dx b u)
 ls:H b=some (.lst bs)
 dc:H u=some (.dK WU)
def JAt.keep{C:WH}{S:List WH}{H H':Hp}{p b u:WH}{bs:List V}{WU:List (Key × V)}(j:JAt C H p b u bs WU)(x:WS S H H')(hp:p∉S)(hb:b∉S)(hu:u∉S):JAt C H' p b u bs WU:=
 ⟨by obtain⟨dx,e⟩:=j.ob;exact⟨dx,x _ _ e hp⟩,x _ _ j.ls hb,x _ _ j.dc hu⟩
def sp_zd(C:WH):Sp:=sp1 fun x H Q _=>WM H/\asR x fun p=>∃dx,H p=some (.ins C dx [])/\∀b u H',H b=none->H u=none->JAt C H' p b u [] []->WS [p] H H'->WM H'->Q .non H'
def jf(T:Txt K mg a):Mo P w K mg base a.bg "__init__" 1 (sp_zd a.bg):=by
 refine T.jH.hx ["self"] (gX1 fun x0 fA WW A WX s H Q E ND HU hr h=>?_);obtain⟨hN,h1⟩:=h;obtain⟨p,rfl,dx,hp,k⟩:=aQ h1;refine⟨_,(af (dS K (fv 0) (cy (FA.pa c_)))
  (ah (dS K (fv 0) dq))),?_⟩
 walk_at "z";refine⟨tB _,fun b hb=>?_⟩;have np:p≠b:=aq hp hb;refine⟨_,_,_,(ag np).trans hp,T.cQ,T.cI,by show 0<1000;decide,fun u hu=>?_⟩;have nu:p≠u:=fun q=>by rw[<- q,aa]at hu;cases hu
 have nb:b≠u:=fun q=>by rw[<- q,ag (Wc np),aa]at hu;cases hu
 refine⟨_,_,_,(ag nu).trans aa,T.cQ,T.fK,by show 1<1000;decide,?_⟩;have hu0:H u=none:=by
  rw[ag (Wc nu),ag (Wc nb)]at hu;exact hu
 refine k b u _ hb hu0 ⟨⟨dx,?_⟩,?_,?_⟩ ?_ ?_
 .rw[aa]
  have e:cW (zR "undoings") (V.ref u) (cW (zR "bookings") (V.ref b) [])=[(zR "bookings",.ref b),(zR "undoings",.ref u)]:=by
   have q:¬ (zR "bookings" = zR "undoings"):=by decide +kernel
   simp[cW,q]
  rw[e];rfl
 .rw[ag (Wc np),ag nb,ag (Wc np),aa]
 .rw[ag (Wc nu),aa]
 .exact(((WS.refl.new hb).put (zh.2 rfl)).new hu).put (zh.2 rfl)
 .exact al (al (al (al hN rfl) rfl) rfl) rfl
def sp_zR(K:Ws)(C:WH):Sp:=sp5 fun x d n r o H Q _=>WM H/\asR x fun p=>asR r fun r=>∃b u bs WU rs,JAt C H p b u bs WU/\bs.length<=100/\WU.length<=100/\(SqL K H r rs\/H r=some (.tup rs))/\(o = .non\/∃i,o = .int i) /\
 ∀t q H',H t=none\/H t=some (.tup rs)->H' t=some (.tup rs)->H q=none->H' q=some (.tup [.int bs.length,d,n,.ref t,o])->JAt C H' p b u (bs++[.ref q]) (match o with | .int i=>bD WU (.inl i) (.int bs.length)|_=>WU)->WS [b,u] H H'->WM H'->Q (.int bs.length) H'
def nQ(T:Txt K mg a):Mo P w K mg base a.bg "put" 1 (sp_zR K a.bg):=by
 refine T.pQ.hx ["self","day","note","rows","undoes","number"] (gX5 fun x0 x1 x2 x3 x4 fA WW A WX s H Q E ND HU hr h=>?_);obtain⟨hN,h1⟩:=h;obtain⟨p,rfl,h2⟩:=aQ h1;obtain⟨r,rfl,b,u,bs,WU,rs,J,l1,l2,hs,ho,k⟩:=aQ h2;obtain⟨dx,hp⟩:=J.ob;refine⟨_,(af (aE 5 ND (aI (cq K) rfl T.eJ de (fa1 (bx K (fv 0)))))
  (af (bH (cD K Zm Zg Zh cz (bx K (fv 0)) (fa1 (bZ (fa5 (fv 5) (fv 1) (fv 2) (dW (BO K) rfl T.xG uv (fa1 (fv 3))) (fv 4))))))
  (af (bi (gZ (kg (fv 4))) (ah (cj (Zz HU) (bx K (fv 0)) (fv 4) (fv 5) rfl)) aL)
  (ah (aB (fv 5)))))),?_⟩
 walk_at "d";refine⟨_,_,_,_,hp,T.cQ,T.cI,lkb _ _,bs,.inl (.inl (.inl J.ls)),_,_,_,_,hp,T.cQ,T.cI,lkb _ _,.inl ⟨rfl,bs,.inl (.inl J.ls)⟩,rs,?_⟩;have five:5<=WC:=by rw[ue];decide
 have sml:bs.length<WC:=by rw[ue];lia
 have smk:WU.length<WC:=by rw[ue];lia
 have nb:p≠b:=gK hp J.ls;have nu:p≠u:=gK hp J.dc;have bu:b≠u:=gK J.ls J.dc;have fin:∀t H1,H t=none\/H t=some (.tup rs)->H1 t=some (.tup rs)->WT H H1->WM H1->∀q,H1 q=none->∃l xs y,V.ref b=V.ref l/\V.ref q=y/\upd H1 q (HO.tup [.int bs.length,x1,x2,V.ref t,x4]) l=some (HO.lst xs)/\xs.length<WC /\
  if x4=V.non then Q (.int bs.length) (upd (upd H1 q (HO.tup [.int bs.length,x1,x2,V.ref t,x4])) l (HO.lst (xs++[y]))) else
   ∃C dx fs v,upd (upd H1 q (HO.tup [V.int bs.length,x1,x2,V.ref t,x4])) l (HO.lst (xs++[y])) p=some (HO.ins C dx fs)/\Cls K C/\NoAttr K C (zR "undoings")/\qW (zR "undoings") fs=some v /\
    ∃a H4,v=V.ref a/\DPut (upd (upd H1 q (HO.tup [V.int bs.length,x1,x2,V.ref t,x4])) l (HO.lst (xs++[y]))) a x4 (V.int bs.length) H4/\Q (V.int bs.length) H4:=by
  intro t H1 ht1 ht2 kp n1 q hq;have mb:b∈[b,u]:=.head _;have mu:u∈[b,u]:=.tail _ (.head _);have hp1:=kp _ _ hp;have hb1:=kp _ _ J.ls;have hu1:=kp _ _ J.dc;have qb:b≠q:=aq hb1 hq;have qu:u≠q:=aq hu1 hq;have qp:p≠q:=aq hp1 hq;have qt:t≠q:=aq ht2 hq;have tb:t≠b:=gK ht2 hb1;have tu:t≠u:=gK ht2 hu1;have q0:H q=none:=kp.free hq;generalize hz:HO.tup [V.int bs.length,x1,x2,V.ref t,x4]=z at *;have dz:dw z=true:=by rw[<- hz];rfl
  refine⟨b,bs,_,rfl,rfl,(ag qb).trans hb1,sml,?_⟩;have K2:WS [b,u] H (upd (upd H1 q z) b (.lst (bs++[.ref q]))):=((bL kp).new hq).put mb;have N2:WM (upd (upd H1 q z) b (.lst (bs++[.ref q]))):=al (al n1 dz) rfl;obtain rfl|⟨i,rfl⟩:=ho
  .rw[VY rfl]
   refine k t q _ ht1 ?_ q0 ?_ ⟨⟨dx,?_⟩,aa,?_⟩ K2 N2
   .rw[ag tb,ag qt];exact ht2
   .rw[ag (Wc qb),aa,hz]
   .rw[ag nb,ag qp];exact hp1
   .rw[ag (Wc bu),ag qu];exact hu1
  .rw[VZ (by intro z;cases z)]
   refine⟨_,dx,[(zR "bookings",.ref b),(zR "undoings",.ref u)],_,?_,T.cQ,T.fK,lku _ _,u,_,rfl,DPut.k (k:=.inl i) (WU:=WU) ?_ smk,?_⟩
   .rw[ag nb,ag qp];exact hp1
   .rw[ag (Wc bu),ag qu];exact hu1
   .refine k t q _ ht1 ?_ q0 ?_ ⟨⟨dx,?_⟩,?_,aa⟩ (K2.put mu) (al N2 rfl)
    .rw[ag tu,ag tb,ag qt];exact ht2
    .rw[ag (Wc qu),ag (Wc qb),aa,hz]
    .rw[ag nu,ag nb,ag qp];exact hp1
    .rw[ag bu,aa]
 obtain hs|hs:=hs
 .refine .inl ⟨hs,fun l hl=>⟨five,fin l _ (.inl hl) aa (aj _ hl) (al hN rfl)⟩⟩
 .exact .inr ⟨.inl (.inl hs),five,fin r _ (.inr hs) hs (WT.refl _) hN⟩
def sp_v6(C:WH):Sp:=sp1 fun x H Q _=>WM H/\asR x fun p=>∃b u bs WU,JAt C H p b u bs WU/\∀q,H q=none->Q (.ref q) (upd H q (.lst bs))
def lY(T:Txt K mg a):Mo P w K mg base a.bg "every" 1 (sp_v6 a.bg):=by
 refine T.mW.hg ["self"] (gG1 fun x0 fA WW A WX s H Q E ND HU hr h=>?_);obtain⟨hN,h1⟩:=h;refine bE (aQ h1) fun p yy1 yz=>Js yz fun b u bs WU J k=>?_;subst yy1;obtain⟨dx,hp⟩:=J.ob;refine⟨hN,_,(ah (aB (dW (rR K) rfl T.ra nL (fa1 (bx K (fv 0)))))),?_⟩;walk_at "z";exact⟨_,_,_,_,hp,T.cQ,T.cI,lkb _ _,bs,.inl (.inl (.inl J.ls)),fun l hl=>⟨_,Gc.one (aj _ hl) hl aa rfl,k l hl⟩⟩
def bX{H H':Hp}{D:WH}{o:HO}(s:WT H H')(h:H D=none):WT H (upd H' D o):=fun c z e=>by
 rw[ag (aq e h)];exact s c z e
def WR(H:Hp)(v:V)(r:Row):Prop:=∃q,v = .ref q/\H q=some (.tup [VS r.pa,VS r.cu,.int r.am])
structure Bo where
 k:Int
 d:Int
 rs:List Row
 un:Option Int
def BkAt(H:Hp)(v:V)(b:Bo):Prop:=∃q t vs nt,v = .ref q/\H q=some (.tup [.int b.k,.int b.d,VS nt,.ref t,cl b.un])/\H t=some (.tup vs)/\A2 (WR H) vs b.rs
def LW(W:List WH)(H:Hp):Prop:=∀s∈W,∃l,H s=some (.lst l)
def LW.nil{H:Hp}:LW [] H:=fun _ h=>nomatch h
def LW.one{H:Hp}{s:WH}{xs:List V}(h:H s=some (.lst xs)):LW [s] H:=fun z m=>by rw[zh.mp m];exact⟨_,h⟩
def LW.no{W:List WH}{H:Hp}(t:LW W H){q:WH}{o:HO}(h:H q=some o)(n:∀l,o ≠ .lst l):q∉W:=fun m=>by
 obtain⟨l,e⟩:=t q m;rw[h]at e;cases e;exact n _ rfl
def LW.tup{W:List WH}{H:Hp}(t:LW W H){q:WH}{l:List V}(h:H q=some (.tup l)):q∉W:=t.no h (by intro _ z;cases z)
def LW.new{W:List WH}{H:Hp}(t:LW W H){q:WH}(h:H q=none):q∉W:=fun m=>by
 obtain⟨l,e⟩:=t q m;rw[h]at e;cases e
section
variable{W:List WH}{H H':Hp}(x:WS W H H')(t:LW W H)
include x t
def WR.keep{v:V}{r:Row}(h:WR H v r):WR H' v r:=by
 obtain⟨q,rfl,e⟩:=h;exact⟨q,rfl,x _ _ e (t.tup e)⟩
def eV{vs:List V}{rs:List Row}(h:A2 (WR H) vs rs):A2 (WR H') vs rs:=h.imp fun _ _ _ _ r=>r.keep x t
def BkAt.keep{v:V}{b:Bo}(h:BkAt H v b):BkAt H' v b:=by
 obtain⟨q,u,vs,nt,rfl,e1,e2,r⟩:=h;exact⟨q,u,vs,nt,rfl,x _ _ e1 (t.tup e1),x _ _ e2 (t.tup e2),eV x t r⟩
def uU{vs:List V}{bs:List Bo}(h:A2 (BkAt H) vs bs):A2 (BkAt H') vs bs:=h.imp fun _ _ _ _ r=>r.keep x t
end
def gJ{H H':Hp}(s:WT H H'){vs:List V}{rs:List Row}(h:A2 (WR H) vs rs):A2 (WR H') vs rs:=eV (W:=[]) (bL s) LW.nil h
def zS{H H':Hp}(s:WT H H'){vs:List V}{bs:List Bo}(h:A2 (BkAt H) vs bs):A2 (BkAt H') vs bs:=uU (W:=[]) (bL s) LW.nil h
def bO{α:Type}{l:List α}{i:Nat}{x:α}(h:l[i]? = some x):l.take (i+1)=l.take i++[x]:=by rw[YN,h];rfl
def wR(o:Option Int)(j:Int):(o.map V.int).getD (.int j) = .int (o.getD j):=by cases o <;> rfl
def JE(H:Hp)(Q:VK)(rs:List Row):Prop:=∀out r ws H',out.Perm ((dk rs).map (·.1))->r9 out->H r=none->H' r=some (.lst ws)->A2 (WR H') ws (res rs out)->WT H H'->WM H'->Q (.ref r) H'
noncomputable def flt(H H':Hp):Hp:=fun p=>match H p with
 |some o=>some o
 |none=>match H' p with
  |some o=>if iQ o=true then some o else none
  |none=>none
def xT{H H':Hp}{p:WH}{o:HO}(h:H p=some o):flt H H' p=some o:=by unfold flt;rw[h]
def AU{H H':Hp}(s:WT H H'){p:WH}{o:HO}(h:H' p=some o)(n:iQ o=true):flt H H' p=some o:=by
 cases e:H p with
 |some z=>rw[s _ _ e]at h;cases h;exact xT e
 |none=>unfold flt;simp only[e,h,n,if_true]
def rB{H H':Hp}{p:WH}{o:HO}(h:flt H H' p=some o):H p=some o\/(H' p=some o/\iQ o=true):=by
 unfold flt at h;cases e:H p with
 |some z=>rw[e]at h;exact .inl h
 |none=>
  simp only[e]at h;cases e2:H' p with
  |none=>rw[e2]at h;cases h
  |some z=>
   simp only[e2]at h;split at h
   .rename_i q;cases h;exact .inr ⟨rfl,q⟩
   .cases h
def Gc.flt{H H':Hp}(s:WT H H'):Gc H (flt H H') H':=⟨fun _ _ e=>xT e,fun p o e=>(rB e).elim (s p o) (·.1),fun p o e=>(rB e).imp id (·.2)⟩
def CU{H H':Hp}(n:WM H):WM (flt H H'):=fun p o e=>by
 obtain q|⟨_,q⟩:=rB e
 .exact n p o q
 .cases o <;> first|rfl|cases q
def AZ{H H':Hp}(s:WT H H'){vs:List V}{rs:List Row}(h:A2 (WR H') vs rs):A2 (WR (flt H H')) vs rs:=h.imp fun _ _ _ _ ⟨q,e,r⟩=>⟨q,e,AU s r rfl⟩
def BQ{H0 F:Hp}{D p:WH}{ys:List V}{rs:List Row}(r:Row)(s:WT H0 F)(fD:H0 D=none)(hD:F D=some (.lst ys))(hp:F p=none)(aw:A2 (WR F) ys rs) :
 upd F p (.tup [VS r.pa,VS r.cu,.int r.am]) D=some (.lst ys)/\WT H0 (upd (upd F p (.tup [VS r.pa,VS r.cu,.int r.am])) D (.lst (ys++[.ref p])))/\A2 (WR (upd (upd F p (.tup [VS r.pa,VS r.cu,.int r.am])) D (.lst (ys++[.ref p])))) (ys++[.ref p]) (rs++[r]):=by
 have s1:=aj (HO.tup [VS r.pa,VS r.cu,.int r.am]) hp;have hD1:=s1 _ _ hD;have kp:WS [D] (upd F p (.tup [VS r.pa,VS r.cu,.int r.am])) (upd (upd F p (.tup [VS r.pa,VS r.cu,.int r.am])) D (.lst (ys++[.ref p]))):=WS.refl.put (.head _);exact⟨hD1,bX (s.trans s1) fD,(eV kp (LW.one hD1) (gJ s1 aw)).snoc ⟨p,rfl,(ag (Wc (aq hD hp))).trans aa⟩⟩
def sp_De:Sp:=sp1 fun x H Q _=>WM H/\asR x fun p=>∃vs rs,H p=some (.lst vs)/\A2 (WR H) vs rs/\rs.length<=1000/\(dk rs).length<64/\JE H Q rs
def AD(d:List (Pt × Int)):(d.map eP).map (·.1)=(d.map (·.1)).map kP:=by rw[vN,vN];rfl
def vG(T:Txt K mg a):Fo P w K mg base "sums_of" 1 sp_De:=by
 refine T.zt.hg ["rows","together","path","currency","amount"] (gG1 fun x0 fA WW A WX s H Q E ND HU hr h=>?_);obtain⟨hN,h1⟩:=h;obtain⟨p,rfl,vs,rs,hp,ha,len,l64,k⟩:=aQ h1;have sz:=szl;refine⟨hN,_,(af (aE 1 ND n9)
  (af (bY (by passes_own) rfl (bA K (fv 0)) (eT K (n:=3) rfl (bz (aK (i:=2) ND rfl (Wb rfl)) (bz (aK (i:=3) ND rfl (Wb rfl)) (bz (aK (i:=4) ND rfl (Wb rfl)) eU)))) (ah (cj (Zz HU) (fv 1) (bZ (fa2 (fv 2) (fv 3))) (ai aP (cR (Zz HU) (fv 1) (bZ (fa2 (fv 2) (fv 3))) ae ⟨rfl,rfl,rfl,rfl⟩) (fv 4)) rfl)))
  (ah (aB (cL rfl (cl:=_) (x:="path") (xs:=["path","currency"]) (fr:=["together"]) (ks:=[1]) (by walk_at "k") rfl (bA K (aI (yQ rfl) rfl T.jU i5 (fa1 (fv 1)))) (fun _ _ _ _ _=>(eT K (n:=2) rfl (bz (aK (i:=0) (d_ (l:=["path","currency","together"]) (by decide)) rfl (Wb rfl)) (bz (aK (i:=1) (d_ (l:=["path","currency","together"]) (by decide)) rfl (Wb rfl)) eU)))) (fun _ _ _ _ _=>(hU (aX (fT K HU) (aT (Zz HU) (fv 2) (bZ (fa2 (fv 0) (fv 1))) (fun _ _=>rfl)) ae))) (fun _ _ _ _ _=>(bZ (fa3 (fv 0) (fv 1) (aT (Zz HU) (fv 2) (bZ (fa2 (fv 0) (fv 1))) (fun _ _=>rfl)))))))))),?_⟩
 walk_at "z";intro d hd;refine cf ?_;walk_at "z";refine cN (az ((aj _ hd) _ _ hp)) (cM (fun i σ' H'=>WT H H'/\∃x2 x3 x4,H' d=some (.dT ((dk (rs.take i)).map eP))/\σ'=[some (.ref p),some (.ref d),x2,x3,x4]) ⟨aj _ hd,none,none,none,aa,rfl⟩ (fun i σ' H' _ h=>az (h.1 _ _ hp)) ?_ ?_)
 .rintro i x σ' H' hx ⟨sm,x2,x3,x4,hd',rfl⟩
  refine bE (ha.at_ hx) fun r hr yz=>bE yz fun q yy1 hq=>?_;subst yy1;have hq':=sm _ _ hq;walk_at "z";refine⟨_,_,rfl,bF hq',rfl,_,_,rfl,_,_,rfl,_,_,rfl,rfl,?_⟩;walk_at "q";have l1:=(mH (rs.take i)).2.2;have l2:(rs.take i).length<=1000:=by rw[Zv];lia
  refine⟨.inr ⟨_,.inl hd'⟩,by walk_at "o",fun p1 hp1=>⟨_,DGet.t (k:=kP (r.pa,r.cu)) ((aj _ hp1) _ _ hd') aa,?_⟩⟩;rw[ei,wR];walk_at "z";have s1:=aj (HO.tup [VS r.pa,VS r.cu]) hp1;refine⟨by walk_at "o",fun p2 hp2=>?_⟩;have s2:=s1.trans (aj (HO.tup [VS r.pa,VS r.cu]) hp2);refine⟨d,_,rfl,DPut.t (k:=kP (r.pa,r.cu)) (s2 _ _ hd') aa (by rw[zV,ue];lia),?_⟩;rw[nU];refine⟨bX (sm.trans s2) hd,_,_,_,?_,rfl,rfl,rfl⟩;rw[aa,bO hr,nN];rfl
 .rintro σ' H' ⟨sm,x2,x3,x4,hd',rfl⟩
  rw[ha.len,Zp]at hd';walk_at "z";refine qi ?_;walk_at "q";refine⟨_,(dk rs).map (·.1),hd',AD _,by rw[zV];exact l64,fun out as po oo ao l hl=>?_⟩;have sl:=aj (HO.lst (as.map V.ref)) hl;have lo:=po.length_eq;rw[zV]at lo;have la:=ao.len;refine⟨⟨_,az aa⟩,wY l (as.map V.ref) (fun D i ys G=>WT (upd H' l (.lst (as.map V.ref))) G/\G D=some (.lst ys)/\upd H' l (.lst (as.map V.ref)) D=none/\A2 (WR G) ys (res rs (out.take i))) (by rw[zV,ue];lia) (fun D hD=>⟨aj _ hD,aa,hD,.nil⟩) (fun D i ys G h=>⟨h.2.1,az (h.1 _ _ aa),?_⟩) ?_ ?_⟩
  .rw[h.2.2.2.len]
   exact wG (sw _ _) (by rw[Zv];lia)
  .rintro D i y ys G zs N1 N0 hy ⟨sG,hD,fD,aG⟩ hz n1 n0
   rw[Wm]at hy;obtain⟨b,hb,rfl⟩:=sx.mp hy;obtain⟨e,he,kb⟩:=ao.at_ hb;have kG:=sG _ _ (sl _ _ kb);have dG:=sG _ _ (sl _ _ hd');have ve:=FR (po.mem_iff.mp (yo he));obtain⟨z1,z2,rfl⟩:=ex2 hz;walk_at "z";refine⟨_,_,rfl,bF kG,rfl,_,_,rfl,_,_,rfl,rfl,?_⟩;walk_at "z";have gd:∀(F:Hp) (q:WH),KAt F q e->F d=some (.dT ((dk (rs)).map eP))->DGet F d (.ref q) (some (.int (val (rs) e))):=fun F q h1 h2=>by
    have g:=DGet.t (k:=kP e) h2 h1
    rwa [ei,ve]at g
   rw[bO he,oJ]at n1 n0;refine⟨⟨[some (VS e.1),some (VS e.2)],rfl,rfl⟩,by walk_at "o",fun p1 hp1=>?_⟩;have s1:=aj (HO.tup (tP e)) hp1;refine⟨d,_,rfl,gd _ p1 aa (s1 _ _ dG),?_⟩;walk_at "q";by_cases hv:val rs e=0
   .rw[VZ fun z=>z hv,Za]at n0
    exact itp hv (n0 _ ⟨sG.trans s1,s1 _ _ hD,fD,gJ s1 aG⟩)
   .rw[VY hv]at n1
    refine itn hv ⟨by walk_at "o",fun p2 hp2=>?_⟩;have s2:=s1.trans (aj (HO.tup (tP e)) hp2);refine⟨d,_,rfl,gd _ p2 aa (s2 _ _ dG),by walk_at "o",fun p3 hp3=>?_⟩;obtain⟨m1,m2,m3⟩:=BQ ⟨e.1,e.2,val rs e⟩ (sG.trans s2) fD (s2 _ _ hD) hp3 (gJ s2 aG);exact n1 _ _ m1 ⟨m2,aa,fD,m3⟩
  .rintro D ys G ⟨sG,hD,fD,aG⟩
   rw[zV,la,Zp]at aG;have sg:=(sm.trans sl).trans sG;exact⟨_,Gc.flt sg,k out D ys _ po oo ((sm.trans sl).free fD) (AU sg hD rfl) (AZ sg aG) (Gc.flt sg).a (CU hN)⟩
noncomputable def ev(rs:List Row):List Row:=rs.map fun r=>⟨[],r.cu,r.am⟩
def WR.mv(G G':Hp)(v:V)(r:Row)(k:∀t l,G t=some (.tup l)->G' t=some (.tup l))(h:WR G v r):WR G' v r:=by
 obtain⟨q,e,h⟩:=h;exact⟨q,e,k _ _ h⟩
def NoB(b:WH)(H:Hp):Prop:=∀c o,H c=some o->c≠b->dw o=true
def NoB.frz{b:WH}{H:Hp}(n:NoB b H)(o:Obj)(u:HO):WM (upd H b (.frz o u)):=fun c z e=>by
 by_cases h:c=b
 .rw[h,aa]at e;cases e;rfl
 .rw[ag h]at e;exact n c z e h
def NoB.thw{b:WH}{H:Hp}(n:WM H)(u:HO):NoB b (upd H b u):=fun c z e h=>by
 rw[ag h]at e;exact n c z e
def NoB.upd{b c:WH}{H:Hp}{o:HO}(n:NoB b H)(d:dw o=true):NoB b (upd H c o):=fun e z h nb=>by
 by_cases q:e=c
 .rw[q,aa]at h;cases h;exact d
 .rw[ag q]at h;exact n e z h nb
def NoB.of{b:WH}{H:Hp}(n:WM H):NoB b H:=fun c z e _=>n c z e
def fG{b:WH}{H:Hp}{u z:HO}(h:H b=some u):upd (upd H b z) b u=H:=by
 funext c;by_cases e:c=b
 .rw[e,aa,h]
 .rw[ag e,ag e]
def uw{H:Hp}{b e:WH}{WU:List (List Key × V)}{o:HO}(h:Rd H b (.dT WU))(he:H e=some o)(n:dw o=true)(nf:∀x u,o ≠ .frz x u):b≠e:=fun z=>by
 subst z;obtain h|⟨x,h⟩:=h
 .rw[h]at he;cases he;cases n
 .rw[h]at he;cases he;exact nf _ _ rfl
def FS{H:Hp}{b e:WH}{u o:HO}(h:Rd H b u)(n:b≠e):Rd (upd H e o) b u:=by
 obtain h|⟨x,h⟩:=h
 .exact .inl ((ag n).trans h)
 .exact .inr ⟨x,(ag n).trans h⟩
def NoB.updb{b:WH}{H:Hp}{o:HO}(n:NoB b H):NoB b (L2.upd H b o):=fun e z h nb=>by
 rw[ag nb]at h;exact n e z h nb
abbrev lN:=List Nat->List Nat->Int->Option Wt
abbrev Kp(W:WH->Prop)(H H':Hp):Prop:=∀p o,H p=some o -> ¬ W p->H' p=some o
def fp{κ:Type}(WU:List (κ × V))(p:WH):Prop:=∃k,(k,V.ref p)∈WU
structure DM(H:Hp)(m:List (Key × V))(f:Int->Option Wt):Prop where
 nd:(m.map (·.1)).Nodup
 to:∀k v,(k,v)∈m->∃D w t,k = .inl D/\v = .ref t/\H t=some (.tup [.int w.1,.int w.2])/\f D=some w
 fr:∀D w,f D=some w->∃v,((.inl D:Key),v)∈m
def DM.mv{H H':Hp}{m:List (Key × V)}{f:Int->Option Wt}(h:DM H m f)(k:∀t l,H t=some (.tup l)->H' t=some (.tup l)):DM H' m f:=
 ⟨h.nd,fun k1 v m1=>let ⟨D,w,t,e1,e2,e3,e4⟩:=h.to k1 v m1;⟨D,w,t,e1,e2,k _ _ e3,e4⟩,h.fr⟩
def DM.put{H:Hp}{m:List (Key × V)}{f:Int->Option Wt}{d:Int}{tw:WH}{wt:Wt}(h:DM H m f)(ht:H tw=some (.tup [.int wt.1,.int wt.2])):DM H (bD m (.inl d) (.ref tw)) (fun D=>if D=d then some wt else f D):=by
 refine⟨uZ h.nd,fun k v m1=>?_,fun D w e=>?_⟩
 .obtain e|⟨m2,n⟩:=cC.mp m1
  .obtain⟨rfl,rfl⟩:=ZC e
   exact⟨d,wt,tw,rfl,rfl,ht,VY rfl⟩
  .refine Gs (h.to k v m2) fun D w t yy1 e2 e3 e4=>?_;subst yy1
   exact⟨D,w,t,rfl,e2,e3,by rw[VZ fun z=>n (by rw[z])];exact e4⟩
 .by_cases hD:D=d
  .subst hD;exact⟨_,cC.mpr (.inl rfl)⟩
  .rw[VZ hD]at e
   obtain⟨v,mv⟩:=h.fr D w e;exact⟨v,cC.mpr (.inr ⟨mv,fun z=>hD (Sum.inl.inj z)⟩)⟩
structure BP(H:Hp)(b:WH)(WU:List (List Key × V))(f:lN)(n:Nat):Prop where
 at_:Rd H b (.dT WU)
 nd:(WU.map (·.1)).Nodup
 len:WU.length<=n
 inj:∀k k' v,(k,v)∈WU->(k',v)∈WU->k=k'
 to:∀k v,(k,v)∈WU->∃x y e m,k=kP (x,y)/\x<y/\v = .ref e/\H e=some (.dK m)/\m.length<=n/\DM H m (f x y)
 fr:∀x y D w,x<y->f x y D=some w->∃v,(kP (x,y),v)∈WU
def BP.mv{H H':Hp}{b:WH}{WU:List (List Key × V)}{f:lN}{n:Nat}(h:BP H b WU f n)(rd:Rd H' b (.dT WU))(k:∀p o,H p=some o->(fp WU p\/∃l,o = .tup l)->H' p=some o):BP H' b WU f n:=
 ⟨rd,h.nd,h.len,h.inj,fun k1 v m1=>let ⟨x,y,e,m,e1,e2,e3,e4,e5,e6⟩:=h.to k1 v m1;⟨x,y,e,m,e1,e2,e3,k _ _ e4 (.inl ⟨k1,e3 ▸ m1⟩),e5,e6.mv fun t l z=>k _ _ z (.inr ⟨l,rfl⟩)⟩,h.fr⟩
def nI{H H':Hp}{b:WH}{u:HO}(h:Rd H b u)(s:WT H H'):Rd H' b u:=h.imp (fun e=>s _ _ e) fun⟨o,e⟩=>⟨o,s _ _ e⟩
def BP.same{H H':Hp}{b:WH}{WU:List (List Key × V)}{f:lN}{n:Nat}(h:BP H b WU f n)(s:WT H H'):BP H' b WU f n:=h.mv (nI h.at_ s) fun p o z _=>s p o z
def BP.le{H:Hp}{b:WH}{WU:List (List Key × V)}{f:lN}{n n':Nat}(h:BP H b WU f n)(l:n<=n'):BP H b WU f n':=
 ⟨h.at_,h.nd,wG h.len l,h.inj,fun k1 v m1=>let ⟨x,y,e,m,e1,e2,e3,e4,e5,e6⟩:=h.to k1 v m1;⟨x,y,e,m,e1,e2,e3,e4,wG e5 l,e6⟩,h.fr⟩
noncomputable def upf(f:lN)(x y:List Nat)(d:Int)(wt:Wt):lN:=fun x' y' D=>if x'=x/\y'=y/\D=d then some wt else f x' y' D
def BP.put{H:Hp}{b e tw:WH}{WU:List (List Key × V)}{f:lN}{n:Nat}{x y:List Nat}{m:List (Key × V)}{d:Int}{wt:Wt}(h:BP H b WU f n)(xy:x<y)(me:(kP (x,y),V.ref e)∈WU)(he:H e=some (.dK m))(ht:H tw=some (.tup [.int wt.1,.int wt.2])) :
 BP (upd H e (.dK (bD m (.inl d) (.ref tw)))) b WU (upf f x y d wt) (n+1):=by
 have tp:∀t l,H t=some (.tup l)->upd H e (.dK (bD m (.inl d) (.ref tw))) t=some (.tup l):=fun t l z=>by
  rw[ag (gL z he (fun q=>nomatch q))];exact z
 refine⟨FS h.at_ (uw h.at_ he rfl (by intro _ _ z;cases z)),h.nd,ZK h.len,h.inj,fun k v m1=>?_,fun x' y' D w' lt e1=>?_⟩
 .refine zF (h.to k v m1) fun x' y' e' m' yy1 lt yy2 h4 h5 h6=>?_;subst yy1 yy2
  by_cases ee:e'=e
  .subst ee
   rw[he]at h4;cases h4;obtain⟨rfl,rfl⟩:=ZC (jO (h.inj _ _ _ m1 me));refine⟨x',y',e',_,rfl,lt,rfl,aa,wG (rA _ _ _) (YU h5),?_⟩;have hf:upf f x' y' d wt x' y'=fun D=>if D=d then some wt else f x' y' D:=by
    funext D;unfold upf;by_cases hD:D=d
    .rw[VY ⟨rfl,rfl,hD⟩,VY hD]
    .rw[VZ fun z=>hD z.2.2,VZ hD]
   rw[hf];exact(h6.put ht).mv tp
  .refine⟨x',y',e',m',rfl,lt,rfl,(ag ee).trans h4,ZK h5,?_⟩
   have hf:upf f x y d wt x' y'=f x' y':=by
    funext D;unfold upf;refine VZ fun z=>ee ?_;obtain⟨rfl,rfl,_⟩:=z;exact V.ref.inj (vY h.nd m1 me)
   rw[hf];exact h6.mv tp
 .unfold upf at e1
  split at e1
  .rename_i c
   obtain⟨rfl,rfl,_⟩:=c;exact⟨_,me⟩
  .exact h.fr x' y' D w' lt e1
def BP.add{H:Hp}{b e:WH}{WU:List (List Key × V)}{f:lN}{n:Nat}{x y:List Nat}(h:BP H b WU f n)(hb:H b=some (.dT WU))(xy:x<y)(no:bG WU (kP (x,y))=none)(he:H e=some (.dK []))(ne:¬ fp WU e) :
 BP (upd H b (.dT (bD WU (kP (x,y)) (.ref e)))) b (bD WU (kP (x,y)) (.ref e)) f (n+1):=by
 have nb:∀ {p:WH} {o:HO},H p=some o->(∀l,o ≠ .dT l)->upd H b (.dT (bD WU (kP (x,y)) (.ref e))) p=some o:=fun {p o} z q=>by
  rw[ag (gL z hb (q _))];exact z
 refine⟨.inl aa,uZ h.nd,wG (rA _ _ _) (YU h.len),fun k k' v m1 m2=>?_,fun k v m1=>?_,fun x' y' D w' lt e1=>?_⟩
 .obtain e1|⟨m1,n1⟩:=cC.mp m1
  .obtain⟨rfl,rfl⟩:=ZC e1
   obtain e2|⟨m2,n2⟩:=cC.mp m2
   .exact(ZC e2).1.symm
   .exact VT ⟨_,m2⟩ ne
  .obtain e2|⟨m2,n2⟩:=cC.mp m2
   .obtain⟨rfl,rfl⟩:=ZC e2
    exact VT ⟨_,m1⟩ ne
   .exact h.inj _ _ _ m1 m2
 .obtain e1|⟨m1,n1⟩:=cC.mp m1
  .obtain⟨rfl,rfl⟩:=ZC e1
   refine⟨x,y,e,[],rfl,xy,rfl,nb he (fun _ z=>nomatch z),tB _,⟨ZQ,(fun _ _ z=>nomatch z),fun D w' z=>?_⟩⟩;obtain⟨v,mv⟩:=h.fr x y D w' xy z;exact VT mv (ic no)
  .refine zF (h.to k v m1) fun x' y' e' m' e1 lt e2 h4 h5 h6=>?_
   exact⟨x',y',e',m',e1,lt,e2,nb h4 (fun _ z=>nomatch z),ZK h5,h6.mv fun t l z=>nb z (fun _ q=>nomatch q)⟩
 .obtain⟨v,mv⟩:=h.fr x' y' D w' lt e1
  exact⟨v,cC.mpr (.inr ⟨mv,fun z=>ic no (v:=v) ((show kP (x',y')=kP (x,y) from z) ▸ mv)⟩)⟩
def TK(m:List (Key × V))(p:List Nat->Prop):Prop:=(m.map (·.1)).Nodup/\∀k,k∈m.map (·.1)↔∃y,k = .inr ⟨⟨y⟩⟩/\p y
def TK.put{m:List (Key × V)}{p:List Nat->Prop}{y:List Nat}{v:V}(h:TK m p):TK (bD m (.inr ⟨⟨y⟩⟩) v) (fun z=>p z\/z=y):=by
 refine⟨uZ h.1,fun k=>?_⟩;have e1:k∈(bD m (.inr ⟨⟨y⟩⟩) v).map (·.1)↔k∈m.map (·.1)\/k = .inr ⟨⟨y⟩⟩:=by
  rw[xD];split
  .rename_i c
   obtain⟨e,me,he⟩:=Yw.mp c;exact⟨.inl,fun z=>z.elim id fun z=>by rw[z,<- of_decide_eq_true he];exact yR.mpr ⟨e,me,rfl⟩⟩
  .rw[yy,zh]
 rw[e1,h.2 k];constructor
 .rintro(⟨z,e,q⟩|e)
  .exact⟨z,e,.inl q⟩
  .exact⟨y,e,.inr rfl⟩
 .rintro⟨z,e,q|rfl⟩
  .exact .inl ⟨z,e,q⟩
  .exact .inr e
structure BS(H:Hp)(s:WH)(sks:List (Key × V))(c:List Nat->List Nat->Prop)(n:Nat):Prop where
 at_:H s=some (.dK sks)
 nd:(sks.map (·.1)).Nodup
 len:sks.length<=n
 inj:∀k k' v,(k,v)∈sks->(k',v)∈sks->k=k'
 to:∀k v,(k,v)∈sks->∃x e m,k = .inr ⟨⟨x⟩⟩/\v = .ref e/\e≠s/\H e=some (.dK m)/\m.length<=n/\TK m (c x)
 fr:∀x y,c x y->∃v,((.inr ⟨⟨x⟩⟩:Key),v)∈sks
def BS.mv{H H':Hp}{s:WH}{sks:List (Key × V)}{c:List Nat->List Nat->Prop}{n:Nat}(h:BS H s sks c n)(k:∀p o,H p=some o->(p=s\/fp sks p)->H' p=some o):BS H' s sks c n:=
 ⟨k _ _ h.at_ (.inl rfl),h.nd,h.len,h.inj,fun k1 v m1=>let ⟨x,e,m,e1,e3,e4,e5,e6⟩:=h.to k1 v m1;⟨x,e,m,e1,e3,e4,k _ _ e5 (.inr ⟨k1,e3 ▸ m1⟩),e6⟩,h.fr⟩
def BS.cg{H:Hp}{s:WH}{sks:List (Key × V)}{c c':List Nat->List Nat->Prop}{n n':Nat}(h:BS H s sks c n)(l:n<=n')(k:∀x y,c x y↔c' x y):BS H s sks c' n':=by
 obtain rfl:c=c':=funext fun x=>funext fun y=>propext (k x y);exact⟨h.at_,h.nd,wG h.len l,h.inj,fun k1 v m1=>let ⟨x,e,m,e1,e3,e4,e5,e6,e7⟩:=h.to k1 v m1;⟨x,e,m,e1,e3,e4,e5,wG e6 l,e7⟩,h.fr⟩
def ad(c:List Nat->List Nat->Prop)(x y:List Nat):List Nat->List Nat->Prop:=fun x' y'=>c x' y'\/(x'=x/\y'=y)
def BS.put{H:Hp}{s e:WH}{sks:List (Key × V)}{c:List Nat->List Nat->Prop}{n:Nat}{m:List (Key × V)}{x y:List Nat}{v:V}(h:BS H s sks c n)(me:((.inr ⟨⟨x⟩⟩:Key),V.ref e)∈sks)(he:H e=some (.dK m)):BS (upd H e (.dK (bD m (.inr ⟨⟨y⟩⟩) v))) s sks (ad c x y) (n+1):=by
 refine qO (h.to _ _ me) fun x0 e0 m0 k0 eq ns h0 l0 t0=>?_;cases V.ref.inj eq;cases fN k0;rw[he]at h0;cases h0;refine⟨(ag (Wc ns)).trans h.at_,h.nd,ZK h.len,h.inj,fun k v' m1=>?_,fun x' y' z=>?_⟩
 .refine qO (h.to k v' m1) fun x' e' m' e1 e3 e4 e5 e6 e7=>?_
  by_cases ee:e'=e
  .subst ee
   obtain rfl:=fN (e1.symm.trans (h.inj _ _ _ m1 (e3 ▸ me)));have hp:ad c x' y x'=fun z=>c x' z\/z=y:=by
    funext z;exact propext ⟨fun q=>q.imp id And.right,fun q=>q.imp id fun q=>⟨rfl,q⟩⟩
   exact⟨x',e',_,e1,e3,e4,aa,wG (rA _ _ _) (YU l0),hp ▸ t0.put⟩
  .have nx:x'≠x:=fun z=>ee (by
    subst z;subst e1;exact V.ref.inj (e3.symm.trans (vY h.nd m1 me)))
   have hp:ad c x y x'=c x':=by
    funext z;exact propext ⟨fun q=>q.elim id fun q=>VT q.1 nx,.inl⟩
   exact⟨x',e',m',e1,e3,e4,(ag ee).trans e5,ZK e6,hp ▸ e7⟩
 .obtain z|⟨rfl,rfl⟩:=z
  .exact h.fr x' y' z
  .exact⟨_,me⟩
def BS.add{H:Hp}{s e:WH}{sks:List (Key × V)}{c:List Nat->List Nat->Prop}{n:Nat}{x:List Nat}(h:BS H s sks c n)(no:bG sks (.inr ⟨⟨x⟩⟩)=none)(he:H e=some (.dK []))(nf:¬ fp sks e)(ne:e≠s):BS (upd H s (.dK (bD sks (.inr ⟨⟨x⟩⟩) (.ref e)))) s (bD sks (.inr ⟨⟨x⟩⟩) (.ref e)) c (n+1):=by
 refine⟨aa,uZ h.nd,wG (rA _ _ _) (YU h.len),fun k k' v m1 m2=>?_,fun k v m1=>?_,fun z y hz=>?_⟩
 .obtain e1|⟨m1,n1⟩:=cC.mp m1
  .obtain⟨rfl,rfl⟩:=ZC e1
   obtain e2|⟨m2,n2⟩:=cC.mp m2
   .exact(ZC e2).1.symm
   .exact VT ⟨_,m2⟩ nf
  .obtain e2|⟨m2,n2⟩:=cC.mp m2
   .obtain⟨rfl,rfl⟩:=ZC e2
    exact VT ⟨_,m1⟩ nf
   .exact h.inj _ _ _ m1 m2
 .obtain e1|⟨m1,n1⟩:=cC.mp m1
  .obtain⟨rfl,rfl⟩:=ZC e1
   refine⟨x,e,[],rfl,rfl,ne,(ag ne).trans he,tB _,ZQ,fun k=>⟨(fun z=>nomatch z),fun⟨y,_,q⟩=>?_⟩⟩;obtain⟨v,mv⟩:=h.fr x y q;exact VT mv (ic no)
  .refine qO (h.to k v m1) fun x' e' m0 e1 e3 e4 e5 e6 e7=>?_
   exact⟨x',e',m0,e1,e3,e4,(ag e4).trans e5,ZK e6,e7⟩
 .obtain⟨v,mv⟩:=h.fr z y hz
  refine⟨v,cC.mpr (.inr ⟨mv,fun q=>?_⟩)⟩;obtain rfl:=fN q;exact ic no mv
noncomputable abbrev vF(C dx b s:WH):HO:=.ins C dx [("by_pair",.ref b),("beside",.ref s)]
structure RAt(C:WH)(H:Hp)(r b:WH)(WU:List (List Key × V))(f:lN)(c:List Nat->List Nat->Prop)(n:Nat)(W:WH->Prop):Prop where
 ex:∃dx s sks,H r=some (vF C dx b s)/\BP H b WU f n/\BS H s sks c n/\(∀p,fp WU p -> ¬ fp sks p) /\ ¬ fp WU s/\∀p,W p↔p=b\/p=s\/fp WU p\/fp sks p
def RAt.mv{C:WH}{H H':Hp}{r b:WH}{WU:List (List Key × V)}{f:lN}{c:List Nat->List Nat->Prop}{n:Nat}{W:WH->Prop}(h:RAt C H r b WU f c n W)(rd:Rd H' b (.dT WU))(k:∀p o,H p=some o->p≠b->(W p\/p=r\/∃l,o = .tup l)->H' p=some o):RAt C H' r b WU f c n W:=by
 obtain⟨dx,s,sks,h1,h2,h3,h4,h5,h6⟩:=h.ex;have nb:∀ {e o},H e=some o->dw o=true->(∀x u,o ≠ .frz x u)->e≠b:=fun e n nf=>Wc (uw h2.at_ e n nf);refine⟨dx,s,sks,k _ _ h1 (nb h1 rfl (by intro _ _ z;cases z)) (.inr (.inl rfl)),h2.mv rd fun p o z q=>?_,h3.mv fun p o z q=>?_,h4,h5,h6⟩
 .obtain q|⟨l,rfl⟩:=q
  .obtain⟨k1,m1⟩:=q
   obtain⟨_,_,_,m,_,_,e1,e2,_⟩:=h2.to _ _ m1;cases e1;exact k p o z (nb e2 rfl (by intro _ _ z;cases z)) (.inl ((h6 p).mpr (.inr (.inr (.inl ⟨k1,m1⟩)))))
  .exact k p _ z (nb z rfl (by intro _ _ z;cases z)) (.inr (.inr ⟨l,rfl⟩))
 .obtain rfl|⟨k1,m1⟩:=q
  .exact k p o z (nb h3.at_ rfl (by intro _ _ z;cases z)) (.inl ((h6 p).mpr (.inr (.inl rfl))))
  .obtain⟨_,_,m,_,e1,_,e2,_⟩:=h3.to _ _ m1
   cases e1;exact k p o z (nb e2 rfl (by intro _ _ z;cases z)) (.inl ((h6 p).mpr (.inr (.inr (.inr ⟨k1,m1⟩)))))
def RAt.same{C:WH}{H H':Hp}{r b:WH}{WU:List (List Key × V)}{f:lN}{c:List Nat->List Nat->Prop}{n:Nat}{W:WH->Prop}(h:RAt C H r b WU f c n W)(s:WT H H'):RAt C H' r b WU f c n W:=by
 obtain⟨_,_,_,_,h2,_⟩:=h.ex;exact h.mv (nI h2.at_ s) fun p o z _ _=>s p o z
def RAt.nw{C:WH}{H:Hp}{r b:WH}{WU:List (List Key × V)}{f:lN}{c:List Nat->List Nat->Prop}{n:Nat}{W:WH->Prop}(h:RAt C H r b WU f c n W){p:WH}{o:HO}(e:H p=some o)(n1:∀m,o ≠ .dK m)(n2:∀m,o ≠ .dT m)(n3:∀x u,o ≠ .frz x u):¬ W p:=fun hp=>by
 obtain⟨dx,s,sks,h1,h2,h3,h4,h5,h6⟩:=h.ex;rcases(h6 p).mp hp with rfl|rfl|⟨k,m⟩|⟨k,m⟩
 .obtain q|⟨x,q⟩:=h2.at_
  .rw[q]at e;cases e;exact n2 _ rfl
  .rw[q]at e;cases e;exact n3 _ _ rfl
 .rw[h3.at_]at e;cases e;exact n1 _ rfl
 .obtain⟨_,_,_,_,_,_,e1,e2,_⟩:=h2.to _ _ m
  cases e1;rw[e2]at e;cases e;exact n1 _ rfl
 .obtain⟨_,_,_,_,e1,_,e2,_⟩:=h3.to _ _ m
  cases e1;rw[e2]at e;cases e;exact n1 _ rfl
def IE(x y:V):qW (zR "by_pair") [(zR "by_pair",x),(zR "beside",y)]=some x:=iY
def Jl(x y:V):qW (zR "beside") [(zR "by_pair",x),(zR "beside",y)]=some y:=by rw[aZ (by decide +kernel)];exact iY
def sp_D4(C:WH):Sp:=sp3 fun x y z H Q _=>asR x fun r=>asT y fun cu=>asT z fun ot=>∃dx b s sks c n,H r=some (vF C dx b s)/\BS H s sks c n/\n<=900/\∀sks' H',BS H' s sks' (ad c cu ot) (n+2)->(∀p,fp sks' p->fp sks p\/H p=none)->Kp (fun p=>p=s\/fp sks p) H H'->(∀b,NoB b H->NoB b H')->Q .non H'
def jA(T:Txt K mg a):Mo P w K mg base a.aM "link" 1 (sp_D4 a.aM):=by
 refine T.rH.hx ["self","currency","other","others"] (gX3 fun x0 x1 x2 fA WW A WX s H Q E ND HU hr h=>?_);obtain⟨r,rfl,h1⟩:=aQ h;obtain⟨cu,rfl,h2⟩:=bt h1;obtain⟨ot,rfl,dx,b,s0,sks,c,n,hr0,BB,nn,k⟩:=bt h2;have sz:=szl;refine⟨_,(af (aE 3 ND (xR (Zz HU) (bx K (fv 0)) (fv 1) dq ⟨rfl,rfl,rfl,rfl⟩))
  (ah (cj (Zz HU) (fv 3) (fv 2) iE rfl))),?_⟩
 walk_at "d";refine⟨_,_,_,_,hr0,T.bK,T.fJ,Jl _ _,_,rfl,.inl ⟨_,.inl BB.at_⟩,fun p hp=>?_⟩;have s1:=aj (HO.dK []) hp;have B1:BS (upd H p (.dK [])) s0 sks c n:=BB.mv fun q o z _=>s1 q o z;have fn:¬ fp sks p:=fun⟨k1,m1⟩=>by
  obtain⟨_,_,_,_,e1,_,e2,_⟩:=BB.to _ _ m1;cases e1;rw[e2]at hp;cases hp
 have ln:=BB.len;cases hv:bG sks (.inr ⟨⟨cu⟩⟩) with
 |some v=>
  have mv:=i8 hv;refine qO (B1.to _ _ mv) fun x e m e1 yy1 e4 e5 e6 _=>?_;subst yy1;refine .inl ⟨_,by have:=DGet.k (k:=.inr ⟨⟨cu⟩⟩) B1.at_;rw[hv]at this;exact this,e,_,rfl,DPut.k (k:=.inr ⟨⟨ot⟩⟩) e5 (by lia),?_⟩;refine k sks _ ((B1.put (m:=m) mv e5).cg (by lia) fun _ _=>Iff.rfl) (fun q h=>.inl h) (fun q o z nw=>?_) ?_
  .rw[ag fun h=>nw (.inr ⟨_,h ▸ mv⟩)];exact s1 q o z
  .exact fun b n=>(n.upd rfl).upd rfl
 |none=>
  have np:=aq BB.at_ hp;refine .inr ⟨by have:=DGet.k (k:=.inr ⟨⟨cu⟩⟩) B1.at_;rw[hv]at this;exact this,_,DPut.k (k:=.inr ⟨⟨cu⟩⟩) B1.at_ (by lia),p,_,rfl,DPut.k (k:=.inr ⟨⟨ot⟩⟩) ((ag (Wc np)).trans aa) (by show 0<_;lia),?_⟩;have B2:=B1.add (x:=cu) (e:=p) hv aa fn (Wc np);refine k _ _ (B2.put (x:=cu) (y:=ot) (v:=.bl true) (cC.mpr (.inl rfl)) ((ag (Wc np)).trans aa)) (fun q ⟨k1,m1⟩=>?_) (fun q o z nw=>?_) ?_
  .obtain e1|⟨m1,_⟩:=cC.mp m1
   .cases V.ref.inj (ZC e1).2;exact .inr hp
   .exact .inl ⟨_,m1⟩
  .rw[ag (aq z hp),ag fun h=>nw (.inl h)];exact s1 q o z
  .exact fun b n=>((n.upd rfl).upd rfl).upd rfl
def sp_Dl(C:WH):Sp:=sp1 fun x H Q _=>asR x fun r=>∃dx,H r=some (.ins C dx [])/\∀b W H',RAt C H' r b [] (fun _ _ _=>none) (fun _ _=>False) 0 W->H' b=some (.dT [])->(WM H->NoB b H')->(∀p,W p->H p=none)->Kp (fun p=>p=r) H H'->Q .non H'
def kQ(T:Txt K mg a):Mo P w K mg base a.aM "__init__" 1 (sp_Dl a.aM):=by
 refine T.lJ.hx ["self"] (gX1 fun x0 fA WW A WX s H Q E ND HU hr h=>?_);obtain⟨r,rfl,dx,hr0,k⟩:=aQ h;refine⟨_,(af (dS K (fv 0) n9)
  (ah (dS K (fv 0) dq))),?_⟩
 walk_at "d";intro b hb;have np:r≠b:=aq hr0 hb;refine⟨_,_,_,(ag np).trans hr0,T.bK,T.eF,by show 0<1000;decide,fun u hu=>?_⟩;have nu:r≠u:=fun q=>by rw[<- q,aa]at hu;cases hu
 have nb:b≠u:=fun q=>by rw[<- q,ag (Wc np),aa]at hu;cases hu
 have hu0:H u=none:=by
  rw[ag (Wc nu),ag (Wc nb)]at hu;exact hu
 refine⟨_,_,_,(ag nu).trans aa,T.bK,T.fJ,by show 1<1000;decide,?_⟩;have nof:∀ {κ:Type} (p:WH),¬ fp (κ:=κ) [] p:=fun p ⟨_,z⟩=>(nomatch z);have eb:upd (upd (upd (upd H b (HO.dT [])) r (HO.ins a.aM dx (cW (zR "by_pair") (V.ref b) []))) u (HO.dK [])) r (HO.ins a.aM dx (cW (zR "beside") (V.ref u) (cW (zR "by_pair") (V.ref b) []))) b=some (.dT []):=by
  rw[ag (Wc np),ag nb,ag (Wc np),aa]
 refine k b (fun p=>p=b\/p=u) _ ⟨⟨dx,u,[],?_,⟨.inl eb,ZQ,tB _,(fun _ _ _ z=>nomatch z),(fun _ _ z=>nomatch z),(fun _ _ _ _ _ z=>nomatch z)⟩,⟨?_,ZQ,tB _,(fun _ _ _ z=>nomatch z),(fun _ _ z=>nomatch z),(fun _ _ (z:False)=>z.elim)⟩,fun p z=>VT z (nof p),nof _,fun p=>⟨fun z=>z.elim .inl fun z=>.inr (.inl z),fun z=>z.elim .inl fun z=>z.elim .inr fun z=>z.elim (fun z=>VT z (nof p)) fun z=>VT z (nof p)⟩⟩⟩ eb (fun n=>(((NoB.of n).updb.upd rfl).upd rfl).upd rfl) (fun p z=>z.elim (fun z=>z ▸ hb) fun z=>z ▸ hu0) fun q o z nq=>?_
 .rw[aa]
  have e:cW (zR "beside") (V.ref u) (cW (zR "by_pair") (V.ref b) [])=[(zR "by_pair",.ref b),(zR "beside",.ref u)]:=by
   have q:¬ (zR "by_pair" = zR "beside"):=by decide +kernel
   simp[cW,q]
  rw[e]
 .rw[ag (Wc nu),aa]
 .rw[ag nq,ag (aq z hu0),ag nq,ag (aq z hb)];exact z
def xh(x y:V):qW (zR "link") [(zR "by_pair",x),(zR "beside",y)]=none:=by rw[aZ (by decide +kernel),aZ (by decide +kernel)];rfl
def xH(x y:V):qW (zR "keep") [(zR "by_pair",x),(zR "beside",y)]=none:=by rw[aZ (by decide +kernel),aZ (by decide +kernel)];rfl
def sp_Eo(C:WH):Sp:=sp4 fun x y z u H Q _=>asR x fun r=>asI y fun d=>asR z fun tp=>asR u fun tw=>∃b WU f c n W x y wt,RAt C H r b WU f c n W/\H b=some (.dT WU)/\NoB b H/\H tp=some (.tup [VS x,VS y])/\x<y/\H tw=some (.tup [.int wt.1,.int wt.2])/\n<=800 /\
 ∀kvs' W' H',RAt C H' r b kvs' (upf f x y d wt) (ad (ad c x y) y x) (n+4) W'->H' b=some (.dT kvs')->NoB b H'->(∀p,W' p->W p\/H p=none)->Kp W H H'->Q .non H'
def js(T:Txt K mg a):Mo P w K mg base a.aM "keep" 2 (sp_Eo a.aM):=by
 refine T.rm.hx ["self","day","pair","worth","by_day"] (gX4 fun x0 x1 x2 x3 fA WW A WX s H Q E ND HU hr h=>?_);obtain⟨r,rfl,h1⟩:=aQ h;obtain⟨d,rfl,h2⟩:=ba h1;obtain⟨tp,rfl,h3⟩:=aQ h2;obtain⟨tw,rfl,b,WU,f,c,n,W,x,y,wt,RR,hb0,nB,hp0,xy,hw0,nn,k⟩:=aQ h3;have sz:=szl;refine qO RR.ex fun dx s0 sks hr0 B S dj ns hW=>?_
 skip
 have tl:∃u,PSs (cJ (XE P w) P w K mg base ["self","day","pair","worth","by_day"] "Rates.keep" (ak eO) fA WW A WX s H E) (ZE 2 (bh eO)) u/\∀kvs' H1 e,BP H1 b kvs' (upf f x y d wt) (n+2)->H1 b=some (.dT kvs')->NoB b H1->(∀p,fp kvs' p->fp WU p\/H p=none)->Kp (fun p=>p=b\/fp WU p) H H1->u { nx:=fun _ H'=>Q .non H',rt:=Q } [some (.ref r),some (.int d),some (.ref tp),some (.ref tw),some (.ref e)] H1:=by
  refine⟨_,(af (bH (cZ (fv 0) T.bK (jA T) hr.mono av (fa2 (aH K (fv 2) ae) (aH K (fv 2) ae))))
   (ah (bH (cZ (fv 0) T.bK (jA T) hr.mono av (fa2 (aH K (fv 2) ae) (aH K (fv 2) ae)))))),fun kvs' H1 e B1 hb1 nB1 hf K1=>?_⟩
  have fk:∀q,fp WU q->∃m,H q=some (.dK m):=fun q ⟨k1,m1⟩=>by
   obtain⟨_,_,_,m,_,_,e1,e2,_⟩:=B.to _ _ m1;cases e1;exact⟨m,e2⟩
  have fs:∀q,fp sks q->∃m,H q=some (.dK m):=fun q ⟨k1,m1⟩=>by
   obtain⟨_,_,m,_,e1,_,e2,_⟩:=S.to _ _ m1;cases e1;exact⟨m,e2⟩
  have fk1:∀q,fp kvs' q->∃m,H1 q=some (.dK m):=fun q ⟨k1,m1⟩=>by
   obtain⟨_,_,_,m,_,_,e1,e2,_⟩:=B1.to _ _ m1;cases e1;exact⟨m,e2⟩
  have kin:∀q o,H q=some o->(∀m,o ≠ .dK m)->(∀m,o ≠ .dT m) -> ¬ (q=b\/fp WU q):=fun q o z n1 n2 h=>by
   obtain h|h:=h
   .rw[h,hb0]at z;cases z;exact n2 _ rfl
   .obtain⟨m,e⟩:=fk q h
    rw[e]at z;cases z;exact n1 _ rfl
  have hr1:H1 r=some (vF a.aM dx b s0):=K1 _ _ hr0 (kin _ _ hr0 (fun _ z=>nomatch z) (fun _ z=>nomatch z));have hp1:H1 tp=some (.tup [VS x,VS y]):=K1 _ _ hp0 (kin _ _ hp0 (fun _ z=>nomatch z) (fun _ z=>nomatch z));have nsb:s0≠b:=gL S.at_ hb0 (fun z=>nomatch z);have sb:∀q,(q=s0\/fp sks q) -> ¬ (q=b\/fp WU q):=fun q h h'=>by
   obtain rfl|h:=h
   .exact h'.elim nsb ns
   .obtain rfl|h':=h'
    .obtain⟨m,e⟩:=fs _ h;rw[hb0]at e;cases e
    .exact dj q h' h
  have S1:BS H1 s0 sks c n:=S.mv fun q o z h=>K1 q o z (sb q h);walk_at "d";refine⟨_,_,hr1,xh _ _,_,_,.inr (bF hp1),aO (j:=0) rfl,_,_,.inr (bF hp1),aO (j:=1) rfl,?_⟩;refine⟨dx,b,s0,sks,c,n,hr1,S1,by lia,fun sks1 H2 S2 hf1 K2 N2=>?_⟩;have kin2:∀ {sk:List (Key × V)} {c:List Nat->List Nat->Prop} {n:Nat} {G:Hp},BS G s0 sk c n->∀q o,G q=some o->(∀m,o ≠ .dK m) -> ¬ (q=s0\/fp sk q):=fun S q o z n1 h=>by
   obtain h|⟨k1,m1⟩:=h
   .rw[h,S.at_]at z;cases z;exact n1 _ rfl
   .obtain⟨_,_,m,_,e1,_,e2,_⟩:=S.to _ _ m1
    cases e1;rw[e2]at z;cases z;exact n1 _ rfl
  have hr2:=K2 _ _ hr1 (kin2 S1 _ _ hr1 (fun _ z=>nomatch z));have hp2:=K2 _ _ hp1 (kin2 S1 _ _ hp1 (fun _ z=>nomatch z));walk_at "d";refine⟨_,_,hr2,xh _ _,_,_,.inr (bF hp2),aO (j:=1) rfl,_,_,.inr (bF hp2),aO (j:=0) rfl,?_⟩;refine⟨dx,b,s0,sks1,_,n+2,hr2,S2,by lia,fun sks2 H3 S3 hf2 K3 N3=>?_⟩;have hr3:=K3 _ _ hr2 (kin2 S2 _ _ hr2 (fun _ z=>nomatch z));have nks:∀q,fp kvs' q -> ¬ (q=s0\/fp sks q):=fun q h h'=>by
   obtain h1|h1:=hf q h
   .exact sb q h' (.inr h1)
   .obtain rfl|h':=h'
    .rw[S.at_]at h1;cases h1
    .obtain⟨m,e⟩:=fs q h';rw[e]at h1;cases h1
  have bk:∀q o,H1 q=some o->(q=b\/fp kvs' q\/∃l,o = .tup l) -> ¬ (q=s0\/fp sks q):=fun q o z h=>by
   obtain rfl|h|⟨l,rfl⟩:=h
   .rw[hb1]at z;cases z;exact kin2 S1 _ _ hb1 (fun _ z=>nomatch z)
   .exact nks q h
   .exact kin2 S1 _ _ z (fun _ z=>nomatch z)
  have up1:∀q o,H1 q=some o -> ¬ (q=s0\/fp sks q) -> ¬ (q=s0\/fp sks1 q):=fun q o z h h'=>by
   obtain h'|h':=h'
   .exact h (.inl h')
   .obtain h'|h':=hf1 q h'
    .exact h (.inr h')
    .rw[z]at h';cases h'
  have hb2:=K2 _ _ hb1 (bk _ _ hb1 (.inl rfl));have hb3:=K3 _ _ hb2 (up1 _ _ hb1 (bk _ _ hb1 (.inl rfl)));have B3:BP H3 b kvs' (upf f x y d wt) (n+2):=B1.mv (.inl hb3) fun q o z h=>K3 q o (K2 q o z (bk q o z (.inr h))) (up1 q o z (bk q o z (.inr h)));refine k kvs' (fun p=>p=b\/p=s0\/fp kvs' p\/fp sks2 p) H3 ⟨⟨dx,s0,sks2,hr3,B3.le (by lia),S3,fun q h h'=>?_,fun h=>nks _ h (.inl rfl),fun q=>Iff.rfl⟩⟩ hb3 (N3 _ (N2 _ nB1)) (fun q h=>?_) fun q o z nw=>?_
  .obtain⟨m,e⟩:=fk1 q h
   have e2:=K2 q _ e (nks q h);obtain h'|h':=hf2 q h'
   .obtain h'|h':=hf1 q h'
    .exact nks q h (.inr h')
    .rw[e]at h';cases h'
   .rw[e2]at h';cases h'
  .by_cases hw:W q
   .exact .inl hw
   .have nw:¬ (q=b\/fp WU q):=fun h=>hw ((hW q).mpr (h.elim .inl fun h=>.inr (.inr (.inl h))))
    have nw2:¬ (q=s0\/fp sks q):=fun h=>hw ((hW q).mpr (h.elim (fun h=>.inr (.inl h)) fun h=>.inr (.inr (.inr h))));refine .inr ?_;cases z:H q with
    |none=>rfl
    |some o=>
     have z1:=K1 q o z nw;obtain h|h|h|h:=h
     .exact VT (.inl h) nw
     .exact VT (.inl h) nw2
     .obtain h|h:=hf q h
      .exact VT (.inr h) nw
      .rw[z]at h;cases h
     .obtain h|h:=hf2 q h
      .exact VT (.inr h) (up1 q o z1 nw2)
      .rw[K2 q o z1 nw2]at h;cases h
  .have z1:=K1 q o z fun h=>nw ((hW q).mpr (h.elim .inl fun h=>.inr (.inr (.inl h))))
   have n2:¬ (q=s0\/fp sks q):=fun h=>nw ((hW q).mpr (h.elim (fun h=>.inr (.inl h)) fun h=>.inr (.inr (.inr h))));exact K3 q o (K2 q o z1 n2) (up1 q o z1 n2)
 obtain⟨u2,hu2,q2⟩:=tl;refine⟨_,(af (aE 4 ND (xR (Zz HU) (bx K (fv 0)) (fv 2) dq ⟨rfl,rfl,rfl,rfl⟩))
  (af (cj (Zz HU) (fv 4) (fv 1) (fv 3) rfl)
  hu2)),?_⟩
 walk_at "d";refine⟨_,_,_,_,hr0,T.bK,T.eF,IE _ _,_,rfl,.inr ⟨_,B.at_⟩,fun p hp=>?_⟩;have s1:=aj (HO.dK []) hp;have B1:BP (upd H p (.dK [])) b WU f n:=B.same s1;have hb1:=s1 _ _ hb0;have fn:∀q,fp WU q->H q≠none:=fun q ⟨k1,m1⟩ z=>by
  obtain⟨_,_,_,_,_,_,e1,e2,_⟩:=B.to _ _ m1;cases e1;rw[e2]at z;cases z
 have ln:=B.len;have g:=DGet.t (k:=kP (x,y)) hb1 (s1 _ _ hp0);cases hv:bG WU (kP (x,y)) with
 |some v=>
  rw[hv]at g;have mv:=i8 hv;refine zF (B1.to _ _ mv) fun x' y' e m e1 e2 yy1 e4 e5 e6=>?_;subst yy1;refine .inl ⟨_,g,e,_,rfl,DPut.k (k:=.inl d) e4 (by lia),?_⟩;refine q2 WU _ e ((B1.put xy mv e4 (s1 _ _ hw0)).le (by lia)) ((ag (gL hb1 e4 (fun z=>nomatch z))).trans hb1) ((nB.upd rfl).upd rfl) (fun q h=>.inl h) fun q o z nw=>?_;rw[ag fun h=>nw (.inr ⟨_,h ▸ mv⟩)];exact s1 q o z
 |none=>
  rw[hv]at g;refine .inr ⟨g,_,DPut.t (k:=kP (x,y)) hb1 (s1 _ _ hp0) (by lia),p,_,rfl,DPut.k (k:=.inl d) ((ag (Wc (aq hb0 hp))).trans aa) (by show 0<_;lia),?_⟩;have B2:=B1.add (e:=p) hb1 xy hv aa fun z=>fn p z hp;have nb:=aq hb0 hp;refine q2 _ _ p ((B2.put xy (cC.mpr (.inl rfl)) ((ag (Wc nb)).trans aa) ((ag (gL (s1 _ _ hw0) hb1 (fun z=>nomatch z))).trans (s1 _ _ hw0))).le (by lia)) ((ag nb).trans aa) (((nB.upd rfl).updb).upd rfl) (fun q ⟨k1,m1⟩=>?_) fun q o z nw=>?_
  .obtain e1|⟨m1,_⟩:=cC.mp m1
   .cases V.ref.inj (ZC e1).2;exact .inr hp
   .exact .inl ⟨_,m1⟩
  .rw[ag (aq z hp),ag fun h=>nw (.inl h)];exact s1 q o z
def alloc{H:Hp}{p:WH}(o:HO)(hp:H p=none):∃H',upd H p o=H'/\WT H H'/\H' p=some o:=⟨_,rfl,aj _ hp,aa⟩
abbrev RS(C:WH)(H:Hp)(r b:WH)(WU:List (List Key × V))(R:List Qr)(W:WH->Prop):Prop:=RAt C H r b WU (val R) (Nbr R) (4*R.length) W
def RAt.cg{C:WH}{H:Hp}{r b:WH}{WU:List (List Key × V)}{f f':lN}{c c':List Nat->List Nat->Prop}{n:Nat}{W:WH->Prop}(h:RAt C H r b WU f c n W)(hf:∀x y D,x<y->f x y D=f' x y D)(hc:∀x y,c x y↔c' x y):RAt C H r b WU f' c' n W:=by
 obtain⟨dx,s,sks,h1,B,S,h4,h5,h6⟩:=h.ex;refine⟨dx,s,sks,h1,⟨B.at_,B.nd,B.len,B.inj,fun k v m=>?_,fun x y D w' l e=>B.fr x y D w' l ((hf x y D l).trans e)⟩,S.cg (zK _) hc,h4,h5,h6⟩;refine zF (B.to k v m) fun x y e m' e1 l e2 e3 e4 e5=>?_;have hf':f x y=f' x y:=funext fun D=>hf x y D l;exact⟨x,y,e,m',e1,l,e2,e3,e4,hf' ▸ e5⟩
def lG{l:List Nat}(h:cur l=true):ok l:=by
 unfold cur lie at h;rw[ZR,decide_eq_true_iff,Zk]at h;refine⟨fun c m=>?_,by lia⟩;have:=h.2 c m;rw[ZR,decide_eq_true_iff,decide_eq_true_iff]at this;lia
def jq{l:List Nat}(h:ok l):okV (VS l):=fun l' e=>by cases e;exact h
def uM{i lo hi:Int}:amg (.int i) lo hi=(decide (lo<=i)&&decide (i<=hi)):=rfl
def sp_AK:Sp:=sp1 fun x H Q _=>WM H/\asI x fun i=>Q (.bl (amg (.int i) 1 1000000000)) H
def gS(T:Txt K mg a):Fo P w K mg base "is_coin_count" 3 sp_AK:=by
 refine T.mT.hg ["thing"] (gG1 fun x0 fA WW A WX s H Q E ND HU hr h=>?_);obtain⟨hN,h1⟩:=h;obtain⟨i,rfl,k⟩:=ba h1;refine⟨hN,_,(ah (aB (aF (mE T) hr av (fa3 (fv 0) ae (ai lF ae ae))))),?_⟩;walk_at "d";have e9:(10:Int) ^ XF 9=1000000000:=by decide +kernel
 rw[e9];exact⟨by decide,hN,k⟩
def Ju(r:Qr):Prop:=(0<=r.d/\r.d<=146096)/\cur r.a=true/\cur r.b=true/\r.a≠r.b/\(1<=r.p/\r.p<=1000000000)/\1<=r.q/\r.q<=1000000000
noncomputable def toI:V->Int
 | .int i=>i
 |_=>0
noncomputable def toT:V->List Nat
 | .str x=>cs x
 |_=>[]
def sp_zJ(C:WH):Sp:=sp6 fun x d o p t q H Q _=>asR x fun rr=>∃b WU R W r,d = .int r.d/\o=VS r.a/\p = .int r.p/\t=VS r.b/\q = .int r.q/\RS C H rr b WU R W/\H b=some (.dT WU)/\NoB b H/\R.length<=40/\Ju r /\
 (∀kvs' W' H',RS C H' rr b kvs' (R++[r]) W'->H' b=some (.dT kvs')->NoB b H'->(∀p,W' p->W p\/H p=none)->Kp W H H'->Q .non H')
def iX(T:Txt K mg a):Mo P w K mg base a.aM "quote" 4 (sp_zJ a.aM):=by
 refine T.pB.hx ["self","day","one","p","other","q"] (gX6 fun x0 x1 x2 x3 x4 x5 fA WW A WX s H Q E ND HU hr h=>?_);refine bE (aQ h) fun rr yy1 yz=>Dc yz fun b WU R W yy2 yy3 yy4 yy5 yy6 yy7 RR hb0 nB lR yz=>Cc yz fun yy8 k0=>?_;subst yy1;obtain⟨d,l2,pp,l4,qq⟩:=yy2;subst yy3 yy4 yy5 yy6 yy7;obtain⟨hd,h2,h4,eq,hp,hq⟩:=yy8;have sz:=szl;have c2:j5 (VS l2)=true:=h2;have c4:j5 (VS l4)=true:=h4;have ed:amg (.int d) 0 146096=true:=by rw[uM,VX hd.1,VX hd.2];rfl
 have ep:amg (.int pp) 1 1000000000=true:=by rw[uM,VX hp.1,VX hp.2];rfl
 have eq':amg (.int qq) 1 1000000000=true:=by rw[uM,VX hq.1,VX hq.2];rfl
 refine⟨_,(af (fE (bi (bP (bM (aF (gg T) hr av (fa1 (fv 1))))) (ah (jz T.iM T.gr d5)) aL))
  (af (fE (bi (L2.PW.pt (gm (bP (bM (aF (cE T) hr av (fa1 (fv 2))))) (gm (bP (bM (aF (cE T) hr av (fa1 (fv 4))))) (f8 (aX (bS K HU) (fv 2) (fv 4)))))) (ah (jz T.d7 T.df d5)) aL))
  (af (fE (bi (L2.PW.pt (gm (bP (bM (aF (gS T) hr av (fa1 (fv 3))))) (f8 (bP (bM (aF (gS T) hr av (fa1 (fv 5)))))))) (ah iq) aL))
  (ah (bi (aX qk (fv 2) (fv 4)) (ah (bH (cZ (fv 0) T.bK (js T) hr.mono av (fa3 (fv 1) (bZ (fa2 (fv 2) (fv 4))) (bZ (fa2 (fv 3) (fv 5))))))) (ah (bH (cZ (fv 0) T.bK (js T) hr.mono av (fa3 (fv 1) (bZ (fa2 (fv 4) (fv 2))) (bZ (fa2 (fv 5) (fv 3)))))))))))),?_⟩
 walk_at "d";rw[ed];refine⟨b,.dT WU,rfl,hb0,fun o1=>⟨nB.frz _ _,itn (by decide) ⟨aa,?_⟩⟩⟩;rw[fG hb0];refine⟨b,.dT WU,rfl,hb0,fun o2=>⟨nB.frz _ _,jq (lG h2),?_⟩⟩;rw[c2];refine itn (by decide) ⟨nB.frz _ _,jq (lG h4),?_⟩;rw[c4];refine itn (by decide) (itn eq ⟨aa,?_⟩);rw[fG hb0];refine⟨b,.dT WU,rfl,hb0,fun o3=>⟨nB.frz _ _,?_⟩⟩;rw[ep,eq'];refine itn (by decide) ⟨nB.frz _ _,itn (by decide) ⟨aa,?_⟩⟩;rw[fG hb0];refine Aj RR.ex fun dx s0 sks hr0 _=>?_;have fin:∀ {H3:Hp} {x y:List Nat} {wt:Wt} {kvs':List (List Key × V)} {W':WH->Prop} {H':Hp},WT H H3->((l2=x/\l4=y/\pp=wt.1/\qq=wt.2)\/(l2=y/\l4=x/\pp=wt.2/\qq=wt.1))->x<y->RAt a.aM H' rr b kvs' (upf (val R) x y d wt) (ad (ad (Nbr R) x y) y x) (4*R.length+4) W'->H' b=some (.dT kvs')->NoB b H'->(∀p,W' p->W p\/H3 p=none)->Kp W H3 H'->Q .non H':=fun {H3 x y wt kvs' W' H'} s3 hh xy RA hb' nb' hf K3=>by
  refine k0 kvs' W' H' ?_ hb' nb' (fun p hp=>(hf p hp).imp id s3.free) fun p o z nw=>K3 p o (s3 p o z) nw;have RB:=RA.cg (f':=val (R++[⟨d,l2,pp,l4,qq⟩])) (c':=Nbr (R++[⟨d,l2,pp,l4,qq⟩])) (fun x' y' D xy'=>by rw[ez,zx (a:=x) (b:=y) (p:=wt.1) (q:=wt.2) hh xy x' y' xy' D];rfl) fun u v=>by
   rw[BN];unfold ad pr;obtain⟨rfl,rfl,_⟩|⟨rfl,rfl,_⟩:=hh
   .exact⟨fun h=>h.elim (fun h=>h.imp id fun h=>.inl ⟨h.1.symm,h.2.symm⟩) fun h=>.inr (.inr ⟨h.2.symm,h.1.symm⟩),fun h=>h.elim (fun h=>.inl (.inl h)) fun h=>h.elim (fun h=>.inl (.inr ⟨h.1.symm,h.2.symm⟩)) fun h=>.inr ⟨h.2.symm,h.1.symm⟩⟩
   .exact⟨fun h=>h.elim (fun h=>h.imp id fun h=>.inr ⟨h.2.symm,h.1.symm⟩) fun h=>.inr (.inl ⟨h.1.symm,h.2.symm⟩),fun h=>h.elim (fun h=>.inl (.inl h)) fun h=>h.elim (fun h=>.inr ⟨h.1.symm,h.2.symm⟩) fun h=>.inl (.inr ⟨h.2.symm,h.1.symm⟩)⟩
  have e:4*(R++[(⟨d,l2,pp,l4,qq⟩:Qr)]).length=4*R.length+4:=by rw[zA,v6];lia
  unfold RS;rw[e];exact RB
 by_cases lt:l2<l4
 .refine itp (VX lt) ⟨dx,_,hr0,xH _ _,by walk_at "o",fun p1 hp1=>⟨by walk_at "o",fun p2 hp2=>?_⟩⟩
  have t1:=aj (HO.tup [VS l2,VS l4]) hp1;have t2:=t1.trans (aj (HO.tup [V.int pp,V.int qq]) hp2);exact⟨b,WU,_,_,_,W,l2,l4,(pp,qq),RR.same t2,t2 _ _ hb0,(nB.upd rfl).upd rfl,(aj _ hp2) _ _ aa,lt,aa,by walk_at "o",fun kvs' W' H' RA hb' nb' hf K3=>fin t2 (.inl ⟨rfl,rfl,rfl,rfl⟩) lt RA hb' nb' hf K3⟩
 .have gt:l4<l2:=(nJ l2 l4).elim (fun h=>VT h lt) fun h=>h.elim (fun h=>VT h eq) id
  refine itn (fun z=>lt (of_decide_eq_true z)) ⟨dx,_,hr0,xH _ _,by walk_at "o",fun p1 hp1=>⟨by walk_at "o",fun p2 hp2=>?_⟩⟩;have t1:=aj (HO.tup [VS l4,VS l2]) hp1;have t2:=t1.trans (aj (HO.tup [V.int qq,V.int pp]) hp2);exact⟨b,WU,_,_,_,W,l4,l2,(qq,pp),RR.same t2,t2 _ _ hb0,(nB.upd rfl).upd rfl,(aj _ hp2) _ _ aa,gt,aa,by walk_at "o",fun kvs' W' H' RA hb' nb' hf K3=>fin t2 (.inr ⟨rfl,rfl,rfl,rfl⟩) gt RA hb' nb' hf K3⟩
def lO(x y:V):qW (zR "newest") [(zR "by_pair",x),(zR "beside",y)]=none:=by rw[aZ (by decide +kernel),aZ (by decide +kernel)];rfl
def BX.two{N:List Str}{WK:Str}{st:Stmt}{k0 k n:Nat}{sp0 sp1 sp:Sp}(h0:BX P w K mg base N WK st k0 n sp0)(h1:BX P w K mg base N WK st k n sp1)(hk:k0<=k)(c:∀vs H Q E,sp vs H Q E->sp0 vs H Q E\/sp1 vs H Q E):BX P w K mg base N WK st k n sp:=
 ⟨fun vs H Q E h=>(c vs H Q E h).elim (h0.1 vs H Q E) (h1.1 vs H Q E),fun f WW A WX s H vs Q E nd hu hr h=>(c vs H Q E h).elim (h0.2 f WW A WX s H vs Q E nd hu (hr.mono hk)) (h1.2 f WW A WX s H vs Q E nd hu hr)⟩
def GP(H:Hp)(v:V):Option (Int × Wt)->Prop
 |none=>v = .non
 |some e=>∃t,v = .ref t/\H t=some (.tup [.int e.2.1,.int e.2.2])
def DM.keys{H:Hp}{m:List (Key × V)}{f:Int->Option Wt}(h:DM H m f):∃ds:List Int,m.map (fun e=>kV e.1)=ds.map V.int/\∀D,D∈ds↔f D≠none:=by
 have h1:∃ds:List Int,m.map (·.1)=ds.map (Sum.inl:Int->Key):=by
  have ht:∀k v,(k,v)∈m->∃D,k=(Sum.inl D:Key):=fun k v mm=>let ⟨D,_,_,e,_⟩:=h.to k v mm;⟨D,e⟩;clear h
  induction m with
  |nil=>exact⟨[],rfl⟩
  |cons p r ih=>
   obtain⟨ds,e⟩:=ih fun k v mm=>ht k v (.tail _ mm);obtain⟨D,eD⟩:=ht p.1 p.2 (.head _);exact⟨D::ds,by rw[yH,yH,e,eD]⟩
 obtain⟨ds,e⟩:=h1;refine⟨ds,?_,fun D=>⟨fun mD=>?_,fun z=>?_⟩⟩
 .have:=VU (List.map kV) e
  rw[vN,vN]at this;exact this
 .have:(Sum.inl D:Key)∈m.map (·.1):=by rw[e];exact yR.mpr ⟨D,mD,rfl⟩
  obtain⟨⟨k,v⟩,mk,rfl⟩:=yR.mp this;obtain⟨D',w',t,e1,_,_,e4⟩:=h.to _ _ mk;obtain rfl:=Sum.inl.inj e1;rw[e4];exact fun z=>nomatch z
 .cases hv:f D with
  |none=>exact VT hv z
  |some w'=>
   obtain⟨v,mv⟩:=h.fr D w' hv;have:(Sum.inl D:Key)∈m.map (·.1):=yR.mpr ⟨_,mv,rfl⟩;rw[e]at this;obtain⟨D',mD,e2⟩:=yR.mp this;exact Sum.inl.inj e2 ▸ mD
def sp_yW:Sp:=sp4 fun _ _ _ _ _ _ _=>False
def sA(T:Txt K mg a):Mo P w K mg base a.aM "newest" 1 sp_yW:=by
 refine T.fF.hx ["self","one","other","day","worth","by_day","told_by_then"] (gX4 fun x0 x1 x2 x3 fA WW A WX s H Q E ND HU hr h=>?_);exact h.elim
def sp_xl(C:WH):Sp:=sp4 fun x y z u H Q _=>asR x fun r=>asT y fun l=>asT z fun l'=>asI u fun d=>¬ l'<l/\WM H/\∃b WU R W,RS C H r b WU R W/\eK R/\R.length<=40/\∀o v H',eh (val R l l') d o->GP H' v o->WT H H'->WM H'->Q v H'
def uC(T:Txt K mg a):BX P w K mg base ["self","one","other","day","worth","by_day","told_by_then"] "Rates.newest" dM 1 4 (sp_xl a.aM):=gX4 fun x0 x1 x2 x3 fA WW A WX s H Q E ND HU hr h=>by
 obtain⟨r,rfl,h1⟩:=aQ h;obtain⟨l,rfl,h2⟩:=bt h1;obtain⟨l',rfl,h3⟩:=bt h2;refine bQ (ba h3) fun d yy1 lt hN yz=>yr yz fun b WU R W RR ap lR k=>?_;subst yy1;have sz:=szl;refine qO RR.ex fun dx s0 sks hr0 B S dj ns hW=>?_;refine⟨_,(af (bi (aX qk (fv 2) (fv 1)) (af (aE 4 ND (cZ (fv 0) T.bK (sA T) hr.mono av (fa3 (fv 2) (fv 1) (fv 3))))
  (ah (aB (t7 (gZ (sH (fv 4))) eC (bZ (fa2 (aH K (fv 4) ae) (aH K (fv 4) ae))))))) aL)
  (af (aE 5 ND (cR (Zz HU) (bx K (fv 0)) (bZ (fa2 (fv 1) (fv 2))) dq ⟨rfl,rfl,rfl,rfl⟩))
  (af (nD (nP (i0:=6) ND rfl (Wb rfl) rfl (cl:=_) (x:="quoted") (xs:=["quoted"]) (fr:=["day"]) (ks:=[3]) (by walk_at "k") rfl (sV (fv 5)) (fun _ _ _ _ _=>(aK (i:=0) (d_ (l:=["quoted","day"]) (by decide)) rfl (Wb rfl))) (fun _ _ _ _ _=>(hU (aX fO (fv 0) (fv 1)))) (fun _ _ _ _ _=>(fv 0))))
  (af (bi (aX (bS K HU) (aI (cq K) rfl T.eJ de (fa1 (fv 6))) ae) (ah (aB eC)) aL)
  (ah (aB (aT (Zz HU) (fv 5) (aI (xp K rfl) rfl T.z0 vR (fa1 (fv 6))) (fun _ _=>rfl)))))))),?_⟩
 walk_at "d";refine itn (fun z=>lt (of_decide_eq_true z)) ⟨_,_,_,_,hr0,T.bK,T.eF,IE _ _,_,rfl,.inr ⟨_,B.at_⟩,by walk_at "o",fun p1 hp1 p2 hp2=>?_⟩;have s1:=aj (HO.tup [VS l,VS l']) hp1;have s2:=s1.trans (aj (HO.dK []) hp2);have g:DGet (upd (upd H p1 (.tup [VS l,VS l'])) p2 (.dK [])) b (.ref p1) (bG WU (kP (l,l'))):=.inr ⟨WU,kP (l,l'),p1,nI B.at_ s2,rfl,(aj (HO.dK []) hp2) _ _ aa,rfl⟩;have N1:WM (upd (upd H p1 (.tup [VS l,VS l'])) p2 (.dK [])):=al (al hN rfl) rfl;refine⟨_,g,?_⟩;obtain⟨e,m,he,hm,lm,dm⟩:∃e m,(bG WU (kP (l,l'))).getD (.ref p2) = .ref e/\upd (upd H p1 (.tup [VS l,VS l'])) p2 (.dK []) e=some (.dK m)/\m.length<=200/\DM (upd (upd H p1 (.tup [VS l,VS l'])) p2 (.dK [])) m (val R l l'):=by
  cases hv:bG WU (kP (l,l')) with
  |some v=>
   refine zF (B.to _ _ (i8 hv)) fun x y e m e1 e2 yy1 e4 e5 e6=>?_;subst yy1;obtain⟨rfl,rfl⟩:=ZC (jO e1);exact⟨e,m,rfl,s2 _ _ e4,by lia,e6.mv fun t l z=>s2 _ _ z⟩
  |none=>
   refine⟨p2,[],rfl,aa,tB _,ZQ,(fun _ _ z=>nomatch z),fun D w' z=>?_⟩;obtain h|rfl|h:=nJ l l'
   .obtain⟨v,mv⟩:=B.fr l l' D w' h z
    exact VT mv (ic hv)
   .rw[D7 _ _ _ ap]at z;cases z
   .exact VT h lt
 rw[he];obtain⟨ds,hds,mds⟩:=dm.keys;generalize upd (upd H p1 (.tup [VS l,VS l'])) p2 (.dK [])=H1 at s2 hm dm N1 |-
 refine Gi (cmK e m (fun v=>decide (toI v<=d)) id (fun R r=>r) (.inl hm) (by lia) (fun x mx D ys o R _ _ r=>?_) (fun x mx _ D ys o R _ _ r=>r) fun D hD=>?_)
 .rw[hds]at mx
  obtain⟨i,_,rfl⟩:=yR.mp mx;walk_at "d";exact r
 .have el:((m.map fun e=>kV e.1).filter fun v=>decide (toI v<=d)).map id=(ds.filter fun i=>decide (i<=d)).map V.int:=by
   rw[hds,List.map_id,XM];rfl
  rw[el];have s3:=aj (HO.lst ((ds.filter fun i=>decide (i<=d)).map V.int)) hD;have hD1:upd H1 D (HO.lst ((ds.filter fun i=>decide (i<=d)).map V.int)) D=some (.lst ((ds.filter fun i=>decide (i<=d)).map V.int)):=aa;have N2:WM (upd H1 D (HO.lst ((ds.filter fun i=>decide (i<=d)).map V.int))):=al N1 rfl;generalize upd H1 D (HO.lst ((ds.filter fun i=>decide (i<=d)).map V.int))=H2 at s3 hD1 N2;walk_at "d";refine⟨_,.inl (az hD1),?_⟩;rw[zV];by_cases em:ds.filter (fun i=>decide (i<=d))=[]
  .rw[em]
   refine itp rfl (k none .non _ (fun D' le=>?_) rfl (s2.trans s3) N2);cases hv:val R l l' D' with
   |none=>rfl
   |some w'=>
    have:D'∈ds.filter fun i=>decide (i<=d):=Zn.mpr ⟨(mds D').mpr (by rw[hv];exact fun z=>nomatch z),VX le⟩;rw[em]at this;cases this
  .refine itn (fun z=>em (List.length_eq_zero_iff.mp (by lia))) ⟨_,az hD1,em,fun M mM mx=>?_⟩
   obtain⟨mM1,mM2⟩:=Zn.mp mM;have mM2:=of_decide_eq_true mM2;cases hv:val R l l' M with
   |none=>exact VT hv ((mds M).mp mM1)
   |some w'=>
    obtain⟨v,mv⟩:=dm.fr M w' hv;obtain⟨v',hv',mv'⟩:=Av mv;obtain⟨D',w2,t,e1,rfl,e3,e4⟩:=dm.to _ _ mv';obtain rfl:=Sum.inl.inj e1;rw[hv]at e4;cases e4;refine⟨e,.ref t,rfl,by have:=DGet.k (k:=.inl M) (s3 _ _ hm);rw[hv']at this;exact this,k (some (M,w')) _ _ ⟨mM2,hv,fun D2 l2 z=>mx D2 (Zn.mpr ⟨(mds D2).mpr z,VX l2⟩)⟩ ⟨t,rfl,s3 _ _ e3⟩ (s2.trans s3) N2⟩
def Dq(T:Txt K mg a):Mo P w K mg base a.aM "newest" 2 (sp_xl a.aM):=T.fF.hx ["self","one","other","day","worth","by_day","told_by_then"] (uC T)
def sp_EB(C:WH):Sp:=sp4 fun x y z u H Q _=>asR x fun r=>asT y fun l=>asT z fun l'=>asI u fun d=>l'<l/\WM H/\∃b WU R W,RS C H r b WU R W/\eK R/\R.length<=40/\∀o v H',eh (val R l l') d o->GP H' v o->WT H H'->WM H'->Q v H'
def CI(T:Txt K mg a):BX P w K mg base ["self","one","other","day","worth","by_day","told_by_then"] "Rates.newest" dM 2 4 (sp_EB a.aM):=gX4 fun x0 x1 x2 x3 fA WW A WX s H Q E ND HU hr h=>by
 obtain⟨r,rfl,h1⟩:=aQ h;obtain⟨l,rfl,h2⟩:=bt h1;obtain⟨l',rfl,h3⟩:=bt h2;refine bQ (ba h3) fun d yy1 lt hN yz=>yr yz fun b WU R W RR ap lR k=>?_;subst yy1;have sz:=szl;refine qO RR.ex fun dx s0 sks hr0 B S dj ns hW=>?_;refine⟨_,(af (bi (aX qk (fv 2) (fv 1)) (af (aE 4 ND (cZ (fv 0) T.bK (Dq T) hr.mono av (fa3 (fv 2) (fv 1) (fv 3))))
  (ah (aB (t7 (gZ (sH (fv 4))) eC (bZ (fa2 (aH K (fv 4) ae) (aH K (fv 4) ae))))))) aL)
  (af (aE 5 ND (cR (Zz HU) (bx K (fv 0)) (bZ (fa2 (fv 1) (fv 2))) dq ⟨rfl,rfl,rfl,rfl⟩))
  (af (nD (nP (i0:=6) ND rfl (Wb rfl) rfl (cl:=_) (x:="quoted") (xs:=["quoted"]) (fr:=["day"]) (ks:=[3]) (by walk_at "k") rfl (sV (fv 5)) (fun _ _ _ _ _=>(aK (i:=0) (d_ (l:=["quoted","day"]) (by decide)) rfl (Wb rfl))) (fun _ _ _ _ _=>(hU (aX fO (fv 0) (fv 1)))) (fun _ _ _ _ _=>(fv 0))))
  (af (bi (aX (bS K HU) (aI (cq K) rfl T.eJ de (fa1 (fv 6))) ae) (ah (aB eC)) aL)
  (ah (aB (aT (Zz HU) (fv 5) (aI (xp K rfl) rfl T.z0 vR (fa1 (fv 6))) (fun _ _=>rfl)))))))),?_⟩
 walk_at "d";refine itp (VX lt) ⟨_,_,hr0,lO _ _,fun z=>Y6 _ (List.lt_trans lt z),hN,b,WU,R,W,RR,ap,lR,fun o v H1 io wo s1 N1=>?_⟩;have io2:=CT (t:=swp) (fun D=>AM l' l D R ap) io;cases o with
 |none=>cases wo;exact itp rfl (k _ _ _ io2 rfl s1 N1)
 |some e=>
  obtain⟨t,rfl,ht⟩:=wo;refine itn (fun z=>nomatch z) ?_;walk_at "d";refine⟨_,_,.inr (bF ht),aO (j:=1) rfl,_,_,.inr (bF ht),aO (j:=0) rfl,by walk_at "o",fun p hp=>k _ _ _ io2 ⟨p,rfl,aa⟩ (s1.trans (aj _ hp)) (al N1 rfl)⟩
def sp_Gr(C:WH):Sp:=sp4 fun x y z u H Q _=>asR x fun r=>asT y fun l=>asT z fun l'=>asI u fun d=>WM H/\∃b WU R W,RS C H r b WU R W/\eK R/\R.length<=40/\∀o v H',eh (val R l l') d o->GP H' v o->WT H H'->WM H'->Q v H'
def ip(T:Txt K mg a):Mo P w K mg base a.aM "newest" 3 (sp_Gr a.aM):=by
 refine T.fF.hx ["self","one","other","day","worth","by_day","told_by_then"] (BX.two (uC T) (CI T) (by decide) fun vs H Q E h=>?_);obtain⟨x0,x1,x2,x3,rfl,h⟩:=sp4.inv h;obtain⟨r,rfl,h1⟩:=aQ h;obtain⟨l,rfl,h2⟩:=bt h1;obtain⟨l',rfl,h3⟩:=bt h2;obtain⟨d,rfl,h4⟩:=ba h3;by_cases lt:l'<l
 .exact .inr ⟨lt,h4⟩
 .exact .inl ⟨lt,h4⟩
def bv{H:Hp}{p:WH}{o:HO}(h:H p=none)(n:WM H)(ho:dw o=true):∃H1,upd H p o=H1/\WT H H1/\H1 p=some o/\WM H1:=⟨_,rfl,aj _ h,aa,al n ho⟩
def BR{H:Hp}{p:WH}{o:HO}(n:WM H)(ho:dw o=true):∃H1,upd H p o=H1/\H1 p=some o/\WS [p] H H1/\WM H1:=⟨_,rfl,aa,WS.refl.put (.head _),al n ho⟩
theorem DQ:∀out:List (List Nat),A2 (fun(v:V) c=>v=VS c) (out.map VS) out
 | []=>.nil
 |c::r=>.cons rfl (DQ r)
def xQ{ws:List V}{ls:List (List Nat)}(h:A2 (fun v c=>v=VS c) ws ls):ws=ls.map VS:=by
 induction h with
 |nil=>rfl
 |cons e _ ih=>rw[e,ih];rfl
def Kx{m:List (Key × V)}{p:List Nat->Prop}(h:TK m p):∃ls:List (List Nat),m.map (fun e=>kV e.1)=ls.map VS/\ls.Nodup/\(∀x,x∈ls↔p x)/\ls.length=m.length:=by
 have h1:∃ls:List (List Nat),m.map (·.1)=ls.map fun x=>(Sum.inr ⟨⟨x⟩⟩:Key):=by
  have ht:∀k∈m.map (·.1),∃x,k=(Sum.inr ⟨⟨x⟩⟩:Key):=fun k mk=>let ⟨y,e,_⟩:=(h.2 k).mp mk;⟨y,e⟩;clear h
  induction m with
  |nil=>exact⟨[],rfl⟩
  |cons p r ih=>
   obtain⟨ds,e⟩:=ih fun k mm=>ht k (.tail _ mm);obtain⟨D,eD⟩:=ht p.1 (.head _);exact⟨D::ds,by rw[yH,yH,e,eD]⟩
 obtain⟨ls,e⟩:=h1;have hm:∀x,x∈ls↔(Sum.inr ⟨⟨x⟩⟩:Key)∈m.map (·.1):=fun x=>by
  rw[e,yR];exact⟨fun z=>⟨x,z,rfl⟩,fun⟨y,my,ey⟩=>fN ey ▸ my⟩
 refine⟨ls,?_,?_,fun x=>(hm x).trans ((h.2 _).trans ⟨fun⟨y,ey,q⟩=>by rw[fN ey];exact q,fun q=>⟨x,rfl,q⟩⟩),?_⟩
 .have:=VU (List.map kV) e
  rw[vN,vN]at this;exact this
 .have nd:=h.1
  rw[e]at nd;exact(Xi.mp nd).imp fun z q=>z (by rw[q])
 .have:=VU Yl e
  rw[zV,zV]at this;exact this.symm
def oH{p:List Nat->Bool}{ls:List (List Nat)}(h:InO ls):InO (ls.filter p):=h.filter _
def sp_Gx(C:WH):Sp:=sp3 fun x y z H Q _=>asR x fun r=>asT y fun l=>asI z fun d=>WM H/\∃b WU R W,RS C H r b WU R W/\eK R/\R.length<=20/\∀out p H',InO out->out.Nodup->(∀y,y∈out↔Lk R d l y)->H p=none->H' p=some (.lst (out.map VS))->WT H H'->WM H'->Q (.ref p) H'
def eN(T:Txt K mg a):Mo P w K mg base a.aM "neighbours" 4 (sp_Gx a.aM):=by
 refine T.jN.hx ["self","currency","day","others"] (gX3 fun x0 x1 x2 fA WW A WX s H Q E ND HU hr h=>?_);obtain⟨r,rfl,h1⟩:=aQ h;obtain⟨l,rfl,h2⟩:=bt h1;refine fL (ba h2) fun d yy1 hN yz=>yr yz fun b WU R W RR ap lR k=>?_;subst yy1;have sz:=szl;refine qO RR.ex fun dx s0 sks hr0 B S dj ns hW=>?_;refine⟨_,(af (aE 3 ND (aI (uJ rfl) rfl T.jU i5 (fa1 (cR (Zz HU) (bx K (fv 0)) (fv 1) dq ⟨rfl,rfl,rfl,rfl⟩))))
  (ah (aB (cL rfl (cl:=_) (x:="other") (xs:=["other"]) (fr:=["currency","day","self"]) (ks:=[1,2,0]) (by walk_at "k") rfl (bA K (fv 3)) (fun _ _ _ _ _=>(aK (i:=0) (d_ (l:=["other","currency","day","self"]) (by decide)) rfl (Wb rfl))) (fun _ _ _ _ _=>(hU (gZ (kg (cZ (fv 3) T.bK (ip T) hr.mono AL (fa3 (fv 1) (fv 0) (fv 2))))))) (fun _ _ _ _ _=>(fv 0)))))),?_⟩
 walk_at "d";refine⟨_,_,_,_,hr0,T.bK,T.fJ,Jl _ _,_,rfl,.inl ⟨_,.inl S.at_⟩,fun p hp=>?_⟩;have s1:=aj (HO.dK []) hp;have g:=DGet.k (k:=.inr ⟨⟨l⟩⟩) (s1 _ _ S.at_);refine⟨_,g,?_⟩;obtain⟨e,m,he,hm,tm⟩:∃e m,(bG sks (.inr ⟨⟨l⟩⟩)).getD (.ref p) = .ref e/\upd H p (.dK []) e=some (.dK m)/\TK m (Nbr R l):=by
  cases hv:bG sks (.inr ⟨⟨l⟩⟩) with
  |some v=>
   refine qO (S.to _ _ (i8 hv)) fun x e m e1 yy1 _ e4 _ e6=>?_;subst yy1;obtain rfl:=fN e1;exact⟨e,m,rfl,s1 _ _ e4,e6⟩
  |none=>
   refine⟨p,[],rfl,aa,ZQ,fun k=>⟨(fun z=>nomatch z),fun⟨y,_,q⟩=>?_⟩⟩;obtain⟨v,mv⟩:=S.fr l y q;exact VT mv (ic hv)
 rw[he];refine bQ (Kx tm) fun ls el nd ml ll=>?_;have lm:ls.length<=40:=by
  have:=jE (l':=nms R) nd fun y my=>by
   obtain⟨r',mr,⟨rfl,rfl⟩|⟨rfl,rfl⟩⟩:=(ml y).mp my
   .exact XU.mpr ⟨r',mr,.tail _ (.head _)⟩
   .exact XU.mpr ⟨r',mr,.head _⟩
  rw[kW]at this;lia
 have N1:WM (upd H p (.dK [])):=al hN rfl;generalize upd H p (.dK [])=H1 at s1 hm N1 |-
 walk_at "d";refine⟨m,ls,hm,el,by lia,fun out po oo q hq=>?_⟩;refine bQ (bv (o:=HO.lst (out.map VS)) hq N1 rfl) fun G0 eG s2 hq0 N2=>?_;rw[eG];have s02:=s1.trans s2;have lo:out.length=ls.length:=po.length_eq;refine qi ?_;walk_at "d";refine⟨⟨_,az hq0⟩,ceA (S:=fun _ (v:V) y=>v=VS y) (fun _ _ _ _ _ h=>h) q (out.map VS) out (fun v y=>v=VS y) (fun y=>lkB R d l y) id hq0 N2 (DQ out) (by rw[zV];lia) (fun v y my ry G zs n1 n0 sm nG hz k1 k0=>?_) fun D ws G fD sm nG gD aD=>?_⟩
 .subst ry
  obtain⟨z1,rfl⟩:=ex1 hz;have sG:=s02.trans sm;walk_at "d";refine⟨⟨[_],rfl,rfl⟩,_,_,sG _ _ hr0,lO _ _,nG,b,WU,R,W,RR.same sG,ap,by lia,fun o v H2 io wo s3 N3=>?_⟩;have hb:lkB R d l y=decide (o≠none):=by
   rw[Xn,xE,decide_eq_true_iff];exact(vK io).symm
  cases o with
  |none=>cases wo;exact itp rfl (k0 hb _ s3 N3)
  |some e'=>obtain⟨t,rfl,_⟩:=wo;exact itn (by intro z;cases z) (k1 hb _ _ s3 N3 rfl)
 .have e1:=xQ aD
  rw[List.map_id]at e1;rw[e1]at gD;refine k _ D G (oH oo) ((po.nodup_iff.mpr nd).filter _) (fun y=>?_) (s02.free fD) gD (s02.trans sm) nG;rw[Zn,xE];exact⟨fun z=>z.2,fun z=>⟨po.mem_iff.mpr ((ml y).mpr z.nbr),z⟩⟩
def BZ(x y:V):qW (zR "every") [(zR "bookings",x),(zR "undoings",y)]=none:=by rw[aZ (by decide +kernel),aZ (by decide +kernel)];rfl
def sp_vN:Sp:=sp1 fun x H Q _=>WM H/\asR x fun p=>∃vs bs,H p=some (.lst vs)/\A2 (BkAt H) vs bs/\bs.length<=100/\(∀b∈bs,b.rs.length<=7)/\∀r ws H',H r=none->H' r=some (.lst ws)->A2 (WR H') ws (bs.flatMap (·.rs))->WT H H'->WM H'->Q (.ref r) H'
theorem fg:∀ {bs:List Bo},(∀b∈bs,b.rs.length<=7)->(bs.flatMap (·.rs)).length<=7*bs.length
 | [],_=>zK _
 |b::r,h=>by
  have ih:=fg (bs:=r) fun x m=>h x (.tail _ m);have hb:=h b (.head _);rw[Ye,zA,vZ];lia
def vM(T:Txt K mg a):Fo P w K mg base "rows_of" 1 sp_vN:=by
 refine T.yD.hx ["bookings","rows","booking"] (gX1 fun x0 fA WW A WX s H Q E ND HU hr h=>?_);obtain⟨hN,h1⟩:=h;obtain⟨p,rfl,vs,bs,hp,ha,len,ok,k⟩:=aQ h1;have sz:=szl;refine⟨_,(af (aE 1 ND (cy (FA.pa c_)))
  (af (bY (by passes_own) rfl (bA K (fv 0)) (aK (i:=2) ND rfl (Wb rfl)) (ah (bH (cD K Zm PySem.F.slot_list_extend PySem.F.type_list_extend Ei (fv 1) (fa1 (aH K (fv 2) ae))))))
  (ah (aB (fv 1))))),?_⟩
 walk_at "z";refine⟨tB _,fun r hr=>cf ?_⟩;walk_at "z";refine cN (az ((aj _ hr) _ _ hp)) (cM (fun i σ' H'=>WT H H'/\WM H'/\∃ws x2,H' r=some (.lst ws)/\A2 (WR H') ws ((bs.take i).flatMap (·.rs))/\σ'=[some (.ref p),some (.ref r),x2]) ⟨aj _ hr,al hN rfl,[],none,aa,.nil,rfl⟩ (fun i σ' H' _ h=>az (h.1 _ _ hp)) ?_ ?_)
 .rintro i x σ' H' hx ⟨sm,nT,ws,x2,hr',aw,rfl⟩
  refine bE (ha.at_ hx) fun b hb yz=>yr yz fun q u us nt yy1 e1 e2 ar=>?_;subst yy1;have e1':=sm _ _ e1;have e2':=sm _ _ e2;have lw:=aw.len;have lf:=fg (bs:=bs.take i) fun x m=>ok x (ZI m);rw[Zv]at lf;have lb:=ok b (yo hb);have lu:=ar.len;walk_at "d";refine⟨.inl ⟨_,az hr'⟩,_,_,.inr (bF e1'),aO (j:=3) rfl,r,u,ws,us,rfl,rfl,hr',e2',by rw[ue];lia,bX sm hr,al nT rfl,_,_,aa,?_,rfl⟩;have kp:WS [r] H' (upd H' r (.lst (ws++us))):=WS.refl.put (.head _);rw[bO hb,List.flatMap_append,Ye,List.flatMap_nil,Za];exact(eV kp (LW.one hr') aw).app (eV kp (LW.one hr') (gJ sm ar))
 .rintro σ' H' ⟨sm,nT,ws,x2,hr',aw,rfl⟩
  rw[ha.len,Zp]at aw;walk_at "z";exact k r ws H' hr hr' aw sm nT
def sp_zV(J:WH):Sp:=sp2 fun x y H Q _=>WM H/\asR x fun j=>asI y fun t=>∃b u vs WU bs,JAt J H j b u vs WU/\A2 (BkAt H) vs bs/\bs.length<=100/\∀r ws H',H r=none->H' r=some (.lst ws)->A2 (BkAt H') ws (bs.filter fun b=>decide (b.d<=t))->WT H H'->WM H'->Q (.ref r) H'
def kc(T:Txt K mg a):Fo P w K mg base "bookings_up_to" 2 (sp_zV a.bg):=by
 refine T.lK.hx ["journal","day"] (gX2 fun x0 x1 fA WW A WX s H Q E ND HU hr h=>?_);obtain⟨hN,h1⟩:=h;obtain⟨j,rfl,h2⟩:=aQ h1;obtain⟨t,rfl,b,u,vs,WU,bs,JJ,hv,len,k⟩:=ba h2;have sz:=szl;refine⟨_,(ah (aB (cL rfl (cl:=_) (x:="booking") (xs:=["booking"]) (fr:=["day"]) (ks:=[1]) (by walk_at "k") rfl (bA K (CD (fv 0) T.cQ (lY T) hr.mono av)) (fun _ _ _ _ _=>(aK (i:=0) (d_ (l:=["booking","day"]) (by decide)) rfl (Wb rfl))) (fun _ _ _ _ _=>(hU (aX fO (aH K (fv 0) ae) (fv 1)))) (fun _ _ _ _ _=>(fv 0))))),?_⟩;obtain⟨dj,hj⟩:=JJ.ob;walk_at "z";refine qi ?_;walk_at "d";refine⟨_,_,hj,BZ _ _,hN,b,u,vs,WU,JJ,fun l hl=>?_⟩;have sl:=aj (HO.lst vs) hl;have lv:=hv.len;refine⟨⟨_,az aa⟩,wY l vs (fun D i ys G=>WT (upd H l (.lst vs)) G/\WM G/\G D=some (.lst ys)/\upd H l (.lst vs) D=none/\A2 (BkAt G) ys ((bs.take i).filter fun b=>decide (b.d<=t))) (by rw[ue];lia) (fun D hD=>⟨aj _ hD,al (al hN rfl) rfl,aa,hD,.nil⟩) (fun D i ys G h=>⟨h.2.2.1,az (h.1 _ _ aa),?_⟩) ?_ ?_⟩
 .rw[h.2.2.2.2.len]
  exact wG (Zb _ _) (by rw[Zv];lia)
 .rintro D i y ys G zs N1 N0 hy ⟨sG,nG,hD,fD,aG⟩ hz n1 n0
  obtain⟨bb,hb1,hb2⟩:=hv.at_ hy;have hb3:=hb2.keep (W:=[]) (bL (sl.trans sG)) LW.nil;refine yr (id hb3) fun qb tb vb nt yy1 e1 e2 rw_=>?_;subst yy1;obtain⟨z1,rfl⟩:=ex1 hz;walk_at "z";refine⟨⟨[some (.ref qb)],rfl,rfl⟩,_,_,.inr (bF e1),aO (j:=1) rfl,?_⟩;walk_at "d";rw[bO hb1,ZW]at n1 n0;by_cases h:bb.d<=t
  .rw[ZU (by simpa using h)]at n1
   have kp:WS [D] G (upd G D (.lst (ys++[.ref qb]))):=WS.refl.put (.head _);exact itp h (n1 _ _ hD ⟨bX sG fD,al nG rfl,aa,fD,(uU kp (LW.one hD) aG).snoc (hb3.keep kp (LW.one hD))⟩)
  .rw[ZT (by simpa using h),Yc,Za]at n0
   exact itn h (n0 _ ⟨sG,nG,hD,fD,aG⟩)
 .rintro D ys G ⟨sG,nG,hD,fD,aG⟩
  rw[lv,Zp]at aG;exact k D ys G (sl.free fD) hD aG (sl.trans sG) nG
def Ai(x y:V):qW (zR "neighbours") [(zR "by_pair",x),(zR "beside",y)]=none:=by rw[aZ (by decide +kernel),aZ (by decide +kernel)];rfl
def AO{R:List Qr}{d:Int}{g x:List Nat}{n:Nat}(f:Far (Lk R d) g n x):x∈g::nms R:=(qU R g).far (.head _) f
def Al{R:List Qr}{d:Int}{g x:List Nat}{n:Nat}(f:Far (Lk R d) g n x):n<2*R.length+1:=by
 have:=(qU R g).few (.head _) f
 rwa [vZ,kW]at this
structure Rnd(R:List Qr)(d:Int)(g:List Nat)(k:Nat)(G:Hp)(s f:WH)(F:List (List Nat))(m:List (Key × V)):Prop where
 st:G s=some (.dK m)
 sd:SD m (Up (Lk R d) g k F)
 ft:G f=some (.lst (F.map VS))
 nd:F.Nodup
 fr:∀y∈F,Far (Lk R d) g (k+1) y
def Rnd.mlen{R:List Qr}{d:Int}{g:List Nat}{k:Nat}{G:Hp}{s f:WH}{F:List (List Nat)}{m:List (Key × V)}(h:Rnd R d g k G s f F m):m.length<=2*R.length+1:=by
 have:=h.sd.len (S:=g::nms R) fun x n u=>AO (BA h.fr u)
 rwa [vZ,kW]at this
def Rnd.flen{R:List Qr}{d:Int}{g:List Nat}{k:Nat}{G:Hp}{s f:WH}{F:List (List Nat)}{m:List (Key × V)}(h:Rnd R d g k G s f F m):F.length<=2*R.length+1:=by
 have:=jE (l':=g::nms R) h.nd fun y my=>AO (h.fr y my)
 rwa [vZ,kW]at this
def Rnd.same{R:List Qr}{d:Int}{g:List Nat}{k:Nat}{G G':Hp}{s f:WH}{F:List (List Nat)}{m:List (Key × V)}(h:Rnd R d g k G s f F m)(sm:WT G G'):Rnd R d g k G' s f F m:=⟨sm _ _ h.st,h.sd,sm _ _ h.ft,h.nd,h.fr⟩
def Rnd.put{R:List Qr}{d:Int}{g:List Nat}{k:Nat}{G:Hp}{s f:WH}{F:List (List Nat)}{m:List (Key × V)}{c y:List Nat}(h:Rnd R d g k G s f F m)(fc:Far (Lk R d) g k c)(l:Lk R d c y)(no:∀n,¬ Up (Lk R d) g k F y n) :
 Rnd R d g k (upd (upd G s (.dK (bD m (.inr ⟨⟨y⟩⟩) (.int ((k+1:Nat):Int))))) f (.lst ((F++[y]).map VS))) s f (F++[y]) (bD m (.inr ⟨⟨y⟩⟩) (.int ((k+1:Nat):Int))):=by
 have fy:=Fw fc l no;have ne:s≠f:=gL h.st h.ft (fun z=>nomatch z);refine⟨(ag ne).trans aa,(h.sd.put no).cg fun x n=>xq.symm,aa,?_,fun z mz=>?_⟩
 .refine Z8.mpr ⟨h.nd,by simp,fun a ma b mb=>?_⟩
  rw[zh.mp mb];rintro rfl;exact no (k+1) (.inr ⟨rfl,ma⟩)
 .obtain mz|mz:=yy.mp mz
  .exact h.fr z mz
  .rw[zh.mp mz];exact fy
def ya{R:List Qr}{d:Int}{g:List Nat}{k:Nat}{F:List (List Nat)}{x y:List Nat}(h:∃n,Up (Lk R d) g k F x n):∃n,Up (Lk R d) g k (F++[y]) x n:=let ⟨n,u⟩:=h;⟨n,xq.mpr (.inl u)⟩
noncomputable def vo(m:List (Key × V))(t:Int)(v:V):Bool:=match bG m (.inr ⟨⟨toT v⟩⟩) with
 |some (.int i)=>decide (i=t)
 |_=>false
def CJ{m:List (Key × V)}{Pq:List Nat->Nat->Prop}(h:SD m Pq){t:Nat}{x:List Nat}:vo m t (VS x)=true↔Pq x t:=by
 unfold vo;have e:toT (VS x)=x:=rfl;rw[e];obtain⟨e,no⟩|⟨n,e,p⟩:=h.or x
 .rw[e];exact⟨(fun z=>nomatch z),fun z=>VT z (no t)⟩
 .rw[e]
  show decide ((n:Int)=t)=true↔_;rw[decide_eq_true_iff];constructor
  .intro z
   have:n=t:=by lia
   rw[<- this];exact p
  .intro q
   have:=h.get q;rw[e]at this;have:=Zs this;injection this
def Dk{m:List (Key × V)}{t i:Int}{x:List Nat}(h:bG m (.inr ⟨⟨x⟩⟩)=some (.int i)):vo m t (VS x)=decide (i=t):=by
 unfold vo;rw[show toT (VS x)=x from rfl,h]
def sp_AW(C:WH):Sp:=sp3 fun x y z H Q _=>asR x fun r=>asT y fun g=>asI z fun d=>WM H/\∃b WU R W,RS C H r b WU R W/\eK R/\R.length<=20/\∀s m H',H s=none->H' s=some (.dK m)->SD m (fun x n=>Far (Lk R d) g n x)->WT H H'->WM H'->Q (.ref s) H'
def s_(T:Txt K mg a):Fo P w K mg base "steps_to" 5 (sp_AW a.aM):=by
 refine T.wL.hx ["rates","goal","day","steps","reached","farther","currency","neighbour"] (gX3 fun x0 x1 x2 fA WW A WX s H Q E ND HU hr h=>?_);obtain⟨r,rfl,h1⟩:=aQ h;obtain⟨g,rfl,h2⟩:=bt h1;refine fL (ba h2) fun d yy1 hN yz=>yr yz fun b0 kvs0 R W RR ap lR kk=>?_;subst yy1;have sz:=szl;refine⟨_,(af (aE 3 ND (uN (fv 1) ae))
  (af (aE 4 ND (cy (fa1 (fv 1))))
  (af (oW (by passes_own) (aX xm (aI (cq K) rfl T.eJ de (fa1 (fv 4))) ae) (af (aE 5 ND (cy (FA.pa c_)))
  (af (bY (by passes_own) rfl (bA K (fv 4)) (aK (i:=6) ND rfl (Wb rfl)) (ah (bY (by passes_own) rfl (bA K (cZ (fv 0) T.bK (eN T) hr.mono av (fa2 (fv 6) (fv 2)))) (aK (i:=7) ND rfl (Wb rfl)) (ah (bi (gZ (lB (Zz HU) (fv 7) (fv 3)) (by with_unfolding_all rfl)) (af (cj (Zz HU) (fv 3) (fv 7) (ai aP (aT (Zz HU) (fv 3) (fv 6) (fun _ _=>rfl)) ae) rfl)
  (ah (bH (cD K Zm Zg Zh cz (fv 5) (fa1 (fv 7)))))) aL)))))
  (ah (aE 4 ND (fv 5))))))
  (ah (aB (fv 3)))))),?_⟩
 walk_at "d";refine Aj RR.ex fun dx s0 sks hr0 _=>?_;intro s hs;refine⟨aa,[(.inr ⟨⟨g⟩⟩,.int ((0:Nat):Int))],rfl,(show 1<=15 by decide),by walk_at "o",fun rp hrp=>?_⟩;have em:iC [] [((.inr ⟨⟨g⟩⟩:Key),V.int ((0:Nat):Int))]=[((.inr ⟨⟨g⟩⟩:Key),V.int ((0:Nat):Int))]:=rfl;rw[em]at hrp |-
 have s1:WT H (upd (upd H s (.dK [])) s (.dK [((.inr ⟨⟨g⟩⟩:Key),V.int ((0:Nat):Int))])):=nM (aj _ hs) hs;have h1:upd (upd H s (.dK [])) s (.dK [((.inr ⟨⟨g⟩⟩:Key),V.int ((0:Nat):Int))]) s=some (.dK [((.inr ⟨⟨g⟩⟩:Key),V.int ((0:Nat):Int))]):=aa;have N1:WM (upd (upd H s (.dK [])) s (.dK [((.inr ⟨⟨g⟩⟩:Key),V.int ((0:Nat):Int))])):=al (al hN rfl) rfl;generalize upd (upd H s (.dK [])) s (.dK [((.inr ⟨⟨g⟩⟩:Key),V.int ((0:Nat):Int))])=H1 at hrp s1 h1 N1 |-
 have s2:=aj (HO.lst [VS g]) hrp;refine⟨fun mm σ' G=>∃k rc rp m x5 x6 x7,σ'=[some (.ref r),some (VS g),some (.int d),some (.ref s),some (.ref rp),x5,x6,x7]/\WT H G/\WM G/\G s=some (.dK m)/\SD m (Up (Lk R d) g k [])/\G rp=some (.lst ((rc:List (List Nat)).map VS))/\(∀x,x∈rc↔Far (Lk R d) g k x)/\mm=2*R.length+2-k,⟨_,0,[g],rp,_,none,none,none,rfl,s1.trans s2,al N1 rfl,s2 _ _ h1,SD.one g (C7 (Lk R d) g),aa,(fun x=>by rw[zh];exact gs.symm),rfl⟩,?_⟩;rintro mm σ' G ⟨k,rc,rp,m,x5,x6,x7,rfl,sm,nG,hsG,SDm,hrpG,mrc,rfl⟩;walk_at "d";refine⟨_,.inl (az hrpG),?_⟩;rw[zV];by_cases e0:rc=[]
 .subst e0
  refine itn (by decide) ?_;have no:∀x,¬ Far (Lk R d) g k x:=fun x f=>by have:=(mrc x).mpr f;cases this
  exact kk s m G hs hsG (SDm.cg fun x n=>HM fun x n f=>Nat.le_of_not_lt fun l=>Ah no (ZO l) f) sm nG
 have kl:k<2*R.length+1:=by
  obtain⟨x,r',e⟩:=List.exists_cons_of_ne_nil e0;exact Al ((mrc x).mp (by rw[e];exact .head _))
 refine itp (by have:=Y4.mpr e0;lia) ⟨fun σ' G'=>∃rc rp m x5 x6 x7,σ'=[some (.ref r),some (VS g),some (.int d),some (.ref s),some (.ref rp),x5,x6,x7]/\WT H G'/\WM G'/\G' s=some (.dK m)/\SD m (Up (Lk R d) g (k+1) [])/\G' rp=some (.lst ((rc:List (List Nat)).map VS))/\(∀x,x∈rc↔Far (Lk R d) g (k+1) x),?_,?_⟩
 .rintro σ' G' ⟨rc',rp',m',x5,x6,x7,e1,e2,e2n,e3,e4,e5,e6⟩
  exact⟨2*R.length+2-(k+1),by lia,k+1,rc',rp',m',x5,x6,x7,e1,e2,e2n,e3,e4,e5,e6,rfl⟩
 refine⟨tB _,fun f hf=>?_⟩;refine bQ (bv (o:=HO.lst []) hf nG rfl) fun G0 eG0 sF hfG nF=>?_;have nrf:rp≠f:=aq hrpG hf;have Hf:H f=none:=sm.free hf;rw[eG0];refine cf ?_;walk_at "d";refine cN (az (sF _ _ hrpG)) (cM (fun i σ' G'=>∃F m x6 x7,σ'=[some (.ref r),some (VS g),some (.int d),some (.ref s),some (.ref rp),some (.ref f),x6,x7]/\WT H G'/\WM G'/\Rnd R d g k G' s f F m/\G' rp=some (.lst (rc.map VS))/\∀c∈rc.take i,∀y,Lk R d c y->∃n,Up (Lk R d) g k F y n) ⟨[],m,x6,x7,rfl,sm.trans sF,nF,⟨sF _ _ hsG,SDm,hfG,ZQ,(fun _ z=>nomatch z)⟩,sF _ _ hrpG,(fun _ z=>nomatch z)⟩ (fun i σ' G' _ ⟨_,_,_,_,_,_,_,_,h,_⟩=>az h) ?_ ?_)
 .rintro i x σ' G1 hx ⟨F,m1,x6,x7,rfl,sm1,nG1,RN,hrp1,cov⟩
  obtain⟨c,hc,rfl⟩:∃c,rc[i]? = some c/\VS c=x:=by rw[Wm]at hx;exact sx.mp hx
  have fc:=(mrc c).mp (yo hc);walk_at "d";refine cf ?_;walk_at "d";refine⟨_,_,sm1 _ _ hr0,Ai _ _,nG1,b0,kvs0,R,W,RR.same sm1,ap,lR,fun out p H2 oo nd mo hp hp2 s2 nH2=>?_⟩;have npf:p≠f:=Wc (aq RN.ft hp);have npr:p≠rp:=Wc (aq hrp1 hp);refine cN (az hp2) (cM (fun j σ' G'=>∃F m x7,σ'=[some (.ref r),some (VS g),some (.int d),some (.ref s),some (.ref rp),some (.ref f),some (VS c),x7]/\WT H G'/\WM G'/\Rnd R d g k G' s f F m/\G' rp=some (.lst (rc.map VS))/\G' p=some (.lst (out.map VS))/\(∀c∈rc.take i,∀y,Lk R d c y->∃n,Up (Lk R d) g k F y n)/\∀y∈out.take j,∃n,Up (Lk R d) g k F y n) ⟨F,m1,x7,rfl,sm1.trans s2,nH2,RN.same s2,s2 _ _ hrp1,hp2,cov,(fun _ z=>nomatch z)⟩ (fun i σ' G' _ ⟨_,_,_,_,_,_,_,_,h,_⟩=>az h) ?_ ?_)
  .rintro j y σ' G3 hy ⟨F3,m3,x7,rfl,sm3,nG3,RN3,hrp3,hp3,cov3,cv3⟩
   obtain⟨y,hy',rfl⟩:∃y',out[j]? = some y'/\VS y'=y:=by rw[Wm]at hy;exact sx.mp hy
   have ly:=(mo y).mp (yo hy');have ml3:=RN3.mlen;have fl3:=RN3.flen;walk_at "d";refine⟨_,_,rfl,DGet.k (k:=.inr ⟨⟨y⟩⟩) RN3.st,?_⟩;obtain⟨e,no⟩|⟨n,e,u⟩:=RN3.sd.or y
   .rw[e]
    refine itp rfl ⟨_,_,rfl,by have:=DGet.k (k:=.inr ⟨⟨c⟩⟩) RN3.st;rw[RN3.sd.get (x:=c) (n:=k) (.inl ⟨zK _,fc⟩)]at this;exact this,?_⟩;walk_at "d";have nfs:f≠s:=Wc (gL RN3.st RN3.ft (fun z=>nomatch z));have nrs:rp≠s:=gL hrp3 RN3.st (fun z=>nomatch z);have nps:p≠s:=gL hp3 RN3.st (fun z=>nomatch z);have RP:=RN3.put fc ly no;have ea:(F3++[y]).map VS=F3.map VS++[VS y]:=by rw[yE];rfl
    have hc1:((k+1:Nat):Int)=(k:Int)+1:=rfl;rw[ea,hc1]at RP;refine⟨_,_,rfl,DPut.k (k:=.inr ⟨⟨y⟩⟩) RN3.st (by lia),.inl ⟨_,az ((ag nfs).trans RN3.ft)⟩,f,_,_,rfl,rfl,(ag nfs).trans RN3.ft,by rw[zV];lia,F3++[y],_,nM (nM sm3 hs) Hf,al (al nG3 rfl) rfl,RP,(ag nrf).trans ((ag nrs).trans hrp3),(ag npf).trans ((ag nps).trans hp3),fun z mz y' l'=>ya (cov3 z mz y' l'),fun z mz=>?_⟩;rw[sJ hy']at mz;obtain mz|mz:=yy.mp mz
    .exact ya (cv3 z mz)
    .rw[zh.mp mz];exact⟨k+1,.inr ⟨rfl,wq _ (.head _)⟩⟩
   .rw[e]
    refine itn (fun z=>nomatch z) ⟨F3,m3,sm3,nG3,RN3,hrp3,hp3,cov3,fun z mz=>?_⟩;rw[sJ hy']at mz;obtain mz|mz:=yy.mp mz
    .exact cv3 z mz
    .rw[zh.mp mz];exact⟨n,u⟩
  .rintro σ' G3 ⟨F3,m3,x7,rfl,sm3,nG3,RN3,hrp3,hp3,cov3,cv3⟩
   rw[zV,Zp]at cv3;refine⟨F3,m3,_,_,rfl,sm3,nG3,RN3,hrp3,fun z mz y l=>?_⟩;rw[sJ hc]at mz;obtain mz|mz:=yy.mp mz
   .exact cov3 z mz y l
   .rw[zh.mp mz]at l;exact cv3 y ((mo y).mpr l)
 .rintro σ' G1 ⟨F,m1,x6,x7,rfl,sm1,nG1,RN,hrp1,cov⟩
  rw[zV,Zp]at cov;walk_at "d";have all:∀y,Far (Lk R d) g (k+1) y->y∈F:=fun y fy=>by
   obtain⟨c,fc,lc⟩:=fy.prev;obtain⟨n,u⟩:=cov c ((mrc c).mpr fc) y lc;have:=fy.uniq (BA RN.fr u);obtain⟨l,_⟩|⟨_,m⟩:=u
   .lia
   .exact m
  exact⟨F,f,m1,_,_,_,⟨rfl,rfl,rfl,rfl⟩,sm1,nG1,RN.st,RN.sd.cg fun x n=>Et RN.fr all,RN.ft,fun x=>⟨RN.fr x,all x⟩⟩
def sp_zK(C nr:WH):Sp:=sp4 fun x one other day H Q E=>WM H/\asR x fun r=>asT one fun l=>asT other fun g=>asI day fun d=>∃b WU R W,RS C H r b WU R W/\eK R/\R.length<=20/\cur l=true/\cur g=true/\(0<=d/\d<=146096) /\
 ((∀n,¬ Far (Lk R d) g n l)->∀H',WT H H'->WM H'->E (.ref nr) none H') /\
 (∀rest p H',Chn (Lk R d) g (l::rest)->H p=none->H' p=some (.lst ((l::rest).map VS))->WT H H'->WM H'->Q (.ref p) H')
def BY(T:Txt K mg a):Fo P w K mg base "chain" 6 (sp_zK a.aM a.bq):=by
 refine T.Eg.hx ["rates","one","other","day","steps","told","wanted","nearer"] (gX4 fun x0 x1 x2 x3 fA WW A WX s H Q E ND HU hr h=>?_);obtain⟨hN,h1⟩:=h;obtain⟨r,rfl,h2⟩:=aQ h1;obtain⟨l,rfl,h3⟩:=bt h2;obtain⟨g,rfl,h4⟩:=bt h3;refine bE (ba h4) fun d yy1 yz=>KB yz fun b0 kvs0 R W RR ap lR cl cg hd kn k0=>?_;subst yy1;have sz:=szl;have ed:amg (.int d) 0 146096=true:=by rw[uM,VX hd.1,VX hd.2];rfl
 have c1:j5 (VS l)=true:=cl;have c2:j5 (VS g)=true:=cg;refine⟨_,(af (bi (L2.PW.pt (gm (bP (bM (aF (cE T) hr av (fa1 (fv 1))))) (f8 (bP (bM (aF (cE T) hr av (fa1 (fv 2)))))))) (ah (jz T.d7 T.df d5)) aL)
  (af (bi (bP (bM (aF (gg T) hr av (fa1 (fv 3))))) (ah (jz T.iM T.gr d5)) aL)
  (af (aE 4 ND (aF (s_ T) hr av (fa3 (fv 0) (fv 2) (fv 3))))
  (af (bi (gZ (lB (Zz HU) (fv 1) (fv 4)) (by with_unfolding_all rfl)) (ah (jz T.B9 T.o5 d5)) aL)
  (af (aE 5 ND (cy (fa1 (fv 1))))
  (af (oW (by passes_own) (aX (fT K HU) (aH K (fv 5) (oQ jI ae)) (fv 2)) (af (aE 6 ND (ai fZ (aT (Zz HU) (fv 4) (aH K (fv 5) (oQ jI ae)) (fun _ _=>rfl)) ae))
  (af (nP (i0:=7) ND rfl (Wb rfl) rfl (cl:=_) (x:="currency") (xs:=["currency"]) (fr:=["wanted","steps"]) (ks:=[6,4]) (by walk_at "k") rfl (bA K (cZ (fv 0) T.bK (eN T) hr.mono av (fa2 (aH K (fv 5) (oQ jI ae)) (fv 3)))) (fun _ _ _ _ _=>(aK (i:=0) (d_ (l:=["currency","wanted","steps"]) (by decide)) rfl (Wb rfl))) (fun _ _ _ _ _=>(hU (aX (bS K HU) (aT (Zz HU) (fv 2) (fv 0) (fun _ _=>rfl)) (fv 1)))) (fun _ _ _ _ _=>(fv 0)))
  (ah (bH (cD K Zm Zg Zh cz (fv 5) (fa1 (aH K (fv 7) ae))))))))
  (ah (aB (fv 5))))))))),?_⟩
 walk_at "d";refine⟨hN,jq (lG cl),?_⟩;rw[c1];refine itn (by decide) ⟨hN,jq (lG cg),?_⟩;rw[c2];refine itn (by decide) ⟨hN,?_⟩;rw[ed];refine itn (by decide) ?_;walk_at "d";refine⟨hN,b0,kvs0,R,W,RR,ap,lR,fun s m H3 hs hs3 SDm s13 N3=>?_⟩;refine⟨_,_,rfl,DGet.k (k:=.inr ⟨⟨l⟩⟩) hs3,?_⟩;obtain⟨e,no⟩|⟨n,e,fl⟩:=SDm.or l
 .rw[e];exact itp rfl ⟨by walk_at "o",kn no _ s13 N3⟩
 rw[e];refine itn (fun z=>nomatch z) ⟨by walk_at "o",fun t ht=>?_⟩;have Ht:=s13.free ht;have s4:=aj (HO.lst [VS l]) ht;refine Aj RR.ex fun dx s0 sks hr0 _=>?_;have nts:t≠s:=Wc (aq hs3 ht);refine⟨fun mm σ' G=>∃pre la x6 x7,σ'=[some (.ref r),some (VS l),some (VS g),some (.int d),some (.ref s),some (.ref t),x6,x7]/\WT H G/\WM G/\G s=some (.dK m)/\G t=some (.lst ((pre++[la]:List (List Nat)).map VS))/\Far (Lk R d) g mm la/\(∀rest,Chn (Lk R d) g (la::rest)->Chn (Lk R d) g (pre++la::rest))/\(pre++[la]).head? = some l/\pre.length+mm<=2*R.length+1,⟨n,[],l,none,none,rfl,s13.trans s4,al N3 rfl,s4 _ _ hs3,aa,fl,(fun rest h=>h),rfl,?_⟩,?_⟩
 .have:=Al fl
  simp;lia
 rintro mm σ' G ⟨pre,la,x6,x7,rfl,sm,nG,hsG,htG,fla,cont,hh,len⟩;have el:(pre++[la]).map VS=pre.map VS++[VS la]:=by rw[yE];rfl
 have at1:atI ((pre++[la]).map VS) (-1)=some (VS la):=by rw[el];exact oU _ _
 walk_at "d";refine⟨_,_,.inl (az htG),at1,?_⟩;walk_at "d";by_cases eg:la=g
 .subst eg
  refine itp rfl ?_;have ch:=cont [] rfl;obtain⟨rest,er⟩:∃rest,pre++[la]=l::rest:=by
   cases e:pre++[la] with
   |nil=>simp at e
   |cons x r=>rw[e]at hh;cases hh;exact⟨r,rfl⟩
  rw[er]at ch htG;exact k0 rest t G ch Ht htG sm nG
 obtain⟨mm',rfl⟩:∃mm',mm=mm'+1:=by
  cases mm with
  |zero=>exact VT (gs.mp fla) eg
  |succ z=>exact⟨z,rfl⟩
 refine itn eg ⟨fun σ' G'=>∃pre la x6 x7,σ'=[some (.ref r),some (VS l),some (VS g),some (.int d),some (.ref s),some (.ref t),x6,x7]/\WT H G'/\WM G'/\G' s=some (.dK m)/\G' t=some (.lst ((pre++[la]:List (List Nat)).map VS))/\Far (Lk R d) g mm' la/\(∀rest,Chn (Lk R d) g (la::rest)->Chn (Lk R d) g (pre++la::rest))/\(pre++[la]).head? = some l/\pre.length+mm'<=2*R.length+1,?_,?_⟩
 .intro σ' G' h
  exact⟨mm',Nat.lt_succ_self _,h⟩
 refine⟨_,_,.inl (az htG),at1,_,_,rfl,by have:=DGet.k (k:=.inr ⟨⟨la⟩⟩) hsG;rw[SDm.get fla]at this;exact this,?_⟩;walk_at "d";refine qi ?_;walk_at "d";refine⟨_,_,sm _ _ hr0,Ai _ _,_,_,.inl (az htG),at1,?_⟩;walk_at "d";refine⟨nG,b0,kvs0,R,W,RR.same sm,ap,lR,fun out p H4 oo nd mo hp hp4 s4 N4=>⟨⟨_,az hp4⟩,?_⟩⟩;have hw:((mm'+1:Nat):Int)-1=(mm':Int):=by lia
 rw[hw];have lo:out.length<=2*R.length+1:=by
  have:=jE (l':=g::nms R) nd fun y my=>((qU R g).lk ((mo y).mp my)).2
  rwa [vZ,kW]at this
 refine ceA (S:=fun _ (v:V) y=>v=VS y) (fun _ _ _ _ _ h=>h) p (out.map VS) out (fun v y=>v=VS y) (fun y=>vo m mm' (VS y)) id hp4 N4 (DQ out) (by rw[zV];lia) (fun v y my ry G' zs n1 n0 sm' nG' hz k1 k0'=>?_) fun D ws G' fD sm' nG' gD aD=>?_
 .subst ry
  obtain⟨z1,rfl⟩:=ex1 hz;obtain⟨j,_,fj⟩:=fla.step ((mo y).mp my);have gj:=SDm.get fj;walk_at "d";refine⟨⟨[_],rfl,rfl⟩,_,_,rfl,by have:=DGet.k (k:=.inr ⟨⟨y⟩⟩) (sm' _ _ (s4 _ _ hsG));rw[gj]at this;exact this,?_⟩;walk_at "d";rw[Dk gj]at k1 k0';by_cases e:(j:Int)=mm'
  .exact itp e (k1 (VX e) _ _ (WT.refl _) nG' rfl)
  .exact itn e (k0' (VW e) _ (WT.refl _) nG')
 .have e1:=xQ aD
  rw[List.map_id]at e1;rw[e1]at gD;have mem:∀z,z∈out.filter (fun y=>vo m mm' (VS y))↔Lk R d la z/\Far (Lk R d) g mm' z:=fun z=>by
   rw[Zn,CJ SDm,mo]
  have io:InO (out.filter fun y=>vo m mm' (VS y)):=oH oo;generalize out.filter (fun y=>vo m mm' (VS y))=near at gD mem io;cases near with
  |nil=>
   refine bE fla.prev fun y fy ly=>?_;have:=(mem y).mpr ⟨ly.symm,fy⟩;cases this
  |cons y0 nr=>
  obtain⟨ly,fy⟩:=(mem y0).mp (.head _);have nx:Nx (Lk R d) g la y0:=⟨mm',fla,fy,ly,fun z fz lz=>by
   obtain rfl|mz:=z9.mp ((mem z).mpr ⟨lz,fz⟩)
   .exact Y6 _
   .exact(Xx.mp io).1 z mz⟩
  have sG:=s4.trans sm';have htG':=sG _ _ htG;have ea:((pre++[la])++[y0]).map VS=(pre++[la]).map VS++[VS y0]:=by rw[yE];rfl
  have lp:((pre++[la]).map VS).length=pre.length+1:=by simp
  refine⟨.inl ⟨_,az htG'⟩,_,_,.inl (az gD),aO (j:=0) rfl,t,_,_,rfl,rfl,htG',by lia,pre++[la],y0,_,_,⟨rfl,rfl⟩,nM (sm.trans sG) Ht,al nG' rfl,(ag (Wc nts)).trans (sG _ _ hsG),by rw[ea];exact aa,fy,fun rest h=>?_,by rw[List.head?_append,hh];rfl,by rw[zA,v6];lia⟩;rw[Y0];exact cont (y0::rest) ⟨nx,h⟩
noncomputable def rnd(n b:Int):Int:=if 2*(n-n / b*b) > b\/(2*(n-n / b*b)=b/\n / b % 2=1) then n / b+1 else n / b
def wI{b:Int}(h0:0<b)(h:b.natAbs<10 ^ 60):b.natAbs.log2<1000:=by
 have h1:b.natAbs≠0:=by lia
 exact(Nat.log2_lt h1).mpr (tS h (by decide))
def r8{b:Int}(h:b.natAbs<10 ^ 60):b.natAbs<2 ^ 1000:=tS h (by decide)
def xf{n b:Int}(b0:0<b):(n / b).natAbs<=n.natAbs:=by
 have h1:(n / b).natAbs<=n.natAbs:=Int.natAbs_ediv_le_natAbs n b;exact h1
def sp_wq:Sp:=sp2 fun x y H Q _=>WM H/\asI x fun n=>asI y fun b=>(0<b/\b.natAbs<10 ^ 60/\n.natAbs<10 ^ 60)/\Q (.int (rnd n b)) H
def vJ(T:Txt K mg a):Fo P w K mg base "rounded" 1 sp_wq:=by
 refine T.y3.hg ["number","by","down","twice_rest"] (gG2 fun x0 x1 fA WW A WX s H Q E ND HU hr h=>?_);obtain⟨hN,h1⟩:=h;obtain⟨n,rfl,h2⟩:=ba h1;obtain⟨b,rfl,⟨b0,b1,b2⟩,k⟩:=ba h2;refine⟨hN,_,(af (aE 2 ND (ai kr (fv 0) (fv 1)))
  (af (aE 3 ND (ai b8 ae (ai fZ (fv 0) (ai rX (fv 2) (fv 1)))))
  (af (bi (L2.PW.pt (gm (aX xm (fv 3) (fv 1)) (f8 (L2.PW.pt (rl (aX (bS K HU) (fv 3) (fv 1)) (nA (aX (bS K HU) (ai aS (fv 2) ae) ae))))))) (ah (aB (ai aP (fv 2) ae))) aL)
  (ah (aB (fv 2)))))),?_⟩
 walk_at "d";unfold rnd at k;refine⟨⟨b0,wI b0 b1⟩,⟨r8 (ZZ (xf b0) b2),r8 b1⟩,?_⟩;split
 .rename_i c
  rw[VY (.inl c)]at k;exact k
 .rename_i c
  split
  .rename_i c2
   split
   .rename_i c3
    rw[VY (.inr ⟨c2,c3⟩)]at k;exact k
   .rename_i c3
    rw[VZ (fun z=>z.elim c fun z=>c3 z.2)]at k;exact k
  .rename_i c2
   rw[VZ (fun z=>z.elim c fun z=>c2 z.1)]at k;exact k
def zX{u v:Int}(u0:0<=u)(v0:0<=v):Int.gcd v (u % v)=Int.gcd u v:=by
 obtain⟨m,rfl⟩:=Zi u0;obtain⟨n,rfl⟩:=Zi v0;show Nat.gcd n (m % n)=Nat.gcd m n;rw[Nat.gcd_comm n,<- Nat.gcd_rec,Nat.gcd_comm]
def sp_cm:Sp:=sp2 fun x y H Q _=>WM H/\asI x fun i=>asI y fun j=>1<=i/\1<=j/\Q (.int (Int.gcd i j)) H
def jQ(T:Txt K mg a):Fo P w K mg base "common_measure" 1 sp_cm:=by
 refine T.lQ.hg ["one","other","rest"] (gG2 fun x0 x1 fA WW A WX s H Q E ND HU hr h=>?_);obtain⟨hN,h1⟩:=h;obtain⟨i,rfl,h2⟩:=ba h1;refine bQ (ba h2) fun j yy1 i1 j1 k=>?_;subst yy1;refine⟨hN,_,(af (oW (by passes_own) (aX xm (fv 1) ae) (af (aE 2 ND (ai aS (fv 0) (fv 1)))
  (af (aE 0 ND (fv 1))
  (ah (aE 1 ND (fv 2))))))
  (ah (aB (fv 0)))),?_⟩
 walk_at "d";refine⟨fun m σ' G=>∃u v x2,σ'=[some (.int u),some (.int v),x2]/\G=H/\0<=u/\0<=v/\Int.gcd u v=Int.gcd i j/\m=v.toNat,⟨_,i,j,none,rfl,rfl,by lia,by lia,rfl,rfl⟩,?_⟩;rintro m σ' G ⟨u,v,x2,rfl,rfl,u0,v0,e,rfl⟩;walk_at "d";by_cases hv:0<v
 .refine itp hv ⟨fun σ' G'=>∃u' v' x2,σ'=[some (.int u'),some (.int v'),x2]/\G'=G/\0<=u'/\0<=v'/\Int.gcd u' v'=Int.gcd i j/\v'<v,?_,?_⟩
  .rintro σ' G' ⟨u',v',x2,rfl,rfl,h3,h4,h5,h6⟩
   exact⟨_,by lia,u',v',x2,rfl,rfl,h3,h4,h5,rfl⟩
  .walk_at "d"
   exact⟨hv,v,u % v,_,⟨rfl,rfl,rfl⟩,v0,Zt _ (by lia),by rw[<- e];exact zX u0 v0,Zu _ hv⟩
 .obtain rfl:v=0:=by lia
  refine itn hv ?_;have e2:(Int.gcd i j:Int)=u:=by rw[<- e,Int.gcd_zero_right];exact Int.natAbs_of_nonneg u0
  rw[<- e2];exact k
noncomputable def nwt(R:List Qr)(d:Int)(x y:List Nat):Wt:=Classical.epsilon fun w=>∃D,eh (val R x y) d (some (D,w))
def Az{R:List Qr}{d:Int}{x y:List Nat}{e:Int × Wt}(h:eh (val R x y) d (some e)):nwt R d x y=e.2:=by
 obtain⟨D,h'⟩:=Classical.epsilon_spec (p:=fun w=>∃D,eh (val R x y) d (some (D,w))) ⟨e.2,e.1,h⟩;exact VU Prod.snd (Zs (AB h' h))
def Eu{x y:List Nat}{D:Int}{w:Wt}:∀(R:List Qr),val R x y D=some w->∃r∈R,hit r x y=some w:=by
 refine L2.dD (fun h=>nomatch h) fun R r ih h=>?_;rw[ez]at h;unfold lH at h;split at h
 .cases e:hit r x y with
  |some w'=>
   rw[e]at h;exact⟨r,wq _ (.head _),by rw[e];exact h⟩
  |none=>
   rw[e]at h;obtain⟨r',m,q⟩:=ih h;exact⟨r',vS _ m,q⟩
 .obtain⟨r',m,q⟩:=ih h
  exact⟨r',vS _ m,q⟩
def WOk(w:Wt):Prop:=(1<=w.1/\w.1<=1000000000)/\1<=w.2/\w.2<=1000000000
def Ca{R:List Qr}{C:List (List Nat)}{d:Int}{x y:List Nat}{e:Int × Wt}(rw_:Rows R C)(h:eh (val R x y) d (some e)):WOk e.2:=by
 obtain⟨r,m,q⟩:=Eu R h.2.1;obtain⟨_,_,_,_,h1,h2⟩:=rw_ r m;unfold hit at q;split at q
 .rw[<- Zs q];exact⟨h1,h2⟩
 .split at q
  .rw[<- Zs q];exact⟨h2,h1⟩
  .cases q
def Kd(xs:List V)(h:1<=xs.length):fX xs (some 1) none=xs.drop 1:=by
 unfold fX;have e1:HT.sIx xs.length 0 (some 1)=1:=by
  show min (1:Int).toNat xs.length=1;exact Xp h
 have e2:HT.sIx xs.length xs.length none=xs.length:=rfl;rw[e1,e2,ZP (by rw[YT];exact zK _)]
noncomputable def pp(R:List Qr)(d:Int)(L:List (List Nat))(i:Nat):Int × Int:=((L.zip (L.drop 1)).take i).foldl (fun a e=>(a.1*(nwt R d e.1 e.2).1,a.2*(nwt R d e.1 e.2).2)) (1,1)
def wT{R:List Qr}{d:Int}{L:List (List Nat)}{i:Nat}{x y:List Nat}(hx:L[i]? = some x)(hy:(L.drop 1)[i]? = some y):pp R d L (i+1)=((pp R d L i).1*(nwt R d x y).1,(pp R d L i).2*(nwt R d x y).2):=by
 have h:(L.zip (L.drop 1))[i]? = some (x,y):=List.getElem?_zip_eq_some.mpr ⟨hx,hy⟩;unfold pp;rw[YN,h];simp only[Option.toList,List.foldl_append,List.foldl_cons,List.foldl_nil]
def PB(v:Int)(i:Nat):Prop:=1<=v/\v<=(1000000000:Int) ^ i
def PB.mul{v u:Int}{i:Nat}(h:PB v i)(h1:1<=u)(h2:u<=1000000000):PB (v*u) (i+1):=by
 have v0:0<=v:=by have:=h.1;lia
 have u0:0<=u:=by lia
 refine⟨?_,?_⟩
 .have:=Int.mul_le_mul h.1 h1 (by decide) v0
  rwa [Int.one_mul]at this
 .rw[Int.pow_succ]
  exact Int.mul_le_mul h.2 h2 u0 (Int.le_trans v0 h.2)
def PB.abs{v:Int}{i:Nat}(h:PB v i)(l:i<=3):v.natAbs<=10 ^ 27:=by
 have h1:=h.2;have h0:=h.1;have:(1000000000:Int) ^ i<=1000000000000000000000000000:=by
  have:i=0\/i=1\/i=2\/i=3:=by lia
  obtain rfl|rfl|rfl|rfl:=this <;> decide
 have e:(10:Nat) ^ 27=1000000000000000000000000000:=by decide
 rw[e];lia
noncomputable def rtM(R:List Qr)(d:Int)(L:List (List Nat)):Nat:=Int.gcd (pp R d L (L.length-1)).1 (pp R d L (L.length-1)).2
noncomputable def rtP(R:List Qr)(d:Int)(L:List (List Nat)):Int:=(pp R d L (L.length-1)).1 / rtM R d L
noncomputable def rtQ(R:List Qr)(d:Int)(L:List (List Nat)):Int:=(pp R d L (L.length-1)).2 / rtM R d L
def sp_Dm(C nr:WH):Sp:=sp4 fun x one other day H Q E=>WM H/\asR x fun r=>asT one fun l=>asT other fun g=>asI day fun d=>∃b WU R W Cs,RS C H r b WU R W/\R.length<=20/\Rows R Cs/\g∈Cs/\Cs.length<=4/\cur l=true/\cur g=true/\(0<=d/\d<=146096) /\
 ((∀n,¬ Far (Lk R d) g n l)->∀H',WT H H'->WM H'->E (.ref nr) none H') /\
 (∀rest p H',Chn (Lk R d) g (l::rest)->H p=none->H' p=some (.tup [.int (rtP R d (l::rest)),.int (rtQ R d (l::rest))])->WT H H'->WM H'->Q (.ref p) H')
def xi(T:Txt K mg a):Fo P w K mg base "rate" 7 (sp_Dm a.aM a.bq):=by
 refine T.Gu.hx ["rates","one","other","day","currencies","p","q","here","there","worth","measure"] (gX4 fun x0 x1 x2 x3 fA WW A WX s H Q E ND HU hr h=>?_);obtain⟨hN,h1⟩:=h;obtain⟨r,rfl,h2⟩:=aQ h1;obtain⟨l,rfl,h3⟩:=bt h2;obtain⟨g,rfl,h4⟩:=bt h3;refine bE (ba h4) fun d yy1 yz=>Dc yz fun b0 kvs0 R W Cs RR lR rw_ gC lC cl cg hd kn k0=>?_;subst yy1;have sz:=szl;refine Aj RR.ex fun dx s0 sks hr0 _=>?_;refine⟨_,(af (aE 4 ND (aF (BY T) hr av (fa4 (fv 0) (fv 1) (fv 2) (fv 3))))
  (af (aE 5 ND ae)
  (af (aE 6 ND ae)
  (af (bY (by passes_own) rfl (DK K rfl T.IT (fv 4) (cU (iK K) (fv 4) (dQ ae) dI)) (eT K (n:=2) rfl (bz (aK (i:=7) ND rfl (Wb rfl)) (bz (aK (i:=8) ND rfl (Wb rfl)) eU))) (af (aE 9 ND (cZ (fv 0) T.bK (ip T) hr.mono av (fa3 (fv 7) (fv 8) (fv 3))))
  (af (aE 5 ND (ai b8 (fv 5) (aH K (fv 9) ae)))
  (ah (aE 6 ND (ai b8 (fv 6) (aH K (fv 9) ae)))))))
  (af (aE 10 ND (aF (jQ T) hr av (fa2 (fv 5) (fv 6))))
  (ah (aB (bZ (fa2 (ai kr (fv 5) (fv 10)) (ai kr (fv 6) (fv 10))))))))))),?_⟩
 walk_at "d";refine⟨hN,b0,kvs0,R,W,RR,rw_.apart,lR,cl,cg,hd,kn,fun rest p H1 ch fp hp s1 N1=>?_⟩;refine D5 ?_;walk_at "d";have hp:H1 p=some (.lst ((l::rest).map VS)):=hp;have lL:(l::rest).length<=4:=by
  have:=rw_.cov.few gC ch.far;rw[vZ];lia
 refine⟨p,_,rfl,az hp,fun q fq=>?_⟩;dsimp only;rw[Kd _ (by rw[zV,vZ];lia),<- List.map_drop];refine bQ (bv (o:=HO.lst (((l::rest).drop 1).map VS)) fq N1 rfl) fun H2 e2 s2 g2 N2=>?_;rw[e2];have hp2:=s2 _ _ hp;refine⟨p,q,rfl,rfl,⟨_,az hp2⟩,⟨_,az g2⟩,C6 (xs:=(l::rest).map VS) (ys:=((l::rest).drop 1).map VS) (by rw[zV,zV,YT];lia) (fun i σ' G=>∃x7 x8 x9,σ'=[some (.ref r),some (VS l),some (VS g),some (.int d),some (.ref p),some (.int (pp R d (l::rest) i).1),some (.int (pp R d (l::rest) i).2),x7,x8,x9,none]/\WT H2 G/\WM G/\PB (pp R d (l::rest) i).1 i/\PB (pp R d (l::rest) i).2 i) ⟨none,none,none,rfl,WT.refl _,N2,⟨ZA _,ZA _⟩,ZA _,ZA _⟩ (fun i σ' G h=>?_) ?_ ?_⟩
 .obtain⟨_,_,_,_,sG,_⟩:=h
  exact⟨az (sG _ _ hp2),az (sG _ _ g2)⟩
 .rintro i x y σ' G t hx hy ft ⟨x7,x8,x9,rfl,sG,nG,b1,b2⟩
  obtain⟨c,hc,rfl⟩:∃c,(l::rest)[i]? = some c/\VS c=x:=by rw[Wm]at hx;exact sx.mp hx
  obtain⟨c',hc',rfl⟩:∃c,((l::rest).drop 1)[i]? = some c/\VS c=y:=by rw[Wm]at hy;exact sx.mp hy
  have nx:=ch.at_ hc (by rw[List.getElem?_drop,Nat.add_comm]at hc';exact hc');refine bQ nx fun _ _ _ lk _=>?_;have sGt:=aj (HO.tup [VS c,VS c']) ft;walk_at "d";refine⟨t,_,rfl,bF aa,rfl,_,_,rfl,_,_,rfl,rfl,?_⟩;walk_at "d";have s12:=s1.trans (s2.trans (sG.trans sGt));refine⟨_,_,s12 _ _ hr0,lO _ _,al nG rfl,b0,kvs0,R,W,RR.same s12,rw_.apart,by lia,fun o v G3 io wo s3 N3=>?_⟩;cases o with
  |none=>exact VT rfl ((vK io).mpr lk)
  |some e=>
  obtain⟨tw,rfl,ht⟩:=wo;obtain⟨⟨w1,w2⟩,w3,w4⟩:=Ca rw_ io;have en:=Az io;have ep:=wT (R:=R) (d:=d) hc hc';rw[en]at ep;walk_at "d";refine⟨_,_,.inr (bF ht),aO (j:=0) rfl,?_⟩;walk_at "d";refine⟨.inr ⟨Int.lt_of_lt_of_le (by decide) w1,Int.lt_of_le_of_lt w2 (by decide)⟩,_,_,.inr (bF ht),aO (j:=1) rfl,?_⟩;walk_at "d";refine⟨.inr ⟨Int.lt_of_lt_of_le (by decide) w3,Int.lt_of_le_of_lt w4 (by decide)⟩,?_⟩;rw[ep];exact⟨_,_,_,⟨rfl,rfl,rfl,rfl,rfl⟩,(sG.trans sGt).trans s3,N3,b1.mul w1 w2,b2.mul w3 w4⟩
 .rintro σ' G ⟨x7,x8,x9,rfl,sG,nG,b1,b2⟩
  obtain⟨n,hn⟩:∃n,n=(l::rest).length-1:=⟨_,rfl⟩;have en:(List.map VS (ZE 1 (l::rest))).length=n:=by rw[zV,YT,hn]
  rw[en]at b1 b2 |-
  have a1:=b1.abs (by lia);have p1:=b1.1;have p2:=b2.1;have gp:0<Int.gcd (pp R d (l::rest) n).1 (pp R d (l::rest) n).2:=Nat.gcd_pos_of_pos_left _ (by lia);have gl:Int.gcd (pp R d (l::rest) n).1 (pp R d (l::rest) n).2<=(pp R d (l::rest) n).1.natAbs:=Nat.gcd_le_left _ (by lia);have g0:(0:Int)<(Int.gcd (pp R d (l::rest) n).1 (pp R d (l::rest) n).2:Int):=Int.ofNat_lt.mpr gp;have lg:(Int.gcd (pp R d (l::rest) n).1 (pp R d (l::rest) n).2:Int).natAbs.log2<1000:=wI g0 (by
   show Int.gcd _ _<_;exact ZZ (wG gl a1) (by decide))
  walk_at "d";exact⟨nG,p1,p2,⟨g0,lg⟩,⟨g0,lg⟩,by walk_at "o",fun t ft=>k0 rest t _ ch (s1.free (s2.free (sG.free ft))) (by subst hn;exact aa) (((s1.trans s2).trans sG).trans (aj _ ft)) (al nG rfl)⟩
def RB(v:Int):Prop:=1<=v/\v.natAbs<=10 ^ 27
def Hg{x y:List Nat}{d:Int}:∀R:List Qr,∃o,eh (val R x y) d o:=L2.dD ⟨none,fun _ _=>rfl⟩ fun _ _ ⟨_,io⟩=>⟨_,EH io⟩
theorem Fe{R:List Qr}{C:List (List Nat)}{d:Int}{g:List Nat}{L:List (List Nat)}(rw_:Rows R C)(ch:Chn (Lk R d) g L):∀i,i<=L.length-1->PB (pp R d L i).1 i/\PB (pp R d L i).2 i
 |0,_=>⟨⟨ZA _,ZA _⟩,ZA _,ZA _⟩
 |i+1,h=>by
  obtain⟨b1,b2⟩:=Fe rw_ ch i (by lia);obtain⟨x,hx⟩:∃x,L[i]? = some x:=⟨_,Wl (by lia)⟩;obtain⟨y,hy⟩:∃y,L[i+1]? = some y:=⟨_,Wl (by lia)⟩;have hy':(L.drop 1)[i]? = some y:=by rw[List.getElem?_drop,Nat.add_comm];exact hy
  obtain⟨_,_,_,lk,_⟩:=ch.at_ hx hy;obtain⟨D,le,nv⟩:=BW.mp lk;obtain⟨e,ie⟩:∃e,eh (val R x y) d (some e):=by
   obtain h|h:=Classical.em (∃o,eh (val R x y) d (some o))
   .exact h
   .exact VT lk (by
     obtain⟨o,io⟩:=Hg (x:=x) (y:=y) (d:=d) R;cases o with
     |none=>exact fun z=>(vK io).mpr z rfl
     |some e=>exact VT ⟨e,io⟩ h)
  obtain⟨⟨w1,w2⟩,w3,w4⟩:=Ca rw_ ie;rw[wT hx hy',Az ie];exact⟨b1.mul w1 w2,b2.mul w3 w4⟩
def EW{R:List Qr}{C:List (List Nat)}{d:Int}{g:List Nat}{L:List (List Nat)}(rw_:Rows R C)(ch:Chn (Lk R d) g L)(l4:L.length<=4):RB (rtP R d L)/\RB (rtQ R d L):=by
 obtain⟨b1,b2⟩:=Fe rw_ ch (L.length-1) (zK _);have one:∀ {p q:Int},PB p (L.length-1)->(Int.gcd p q:Int) ∣ p->0<Int.gcd p q->RB (p / Int.gcd p q):=fun {p q} b dv gp=>by
  have p1:=b.1;have a1:=b.abs (by lia);refine⟨?_,wG (Int.natAbs_ediv_le_natAbs _ _) a1⟩;have:0<p / Int.gcd p q:=Int.ediv_pos_of_pos_of_dvd (by lia) (by lia) dv;lia
 have p1:=b1.1;have g0:0<Int.gcd (pp R d L (L.length-1)).1 (pp R d L (L.length-1)).2:=Nat.gcd_pos_of_pos_left _ (by lia);refine⟨one b1 (Int.gcd_dvd_left ..) g0,?_⟩;unfold rtQ rtM;rw[Int.gcd_comm]at g0 |-
 exact one b2 (Int.gcd_dvd_left ..) g0
noncomputable def cvt(R:List Qr)(d:Int)(L:List (List Nat))(am:Int):Int:=rnd (am*rtQ R d L) (rtP R d L)
def sp_DJ(C nr:WH):Sp:=sp5 fun x am one other day H Q E=>WM H/\asR x fun r=>asI am fun am=>asT one fun l=>asT other fun g=>asI day fun d=>∃b WU R W Cs,RS C H r b WU R W/\R.length<=20/\Rows R Cs/\g∈Cs/\Cs.length<=4/\cur l=true/\cur g=true/\(0<=d/\d<=146096)/\am.natAbs<=10 ^ 18 /\
 ((∀n,¬ Far (Lk R d) g n l)->∀H',WT H H'->WM H'->E (.ref nr) none H') /\
 (∀rest H',Chn (Lk R d) g (l::rest)->WT H H'->WM H'->Q (.int (cvt R d (l::rest) am)) H')
def qI(T:Txt K mg a):Fo P w K mg base "converted" 8 (sp_DJ a.aM a.bq):=by
 refine T.uX.hx ["rates","amount","one","other","day","worth"] (gX5 fun x0 x1 x2 x3 x4 fA WW A WX s H Q E ND HU hr h=>?_);obtain⟨hN,h1⟩:=h;obtain⟨r,rfl,h2⟩:=aQ h1;obtain⟨am,rfl,h3⟩:=ba h2;obtain⟨l,rfl,h4⟩:=bt h3;obtain⟨g,rfl,h5⟩:=bt h4;refine bE (ba h5) fun d yy1 yz=>Dc yz fun b0 kvs0 R W Cs RR lR rw_ gC lC cl cg hd ha yz=>Cc yz fun kn k0=>?_;subst yy1;refine⟨_,(af (aE 5 ND (aF (xi T) hr av (fa4 (fv 0) (fv 2) (fv 3) (fv 4))))
  (ah (aB (aF (vJ T) hr av (fa2 (ai b8 (fv 1) (aH K (fv 5) ae)) (aH K (fv 5) ae)))))),?_⟩
 walk_at "d";refine⟨hN,b0,kvs0,R,W,Cs,RR,lR,rw_,gC,lC,cl,cg,hd,kn,fun rest p H1 ch fp hp s1 N1=>?_⟩;have lL:(l::rest).length<=4:=by
  have:=rw_.cov.few gC ch.far;rw[vZ];lia
 obtain⟨⟨p1,p2⟩,q1,q2⟩:=EW rw_ ch lL;refine⟨_,_,.inr (bF hp),aO (j:=1) rfl,?_⟩;walk_at "d";refine⟨.inl (by lia),_,_,.inr (bF hp),aO (j:=0) rfl,?_⟩;walk_at "d";refine⟨N1,⟨by lia,ZZ p2 (by decide),?_⟩,k0 rest H1 ch s1 N1⟩;rw[Int.natAbs_mul];exact ZZ (Nat.mul_le_mul ha q2) (by decide)
theorem uq{α β:Type}{f:α->β}:∀ {cs:List α} {c c':α},(cs.map f).Nodup->c∈cs->c'∈cs->f c=f c'->c=c'
 | [],_,_,_,h,_,_=>nomatch h
 |x::r,c,c',hn,h,h',e=>by
  rw[yH,Zj]at hn;obtain h1|h1:=z9.mp h
  .obtain h2|h2:=z9.mp h'
   .rw[h1,h2]
   .subst h1
    exact VT (by rw[e];exact uO h2) hn.1
  .obtain h2|h2:=z9.mp h'
   .subst h2
    exact VT (by rw[<- e];exact uO h1) hn.1
   .exact uq hn.2 h1 h2 e
abbrev Pr:=List Nat × Int
noncomputable def psm(cs:List Pr)(c:List Nat):Int:=((cs.filter fun x=>decide (x.1=c)).map (·.2)).sum
def nZ(cs:List Pr)(x:Pr)(c:List Nat):psm (cs++[x]) c=psm cs c+if x.1=c then x.2 else 0:=by
 unfold psm;rw[ZW,yE,List.sum_append];by_cases h:x.1=c
 .rw[ZU (by simpa using h),VY h];simp
 .rw[ZT (by simpa using h),VZ h];simp
noncomputable def kyI(e:Pr):Key × V:=(.inr ⟨⟨e.1⟩⟩,.int e.2)
structure DI(cs d:List Pr):Prop where
 nd:(d.map (·.1)).Nodup
 has:∀x∈cs,x.1∈d.map (·.1)
 of:∀c∈d.map (·.1),∃x∈cs,x.1=c
 sm:∀e∈d,e.2=psm cs e.1
noncomputable def fI(d:List Pr)(c:List Nat):Option Pr:=d.find? fun e=>decide (e.1=c)
theorem eE(c:List Nat):∀d:List Pr,bG (d.map kyI) (.inr ⟨⟨c⟩⟩)=(fI d c).map fun e=>.int e.2
 | []=>rfl
 |e::r=>by
  have ih:=eE c r;by_cases h:e.1=c
  .rw[yH,bV (by show Sum.inr _=Sum.inr _;rw[h])]
   simp[fI,h,kyI]
  .rw[yH,bW (fun z=>h (by simpa [kyI] using z)),ih]
   simp[fI,h]
def qZ{d:List Pr}{c:List Nat}{e:Pr}(h:fI d c=some e):e∈d/\e.1=c:=⟨List.mem_of_find?_eq_some h,by simpa using List.find?_some h⟩
def qN{d:List Pr}{c:List Nat}(h:fI d c=none):c∉d.map (·.1):=fun m=>by
 obtain⟨e,me,ee⟩:=yR.mp m;exact VT (Wi.mp h e me) (by simpa using ee)
def oz{cs:List Pr}{c:List Nat}(h:∀x∈cs,x.1≠c):psm cs c=0:=by
 unfold psm;rw[List.filter_eq_nil_iff.mpr fun r m=>by simpa using h r m];rfl
def DI.step{cs d:List Pr}(D:DI cs d)(x:Pr):∃d',bD (d.map kyI) (.inr ⟨⟨x.1⟩⟩) (.int (((fI d x.1).map (·.2)).getD 0+x.2))=d'.map kyI/\DI (cs++[x]) d'/\d'.length<=d.length+1:=by
 cases ef:fI d x.1 with
 |none=>
  have nk:=qN ef;have vn:bG (d.map kyI) (.inr ⟨⟨x.1⟩⟩)=none:=by rw[eE,ef];rfl
  refine⟨d++[(x.1,x.2)],by rw[j8 _ vn,yE];simp[kyI],⟨?_,fun z m=>?_,fun c m=>?_,fun e m=>?_⟩,by rw[zA];exact zK _⟩
  .rw[yE,yH,YB]
   exact Z8.mpr ⟨D.nd,Zj.mpr ⟨(fun m=>nomatch m),ZQ⟩,fun u mu y my z=>nk ((show u=x.1 from z.trans (zh.mp my)) ▸ mu)⟩
  .rw[yE]
   obtain m|m:=yy.mp m
   .exact vS _ (D.has z m)
   .rw[zh.mp m];exact wq _ (.head _)
  .rw[yE]at m
   obtain m|m:=yy.mp m
   .obtain⟨y,my,e⟩:=D.of c m
    exact⟨y,vS _ my,e⟩
   .exact⟨x,wq _ (.head _),(zh.mp m).symm⟩
  .rw[nZ]
   obtain m|m:=yy.mp m
   .rw[VZ fun z=>nk (by rw[z];exact uO m),XW];exact D.sm e m
   .rw[zh.mp m,VY rfl,oz fun y my z=>nk ((show y.1=x.1 from z) ▸ D.has y my),Y9]
 |some e0=>
  obtain⟨m0,e0x⟩:=qZ ef;have ek:(d.map fun e=>if e.1=x.1 then (e.1,e.2+x.2) else e).map (·.1)=d.map (·.1):=by
   rw[vN];exact Zq fun e _=>by show(if e.1=x.1 then (e.1,e.2+x.2) else e).1=e.1;split <;> rfl
  refine⟨d.map fun e=>if e.1=x.1 then (e.1,e.2+x.2) else e,?_,⟨?_,fun z m=>?_,fun c m=>?_,fun e m=>?_⟩,by rw[zV];exact Nat.le_succ _⟩
  .unfold bD
   rw[VY (by rw[fB,eE,ef];rfl),vN,vN];refine Zq fun e me=>?_;show(if (Sum.inr ⟨⟨e.1⟩⟩:Key) = .inr ⟨⟨x.1⟩⟩ then ((Sum.inr ⟨⟨e.1⟩⟩:Key),V.int (e0.2+x.2)) else kyI e)=kyI (if e.1=x.1 then (e.1,e.2+x.2) else e);by_cases h:e.1=x.1
   .have:e=e0:=uq D.nd me m0 (h.trans e0x.symm)
    subst this;rw[VY (by rw[h]),VY h];rfl
   .rw[VZ (fun z=>h (by simpa using z)),VZ h]
  .rw[ek];exact D.nd
  .rw[ek]
   obtain m|m:=yy.mp m
   .exact D.has z m
   .rw[zh.mp m,<- e0x];exact uO m0
  .rw[ek]at m
   obtain⟨y,my,e⟩:=D.of c m;exact⟨y,vS _ my,e⟩
  .obtain⟨e',me,rfl⟩:=yR.mp m
   rw[nZ];by_cases h:e'.1=x.1
   .rw[VY h,VY h.symm];exact VU (· + x.2) (D.sm e' me)
   .rw[VZ h,VZ fun z=>h z.symm,XW];exact D.sm e' me
noncomputable abbrev rwU(bs:List Bo)(t:Int):List Row:=(bs.filter fun b=>decide (b.d<=t)).flatMap (·.rs)
def sp_GX(J:WH):Sp:=sp3 fun _ x y H Q _=>WM H/\asR x fun j=>asI y fun t=>∃b u vs WU bs,JAt J H j b u vs WU/\A2 (BkAt H) vs bs/\bs.length<=8/\(∀b∈bs,b.rs.length<=7)/\JE H Q (rwU bs t)
def tJ(T:Txt K mg a):Fo P w K mg base "balances" 3 (sp_GX a.bg):=by
 refine T.vX.hx ["chart","journal","day"] (gX3 fun x0 x1 x2 fA WW A WX s H Q E ND HU hr h=>?_);obtain⟨hN,h1⟩:=h;obtain⟨j,rfl,h2⟩:=aQ h1;obtain⟨t,rfl,b,u,vs,WU,bs,JJ,hv,len,ok,k⟩:=ba h2;refine⟨_,(ah (aB (aF (vG T) hr av (fa1 (aF (vM T) hr av (fa1 (aF (kc T) hr av (fa2 (fv 1) (fv 2))))))))),?_⟩;walk_at "z";refine⟨hN,b,u,vs,WU,bs,JJ,hv,by lia,fun r ws H1 fr hr ar s1 N1=>?_⟩;have lf:=Zb (fun b:Bo=>decide (b.d<=t)) bs;refine⟨N1,ws,_,hr,ar,by lia,fun x m=>ok x (Zn.mp m).1,fun r2 ws2 H2 fr2 hr2 ar2 s2 N2=>?_⟩;have lr:=fg (bs:=bs.filter fun b=>decide (b.d<=t)) fun x m=>ok x (Zn.mp m).1;have ld:=(mH (rwU bs t)).2.2;refine⟨N2,ws2,rwU bs t,hr2,ar2,by lia,by lia,fun out r3 ws3 H3 po oo fr3 hr3 ar3 s3 N3=>?_⟩;exact k out r3 ws3 H3 po oo (s1.free (s2.free fr3)) hr3 ar3 (s1.trans (s2.trans s3)) N3
noncomputable def chL(R:List Qr)(d:Int)(g c:List Nat):List (List Nat):=Classical.epsilon fun L=>Chn (Lk R d) g L/\L.head? = some c
def zD{R:List Qr}{d:Int}{g c:List Nat}{rest:List (List Nat)}(h:Chn (Lk R d) g (c::rest)):chL R d g c=c::rest:=by
 obtain⟨h1,h2⟩:=Classical.epsilon_spec (p:=fun L=>Chn (Lk R d) g L/\L.head? = some c) ⟨c::rest,h,rfl⟩;show Classical.epsilon (fun L=>Chn (Lk R d) g L/\L.head? = some c)=_;generalize Classical.epsilon (fun L=>Chn (Lk R d) g L/\L.head? = some c)=L at h1 h2;cases L with
 |nil=>cases h2
 |cons x r=>cases h2;rw[h1.uniq h]
noncomputable def fV(R:List Qr)(d:Int)(g:List Nat)(z:Row):Pr:=(z.pa,cvt R d (chL R d g z.cu) z.am)
structure RR4(C:WH)(H:Hp)(r:WH)(R:List Qr)(Cs:List (List Nat)):Prop where
 at_:∃b WU W,RS C H r b WU R W
 len:R.length<=20
 ok:Rows R Cs
 l4:Cs.length<=4
def RR4.same{C:WH}{H H':Hp}{r:WH}{R:List Qr}{Cs:List (List Nat)}(h:RR4 C H r R Cs)(s:WT H H'):RR4 C H' r R Cs:=⟨let ⟨b,WU,W,z⟩:=h.at_;⟨b,WU,W,z.same s⟩,h.len,h.ok,h.l4⟩
def zOk(z:Row):Prop:=cur z.cu=true/\z.am.natAbs<=10 ^ 18
def sp_ov(C J nr:WH):Sp:=sp5 fun _ y x g t H Q E=>WM H/\asR y fun j=>asR x fun r=>asT g fun g=>asI t fun d=>∃b u vs WU bs R Cs,JAt J H j b u vs WU/\A2 (BkAt H) vs bs/\bs.length<=8/\(∀b∈bs,b.rs.length<=7)/\(∀out,out.Perm ((dk (rwU bs d)).map (·.1))->∀z∈res (rwU bs d) out,zOk z)/\RR4 C H r R Cs/\g∈Cs/\cur g=true/\(0<=d/\d<=146096) /\
 (∀out,out.Perm ((dk (rwU bs d)).map (·.1))->r9 out->(∃z∈res (rwU bs d) out,∀n,¬ Far (Lk R d) g n z.cu)->∀H',WT H H'->WM H'->E (.ref nr) none H') /\
 (∀out es p H',out.Perm ((dk (rwU bs d)).map (·.1))->r9 out->(∀z∈res (rwU bs d) out,∃n,Far (Lk R d) g n z.cu)->H p=none->H' p=some (.dK (es.map kyI))->DI ((res (rwU bs d) out).map (fV R d g)) es->WT H H'->WM H'->Q (.ref p) H')
def pL(T:Txt K mg a):Fo P w K mg base "own_values" 9 (sp_ov a.aM a.bg a.bq):=by
 refine T.rD.hx ["chart","journal","rates","currency","day","own","path","held","amount"] (gX5 fun x0 x1 x2 x3 x4 fA WW A WX s H Q E ND HU hr h=>?_);obtain⟨hN,h1⟩:=h;obtain⟨j,rfl,h2⟩:=aQ h1;obtain⟨r,rfl,h3⟩:=aQ h2;obtain⟨g,rfl,h4⟩:=bt h3;refine bE (ba h4) fun d yy1 yz=>Kr yz fun b u vs WU bs R Cs JJ hv len ok zk RQ gC cg hd yz=>Cc yz fun kn k0=>?_;subst yy1;have sz:=szl;refine⟨_,(af (aE 5 ND dq)
  (af (bY (by passes_own) rfl (bA K (aF (tJ T) hr av (fa3 (fv 0) (fv 1) (fv 4)))) (eT K (n:=3) rfl (bz (aK (i:=6) ND rfl (Wb rfl)) (bz (aK (i:=7) ND rfl (Wb rfl)) (bz (aK (i:=8) ND rfl (Wb rfl)) eU)))) (ah (cj (Zz HU) (fv 5) (fv 6) (ai aP (cR (Zz HU) (fv 5) (fv 6) ae ⟨rfl,rfl,rfl,rfl⟩) (aF (qI T) hr av (fa5 (fv 2) (fv 8) (fv 7) (fv 3) (fv 4)))) rfl)))
  (ah (aB (fv 5))))),?_⟩
 walk_at "z";intro q fq;refine bQ (bv (o:=HO.dK []) fq hN rfl) fun H1 e1 s1 g1 N1=>?_;rw[e1];refine cf ?_;walk_at "z";refine⟨N1,b,u,vs,WU,bs,JJ.keep (bL s1) yW yW yW,zS s1 hv,len,ok,fun out p ws H2 po oo fp hp ap s2 N2=>?_⟩;have lo:=po.length_eq;rw[zV]at lo;have ld:=(mH (rwU bs d)).2.2;have lf:=Zb (fun b:Bo=>decide (b.d<=d)) bs;have lr:=fg (bs:=bs.filter fun b=>decide (b.d<=d)) fun x m=>ok x (Zn.mp m).1;have lR:=sw (rwU bs d) out;have lw:=ap.len;generalize eZ:res (rwU bs d) out=Z at ap lR lw;refine cN (az hp) (cM (xs:=ws) (fun i σ' (G:Hp)=>WS [q] H2 G/\WM G/\∃es x6 x7 x8,es.length<=i/\DI ((Z.take i).map (fV R d g)) es/\G q=some (.dK (es.map kyI))/\(∀z∈Z.take i,∃n,Far (Lk R d) g n z.cu)/\σ'=[some x0,some (.ref j),some (.ref r),some (VS g),some (.int d),some (.ref q),x6,x7,x8]) ⟨WS.refl,N2,[],none,none,none,tB _,⟨ZQ,fun x m=>(by rw[YO,YB]at m;cases m),(fun c m=>nomatch m),(fun e m=>nomatch m)⟩,s2 _ _ g1,(fun z m=>(by rw[YO]at m;cases m)),rfl⟩ (fun i σ' G _ h=>az (h.1 _ _ hp fun m=>by rw[zh.mp m,s2 _ _ g1]at hp;cases hp)) ?_ ?_)
 .rintro i x σ' G hx ⟨kp,nG,es,x6,x7,x8,le,DD,gq,fr,rfl⟩
  refine bE (ap.at_ hx) fun z hz yz=>bE yz fun tt yy1 htt=>?_;subst yy1;have mz:=yo hz;obtain⟨zc,za⟩:=zk out po z (by rw[eZ];exact mz);have htt':=kp _ _ htt fun m=>by rw[zh.mp m,s2 _ _ g1]at htt;cases htt
  have li:i<Z.length:=(Wn.mp hz).1;have sHG:WT H G:=fun c o e=>kp _ _ (s2 _ _ (s1 _ _ e)) fun m=>by rw[zh.mp m,fq]at e;cases e
  have RG:=RQ.same sHG;refine JO RG.at_ fun b' kvs' W' RG'=>?_;walk_at "z";refine⟨tt,_,rfl,bF htt',rfl,_,_,rfl,_,_,rfl,_,_,rfl,rfl,?_⟩;walk_at "d";refine⟨.inl ⟨_,.inl gq⟩,_,DGet.k (k:=.inr ⟨⟨z.pa⟩⟩) gq,nG,b',kvs',R,W',Cs,RG',RG.len,RG.ok,gC,RG.l4,zc,cg,hd,za,fun no G3 s3 N3=>kn out po oo ⟨z,by rw[eZ];exact mz,no⟩ G3 (sHG.trans s3) N3,fun rest G3 ch s3 N3=>?_⟩;rw[eE];have eg:((fI es z.pa).map fun e=>V.int e.2).getD (V.int 0)=V.int (((fI es z.pa).map (·.2)).getD 0):=by cases fI es z.pa <;> rfl
  rw[eg];walk_at "z";refine fL (DD.step (fV R d g z)) fun d' ep DD' ld'=>?_;have ef:(fV R d g z).2=cvt R d (z.cu::rest) z.am:=by unfold fV;rw[zD ch]
  rw[ef]at ep;have gq3:=s3 _ _ gq;refine⟨q,_,rfl,DPut.k (k:=.inr ⟨⟨z.pa⟩⟩) gq3 (by rw[zV,ue];lia),(kp.trans (bL s3)).put (.head _),al N3 rfl,d',_,_,_,by lia,by rw[bO hz,yE];exact DD',by rw[aa,<- ep];rfl,fun y my=>?_,rfl,rfl,rfl⟩;rw[bO hz]at my;obtain my|my:=yy.mp my
  .exact fr y my
  .rw[zh.mp my];exact⟨_,ch.far⟩
 .rintro σ' G ⟨kp,nG,es,x6,x7,x8,le,DD,gq,fr,rfl⟩
  rw[lw,Zp]at DD fr;have sHG:WT H G:=fun c o e=>kp _ _ (s2 _ _ (s1 _ _ e)) fun m=>by rw[zh.mp m,fq]at e;cases e
  walk_at "z";exact k0 out es q G po oo (by rw[eZ];exact fr) fq gq (by rw[eZ];exact DD) sHG nG
noncomputable def lup(l:List Nat):List (List Nat):=abN l++[l]
def pOk(l:List Nat):Prop:=((∀c∈l,c<128)/\l.length<=199)/\(lup l).length<=6
noncomputable def liP(es:List Pr):List Pr:=es.flatMap fun e=>(lup e.1).map fun l=>(l,e.2)
def DI.len{cs d:List Pr}(D:DI cs d):d.length<=cs.length:=by
 have h:=jE (l:=d.map (·.1)) (l':=cs.map (·.1)) D.nd fun c m=>by
  obtain⟨x,mx,e⟩:=D.of c m;exact e ▸ uO mx
 rwa [zV,zV]at h
theorem rE:∀ {es:List Pr},(∀e∈es,pOk e.1)->(liP es).length<=6*es.length
 | [],_=>zK _
 |b::r,h=>by
  have ih:=rE (es:=r) fun x m=>h x (.tail _ m);have hb:=(h b (.head _)).2;unfold liP at ih |-
  rw[Ye,zA,vZ,zV];lia
def sp_vw:Sp:=sp1 fun x H Q _=>WM H/\asR x fun p=>∃es,H p=some (.dK (es.map kyI))/\es.length<=60/\(∀e∈es,pOk e.1)/\∀fs q H',H q=none->H' q=some (.dK (fs.map kyI))->DI (liP es) fs->WT H H'->WM H'->Q (.ref q) H'
def lV(T:Txt K mg a):Fo P w K mg base "values_within" 2 sp_vw:=by
 refine T.m8.hx ["own","within","path","amount","place"] (gX1 fun x0 fA WW A WX s H Q E ND HU hr h=>?_);obtain⟨hN,h1⟩:=h;refine bE (aQ h1) fun p yy1 yz=>bQ yz fun es hp le ok k=>?_;subst yy1;have sz:=szl;refine⟨_,(af (aE 1 ND dq)
  (af (nD (bY (by passes_own) rfl (zE (fv 0)) (eT K (n:=2) rfl (bz (aK (i:=2) ND rfl (Wb rfl)) (bz (aK (i:=3) ND rfl (Wb rfl)) eU))) (ah (bY (by passes_own) rfl (bA K (ai rV (aF (uu T) hr av (fa1 (fv 2))) (cy (fa1 (fv 2))))) (aK (i:=4) ND rfl (Wb rfl)) (ah (cj (Zz HU) (fv 1) (fv 4) (ai aP (cR (Zz HU) (fv 1) (fv 4) ae ⟨rfl,rfl,rfl,rfl⟩) (fv 3)) rfl))))))
  (ah (aB (fv 1))))),?_⟩
 walk_at "z";intro q fq;refine bQ (bv (o:=HO.dK []) fq hN rfl) fun H1 e1 s1 g1 N1=>?_;rw[e1];have hp1:=s1 _ _ hp;refine C8 ?_;walk_at "d";refine⟨p,.dK (es.map kyI),rfl,rfl,.inl hp1,fun o ho=>?_⟩;have nqp:q≠p:=fun z=>by rw[z,hp]at fq;cases fq
 have gq0:(upd H1 p (.frz o (.dK (es.map kyI)))) q=some (.dK []):=(ag nqp).trans g1;have gp0:(upd H1 p (.frz o (.dK (es.map kyI)))) p=some (.frz o (.dK (es.map kyI))):=aa;have N0:WM (upd H1 p (.frz o (.dK (es.map kyI)))):=al N1 rfl;refine EG (fun i σ' G=>WS [q] (upd H1 p (.frz o (.dK (es.map kyI)))) G/\WM G/\∃fs x2 x3 x4,DI (liP (es.take i)) fs/\G q=some (.dK (fs.map kyI))/\σ'=[some (.ref p),some (.ref q),x2,x3,x4]) ⟨WS.refl,N0,[],none,none,none,⟨ZQ,(fun x m=>nomatch m),(fun c m=>nomatch m),(fun e m=>nomatch m)⟩,gq0,rfl⟩ (fun i σ' G h=>h.1 _ _ gp0 fun m=>nqp (zh.mp m).symm) ?_ ?_
 .rintro i x v σ' G t hi ⟨ky,hk,rfl⟩ ft ⟨kp,nG,fs,x2,x3,x4,DD,gq,rfl⟩
  rw[Wm]at hk;refine bE (sx.mp hk) fun e he ek=>?_;obtain⟨rfl,rfl⟩:=ZC ek;have oke:=ok e (yo he);have ll:=rE (es:=es.take i) fun x m=>ok x (ZI m);rw[Zv]at ll;have ld:=DD.len;walk_at "d";rw[show kV (Sum.inr ⟨⟨e.1⟩⟩)=VS e.1 from rfl];refine bQ (bv (o:=HO.tup [VS e.1,V.int e.2]) ft nG rfl) fun G1 e2 s2 g2 N2=>?_;rw[e2];refine⟨t,_,rfl,bF g2,rfl,_,_,rfl,_,_,rfl,rfl,cf ?_⟩;walk_at "z";refine⟨N2,oke.1,fun q1 fq1=>⟨?_,fun q2 fq2=>?_⟩⟩
  .walk_at "o"
  refine bQ (bv (o:=tx (abN e.1)) fq1 N2 rfl) fun G2 e3 s3 g3 N3=>?_;rw[e3]at fq2 |-
  refine bQ (bv (o:=HO.lst [VS e.1]) fq2 N3 rfl) fun G3 e4 s4 g4 N4=>?_;rw[e4];have la:(abN e.1).length+1<=6:=by have:=oke.2;unfold lup at this;rw[zA]at this;exact this
  refine⟨(abN e.1).map VS,[VS e.1],s4 _ _ g3,g4,by rw[zV,v6];lia,fun q3 fq3=>cf ?_⟩;refine bQ (bv (o:=HO.lst ((abN e.1).map VS++[VS e.1])) fq3 N4 rfl) fun G4 e5 s5 g5 N5=>?_;rw[e5];have s25:=((s2.trans s3).trans s4).trans s5;have el:(abN e.1).map VS++[VS e.1]=(lup e.1).map VS:=by unfold lup;rw[yE];rfl
  rw[el]at g5;have gq5:=s25 _ _ gq;have q3q:q3≠q:=fun z=>by rw[z,(((s2.trans s3).trans s4) _ _ gq)]at fq3;cases fq3
  walk_at "z";refine cN (az g5) (cM (xs:=(lup e.1).map VS) (fun j σ' (G':Hp)=>WS [q] G4 G'/\WM G'/\∃fs' x4,DI (liP (es.take i)++((lup e.1).take j).map fun l=>(l,e.2)) fs'/\G' q=some (.dK (fs'.map kyI))/\σ'=[some (.ref p),some (.ref q),some (VS e.1),some (.int e.2),x4]) ⟨WS.refl,N5,fs,x4,by rw[YO,YB,Za];exact DD,gq5,rfl⟩ (fun j σ' G' _ h=>az (h.1 _ _ g5 fun m=>q3q (zh.mp m))) ?_ ?_)
  .rintro j y σ' G' hy ⟨kp',nG',fs',y4,DD',gq',rfl⟩
   rw[Wm]at hy;refine bE (sx.mp hy) fun l0 hl0 yy1=>?_;subst yy1;have ld':=DD'.len;rw[zA,zV,Zv]at ld';have l6:=oke.2;walk_at "d";refine⟨.inl ⟨_,.inl gq'⟩,_,DGet.k (k:=.inr ⟨⟨l0⟩⟩) gq',?_⟩;rw[eE];have eg:((fI fs' l0).map fun e=>V.int e.2).getD (V.int 0)=V.int (((fI fs' l0).map (·.2)).getD 0):=by cases fI fs' l0 <;> rfl
   rw[eg];walk_at "z";refine fL (DD'.step (l0,e.2)) fun d' ep DD2 ld2=>?_;exact⟨q,_,rfl,DPut.k (k:=.inr ⟨⟨l0⟩⟩) gq' (by rw[zV,ue];lia),kp'.put (.head _),al nG' rfl,d',_,by rw[bO hl0,yE,<- Y0];exact DD2,by rw[aa,ep],rfl⟩
  .rintro σ' G' ⟨kp',nG',fs',y4,DD',gq',rfl⟩
   rw[zV,Zp]at DD';refine⟨(kp.trans (bL s25)).trans kp',nG',fs',_,_,_,?_,gq',rfl⟩;rw[bO he];unfold liP at DD' |-
   rw[List.flatMap_append,Ye,List.flatMap_nil,Za];exact DD'
 .rintro σ' G ⟨kp,nG,fs,x2,x3,x4,DD,gq,rfl⟩
  have el:dF (.dK (es.map kyI))=es.length:=by show(es.map kyI).length=_;rw[zV]
  rw[el,Zp]at DD;refine⟨p,o,.dK (es.map kyI),kp _ _ gp0 fun m=>nqp (zh.mp m).symm,.inl ⟨hp1,rfl,?_⟩⟩;walk_at "d";refine k fs q _ fq ((ag nqp).trans gq) DD (fun c z ec=>?_) (al nG rfl);by_cases hc:c=p
  .rw[hc,hp]at ec;cases ec
   rw[hc,aa]
  .rw[ag hc]
   exact kp _ _ ((ag hc).trans (s1 _ _ ec)) fun m=>by rw[zh.mp m,fq]at ec;cases ec
def sp_uO(C A:WH):Sp:=sp1 fun x H Q _=>WM H/\asR x fun p=>∃d cs,CAt C A H p d cs/\cs.length<64/\∀out:List (List Nat),out.Perm (cs.map (·.pa))->InO out->∀q,H q=none->Q (.ref q) (upd H q (.lst (out.map VS)))
def ku(T:Txt K mg a):Mo P w K mg base a.a7 "accounts" 1 (sp_uO a.a7 a.aN):=by
 refine T.lU.hg ["self"] (gG1 fun x0 fA WW A WX s H Q E ND HU hr h=>?_);obtain⟨hN,h1⟩:=h;refine bE (aQ h1) fun p yy1 yz=>Fx yz fun d cs J h64 k=>?_;subst yy1;obtain⟨dx,hp⟩:=J.ob;refine⟨hN,_,(ah (aB (aI (uJ rfl) rfl T.jU i5 (fa1 (bx K (fv 0)))))),?_⟩;walk_at "d";refine⟨_,_,_,_,hp,T.bR,T.bI,lkp _,_,cs.map (·.pa),J.dc,by rw[vN,vN];rfl,by rw[zV];exact h64,fun out h1 h2 q hq=>⟨_,Gc.one (aj _ hq) hq aa rfl,k out h1 h2 q hq⟩⟩
def DI.get{cs d:List Pr}(D:DI cs d)(c:List Nat):((fI d c).map (·.2)).getD 0=psm cs c:=by
 cases e:fI d c with
 |none=>exact(oz fun x m z=>qN e (by rw[<- z];exact D.has x m)).symm
 |some x=>
  obtain⟨m,ex⟩:=qZ e;show x.2=_;rw[D.sm x m,ex]
def uI(x:V):qW (zR "accounts") [(zR "by_path",x)]=none:=by rw[aZ (by decide +kernel)];rfl
def qY(es:List Pr)(c:List Nat):((fI es c).map fun e=>V.int e.2).getD (V.int 0)=V.int (((fI es c).map (·.2)).getD 0):=by cases fI es c <;> rfl
abbrev Vr:=List Nat × Int × Int
def VrAt(H:Hp)(v:V)(x:Vr):Prop:=∃q,v = .ref q/\H q=some (.tup [VS x.1,.int x.2.1,.int x.2.2])
def VrAt.mv(G G':Hp)(v:V)(c:Vr)(k:∀t l,G t=some (.tup l)->G' t=some (.tup l))(h:VrAt G v c):VrAt G' v c:=by
 obtain⟨q,e,h⟩:=h;exact⟨q,e,k _ _ h⟩
noncomputable def vlR(zs:List Pr)(ls:List Pr)(o:List (List Nat)):List Vr:=o.map fun l=>(l,psm zs l,psm ls l)
structure VA(aC aJ aR:WH)(aA:WH)(H:Hp)(pc j r:WH)(bs:List Bo)(R:List Qr)(Cs:List (List Nat))(cs:List Acc)(g:List Nat)(d:Int):Prop where
 ch:∃dd,CAt aC aA H pc dd cs
 c64:cs.length<64
 jr:∃b u vs WU,JAt aJ H j b u vs WU/\A2 (BkAt H) vs bs
 l8:bs.length<=8
 l7:∀b∈bs,b.rs.length<=7
 zk:∀out,out.Perm ((dk (rwU bs d)).map (·.1))->∀z∈res (rwU bs d) out,zOk z/\pOk z.pa
 rr:RR4 aR H r R Cs
 gC:g∈Cs
 cg:cur g=true
 hd:0<=d/\d<=146096
def sp_yJ(aC aJ aR aA nr bc bd:WH):Sp:=sp5 fun x y z g t H Q E=>WM H/\((asR x fun pc=>asR y fun j=>asR z fun r=>asT g fun g=>asI t fun d=>∃bs R Cs cs,VA aC aJ aR aA H pc j r bs R Cs cs g d /\
 (∀out,out.Perm ((dk (rwU bs d)).map (·.1))->r9 out->(∃z∈res (rwU bs d) out,∀n,¬ Far (Lk R d) g n z.cu)->∀H',WT H H'->WM H'->E (.ref nr) none H') /\
 (∀out es o2 p ws H',out.Perm ((dk (rwU bs d)).map (·.1))->r9 out->(∀z∈res (rwU bs d) out,∃n,Far (Lk R d) g n z.cu)->DI ((res (rwU bs d) out).map (fV R d g)) es->o2.Perm (cs.map (·.pa))->InO o2->H p=none->H' p=some (.lst ws)->A2 (VrAt H') ws (vlR ((res (rwU bs d) out).map (fV R d g)) (liP es) o2)->WT H H'->WM H'->Q (.ref p) H')) \/
 (okV g/\(asK H g fun _=>asK H t fun _=>((j5 g=false/\E (.ref bc) none H)\/(j5 g=true/\amg t 0 146096=false/\E (.ref bd) none H)))))
def lD(T:Txt K mg a):Fo P w K mg base "valued" 10 (sp_yJ a.a7 a.bg a.aM a.aN a.bq a.aW a.bN):=by
 refine T.CF.hx ["chart","journal","rates","currency","day","own","within"] (gX5 fun x0 x1 x2 x3 x4 fA WW A WX s H Q E ND HU hr h=>?_);obtain⟨hN,h1⟩:=h;have sz:=szl;refine⟨_,(af (bi (bP (bM (aF (cE T) hr av (fa1 (fv 3))))) (ah (jz T.d7 T.df d5)) aL)
  (af (bi (bP (bM (aF (gg T) hr av (fa1 (fv 4))))) (ah (jz T.iM T.gr d5)) aL)
  (af (aE 5 ND (aF (pL T) hr av (fa5 (fv 0) (fv 1) (fv 2) (fv 3) (fv 4))))
  (af (aE 6 ND (aF (lV T) hr av (fa1 (fv 5))))
  (ah (aB (cL rfl (cl:=_) (x:="path") (xs:=["path"]) (fr:=["own","within"]) (ks:=[5,6]) (by walk_at "k") rfl (bA K (CD (fv 0) T.bR (ku T) hr.mono av)) (fun _ _ _ _ _=>(aK (i:=0) (d_ (l:=["path","own","within"]) (by decide)) rfl (Wb rfl))) (fun _ _ _ _ _=>eR) (fun _ _ _ _ _=>(bZ (fa3 (fv 0) (cR (Zz HU) (fv 1) (fv 0) ae ⟨rfl,rfl,rfl,rfl⟩) (cR (Zz HU) (fv 2) (fv 0) ae ⟨rfl,rfl,rfl,rfl⟩))))))))))),?_⟩
 walk_at "d";obtain h1|⟨ho,h1⟩:=h1
 .skip
  refine bE (aQ h1) fun pc yy1 h2=>?_;subst yy1;refine bE (aQ h2) fun j yy1 h3=>?_;subst yy1;refine bE (aQ h3) fun r yy1 h4=>?_;subst yy1;refine bE (bt h4) fun g yy1 h5=>?_;subst yy1;refine bE (ba h5) fun d yy1 yz=>IQ yz fun bs R Cs cs VV kn k0=>?_;subst yy1;have ed:amg (.int d) 0 146096=true:=by rw[uM,VX VV.hd.1,VX VV.hd.2];rfl
  have cg:j5 (VS g)=true:=VV.cg;refine Js VV.jr fun b u vs WU JJ hv=>?_;obtain⟨dd,CC⟩:=VV.ch;walk_at "d";refine⟨hN,jq (lG VV.cg),?_⟩;rw[cg];refine itn (by decide) ⟨hN,?_⟩;rw[ed];refine itn (by decide) ?_;walk_at "d";refine⟨hN,b,u,vs,WU,bs,R,Cs,JJ,hv,VV.l8,VV.l7,fun o po z m=>(VV.zk o po z m).1,VV.rr,VV.gC,VV.cg,VV.hd,kn,fun out es p H1 po oo fr fp hp DD s1 N1=>?_⟩;have lo:=po.length_eq;rw[zV]at lo;have ld:=(mH (rwU bs d)).2.2;have lf:=Zb (fun b:Bo=>decide (b.d<=d)) bs;have lr:=fg (bs:=bs.filter fun b=>decide (b.d<=d)) fun x m=>VV.l7 x (Zn.mp m).1;have lR:=sw (rwU bs d) out;have l8:=VV.l8;have le:=DD.len;rw[zV]at le;have pk:∀e∈es,pOk e.1:=fun e m=>by
   obtain⟨x,mx,ex⟩:=DD.of e.1 (uO m);obtain⟨z,mz,rfl⟩:=yR.mp mx;rw[<- ex];exact(VV.zk out po z mz).2
  refine⟨N1,es,hp,by lia,pk,fun fs q H2 fq hq D2 s2 N2=>?_⟩;have l2:=D2.len;have l3:=rE pk;have s12:=s1.trans s2;refine qi ?_;walk_at "d";have C2:=CC.keep (bL s12) yW yW fun _ _=>⟨yW,yW⟩;obtain⟨dx,hpc⟩:=C2.ob;refine⟨_,_,hpc,uI _,N2,dd,cs,C2,VV.c64,fun o2 p2 i2 l fl=>?_⟩;have lo2:=p2.length_eq;rw[zV]at lo2;have c64:=VV.c64;refine bQ (bv (o:=HO.lst (o2.map VS)) fl N2 rfl) fun H3 e3 s3 g3 N3=>?_;rw[e3];refine⟨⟨_,az g3⟩,ceA (S:=VrAt) VrAt.mv l (o2.map VS) o2 (fun v y=>v=VS y) (fun _=>true) (fun c=>(c,psm ((res (rwU bs d) out).map (fV R d g)) c,psm (liP es) c)) g3 N3 (DQ o2) (by rw[zV];lia) (fun v c mc ry G zs n1 n0 sG nG hz k1 k0=>?_) fun D ws G fD sG nG gD aD=>?_⟩
  .subst ry
   obtain⟨z1,rfl⟩:=ex1 hz;have hpG:=sG _ _ (s3 _ _ (s2 _ _ hp));have hqG:=sG _ _ (s3 _ _ hq);walk_at "d";refine⟨⟨[_],rfl,rfl⟩,.inl ⟨_,.inl hpG⟩,_,DGet.k (k:=.inr ⟨⟨c⟩⟩) hpG,.inl ⟨_,.inl hqG⟩,_,DGet.k (k:=.inr ⟨⟨c⟩⟩) hqG,by walk_at "o",fun p1 fp1=>?_⟩;rw[eE,eE,qY,qY,DD.get,D2.get];exact k1 rfl _ _ (aj _ fp1) (al nG rfl) ⟨p1,rfl,aa⟩
  .rw[Z5.mpr (fun _ _=>rfl)]at aD
   exact k0 out es o2 D ws G po oo fr DD p2 i2 (s12.free (s3.free fD)) gD aD (s12.trans (s3.trans sG)) nG
 .refine fL (jP h1) fun t1 ht1 hb1 h2=>?_
  refine fL (jP h2) fun t2 ht2 hb2 k=>?_;refine⟨hN,ho,asK.of ht1 ?_⟩;obtain⟨e1,k⟩|⟨e1,e2,k⟩:=k
  .rw[e1]
   exact itp rfl ⟨by rw[ue];decide,k⟩
  .rw[e1]
   refine itn (by decide) ⟨hN,asK.of ht2 ?_⟩;rw[e2];exact itp rfl ⟨by rw[ue];decide,k⟩
end
section
variable{pS:WH}{ns:List Int}{P:WF}{w:WE}{K:Ws}{mg:Str->Option WI}{base:Wz}{a:Adr}
open K3
def gU{ta:TA}{g:TG}{tb:TS}{D:fo}{σ:St}{H:Hp}(h:ta σ H fun vs H1=>∃j:Int,vs=[.int j] /\ -(2 ^ 62)<=j/\j<2 ^ 62/\FE (Itr 0 j.toNat) g tb D σ H1):pI (Cj ta) g tb D σ H:=h
def yp{ta:TA}{g:TG}{tb:TS}{D:fo}{σ:St}{H:Hp}(h:ta σ H fun vs H1=>∃i j:Int,vs=[.int i,.int j]/\(-(2 ^ 62)<=i/\i<2 ^ 62 /\ -(2 ^ 62)<=j/\j<2 ^ 62)/\FE (Itr i (j-i).toNat) g tb D σ H1):pI (BL ta) g tb D σ H:=h
def wX{l:List Nat}{i:Int}(h:0<=i):iy l none (some i)=l.take i.toNat:=by
 unfold iy;obtain⟨j,rfl⟩:=Zi h;rw[HT.sIx_none,HT.sIx_nat,List.drop_zero,Nat.sub_zero,ZJ];by_cases hl:j<=l.length
 .rw[Xp hl]
 .rw[Nat.min_eq_right (by walk_at "o"),ZP (by walk_at "o"),ZP (by walk_at "o")]
def wM(l:List Nat)(lo hi:Option Int):(iy l lo hi).length<=l.length:=by
 unfold iy;rw[Zv,YT];exact wG (XV _ _) (Nat.sub_le _ _)
def qz{l:List Nat}{i:Int}(h:0<=i):iy l (some i) none=l.drop i.toNat:=by
 unfold iy;obtain⟨j,rfl⟩:=Zi h;rw[HT.sIx_none,HT.sIx_nat,ZJ];by_cases hl:j<=l.length
 .rw[Xp hl,ZP (by simp)]
 .rw[Nat.min_eq_right (by walk_at "o"),List.drop_of_length_le (by walk_at "o"),List.drop_of_length_le (by walk_at "o")];simp
def sp_Gn:Sp:=sp1 fun x H Q _=>WM H/\asI x fun _=>Q (.bl true) H
def jv(T:Txt K mg a):Fo P w K mg base "_law_whole" 1 sp_Gn:=by
 refine T.ri.hg ["_law_found"] (gG1 fun x0 fA WW A WX s H Q E ND HU hr h=>?_);obtain⟨hN,h1⟩:=h;obtain⟨i,rfl,k⟩:=ba h1;refine⟨hN,_,(ah (aB (dX (aI (cr K) rfl T.bf aY (fa2 (fv 0) (dN (v:=.ty "int") rfl T.ul pd rfl))) (dO (v8 (aI (cr K) rfl T.bf aY (fa2 (fv 0) (dN (v:=.ty "bool") rfl T.Ch wZ rfl)))))))),?_⟩;walk_at "q"
 first|exact k|exact Hm k
noncomputable def MX(c k:Int):Int:=(c*48271+7919*k*k+104729*k+12345) % 2147483647
def Ij(c k:Int):0<=MX c k/\MX c k<2147483647:=⟨Zt _ (by decide),Zu _ (by decide)⟩
def sp_B7:Sp:=sp2 fun x y H Q _=>WM H/\asI x fun c=>asI y fun k=>(0<=k/\k<=1000)/\Q (.int (MX c k)) H
def bp(T:Txt K mg a):Fo P w K mg base "_law_mixed" 1 sp_B7:=by
 refine T.rK.hg ["_law_cell","_law_k"] (gG2 fun x0 x1 fA WW A WX s H Q E ND HU hr h=>?_);obtain⟨hN,h1⟩:=h;obtain⟨c,rfl,h2⟩:=ba h1;obtain⟨k,rfl,hk,q⟩:=ba h2;refine⟨hN,_,(ah (aB (ai aS (ai aP (ai aP (ai aP (ai b8 (fv 0) ae) (ai b8 (ai b8 ae (fv 1)) (fv 1))) (ai b8 ae (fv 1))) ae) ae))),?_⟩;walk_at "q";exact⟨.inr (by walk_at "o"),q⟩
def sp_at(K:Ws):Sp:=sp2 fun x y H Q _=>asR x fun p=>asI y fun k=>∃ns:List Int,SqL K H p (ns.map V.int)/\0<=k/\Q (.int (ns.getD k.toNat 0)) H
def bC(T:Txt K mg a):Fo P w K mg base "_law_cell_at" 1 (sp_at K):=by
 refine T.n8.hx ["_law_script","_law_k"] (gX2 fun x0 x1 fA WW A WX s H Q E ND HU hr h=>?_);obtain⟨p,rfl,h1⟩:=aQ h;refine bE (ba h1) fun k yy1 yz=>fL yz fun ns hp k0 q=>?_;subst yy1;refine⟨_,(af (bi (aX qk (fv 1) (aI (cq K) rfl T.eJ de (fa1 (fv 0)))) (ah (aB (aH K (fv 0) (fv 1)))) aL)
  (ah (aB ae))),?_⟩
 walk_at "q";refine⟨_,.inl hp,?_⟩;rw[zV];by_cases hk:k<ns.length
 .exact itp hk ⟨_,_,.inl hp,Ax k0 hk,q⟩
 .have g:ns.getD k.toNat 0=0:=by
   have l:ns.length<=k.toNat:=by lia
   simp[List.getD,l]
  rw[g]at q;exact itn hk q
noncomputable def LET:List Nat:=[97,98,99,100,101,102,103,104,105,106,107,108,109,110,111,112,113,114,115,116,117,118,119,120,121,122]
def AT{i:Int}(h0:0<=i)(h1:i<26):atI LET i=some (97+i.toNat):=by
 obtain⟨j,rfl⟩:∃j:Nat,i=j:=⟨i.toNat,by lia⟩;refine aO ?_;have hb:∀k,k<26->LET[k]? = some (97+k):=by decide
 exact hb j (by lia)
def sp_zA:Sp:=sp1 fun x H Q _=>WM H/\asI x fun c=>∀p,H p=none->Q (.ref p) (upd H p (.lst ((Zw 7).map fun k=>VS (nms c k))))
def pR(T:Txt K mg a):Fo P w K mg base "_law_names" 1 sp_zA:=by
 refine T.rg.hg ["_law_cell","_law_letters","_law_size","_law_step","_law_word_here","_law_at","_law_names_here","_law_k","_law_sign"] (gG1 fun x0 fA WW A WX s H Q E ND HU hr h=>?_);obtain⟨hN,h1⟩:=h;obtain⟨c,rfl,q⟩:=ba h1;have sz:=szl;refine⟨hN,_,(af (aE 1 ND (ay [97,98,99,100,101,102,103,104,105,106,107,108,109,110,111,112,113,114,115,116,117,118,119,120,121,122]))
  (af (aE 2 ND (ai aP ae (ai aS (fv 0) ae)))
  (af (aE 3 ND (ai aP ae (ai aS (ai a_ (fv 0) ae) ae)))
  (af (aE 4 ND (cD K ZG PySem.F.slot_str_join PySem.F.type_str_join (oX K) (ay []) (fa1 (cL rfl (cl:=_) (x:="_law_k") (xs:=["_law_k"]) (fr:=["_law_letters","_law_cell","_law_step"]) (ks:=[1,0,3]) (by walk_at "k") rfl (dC rfl T.d6 (fa1 (fv 2))) (fun _ _ _ _ _=>(aK (i:=0) (d_ (l:=["_law_k","_law_letters","_law_cell","_law_step"]) (by decide)) rfl (Wb rfl))) (fun _ _ _ _ _=>eR) (fun _ _ _ _ _=>(aH K (fv 1) (ai aS (ai aP (ai a_ (fv 2) ae) (ai b8 (fv 3) (fv 0))) ae)))))))
  (af (aE 5 ND (ai aS (ai a_ (fv 0) ae) (ai aP (fv 2) ae)))
  (af (aE 6 ND (cy (FA.pa c_)))
  (af (bY (by passes_own) rfl (dC rfl T.d6 (fa1 ae)) (aK (i:=7) ND rfl (Wb rfl)) (af (aE 8 ND (aH K (fv 1) (ai aS (ai aP (ai a_ (fv 0) ae) (ai b8 ae (fv 7))) ae)))
  (ah (bH (cD K Zm Zg Zh cz (fv 6) (fa1 (ai aP (ai aP (cU sf (fv 4) dI (dQ (fv 5))) (fv 8)) (cU sf (fv 4) (dQ (fv 5)) dI))))))))
  (ah (aB (ai rV (fv 6) (cy (fa1 (fv 4))))))))))))),?_⟩
 walk_at "q";refine cmR (fun _=>True) (fun _ _ _=>trivial) (1+c % 10).toNat (fun _=>true) (fun j:Nat=>VS [sg (c / 250) (1+c / 10 % 25) j]) (fun R r=>?_) (by walk_at "o") (fun j hj H R _ r=>r) (fun j hj _ H' R _ r=>?_) (fun D hD=>?_)
 .walk_at "z"
  rw[show((1+c % 10).toNat:Int)=1+c % 10 by walk_at "o"]at r;exact r
 .walk_at "q"
  refine⟨.inl (by walk_at "o"),by walk_at "o",?_⟩;show match atI LET ((c / 250+(1+c / 10 % 25)*(j:Int)) % 26) with|some c=>R (VS [c]) H'|none=>False
  rw[AT (by walk_at "o") (by walk_at "o")];exact r
 .refine zQ (Zw (1+c % 10).toNat) (fun j:Nat=>sg (c / 250) (1+c / 10 % 25) j) (by rw[aa,Z5.mpr (by simp)]) (by rw[List.length_range];lia) ?_
  show 0<1+c % 10+1/\_;refine⟨by walk_at "o",by walk_at "o",fun p hp=>?_⟩;have hw:(wd (c / 250) (1+c / 10 % 25) (1+c % 10).toNat).length<=10:=by simp[wd];lia
  have s1:=aj (HO.lst (List.map (fun j:Nat=>VS [sg (c / 250) (1+c / 10 % 25) j]) (List.filter (fun _=>true) (Zw (1+c % 10).toNat)))) hD;generalize upd H D (HO.lst (List.map (fun j:Nat=>VS [sg (c / 250) (1+c / 10 % 25) j]) (List.filter (fun _=>true) (Zw (1+c % 10).toNat))))=H1 at s1 hp |-
  have p0:H p=none:=s1.free hp;have a0:0<=c / 6500 % (1+c % 10+1):=Zt _ (by walk_at "o");have a1:c / 6500 % (1+c % 10+1)<1+c % 10+1:=Zu _ (by walk_at "o");have en:∀k:Nat,nms c k=if k<6 then (wd (c / 250) (1+c / 10 % 25) (1+c % 10).toNat).take (c / 6500 % (1+c % 10+1)).toNat++[97+((c / 71500+3*k) % 26).toNat]++(wd (c / 250) (1+c / 10 % 25) (1+c % 10).toNat).drop (c / 6500 % (1+c % 10+1)).toNat else wd (c / 250) (1+c / 10 % 25) (1+c % 10).toNat:=fun _=>rfl
  have ew:List.map (fun j:Nat=>sg (c / 250) (1+c / 10 % 25) j) (Zw (1+c % 10).toNat)=wd (c / 250) (1+c / 10 % 25) (1+c % 10).toNat:=rfl;rw[ew];generalize wd (c / 250) (1+c / 10 % 25) (1+c % 10).toNat=w at hw en |-
  generalize c / 6500 % (1+c % 10+1)=t at a0 a1 en |-
  refine gU ?_;walk_at "q";refine dZ (lo:=0) (n:=6) (fun i σ' H'=>WT H H'/\H' p=some (.lst ((Zw i).map fun k=>VS (nms c k)))/\∃x7 x8,σ'=[some (.int c),some (VS LET),some (.int (1+c % 10)),some (.int (1+c / 10 % 25)),some (VS w),some (.int t),some (.ref p),x7,x8]) ⟨s1.trans (aj _ hp),aa,none,none,rfl⟩ ?_ ?_
  .rintro i σ' H' hi ⟨sm,hp',x7,x8,rfl⟩
   walk_at "q";refine⟨by show 26<=WC;lia,?_⟩;show match atI LET ((c / 71500+3*(0+(i:Int))) % 26) with|some c_1=>_|none=>False
   rw[AT (by walk_at "o") (by walk_at "o")];walk_at "z";refine⟨.inl ⟨_,az hp'⟩,by walk_at "o",?_⟩;rw[wX a0,qz a0];walk_at "z";have ni:nms c i=List.take t.toNat w++[97+((c / 71500+3*(0+(i:Int))) % 26).toNat]++ZE t.toNat w:=by rw[en i,VY hi,Y9]
   rw[<- ni];refine⟨by simp;lia,by walk_at "o",by simp;lia,p,_,_,rfl,rfl,hp',by simp;lia,bX sm p0,?_,_,_,rfl,rfl⟩;rw[aa,List.range_succ,yE];rfl
  .rintro σ' H' ⟨sm,hp',x7,x8,rfl⟩
   walk_at "z";refine⟨by walk_at "o",fun q1 h1=>⟨_,_,(ag (aq hp' h1)).trans hp',aa,by simp;lia,fun q2 h2=>?_⟩⟩;have s2:=(sm.trans (aj (HO.lst [VS w]) h1)).trans (aj (HO.lst (List.map (fun k=>VS (nms c k)) (Zw 6)++[VS w])) h2);refine⟨_,Gc.one s2 ((sm.trans (aj _ h1)).free h2) aa rfl,?_⟩;have e:List.map (fun k=>VS (nms c k)) (Zw 6)++[VS w]=(Zw 7).map fun k=>VS (nms c k):=by
    rw[List.range_succ (n:=6),yE,XG,en 6,VZ (by decide)]
   rw[e];exact q q2 ((sm.trans (aj _ h1)).free h2)
noncomputable def UPP:List Nat:=[65,66,67,68,69,70,71,72,73,74,75,76,77,78,79,80,81,82,83,84,85,86,87,88,89,90]
def Gb{z1 z2 g:Nat}{i:Int}(h1:65<=z1/\z1<=90)(h2:65<=z2/\z2<=90)(h3:65<=g/\g<=90)(hi:0<=i/\i<3):cur (iy [z1,z2] none (some i)++[g]++iy [z1,z2] (some i) none)=true:=by
 rw[wX hi.1,qz hi.1];obtain h|h|h:i.toNat=0\/i.toNat=1\/i.toNat=2:=by lia
 all_goals
  rw[h];simp[cur,lie,h1,h2,h3]
def BJ{i:Int}(h0:0<=i)(h1:i<26):atI UPP i=some (65+i.toNat):=by
 obtain⟨j,rfl⟩:=Zi h0;have hb:∀k,k<26->UPP[k]? = some (65+k):=by decide
 exact aO (hb j (by lia))
def HJ{A B:List Nat}{x y:Nat}(h:x≠y):A++[x]++B≠A++[y]++B:=fun e=>h (by simpa using e)
def sp_D6:Sp:=sp1 fun x H Q _=>WM H/\asI x fun c=>∀cu:List (List Nat),cu.length=4->cu.Nodup->(∀l∈cu,cur l=true)->∀q,H q=none->Q (.ref q) (upd H q (.lst (cu.map VS)))
def jC(T:Txt K mg a):Fo P w K mg base "_law_currencies" 1 sp_D6:=by
 refine T.kA.hg ["_law_cell","_law_letters","_law_word_here","_law_at"] (gG1 fun x0 fA WW A WX s H Q E ND HU hr h=>?_);obtain⟨hN,h1⟩:=h;obtain⟨c,rfl,q⟩:=ba h1;have sz:=szl;refine⟨hN,_,(af (aE 1 ND (ay [65,66,67,68,69,70,71,72,73,74,75,76,77,78,79,80,81,82,83,84,85,86,87,88,89,90]))
  (af (aE 2 ND (ai aP (aH K (fv 1) (ai aS (ai a_ (fv 0) ae) ae)) (aH K (fv 1) (ai aS (ai a_ (fv 0) ae) ae))))
  (af (aE 3 ND (ai aS (fv 0) ae))
  (ah (aB (cL rfl (cl:=_) (x:="_law_k") (xs:=["_law_k"]) (fr:=["_law_word_here","_law_letters","_law_at","_law_cell"]) (ks:=[2,1,3,0]) (by walk_at "k") rfl (dC rfl T.d6 (fa1 ae)) (fun _ _ _ _ _=>(aK (i:=0) (d_ (l:=["_law_k","_law_word_here","_law_letters","_law_at","_law_cell"]) (by decide)) rfl (Wb rfl))) (fun _ _ _ _ _=>eR) (fun _ _ _ _ _=>(ai aP (ai aP (cU sf (fv 1) dI (dQ (fv 3))) (aH K (fv 2) (ai aS (ai aP (ai a_ (fv 4) ae) (ai b8 ae (fv 0))) ae))) (cU sf (fv 1) (dQ (fv 3)) dI))))))))),?_⟩
 walk_at "q";have e1:=BJ (i:=c / 3 % 26) (by walk_at "o") (by walk_at "o");have e2:=BJ (i:=c / 78 % 26) (by walk_at "o") (by walk_at "o");have i1:65<=65+(c / 3 % 26).toNat/\65+(c / 3 % 26).toNat<=90:=by lia
 have i2:65<=65+(c / 78 % 26).toNat/\65+(c / 78 % 26).toNat<=90:=by lia
 generalize 65+(c / 3 % 26).toNat=z1 at e1 i1;generalize 65+(c / 78 % 26).toNat=z2 at e2 i2;refine⟨by walk_at "o",?_⟩;rw[show [65,66,67,68,69,70,71,72,73,74,75,76,77,78,79,80,81,82,83,84,85,86,87,88,89,90]=UPP from rfl,e1];refine⟨by walk_at "o",?_⟩;rw[e2];refine⟨by walk_at "o",?_⟩;obtain⟨gz,egz⟩:∃gz:Nat->Nat,gz=fun j:Nat=>65+((c / 2028+3*(j:Int)) % 26).toNat:=⟨_,rfl⟩;have hgz:∀j:Nat,(65<=gz j/\gz j<=90)/\atI UPP ((c / 2028+3*(j:Int)) % 26)=some (gz j):=fun j=>by
  rw[egz];exact⟨by dsimp only;lia,BJ (by walk_at "o") (by walk_at "o")⟩
 refine cmR (fun _=>True) (fun _ _ _=>trivial) 4 (fun _=>true) (fun j:Nat=>VS (iy [z1,z2] none (some (c % 3))++[gz j]++iy [z1,z2] (some (c % 3)) none)) (fun R r=>r) (by walk_at "o") (fun j hj H R _ r=>r) (fun j hj _ H' R _ r=>?_) (fun D hD=>?_)
 .walk_at "q"
  refine⟨by walk_at "o",by walk_at "o",?_⟩;rw[(hgz j).2];walk_at "z";have l1:=wM [z1,z2] none (some (c % 3));have l2:=wM [z1,z2] (some (c % 3)) none;simp only[zA,vZ,Xo]at *;exact⟨by walk_at "o",by walk_at "o",by walk_at "o",r⟩
 .have e:((Zw 4).filter fun _=>true).map (fun j:Nat=>VS (iy [z1,z2] none (some (c % 3))++[gz j]++iy [z1,z2] (some (c % 3)) none))=((Zw 4).map fun j:Nat=>iy [z1,z2] none (some (c % 3))++[gz j]++iy [z1,z2] (some (c % 3)) none).map VS:=by
   rw[Z5.mpr (by simp),vN];rfl
  rw[e];refine⟨_,Gc.one (aj _ hD) hD aa rfl,q _ rfl ?_ (fun l hl=>?_) D hD⟩
  .refine Xi.mpr (XQ (fun {i j} mi mj ne=>HJ fun z=>ne ?_) List.nodup_range)
   have mi:=List.mem_range.mp mi;have mj:=List.mem_range.mp mj;rw[egz]at z;dsimp only at z;lia
  obtain⟨j,_,rfl⟩:=yR.mp hl;exact Gb i1 i2 (hgz j).1 (by lia)
open K3
noncomputable abbrev L11:List Int:=[31,28,31,30,31,30,31,31,30,31,30]
def Bj(y:Int):LD (y+1)-LD y=if (y % 4=0/\y % 100≠0)\/y % 400=0 then 1 else 0:=by
 rw[xa];lia
noncomputable def PL(y:Int)(i:Nat):Int:=((31::(28+(LD (y+1)-LD y))::R10).take i).sum
def DN(y:Int):∀i:Nat,i<11->PL y (i+1)=PL y i+(L11.getD i 0+if i=1 then LD (y+1)-LD y else 0):=by
 intro i hi;have hc:=(by decide:∀i,i<11->i=0\/i=1\/i=2\/i=3\/i=4\/i=5\/i=6\/i=7\/i=8\/i=9\/i=10) i hi;unfold PL;obtain h|h|h|h|h|h|h|h|h|h|h:=hc <;> subst h <;> simp[R10,List.take,List.sum] <;> lia
def sp_z9:Sp:=sp1 fun x H Q _=>WM H/\asI x fun m=>Q (.int (FD m)) H
def dh(T:Txt K mg a):Fo P w K mg base "_law_first" 1 sp_z9:=by
 refine T.rS.hg ["_law_month","_law_year","_law_day_here","_law_long_year","_law_place"] (gG1 fun x0 fA WW A WX s H Q E ND HU hr h=>?_);obtain⟨hN,h1⟩:=h;obtain⟨m,rfl,q⟩:=ba h1
 skip
 have c3:∃u,PSs (cJ (XE P w) P w K mg base ["_law_month","_law_year","_law_day_here","_law_long_year","_law_place"] "_law_first" (ak (top 64)) fA WW A WX s H (gcE H E)) (ZE 3 (bh (top 64))) u/\∀(bb:Bool),(if bb=true then (1:Int) else 0)=LD (m / 12+1)-LD (m / 12)->u { nx:=fun _ H'=>∃G,Gc H G H'/\Q .non G,rt:=fun v H'=>∃G,Gc H G H'/\Q v G } [some (.int m),some (.int (m / 12)),some (.int (365*(m / 12)+(m / 12+3) / 4-(m / 12+99) / 100+(m / 12+399) / 400)),some (.bl bb),none] H:=by
  refine⟨_,(af (bY (by passes_own) rfl (dC rfl T.d6 (fa1 (ai aS (fv 0) ae))) (aK (i:=4) ND rfl (Wb rfl)) (ah (aE 2 ND (ai aP (ai aP (fv 2) (gN (FA.pa (aU ae (aU ae (aU ae (aU ae (aU ae (aU ae (aU ae (aU ae (aU ae (aU ae (aU ae c_)))))))))))) (fv 4) (fun _ _=>rfl))) (dW sS rfl T.ul pd (fa1 (dX (dl (bS K HU) (fv 4) ae (dY _)) (dO (fv 3)))))))))
   (ah (aB (fv 2)))),fun bb hbb=>?_⟩
  walk_at "z";refine gU ?_;walk_at "q";have m0:0<=m % 12/\m % 12<12:=by walk_at "o"
  refine⟨by walk_at "o",by walk_at "o",dZ (lo:=0) (n:=(m % 12).toNat) (fun i σ' H'=>H'=H/\∃x4,σ'=[some (.int m),some (.int (m / 12)),some (.int (365*(m / 12)+LD (m / 12)+PL (m / 12) i)),some (.bl bb),x4]) ⟨rfl,none,?_⟩ ?_ ?_⟩
  .have e:365*(m / 12)+(m / 12+3) / 4-(m / 12+99) / 100+(m / 12+399) / 400=365*(m / 12)+LD (m / 12)+PL (m / 12) 0:=by unfold LD PL;simp;lia
   rw[e]
  .rintro i σ' H' hi ⟨rfl,x4,rfl⟩
   have i11:i<11:=by walk_at "o"
   have st:=DN (m / 12) i i11;walk_at "q";refine⟨hN,by rw[ue];decide,fun p hp=>yY (ns:=L11) (by walk_at "o") (by show _<(11:Int);lia) ?_⟩;rw[show((0:Int)+(i:Int)).toNat=i by lia];walk_at "q";by_cases h1:(0:Int)+(i:Int)=1
   .refine itp h1 ⟨_,?_,rfl⟩
    have i1:i=1:=by walk_at "o"
    rw[VY i1,<- hbb]at st;rw[st,<- Y1,<- Y1]
   .refine itn h1 ⟨_,?_,rfl⟩
    have i1:¬ i=1:=by walk_at "o"
    rw[VZ i1]at st;rw[st,<- Y1,<- Y1]
  .rintro σ' H' ⟨rfl,x4,rfl⟩
   walk_at "q";have e:365*(m / 12)+LD (m / 12)+PL (m / 12) (m % 12).toNat=FD m:=II m;rw[e];exact q
 obtain⟨u3,hu3,c3⟩:=c3;refine⟨hN,_,(af (aE 1 ND (ai a_ (fv 0) ae))
  (af (aE 2 ND (ai aP (ai fZ (ai aP (ai b8 ae (fv 1)) (ai a_ (ai aP (fv 1) ae) ae)) (ai a_ (ai aP (fv 1) ae) ae)) (ai a_ (ai aP (fv 1) ae) ae)))
  (af (aE 3 ND (dX (dl (bS K HU) (ai aS (fv 1) ae) ae (dY _)) (dO (xP (dl (fT K HU) (ai aS (fv 1) ae) ae (dY _)) (dO (dl (bS K HU) (ai aS (fv 1) ae) ae (dY _)))))))
  hu3))),?_⟩
 walk_at "q";have lo:=Bj (m / 12);by_cases h4:m / 12 % 4=0
 .refine itp h4 ?_
  by_cases h1:m / 12 % 100=0
  .refine itp h1 (c3 _ ?_)
   rw[lo];by_cases h5:m / 12 % 400=0
   .rw[VY (VX h5),VY (.inr h5)]
   .rw[VZ (fun z=>h5 (of_decide_eq_true z)),VZ (by lia)]
  .refine itn h1 (c3 _ ?_)
   exact(lo.trans (VY (.inl ⟨h4,h1⟩))).symm
 .refine itn h4 (c3 _ ?_)
  exact(lo.trans (VZ (by lia))).symm
def sp_Hc:Sp:=sp2 fun x y H Q _=>WM H/\asI x fun c=>asI y fun m=>∀d,FD m<=d->d<FD (m+1)->Q (.int d) H
def iF(T:Txt K mg a):Fo P w K mg base "_law_day" 2 sp_Hc:=by
 refine T.wC.hg ["_law_cell","_law_month"] (gG2 fun x0 x1 fA WW A WX s H Q E ND HU hr h=>?_);obtain⟨hN,h1⟩:=h;obtain⟨c,rfl,h2⟩:=ba h1;obtain⟨m,rfl,q⟩:=ba h2;have fl:=sX m;refine⟨hN,_,(af (bi (aX (bS K HU) (ai aS (fv 0) ae) ae) (ah (aB (aF (dh T) hr av (fa1 (fv 1))))) aL)
  (af (bi (aX (bS K HU) (ai aS (fv 0) ae) ae) (ah (aB (ai fZ (aF (dh T) hr av (fa1 (ai aP (fv 1) ae))) ae))) aL)
  (ah (aB (ai aP (aF (dh T) hr av (fa1 (fv 1))) (ai aS (ai a_ (fv 0) ae) ae)))))),?_⟩
 walk_at "q";split
 .exact⟨hN,q _ (ZA _) (by walk_at "o")⟩
 .split
  .exact⟨hN,q _ (by walk_at "o") (by walk_at "o")⟩
  .exact⟨hN,q _ (by walk_at "o") (by walk_at "o")⟩
end
section
def qQ(c:Int)(k:Nat):nm (nms c k)=true:=by
 obtain⟨h1,h2,h3⟩:=iS (c:=c) (k:=k);unfold nm lie;rw[VX h1,VX (by lia:(nms c k).length<=12),Bool.true_and,Bool.true_and,Zk];intro x hx;have:=h3 x hx;simp;lia
def dt(c:Int)(k:Nat):58∉nms c k:=fun h=>by have:=(iS (c:=c) (k:=k)).2.2 58 h;lia
structure POk(l:List Nat):Prop where
 pn:iW l=true
 lo:∀c∈l,c<128
 ln:l.length+1<=13*(spN 58 l).length
def POk.len{l:List Nat}(h:POk l):l.length<=100:=by
 have:=h.pn;unfold iW at this;simp only[ZR,decide_eq_true_eq]at this;have:=h.ln;lia
def POk.top{c:Int}{k:Nat}:POk (nms c k):=by
 have e:=gH 58 _ (dt c k);obtain⟨h1,h2,h3⟩:=iS (c:=c) (k:=k);refine⟨?_,fun x hx=>by have:=h3 x hx;lia,by rw[e];simp;lia⟩;unfold iW;rw[e];simp[qQ]
def POk.ext{c:Int}{k:Nat}{u:List Nat}(h:POk u)(l5:(spN 58 u).length<=5):POk (u++58::nms c k):=by
 have e:=hV (v:=u) (dt c k);obtain⟨h1,h2,h3⟩:=iS (c:=c) (k:=k);have hp:=h.pn;unfold iW at hp;simp only[ZR,decide_eq_true_eq]at hp;refine⟨?_,fun x hx=>?_,?_⟩
 .unfold iW
  rw[e,zA,List.all_append];simp only[ZR,decide_eq_true_eq];exact⟨⟨by lia,by simp;lia⟩,hp.2,by simp[qQ]⟩
 .obtain m|m:=yy.mp hx
  .exact h.lo x m
  .obtain rfl|m:=z9.mp m
   .decide
   .have:=h3 x m;lia
 .have:=h.ln
  rw[e,zA,zA,v6,vZ];lia
namespace Pths
variable{c:Int}{ps:List (List Nat)}
def ok(h:Pths c ps):∀p∈ps,POk p:=by
 induction h with
 |two=>
  intro p hp;simp only[z9,yW,or_false]at hp;obtain rfl|rfl:=hp <;> exact POk.top
 |more _ hu _ l5 ih=>
  intro p hp;obtain m|m:=yy.mp hp
  .exact ih p m
  .rw[zh.mp m];exact(ih _ hu).ext l5
def len2(h:Pths c ps):2<=ps.length:=by
 induction h with
 |two=>exact zK _
 |more _ _ _ _ ih=>simp;lia
end Pths
end
section
variable{pS:WH}{ns:List Int}{P:WF}{w:WE}{K:Ws}{mg:Str->Option WI}{base:Wz}{a:Adr}
open K3
def GT{ps:List (List Nat)}(x:Int)(h:0<ps.length):∃u∈ps,atI (ps.map VS) (x % ((ps.map VS).length:Nat))=some (VS u):=by
 have b0:0<=x % ((ps.map VS).length:Nat):=Zt _ (by rw[zV];lia);have b1:x % ((ps.map VS).length:Nat)<((ps.map VS).length:Nat):=Zu _ (by rw[zV];lia);obtain⟨j,e⟩:=Zi b0;rw[e]at b1 |-
 have hj:j<ps.length:=by rw[zV]at b1;lia
 exact⟨ps[j],List.getElem_mem hj,aO (by simp[hj])⟩
def FN(c x:Int):∃k,atI ((Zw 7).map fun k=>VS (nms c k)) (x / 13 % 7)=some (VS (nms c k)):=by
 have b0:0<=x / 13 % 7:=by walk_at "o"
 have b1:x / 13 % 7<7:=by walk_at "o"
 obtain⟨j,e⟩:=Zi b0;rw[e]at b1 |-
 exact⟨j,aO (by simp[show j<7 by walk_at "o"])⟩
def EZ(l:List Nat)(ps:List (List Nat)):inV (VS l) (ps.map VS)=decide (l∈ps):=by
 unfold inV;rw[List.any_map,Xn,Yw,decide_eq_true_eq];constructor
 .rintro⟨x,hx,e⟩
  have e':x=l:=by simpa [eqV,Function.comp] using e
  exact e' ▸ hx
 .intro h;exact⟨l,h,by simp[eqV]⟩
def sp_Ay(K:Ws):Sp:=sp2 fun x y H Q _=>asR x fun p=>asI y fun m=>WM H/\∃ns:List Int,SqL K H p (ns.map V.int)/\(0<=m/\m<=8)/\∀c (ps:List (List Nat)) q,Pths c ps->ps.length<=10->H q=none->Q (.ref q) (upd H q (.lst (ps.map VS)))
def pG(T:Txt K mg a):Fo P w K mg base "_law_paths" 3 (sp_Ay K):=by
 refine T.qS.hg ["_law_script","_law_many","_law_names_here","_law_paths_here","_law_k","_law_cell","_law_ahead","_law_path"] (gG2 fun x0 x1 fA WW A WX s H Q E ND HU hr h=>?_);obtain⟨p,rfl,h1⟩:=aQ h;refine fL (ba h1) fun m yy1 hN yz=>fL yz fun ns hS hm k=>?_;subst yy1;have sz:=szl;refine⟨hN,_,(af (aE 2 ND (aF (pR T) hr av (fa1 (aF (bC T) hr av (fa2 (fv 0) ae)))))
  (af (aE 3 ND (cy (fa2 (aH K (fv 2) ae) (aH K (fv 2) ae))))
  (af (bY (by passes_own) rfl (dC rfl T.d6 (fa1 (fv 1))) (aK (i:=4) ND rfl (Wb rfl)) (af (aE 5 ND (aF (bp T) hr av (fa2 (aF (bC T) hr av (fa2 (fv 0) ae)) (fv 4))))
  (af (aE 6 ND (aH K (fv 3) (ai aS (fv 5) (aI (cq K) rfl T.eJ de (fa1 (fv 3))))))
  (af (aE 7 ND (ai aP (ai aP (fv 6) (ay [58])) (aH K (fv 2) (ai aS (ai a_ (fv 5) ae) ae))))
  (ah (bi (L2.PW.pt (rl (sU (qa K) (fv 7) (fv 3) (by with_unfolding_all rfl)) (nA (aX qk (cD K ZG PySem.F.slot_str_count PySem.F.type_str_count AC (fv 6) (fa1 (ay [58]))) ae)))) (ah (bH (cD K Zm Zg Zh cz (fv 3) (fa1 (fv 7))))) aL))))))
  (ah (aB (fv 3)))))),?_⟩
 walk_at "q";refine⟨ns,hS,hN,fun q hq=>⟨_,_,.inl (az aa),aO (j:=0) rfl,_,_,.inl (az aa),aO (j:=6) rfl,by walk_at "o",fun r hr=>?_⟩⟩;have e1:(ns.getD (XF 1) 0)=ns.getD 1 0:=rfl;rw[e1]at hr |-
 generalize ns.getD 1 0=c at hr k |-
 have s1:=aj (HO.lst (List.map (fun k=>VS (nms c k)) (Zw 7))) hq;have qr:q≠r:=aq aa hr;have r0:H r=none:=s1.free hr;refine gU ?_;walk_at "q";refine⟨by walk_at "o",by walk_at "o",dZ (lo:=0) (n:=m.toNat) (fun i σ' H'=>WT H H'/\WM H'/\H' q=some (.lst ((Zw 7).map fun k=>VS (nms c k)))/\∃ps x4 x5 x6 x7,Pths c ps/\ps.length<=2+i/\H' r=some (.lst (ps.map VS))/\σ'=[some (.ref p),some (.int m),some (.ref q),some (.ref r),x4,x5,x6,x7]) ⟨s1.trans (aj _ hr),al (al hN rfl) rfl,(ag qr).trans aa,_,none,none,none,none,Pths.two,by simp,aa,rfl⟩ ?_ ?_⟩
 .rintro i σ' H' hi ⟨sm,nT,hq',ps,x4,x5,x6,x7,hP,lp,hr',rfl⟩
  have l2:=(K20.Pths.len2 hP);walk_at "q";refine⟨ns,hS.same sm,nT,⟨by walk_at "o",by walk_at "o"⟩,_,.inl (az hr'),?_⟩;walk_at "z";generalize MX (ns.getD (XF 2) 0) (0+(i:Int))=x;refine bE (GT (ps:=ps) x (by walk_at "o")) fun u hu eu=>?_;obtain⟨k7,e7⟩:=FN c x;have pu:=K20.Pths.ok hP u hu;have lu:=pu.len;have l7:=iS (c:=c) (k:=k7);refine⟨by rw[zV];lia,_,_,.inl (az hr'),eu,?_⟩;walk_at "z";refine⟨by walk_at "o",_,_,.inl (az hq'),e7,?_⟩;walk_at "q";refine⟨by simp;lia,_,.inl (az hr'),rfl,by simp[cY],?_⟩;have el:u++[58]++nms c k7=u++58::nms c k7:=by simp
  by_cases hm:u++58::nms c k7∈ps
  .exact itn (by rw[EZ,el,VX hm];decide) ⟨sm,nT,hq',ps,_,_,_,_,hP,by walk_at "o",hr',rfl,rfl,rfl,rfl⟩
  .refine itp (by rw[EZ,el,VW hm]) ⟨by decide,?_,?_⟩
   .intro z
    have:=pu.pn;rw[show u=[] from z]at this;exact VT this (by decide)
   .by_cases h5:((spN 58 u).length:Int)-1<5
    .refine itp h5 ⟨.inl ⟨_,az hr'⟩,r,_,_,rfl,rfl,hr',by rw[zV];lia,bX sm r0,al nT rfl,(ag qr).trans hq',_,_,_,_,_,.more hP hu hm (by walk_at "o"),by simp;lia,?_,rfl,rfl,rfl,rfl⟩
     rw[aa,yE,<- el];rfl
    .exact itn h5 ⟨sm,nT,hq',ps,_,_,_,_,hP,by walk_at "o",hr',rfl,rfl,rfl,rfl⟩
 .rintro σ' H' ⟨sm,nT,hq',ps,x4,x5,x6,x7,hP,lp,hr',rfl⟩
  walk_at "z";refine⟨_,Gc.one sm r0 hr' rfl,k _ ps r hP (by walk_at "o") r0⟩
end
section
variable{P:WF}{w:WE}{K:Ws}{mg:Str->Option WI}{base:Wz}{a:Adr}
open K3
def sp_yR:Sp:=sp1 fun x H Q _=>WM H/\asI x fun c=>(0<=c/\c<2147483647)/\∀i:Int,i≠0->i.natAbs<=1000000000000000->Q (.int i) H
def om(T:Txt K mg a):Fo P w K mg base "_law_amount" 1 sp_yR:=by
 refine T.pO.hg ["_law_cell","_law_some"] (gG1 fun x0 fA WW A WX s H Q E ND HU hr h=>?_);obtain⟨hN,h1⟩:=h;obtain⟨c,rfl,hc,q⟩:=ba h1;have fin:∀s:Int,1<=s->s<=1000000000000000->Q (.int (s*(1-2*(c / 3 % 2)))) H:=fun s a b=>by
  have h2:c / 3 % 2=0\/c / 3 % 2=1:=by lia
  obtain e|e:=h2 <;> rw[e] <;> refine q _ ?_ ?_ <;> lia
 have z:-18446744073709551616<1-2*(c / 3 % 2)/\1-2*(c / 3 % 2)<18446744073709551616:=by lia
 have y:Int.natAbs 10<18446744073709551616:=by decide
 have e:(10:Int) ^ XF 15=1000000000000000:=by decide
 refine⟨hN,_,(af (aE 1 ND (ai aP ae (ai aS (ai a_ (fv 0) ae) ae)))
  (af (bi (aX (bS K HU) (ai aS (fv 0) ae) ae) (ah (aE 1 ND (ai aP ae (ai aS (ai b8 (fv 0) (fv 0)) (ai lF ae ae))))) aL)
  (af (bi (aX (bS K HU) (ai aS (fv 0) ae) ae) (ah (aE 1 ND (ai fZ (ai lF ae ae) (ai aS (ai a_ (fv 0) ae) ae)))) aL)
  (ah (aB (ai b8 (fv 1) (ai fZ ae (ai b8 ae (ai aS (ai a_ (fv 0) ae) ae))))))))),?_⟩
 walk_at "q";rw[e];split
 .refine⟨.inl (by lia),y,by decide,?_⟩
  split
  .exact⟨y,.inr z,fin _ (by lia) (by lia)⟩
  .exact⟨.inr z,fin _ (by have:=Zt (c*c) (b:=1000000000000000) (by decide);lia) (by have:=Zu (c*c) (b:=1000000000000000) (by decide);lia)⟩
 .split
  .exact⟨y,.inr z,fin _ (by lia) (by lia)⟩
  .exact⟨.inr z,fin _ (by lia) (by lia)⟩
def sp_CO:Sp:=sp2 fun x y H Q _=>WM H/\asI x fun n=>asI y fun b=>(0<b/\b.natAbs<10 ^ 60/\n.natAbs<10 ^ 60)/\Q (.int (rnd n b)) H
def sN(T:Txt K mg a):Fo P w K mg base "_law_near" 1 sp_CO:=by
 refine T.tT.hg ["_law_number","_law_by","_law_down"] (gG2 fun x0 x1 fA WW A WX s H Q E ND HU hr h=>?_);obtain⟨hN,h1⟩:=h;obtain⟨n,rfl,h2⟩:=ba h1;obtain⟨b,rfl,⟨b0,b1,b2⟩,k⟩:=ba h2;have cm:=show A_ (n / b) b from⟨r8 (ZZ (xf b0) b2),r8 b1⟩
 refine⟨hN,_,(af (aE 2 ND (ai kr (fv 0) (fv 1)))
  (af (bi (L2.PW.pt (gm (aX xm (ai b8 ae (ai fZ (fv 0) (ai rX (fv 2) (fv 1)))) (fv 1)) (f8 (L2.PW.pt (rl (aX (bS K HU) (ai b8 ae (ai fZ (fv 0) (ai rX (fv 2) (fv 1)))) (fv 1)) (nA (aX (bS K HU) (ai aS (fv 2) ae) ae))))))) (ah (aB (ai aP (fv 2) ae))) aL)
  (ah (aB (fv 2))))),?_⟩
 walk_at "q";unfold rnd at k;refine⟨⟨b0,wI b0 b1⟩,cm,?_⟩;split
 .rename_i c
  rw[VY (.inl c)]at k;exact k
 .rename_i c
  refine⟨cm,?_⟩;split
  .rename_i c2
   split
   .rename_i c3
    rw[VY (.inr ⟨c2,c3⟩)]at k;exact k
   .rename_i c3
    rw[VZ (fun z=>z.elim c fun z=>c3 z.2)]at k;exact k
  .rename_i c2
   rw[VZ (fun z=>z.elim c fun z=>c2 z.1)]at k;exact k
def sp_yy:Sp:=sp1 fun x H Q _=>WM H/\asI x fun c=>∀i:Int,1<=i->i<=1000000000->Q (.int i) H
def jx(T:Txt K mg a):Fo P w K mg base "_law_coins" 1 sp_yy:=by
 refine T.rP.hg ["_law_cell","_law_some"] (gG1 fun x0 fA WW A WX s H Q E ND HU hr h=>?_);obtain⟨hN,h1⟩:=h;obtain⟨c,rfl,q⟩:=ba h1;have e:(10:Int) ^ XF 9=1000000000:=by decide
 refine⟨hN,_,(af (aE 1 ND (ai aP ae (ai aS (ai a_ (fv 0) ae) ae)))
  (af (bi (aX (bS K HU) (ai aS (fv 0) ae) ae) (ah (aE 1 ND (ai aP ae (ai aS (ai a_ (fv 0) ae) (ai lF ae ae))))) aL)
  (af (bi (aX (bS K HU) (ai aS (fv 0) ae) ae) (ah (aE 1 ND (ai lF ae ae))) aL)
  (ah (aB (fv 1)))))),?_⟩
 walk_at "q";rw[e];have y:Int.natAbs 10<18446744073709551616:=by decide
 have m:=Zt (c / 4) (b:=1000000000) (by decide);have m2:=Zu (c / 4) (b:=1000000000) (by decide);split
 .refine⟨y,by decide,?_⟩
  split
  .exact⟨y,q _ (by decide) (by decide)⟩
  .exact q _ (by lia) (by lia)
 .split
  .exact⟨y,q _ (by decide) (by decide)⟩
  .exact q _ (by lia) (by lia)
def WS.toSame{S:List WH}{H H1 H2:Hp}(s:WT H H1)(x:WS S H1 H2)(f:∀c∈S,H c=none):WT H H2:=fun c z e=>x c z (s c z e) fun m=>by
 rw[f c m]at e;cases e
namespace Pths
variable{c:Int}{ps:List (List Nat)}
def nd(h:Pths c ps):ps.Nodup:=by
 induction h with
 |two=>exact Zj.mpr ⟨by simpa using Hr c,by simp⟩
 |more _ _ hn _ ih=>exact dU ih hn
def up(h:Pths c ps):∀i p,ps[i]? = some p->(58∉p/\∃k,p=nms c k)\/∃u k,p=u++58::nms c k/\u∈ps.take i:=by
 induction h with
 |two=>
  intro i p hp
  match i with
  |0=>cases hp;exact .inl ⟨dt c 0,0,rfl⟩
  |1=>cases hp;exact .inl ⟨dt c 6,6,rfl⟩
  |i+2=>simp at hp
 | @more ps u k _ hu hn _ ih=>
  intro i p hp;obtain lt|ge:=YC i ps.length
  .rw[Wj lt]at hp
   obtain h|⟨u',k',e,m⟩:=ih i p hp
   .exact .inl h
   .exact .inr ⟨u',k',e,by rw[List.take_append_of_le_length (ZO lt)];exact m⟩
  .have:i=ps.length:=by
    have:=(Wn.mp hp).1;simp at this;lia
   subst this;rw[List.getElem?_concat_length]at hp;cases hp;exact .inr ⟨u,k,rfl,by rw[List.take_left'];exact hu;rfl⟩
def cut{u n u' n':List Nat}(hn:58∉n)(hn':58∉n')(e:u++58::n=u'++58::n'):u=u'/\n=n':=by
 have h:=VU (spN 58) e;rw[hV hn,hV hn']at h;obtain⟨h1,h2⟩:=List.append_inj' h rfl;have:=VU (bU [58]) h1;rw[gv,gv]at this;exact⟨this,by simpa using h2⟩
def beneath(h:Pths c ps){u n:List Nat}(hn:58∉n)(m:u++58::n∈ps):u∈ps/\∃k,n=nms c k:=by
 obtain⟨i,hi⟩:=List.getElem?_of_mem m;obtain⟨h1,_⟩|⟨u',k,e,m'⟩:=K20.Pths.up h i _ hi
 .exact VT (by simp) h1
 .obtain⟨rfl,rfl⟩:=cut hn (dt c k) e
  exact⟨ZI m',k,rfl⟩
def last(h:Pths c ps){n:List Nat}(hn:58∉n){l:List Nat}(hl:ps.getLast? = some l):l++58::n∉ps:=by
 cases h with
 |two=>
  intro m;simp at hl;subst hl;simp only[z9,yW,or_false]at m;obtain m|m:=m
  .exact dt c 0 (by rw[<- m];simp)
  .exact dt c 6 (by rw[<- m];simp)
 | @more ps u k h hu hw _=>
  rw[List.getLast?_concat]at hl;cases hl;intro m;obtain m|m:=yy.mp m
  .exact hw (K20.Pths.beneath h hn m).1
  .have:=VU Yl (zh.mp m)
   simp at this
def head(h:Pths c ps):ps[0]? = some (nms c 0):=by
 induction h with
 |two=>rfl
 | @more ps u k h _ _ _ ih=>rw[Wj (by have:=(Wn.mp ih).1;lia)];exact ih
end Pths
def ug{ps:List (List Nat)}{i:Nat}{l:List Nat}(h:ps.Nodup)(e:ps[i]? = some l):l∉ps.take i:=fun m=>by
 obtain⟨j,hj⟩:=List.getElem?_of_mem m;have hi:=(Wn.mp hj).1;rw[Zv]at hi;rw[List.getElem?_take_of_lt (by lia)]at hj;have:=(List.getElem?_inj (by lia) h).mp (hj.trans e.symm);lia
structure CG(cs:List Acc)(ps:List (List Nat)):Prop where
 pa:cs.map (·.pa)=ps
 st:∀c∈cs,c.un=none/\c.fi=0/\c.be.length<=cs.length
 be:∀c∈cs,∀b∈c.be,b∈ps/\∃n,58∉n/\b=c.pa++58::n
def CG.top{cs:List Acc}{ps:List (List Nat)}{l:List Nat}{z:Acc}(h:CG cs ps)(e1:z.pa=l)(e2:z.fi=0)(e3:z.un=none)(e4:z.be=[]):CG (cs++[z]) (ps++[l]):=by
 refine⟨by rw[yE,h.pa,<- e1];rfl,fun y m=>?_,fun y m b mb=>?_⟩
 .obtain m|m:=yy.mp m
  .have:=h.st y m
   exact⟨this.1,this.2.1,by rw[zA];lia⟩
  .rw[zh.mp m]
   exact⟨e3,e2,by rw[e4];simp⟩
 .obtain m|m:=yy.mp m
  .exact⟨vS _ (h.be y m b mb).1,(h.be y m b mb).2⟩
  .rw[zh.mp m,e4]at mb;cases mb
def CG.ext{cs:List Acc}{ps:List (List Nat)}{l v n:List Nat}{z:Acc}(h:CG cs ps)(hn:58∉n)(el:l=v++58::n)(e1:z.pa=l)(e2:z.fi=0)(e3:z.un=none)(e4:z.be=[]):CG (je cs v (grw l)++[z]) (ps++[l]):=by
 have ln:(je cs v (grw l)).length=cs.length:=by unfold je;rw[zV]
 refine⟨by rw[yE,cK (f:=grw l) _ fun _=>rfl,h.pa,<- e1];rfl,fun y m=>?_,fun y m b mb=>?_⟩
 .rw[zA,ln,v6]
  obtain m|m:=yy.mp m
  .obtain⟨x,hx,rfl⟩:=d9 m
   have:=h.st x hx;split
   .exact⟨this.1,this.2.1,by show(x.be++[l]).length<=_;rw[zA,v6];lia⟩
   .exact⟨this.1,this.2.1,by lia⟩
  .rw[zh.mp m]
   exact⟨e3,e2,by rw[e4];simp⟩
 .obtain m|m:=yy.mp m
  .obtain⟨x,hx,rfl⟩:=d9 m
   by_cases hv:x.pa=v
   .rw[VY hv]at mb |-
    obtain mb|mb:=yy.mp (show b∈x.be++[l] from mb)
    .exact⟨vS _ (h.be x hx b mb).1,(h.be x hx b mb).2⟩
    .rw[zh.mp mb];exact⟨wq _ (.head _),n,hn,by rw[el,<- hv];rfl⟩
   .rw[VZ hv]at mb |-
    exact⟨vS _ (h.be x hx b mb).1,(h.be x hx b mb).2⟩
  .rw[zh.mp m,e4]at mb;cases mb
def CG.none_{cs:List Acc}{ps:List (List Nat)}{l:List Nat}(h:CG cs ps)(m:l∉ps):fnd cs l=none:=Wi.mpr fun c hc e=>m (by
 rw[<- h.pa,<- (by simpa using e:c.pa=l)];exact uO hc)
def Hd(x:V):qW (zR "add_top") [(zR "by_path",x)]=none:=by rw[aZ (by decide +kernel)];rfl
def BU(x:V):qW (zR "add") [(zR "by_path",x)]=none:=by rw[aZ (by decide +kernel)];rfl
def sp_Bn(C A:WH):Sp:=sp1 fun x H Q _=>WM H/\asR x fun q=>∃c ps,H q=some (.lst (ps.map VS))/\Pths c ps/\ps.length<=10 /\
 ∀p d cs H',CAt C A H' p d cs->CG cs ps->H p=none->(∀z∈cs,H z.bl=none/\H z.ob=none)->H d=none->WT H H'->WM H'->Q (.ref p) H'
def ph(T:Txt K mg a):Fo P w K mg base "_law_chart" 9 (sp_Bn a.a7 a.aN):=by
 refine T.qE.hx ["_law_paths_here","_law_chart_here","_law_k","_law_path"] (gX1 fun x0 fA WW A WX s H Q E ND HU hr h=>?_);obtain⟨hN,h1⟩:=h;obtain⟨q,rfl,c,ps,hq,hP,len,k⟩:=aQ h1;refine⟨_,(af (aE 1 ND (vx T.A8 (j6 T) hr.mono rfl T.DZ av))
  (af (bY (by passes_own) rfl (Em K rfl T.t_ (fa1 (fv 0))) (eT K (n:=2) rfl (bz (aK (i:=2) ND rfl (Wb rfl)) (bz (aK (i:=3) ND rfl (Wb rfl)) eU))) (ah (bi (sU JM (ay [58]) (fv 3) (by with_unfolding_all rfl)) (ah (bH (cZ (fv 1) T.bR (jZ T) hr.mono av (fa3 (fv 3) eC ae)))) (ah (bH (cZ (fv 1) T.bR (lA T) hr.mono av (fa2 (fv 3) (gN (fa2 (ay [111,119,110]) (ay [104,97,118,101])) (ai aS (fv 2) ae) (fun _ _=>rfl)))))))))
  (ah (aB (fv 1))))),?_⟩
 walk_at "q";intro x dx hx hdx ne;refine⟨al (al hN rfl) rfl,_,aa,fun d H1 hd J0 K0 N0=>C3 ?_⟩;have k0:=gA hx hdx K0;have s0:WT H H1:=fun c z e=>k0 c z e yW;have d0:H d=none:=dB hd;walk_at "q";refine⟨⟨_,az (s0 _ _ hq)⟩,Do (xs:=ps.map VS) (fun i σ' H'=>WT H H'/\WM H'/\∃cs x2 x3,CAt a.a7 a.aN H' x d cs/\CG cs (ps.take i)/\(∀z∈cs,H z.bl=none/\H z.ob=none)/\σ'=[some (.ref q),some (.ref x),x2,x3]) ⟨s0,N0,[],none,none,J0,⟨rfl,(fun _ m=>nomatch m),(fun _ m=>nomatch m)⟩,(fun _ m=>nomatch m),rfl⟩ (fun i σ' H' _ h=>az (h.1 _ _ hq)) ?_ ?_⟩
 .rintro i y σ' H' r hy hr ⟨sm,nT,cs,x2,x3,J,cg,fb_,rfl⟩
  rw[Wm]at hy;refine bE (sx.mp hy) fun l hl yy1=>?_;subst yy1;have ml:=yo hl;refine bQ (bv (o:=HO.tup [V.int i,VS l]) hr nT rfl) fun G e2 s2 g2 n2=>?_;rw[e2];have J2:=J.same s2;have sm2:=sm.trans s2;walk_at "z";refine⟨_,_,rfl,bF g2,rfl,_,_,rfl,_,_,rfl,rfl,?_⟩;show gIn false (VS [58]) (VS l) G _;walk_at "q";have nf:=cg.none_ (ug (K20.Pths.nd hP) hl);have lc:cs.length<=10:=by rw[<- zV (f:=(·.pa)),cg.pa,Zv];lia
  obtain⟨dx2,hp2⟩:=J2.ob;have pl:=K20.Pths.ok hP l ml;have fbx:∀ {cs':List Acc} {z:Acc},(∀y∈cs',H y.bl=none/\H y.ob=none)->G z.bl=none->G z.ob=none->∀y∈cs'++[z],H y.bl=none/\H y.ob=none:=fun h1 h2 h3 y m=>by
   obtain m|m:=yy.mp m
   .exact h1 y m
   .rw[zh.mp m];exact⟨sm2.free h2,sm2.free h3⟩
  rw[bO hl];by_cases h58:58∈l
  .refine itp (VX h58) ?_
   obtain⟨z,_⟩|⟨v,kk,el,mv⟩:=K20.Pths.up hP i l hl
   .exact VT h58 z
   .rw[<- cg.pa]at mv
    refine bE (yR.mp mv) fun u hu pu=>?_;have su:=cg.st u hu;refine⟨_,_,hp2,BU _,n2,⟨pl.lo,by have:=pl.len;lia⟩,v,nms c kk,d,cs,u,el,dt c kk,pl.pn,J2,by lia,fun y m=>by have:=(cg.st y m).2.2;lia,nf,hu,pu,su.1,by rw[su.2.1];exact ZA _,fun z H2 e1 e5 e2 e3 e4 o1 o2 J3 K3 N3=>?_⟩;refine⟨WS.toSame sm2 K3 fun y m=>?_,N3,_,_,_,J3,cg.ext (dt c kk) el e1 e2 e3 e4,fbx (fun y m=>?_) o2 o1,rfl,rfl⟩
    .obtain rfl|m:=z9.mp m
     .exact d0
     .obtain⟨y,my,rfl⟩:=yR.mp m
      exact(fb_ y my).1
    .obtain⟨y,my,rfl⟩:=d9 m
     split <;> exact fb_ y my
  .refine itn (fun z=>h58 (of_decide_eq_true z)) ⟨_,_,hp2,Hd _,n2,by rw[ue];decide,fun p hp=>yl (ls:=[[111,119,110],[104,97,118,101]]) (by lia) (by show _<(2:Int);lia) fun kd mk=>⟨n2,?_,?_,d,cs,J2,by lia,nf,fun z H2 e1 e5 e2 e3 e4 o1 o2 J3 K3 N3=>?_⟩⟩
   .obtain⟨_,kk,rfl⟩|⟨v,kk,rfl,_⟩:=K20.Pths.up hP i l hl
    .exact qQ c kk
    .exact VT (by simp) h58
   .simp only[z9,yW,or_false]at mk
    obtain rfl|rfl:=mk <;> decide
   .exact⟨WS.toSame sm2 K3 fun y m=>(by rw[zh.mp m];exact d0),N3,_,_,_,J3,cg.top e1 e2 e3 e4,fbx fb_ o2 o1,rfl,rfl⟩
 .rintro σ' H' ⟨sm,nT,cs,x2,x3,J,cg,fb_,rfl⟩
  rw[zV,Zp]at cg;walk_at "z";exact k x d cs H' J cg hx fb_ d0 sm nT
def tV(x y:V):qW (zR "quote") [(zR "by_pair",x),(zR "beside",y)]=none:=by rw[aZ (by decide +kernel),aZ (by decide +kernel)];rfl
def GY{K:Ws}{G:Hp}{p b:WH}{xs:List V}{WU:List (List Key × V)}(o:Obj)(h:SqL K G p xs)(hb:G b=some (.dT WU)):SqL K (upd G b (.frz o (.dT WU))) p xs:=by
 obtain(h|⟨o',h⟩)|h:=h
 .exact .inl (.inl ((ag (gL h hb fun z=>nomatch z)).trans h))
 .exact .inl (.inr ⟨o',(ag (gL h hb fun z=>nomatch z)).trans h⟩)
 .exact .inr h
def wf{m d:Int}(h0:0<=m)(h1:m<=4799)(a1:FD m<=d)(a2:d<FD (m+1)):0<=d/\d<=146096:=by
 have:=ET h0;have:=zT h1;exact⟨by lia,by lia⟩
def ql{C:List (List Nat)}{i:Int}(h0:0<=i)(h1:i<C.length):∃x,atI (C.map VS) i=some (VS x)/\C[i.toNat]? = some x:=by
 obtain⟨n,rfl⟩:=Zi h0;have hn:n<C.length:=by lia
 exact⟨C[n],aO (by rw[Wm,Wl hn];rfl),Wl hn⟩
structure RL(C:WH)(H:Hp)(r b:WH)(WU:List (List Key × V))(R:List Qr)(cu:List (List Nat))(W:WH->Prop)(n:Nat):Prop where
 at_:RS C H r b WU R W
 len:R.length<=n
 ok:Rows R cu
def sp_yX(C:WH)(K:Ws):Sp:=sp3 fun x y z H Q _=>WM H/\asR x fun p=>asI y fun bs=>asR z fun cp=>∃(ns:List Int) (cu:List (List Nat)),SqL K H p (ns.map V.int)/\(0<=bs/\bs<=4796)/\H cp=some (.lst (cu.map VS))/\cu.length=4/\cu.Nodup/\(∀l∈cu,cur l=true) /\
 ∀r b WU R W H',RL C H' r b WU R cu W 4->H r=none->H b=none->(∀p,W p->H p=none)->H' b=some (.dT WU)->NoB b H'->WT H H'->Q (.ref r) H'
def pJ(T:Txt K mg a):Fo P w K mg base "_law_rates" 5 (sp_yX a.aM K):=by
 refine T.rY.hx ["_law_script","_law_base","_law_currencies_here","_law_rates_here","_law_k","_law_cell","_law_one","_law_other","_law_day_here","_law_p"] (gX3 fun x0 x1 x2 fA WW A WX s H Q E ND HU hr h=>?_);obtain⟨hN,h1⟩:=h;obtain⟨p,rfl,h2⟩:=aQ h1;obtain⟨bs,rfl,h3⟩:=ba h2;refine bE (aQ h3) fun cp yy1 yz=>JA yz fun ns cu hp hb hcp c4 cn cc k=>?_;subst yy1;have sz:=szl;refine⟨_,(af (aE 3 ND (vx T.zM (kQ T) hr.mono rfl T.Db av))
  (af (bY (by passes_own) rfl (dC rfl T.d6 (fa1 (ai aS (aF (bC T) hr av (fa2 (fv 0) ae)) ae))) (aK (i:=4) ND rfl (Wb rfl)) (af (fE (aE 5 ND (aF (bp T) hr av (fa2 (aF (bC T) hr av (fa2 (fv 0) (ai aP ae (ai aS (fv 4) ae)))) (fv 4)))))
  (af (aE 6 ND (ai aS (fv 5) ae))
  (af (aE 7 ND (ai aS (ai aP (ai aP (fv 6) ae) (ai aS (ai a_ (fv 5) ae) ae)) ae))
  (af (fE (aE 8 ND (aF (iF T) hr av (fa2 (ai a_ (aF (bp T) hr av (fa2 (fv 5) ae)) ae) (ai aP (fv 1) (ai aS (ai a_ (aF (bp T) hr av (fa2 (fv 5) ae)) ae) ae))))))
  (af (fE (aE 9 ND (aF (jx T) hr av (fa1 (ai a_ (aF (bp T) hr av (fa2 (fv 5) ae)) ae)))))
  (ah (bH (cZ (fv 3) T.bK (iX T) hr.mono av (fa5 (fv 8) (aH K (fv 2) (fv 6)) (fv 9) (aH K (fv 2) (fv 7)) (Ix (aF (jx T) hr av (fa1 (ai a_ (aF (bp T) hr av (fa2 (fv 5) ae)) ae))))))))))))))
  (ah (aB (fv 3))))),?_⟩
 walk_at "q";intro r dr hr hdr ne;refine⟨_,aa,fun b W H1 RA hb1 nb1 fW K1=>?_⟩;have kp0:=gA hr hdr (fun c z e n=>K1 c z e fun q=>n (by rw[q];exact .head _));have s0:WT H H1:=fun c z e=>kp0 c z e yW;have nB1:=nb1 (al (al hN rfl) rfl);have fW0:∀p,W p->H p=none:=fun p z=>dB (fW p z);have hb0:H b=none:=by
  obtain⟨_,_,_,_,_,_,_,_,z⟩:=RA.ex;exact fW0 b ((z b).mpr (.inl rfl))
 have R0:RL a.aM H1 r b [] [] cu W 0:=⟨RA.cg (fun _ _ _ _=>rfl) fun x y=>⟨(fun z=>z.elim),fun⟨_,z,_⟩=>nomatch z⟩,zK _,fun _ z=>nomatch z⟩;refine gU ?_;walk_at "q";refine⟨ns,SqL.same s0 hp,?_⟩;have j0:=Zt (ns.getD (4:Int).toNat 0) (b:=5) (by decide);have j1:=Zu (ns.getD (4:Int).toNat 0) (b:=5) (by decide);generalize ns.getD (4:Int).toNat 0 % 5=jj at j0 j1 |-
 refine⟨by lia,by lia,dZ (lo:=0) (n:=jj.toNat) (fun i σ' G=>∃WU W R x4 x5 x6 x7 x8 x9,RL a.aM G r b WU R cu W i/\G b=some (.dT WU)/\NoB b G/\WT H G/\(∀p,W p->H p=none)/\σ'=[some (.ref p),some (.int bs),some (.ref cp),some (.ref r),x4,x5,x6,x7,x8,x9]) ⟨_,W,[],none,none,none,none,none,none,R0,hb1,nB1,s0,fW0,rfl⟩ ?_ ?_⟩
 .rintro i σ' G hi ⟨WU,W',R,x4,x5,x6,x7,x8,x9,RR,hbG,nB,sG,fW',rfl⟩
  walk_at "q";refine⟨b,.dT WU,rfl,hbG,fun o1=>⟨ns,GY o1 (SqL.same sG hp) hbG,by lia,nB.frz _ _,by lia,aa,?_⟩⟩;rw[fG hbG];generalize MX (ns.getD (5+(0+(i:Int)) % 3).toNat 0) (0+(i:Int))=cell;refine⟨b,.dT WU,rfl,hbG,fun o2=>⟨nB.frz _ _,nB.frz _ _,nB.frz _ _,fun d d1 d2=>⟨aa,?_⟩⟩⟩;rw[fG hbG];refine⟨b,.dT WU,rfl,hbG,fun o3=>⟨nB.frz _ _,nB.frz _ _,fun pn p1 p2=>⟨aa,?_⟩⟩⟩;rw[fG hbG];refine bE (ql (C:=cu) (i:=cell % 4) (by lia) (by lia)) fun x hx gx=>?_;refine bE (ql (C:=cu) (i:=(cell % 4+1+cell / 4 % 3) % 4) (by lia) (by lia)) fun y hy gy=>?_;have mx:=yo gx;have my:=yo gy;have xy:x≠y:=fun z=>by
   subst z;have:=(List.getElem?_inj (by lia) cn).mp (gx.trans gy.symm);lia
  refine Aj RR.at_.ex fun dx s0' sks hr0 _=>?_;have hcpG:=sG _ _ hcp;refine⟨_,_,hr0,tV _ _,_,_,.inl (az hcpG),hx,_,_,.inl (az hcpG),hy,b,.dT WU,rfl,hbG,fun o4=>⟨nB.frz _ _,nB.frz _ _,fun qn q1 q2=>⟨aa,?_⟩⟩⟩;rw[fG hbG];have dd:=wf (by have:=Zt (MX cell 2 / 3) (b:=4) (by decide);lia) (by have:=Zu (MX cell 2 / 3) (b:=4) (by decide);lia) d1 d2;have lR:=RR.len;refine⟨b,WU,R,W',⟨d,x,pn,y,qn⟩,rfl,rfl,rfl,rfl,rfl,RR.at_,hbG,nB,by lia,⟨dd,cc x mx,cc y my,xy,⟨p1,p2⟩,q1,q2⟩,fun kvs2 W2 G2 R2 hb2 nB2 fW2 K2=>?_⟩;have s2:WT H G2:=fun c z e=>K2 _ _ (sG _ _ e) fun q=>by rw[fW' c q]at e;cases e
  refine⟨kvs2,W2,R++[⟨d,x,pn,y,qn⟩],_,_,_,_,_,_,⟨R2,by rw[zA,v6];lia,fun r' m'=>?_⟩,hb2,nB2,s2,fun q hq=>(fW2 q hq).elim (fW' q) sG.free,rfl,rfl,rfl,rfl,rfl,rfl⟩;obtain m'|m':=yy.mp m'
  .exact RR.ok r' m'
  .rw[zh.mp m'];exact⟨dd,mx,my,xy,⟨p1,p2⟩,q1,q2⟩
 .rintro σ' G ⟨WU,W',R,x4,x5,x6,x7,x8,x9,RR,hbG,nB,sG,fW',rfl⟩
  walk_at "q";exact k r b WU R W' G ⟨RR.at_,wG RR.len (by lia),RR.ok⟩ hr hb0 fW' hbG nB sG
def rwD(ps cu:List (List Nat))(r:Row):Prop:=r.pa∈ps/\r.cu∈cu/\r.am.natAbs<=1000000000000000
def sp_Ct:Sp:=sp3 fun x y z H Q _=>WM H/\asI x fun c=>asR y fun pp=>asR z fun cp=>∃(ps cu:List (List Nat)),H pp=some (.lst (ps.map VS))/\1<=ps.length/\ps.length<=20/\H cp=some (.lst (cu.map VS))/\1<=cu.length/\cu.length<=20 /\
 ∀rs ws q H',(∀r∈rs,rwD ps cu r)->rs.length<=5->H q=none->H' q=some (.lst ws)->A2 (WR H') ws rs->WT H H'->WM H'->Q (.ref q) H'
def rL(T:Txt K mg a):Fo P w K mg base "_law_rows" 2 sp_Ct:=by
 refine T.sY.hx ["_law_cell","_law_paths_here","_law_currencies_here","_law_rows_here","_law_k","_law_path","_law_currency"] (gX3 fun x0 x1 x2 fA WW A WX s H Q E ND HU hr h=>?_);obtain⟨hN,h1⟩:=h;obtain⟨c,rfl,h2⟩:=ba h1;obtain⟨pp,rfl,h3⟩:=aQ h2;refine bE (aQ h3) fun cp yy1 yz=>JA yz fun ps cu hpp l1 l2 hcp l3 l4 k=>?_;subst yy1;have sz:=szl;refine⟨_,(af (aE 3 ND (cy (FA.pa c_)))
  (af (bY (by passes_own) rfl (dC rfl T.d6 (fa1 (ai aP ae (ai aS (fv 0) ae)))) (aK (i:=4) ND rfl (Wb rfl)) (af (aE 5 ND (aH K (fv 1) (ai aS (aF (bp T) hr av (fa2 (fv 0) (ai aP (ai b8 ae (fv 4)) ae))) (aI (cq K) rfl T.eJ de (fa1 (fv 1))))))
  (af (aE 6 ND (aH K (fv 2) (ai aS (ai a_ (aF (bp T) hr av (fa2 (fv 0) (ai aP (ai b8 ae (fv 4)) ae))) ae) (aI (cq K) rfl T.eJ de (fa1 (fv 2))))))
  (ah (bH (cD K Zm Zg Zh cz (fv 3) (fa1 (bZ (fa3 (fv 5) (fv 6) (aF (om T) hr av (fa1 (aF (bp T) hr av (fa2 (fv 0) (ai aP (ai b8 ae (fv 4)) ae))))))))))))))
  (ah (aB (fv 3))))),?_⟩
 walk_at "z";refine⟨tB _,fun q fq=>gU ?_⟩;refine bQ (bv (o:=HO.lst []) fq hN rfl) fun H1 e1 s1 g1 N1=>?_;rw[e1];walk_at "q";have j0:=Zt c (b:=4) (by decide);have j1:=Zu c (b:=4) (by decide);refine⟨by lia,by lia,dZ (lo:=0) (n:=(2+c % 4).toNat) (fun i σ' G=>WS [q] H1 G/\WM G/\∃rs ws x4 x5 x6,G q=some (.lst ws)/\A2 (WR G) ws rs/\rs.length=i/\(∀r∈rs,rwD ps cu r)/\σ'=[some (.int c),some (.ref pp),some (.ref cp),some (.ref q),x4,x5,x6]) ⟨WS.refl,N1,[],[],none,none,none,g1,.nil,rfl,(fun _ m=>nomatch m),rfl⟩ ?_ ?_⟩
 .rintro i σ' G hi ⟨kp,nG,rs,ws,x4,x5,x6,gq,aG,lr,rk,rfl⟩
  have hk:∀ {c o},H c=some o->G c=some o:=fun e=>kp _ _ (s1 _ _ e) fun m=>by rw[zh.mp m,fq]at e;cases e
  walk_at "q";have lp:((ps.map VS).length:Int)=ps.length:=by rw[zV]
  have lc:((cu.map VS).length:Int)=cu.length:=by rw[zV]
  have lp0:(0:Int)<ps.length:=by lia
  have lc0:(0:Int)<cu.length:=by lia
  refine bE (ql (C:=ps) (i:=MX c (3*(0+(i:Int))+1) % ps.length) (Zt _ (by lia)) (Zu _ lp0)) fun x hx gx=>?_;refine bE (ql (C:=cu) (i:=MX c (3*(0+(i:Int))+2) / 7 % cu.length) (Zt _ (by lia)) (Zu _ lc0)) fun y hy gy=>?_;refine⟨nG,by lia,_,.inl (az (hk hpp)),by rw[lp];exact lp0,_,_,.inl (az (hk hpp)),by rw[lp];exact hx,nG,by lia,_,.inl (az (hk hcp)),by rw[lc];exact lc0,_,_,.inl (az (hk hcp)),by rw[lc];exact hy,.inl ⟨_,az gq⟩,nG,by lia,nG,Ij _ _,fun am a0 a1=>⟨by walk_at "o",fun p fp=>?_⟩⟩;refine bQ (bv (o:=HO.tup [VS x,VS y,V.int am]) fp nG rfl) fun G2 e2 s2 g2 N2=>?_;rw[e2];have lw:=aG.len;refine⟨q,ws,_,rfl,rfl,s2 _ _ gq,by lia,?_⟩;refine bQ (BR (p:=q) (o:=HO.lst (ws++[V.ref p])) N2 rfl) fun G3 e3 g3 k3 N3=>?_;rw[e3];refine⟨(kp.trans (bL s2)).trans k3,N3,rs++[⟨x,y,am⟩],_,_,_,_,g3,(eV k3 (LW.one (s2 _ _ gq)) (gJ s2 aG)).snoc ⟨p,rfl,k3 _ _ g2 fun m=>by rw[zh.mp m,s2 _ _ gq]at g2;cases g2⟩,by rw[zA,v6,lr],fun r mr=>?_,rfl,rfl,rfl⟩;obtain mr|mr:=yy.mp mr
  .exact rk r mr
  .rw[zh.mp mr]
   exact⟨yo gx,yo gy,a1⟩
 .rintro σ' G ⟨kp,nG,rs,ws,x4,x5,x6,gq,aG,lr,rk,rfl⟩
  walk_at "q";exact k rs ws q G rk (by lia) fq gq aG (fun c z e=>kp _ _ (s1 _ _ e) fun m=>by rw[zh.mp m,fq]at e;cases e) nG
def Ih(H:Hp)(v:V)(b:Bo):Prop:=∃q t vs,v = .ref q/\H q=some (.tup [.int b.d,.ref t])/\H t=some (.lst vs)/\A2 (WR H) vs b.rs
noncomputable abbrev zO(bs:List Bo)(d:Int):List Row:=res (rwU bs d) ((dk (rwU bs d)).map (·.1))
def Aw{bs:List Bo}{i:Nat}{b:Bo}{d:Int}(h:bs[i]? = some b):rwU (bs.take (i+1)) d=rwU (bs.take i) d++if b.d<=d then b.rs else []:=by
 unfold rwU;rw[bO h,ZW,List.flatMap_append];by_cases z:b.d<=d
 .rw[ZU (by simpa using z),VY z];simp
 .rw[ZT (by simpa using z),VZ z];simp
noncomputable def kyR(e:List Nat × WH):Key × V:=(.inr ⟨⟨e.1⟩⟩,.ref e.2)
def KIn(F:Hp)(R:List Qr)(d:Int)(g:List Nat)(ks:List (List Nat × WH)):Prop:=∀e∈ks,∃rest,Chn (Lk R d) g (e.1::rest)/\F e.2=some (.tup [.int (rtP R d (e.1::rest)),.int (rtQ R d (e.1::rest))])
noncomputable def ifB:Stmt->List Stmt
 | .If _ b _ _=>b
 |_=>[]
noncomputable def Jw:Stmt->List Stmt
 | .For _ _ b _ _=>b
 |_=>[]
noncomputable abbrev Fa:List Stmt:=ifB ((Jw ((bh cO).getD 4 (.Pass ⟨0,0,0,0⟩))).getD 0 (.Pass ⟨0,0,0,0⟩))
noncomputable def fR(ks:List (List Nat × WH))(c:List Nat):Option (List Nat × WH):=ks.find? fun e=>decide (e.1=c)
theorem sj(c:List Nat):∀d:List (List Nat × WH),bG (d.map kyR) (.inr ⟨⟨c⟩⟩)=(fR d c).map fun e=>.ref e.2
 | []=>rfl
 |e::r=>by
  have ih:=sj c r;by_cases h:e.1=c
  .rw[yH,bV (by show Sum.inr _=Sum.inr _;rw[h])]
   simp[fR,h,kyR]
  .rw[yH,bW (fun z=>h (by simpa [kyR] using z)),ih]
   simp[fR,h]
def DV{d:List (Pt × Int)}(nd:(d.map (·.1)).Nodup){e:Pt × Int}(m:e∈d):kK d e.1=some e.2:=by
 obtain⟨n,hn⟩:=tq (d:=d) (k:=e.1) (uO m);have h:=hn;unfold kK at h;obtain⟨e',h1,h2⟩:=sx.mp h;have m':=List.mem_of_find?_eq_some h1;have k':e'.1=e.1:=by simpa using List.find?_some h1
 rw[hn,<- h2,uq nd m' m k']
def oJ(rs:List Row){ks:List Pt}{i:Nat}{k:Pt}(h:ks[i]? = some k):res rs (ks.take (i+1))=res rs (ks.take i)++if K19.val rs k=0 then [] else [⟨k.1,k.2,K19.val rs k⟩]:=by
 unfold res;rw[bO h,ZW,yE];by_cases z:K19.val rs k=0
 .rw[VY z,ZT (by simpa using z)];rfl
 .rw[VZ z,ZU (by simpa using z)];rfl
structure OS(H:Hp)(t f kn:WH)(o:Obj)(D:List (Pt × Int))(R:List Qr)(d:Int)(g:List Nat)(i:Nat)(Z:List Row)(es:List Pr)(ks:List (List Nat × WH))(F:Hp):Prop where
 same:WT H F
 nt:WM F
 gt:F t=some (.frz o (.dT (D.map eP)))
 gf:F f=some (.dK (es.map kyI))
 gk:F kn=some (.dK (ks.map kyR))
 kk:KIn F R d g ks
 dd:DI (Z.map (fV R d g)) es
 le:es.length<=i
 fr:∀z∈Z,∃n,Far (Lk R d) g n z.cu
 nfk:f≠kn
 ntf:t≠f
 ntk:t≠kn
 hf:H f=none
def sp_C9(C:WH):Sp:=sp4 fun x y g t H Q _=>WM H/\asR x fun r=>asR y fun bk=>asT g fun g=>asI t fun d=>∃vs bs R Cs,H bk=some (.lst vs)/\A2 (Ih H) vs bs/\bs.length<=8/\(∀b∈bs,b.rs.length<=7)/\(∀z∈zO bs d,zOk z)/\RR4 C H r R Cs/\g∈Cs/\cur g=true/\(0<=d/\d<=146096) /\
 ((∃z∈zO bs d,∀n,¬ Far (Lk R d) g n z.cu)->∀H',WT H H'->WM H'->Q .non H') /\
 (∀es p H',(∀z∈zO bs d,∃n,Far (Lk R d) g n z.cu)->DI ((zO bs d).map (fV R d g)) es->H p=none->H' p=some (.dK (es.map kyI))->WT H H'->WM H'->Q (.ref p) H')
def sK(T:Txt K mg a):Fo P w K mg base "_law_owns" 8 (sp_C9 a.aM):=by
 refine T.tG.hg ["_law_rates_here","_law_booked","_law_currency","_law_day_here","_law_together","_law_one","_law_rows_here","_law_row","_law_found","_law_known","_law_pair","_law_p","_law_q"] (gG4 fun x0 x1 x2 x3 fA WW A WX s H Q E ND HU hr h=>?_);obtain⟨hN,h1⟩:=h;obtain⟨r,rfl,h2⟩:=aQ h1;obtain⟨bk,rfl,h3⟩:=aQ h2;obtain⟨g,rfl,h4⟩:=bt h3;refine bE (ba h4) fun d yy1 yz=>Ks yz fun vs bs R Cs hbk hv l8 l7 zk RQ gC cg hd yz=>Cc yz fun kn k0=>?_;subst yy1;have sz:=szl;have lv:=hv.len
 skip
 have cA:∃u,PSs (cJ (XE P w) P w K mg base ["_law_rates_here","_law_booked","_law_currency","_law_day_here","_law_together","_law_one","_law_rows_here","_law_row","_law_found","_law_known","_law_pair","_law_p","_law_q"] "_law_owns" (ak cO) fA WW A WX s H (gcE H E)) (ZE 1 Fa) u/\∀(Dn:fo) t f kn_ o D F q z e es ks Z i x5 x6 x7 x11 x12,OS H t f kn_ o D R d g i Z es ks F->F q=some (.tup [VS z.pa,VS z.cu])->kK D (z.pa,z.cu)=some z.am->zOk z->i<=100->e∈ks->e.1=z.cu->fR ks z.cu=some e->(∀F' es' x11 x12,OS H t f kn_ o D R d g (i+1) (Z++[z]) es' ks F'->Dn.nx [some (.ref r),some (.ref bk),some (VS g),some (.int d),some (.ref t),x5,x6,x7,some (.ref f),some (.ref kn_),some (.ref q),x11,x12] F')->u Dn [some (.ref r),some (.ref bk),some (VS g),some (.int d),some (.ref t),x5,x6,x7,some (.ref f),some (.ref kn_),some (.ref q),x11,x12] F:=by
  refine⟨_,(af (HP (aT (Zz HU) (fv 9) (aH K (fv 10) ae) (fun _ _=>rfl)) (eT K (n:=2) rfl (bz (aK (i:=11) ND rfl (Wb rfl)) (bz (aK (i:=12) ND rfl (Wb rfl)) eU))))
   (ah (cj (Zz HU) (fv 8) (aH K (fv 10) ae) (ai aP (cR (Zz HU) (fv 8) (aH K (fv 10) ae) ae ⟨rfl,rfl,rfl,rfl⟩) (aF (sN T) hr av (fa2 (ai b8 (aT (Zz HU) (fv 4) (fv 10) (fun _ _=>rfl)) (fv 12)) (fv 11)))) rfl))),fun Dn t f kn_ o D F q z e es ks Z i x5 x6 x7 x11 x12 S hq hz zz i1 me ee fe kk=>?_⟩
  walk_at "q";refine bE (S.kk e me) fun rest ch hp=>?_;rw[ee]at ch hp;have gk:=DGet.k (k:=.inr ⟨⟨z.cu⟩⟩) S.gk;rw[sj,fe]at gk;have lL:(z.cu::rest).length<=4:=by
   have:=RQ.ok.cov.few gC ch.far;have:=RQ.l4;rw[vZ];lia
  refine HB (EW RQ.ok ch lL) fun yy1 q1 q2=>?_;obtain⟨p1,p2⟩:=yy1;refine⟨_,_,.inr (bF hq),aO (j:=1) rfl,_,_,rfl,gk,_,_,rfl,bF hp,rfl,_,_,rfl,_,_,rfl,rfl,.inl ⟨_,.inl S.gf⟩,_,_,.inr (bF hq),aO (j:=0) rfl,_,DGet.k (k:=.inr ⟨⟨z.pa⟩⟩) S.gf,_,_,rfl,.inr ⟨_,kP (z.pa,z.cu),q,.inr ⟨o,S.gt⟩,rfl,hq,by rw[ei,hz];rfl⟩,?_⟩;walk_at "q";rw[eE,qY];refine⟨.inl (by have:=zz.2;lia),S.nt,⟨by lia,ZZ p2 (by decide),by rw[Int.natAbs_mul];exact ZZ (Nat.mul_le_mul zz.2 q2) (by decide)⟩,?_⟩;walk_at "q";refine fL (S.dd.step (fV R d g z)) fun d' ep DD' ld'=>?_;have ef:(fV R d g z).2=cvt R d (z.cu::rest) z.am:=by unfold fV;rw[zD ch]
  rw[ef]at ep;have le:=S.le;refine⟨_,_,.inr (bF hq),aO (j:=0) rfl,_,_,rfl,DPut.k (k:=.inr ⟨⟨z.pa⟩⟩) S.gf (by rw[zV,ue];lia),kk _ d' _ _ ⟨bX S.same S.hf,al S.nt rfl,(ag S.ntf).trans S.gt,by rw[aa,<- ep];rfl,(ag (Wc S.nfk)).trans S.gk,fun e' m'=>?_,by rw[yE];exact DD',by lia,fun y my=>?_,S.nfk,S.ntf,S.ntk,S.hf⟩⟩
  .obtain⟨r',c',h'⟩:=S.kk e' m'
   exact⟨r',c',(ag fun z=>by rw[z,S.gf]at h';cases h').trans h'⟩
  .obtain my|my:=yy.mp my
   .exact S.fr y my
   .rw[zh.mp my];exact⟨_,ch.far⟩
 obtain⟨uA,huA,cA⟩:=cA;have cB:∃u,PSs (cJ (XE P w) P w K mg base ["_law_rates_here","_law_booked","_law_currency","_law_day_here","_law_together","_law_one","_law_rows_here","_law_row","_law_found","_law_known","_law_pair","_law_p","_law_q"] "_law_owns" (ak cO) fA WW A WX s H (gcE H E)) Fa u/\∀(Dn:fo) t f kn_ o D F q z es ks Z i x5 x6 x7 x11 x12,OS H t f kn_ o D R d g i Z es ks F->H kn_=none->F q=some (.tup [VS z.pa,VS z.cu])->kK D (z.pa,z.cu)=some z.am->zOk z->i<=100->ks.length<=i->((∀n,¬ Far (Lk R d) g n z.cu)->∀F',WT H F'->F' t=some (.frz o (.dT (D.map eP)))->Dn.rt .non F')->(∀F' es' ks' x11 x12,ks'.length<=i+1->OS H t f kn_ o D R d g (i+1) (Z++[z]) es' ks' F'->Dn.nx [some (.ref r),some (.ref bk),some (VS g),some (.int d),some (.ref t),x5,x6,x7,some (.ref f),some (.ref kn_),some (.ref q),x11,x12] F')->u Dn [some (.ref r),some (.ref bk),some (VS g),some (.int d),some (.ref t),x5,x6,x7,some (.ref f),some (.ref kn_),some (.ref q),x11,x12] F:=by
  refine⟨_,(af (bi (gZ (lB (Zz HU) (aH K (fv 10) ae) (fv 9)) (by with_unfolding_all rfl)) (ah (CQ rfl T.o5 rfl rfl rfl (fun pn Ee Ex PX=>(ah (cj (Zz HU) (fv 9) (aH K (fv 10) ae) (aF (xi T) hr PX (fa4 (fv 0) (aH K (fv 10) ae) (fv 2) (fv 3))) rfl))) (fun e=>(ah (aB eC))))) aL)
   huA),fun Dn t f kn_ o D F q z es ks Z i x5 x6 x7 x11 x12 S hk hq hz zz i1 lk_ kno kk=>?_⟩
  walk_at "q";have gk:=DGet.k (k:=.inr ⟨⟨z.cu⟩⟩) S.gk;rw[sj]at gk;refine⟨_,_,.inr (bF hq),aO (j:=1) rfl,_,_,rfl,gk,?_⟩;cases fe:fR ks z.cu with
  |some e=>
   refine itn (fun z=>nomatch z) ?_;have me:=List.mem_of_find?_eq_some fe;have ee:e.1=z.cu:=by simpa using List.find?_some fe
   exact cA Dn t f kn_ o D F q z e es ks Z i x5 x6 x7 x11 x12 S hq hz zz i1 me ee fe fun F' es' y11 y12 S'=>kk F' es' ks y11 y12 (ZK lk_) S'
  |none=>
   have RF:=RQ.same S.same;refine JO RF.at_ fun b' kvs' W' RG=>?_;refine itp (by rw[Option.map_none];rfl) ⟨_,_,.inr (bF hq),aO (j:=1) rfl,S.nt,_,_,_,_,_,RG,RF.len,RF.ok,gC,RF.l4,zz.1,cg,hd,fun no F' s1 N1=>⟨_,rfl,T.mX,kno no F' (S.same.trans s1) (s1 _ _ S.gt)⟩,fun rest p F' ch fp hp s1 N1=>?_⟩
   .have le:=S.le
    have SF:=S.same.trans s1;refine⟨_,_,.inr (bF (s1 _ _ hq)),aO (j:=1) rfl,_,_,rfl,DPut.k (k:=.inr ⟨⟨z.cu⟩⟩) (s1 _ _ S.gk) (by rw[zV,ue];lia),?_⟩;have vn:bG (ks.map kyR) (.inr ⟨⟨z.cu⟩⟩)=none:=by rw[sj,fe];rfl
    have kp:WS [kn_] F (upd F' kn_ (.dK (bD (ks.map kyR) (.inr ⟨⟨z.cu⟩⟩) (.ref p)))):=(bL s1).put (.head _);have kpp:p≠kn_:=fun q0=>by rw[q0,S.gk]at fp;cases fp
    have nk:=S.nfk;refine cA Dn t f kn_ o D _ q z (z.cu,p) es (ks++[(z.cu,p)]) Z i x5 x6 x7 x11 x12 ⟨bX SF hk,al N1 rfl,kp _ _ S.gt fun m=>S.ntk (zh.mp m),kp _ _ S.gf fun m=>nk (zh.mp m),by rw[aa,j8 _ vn,yE];rfl,fun e' m'=>?_,S.dd,le,S.fr,nk,S.ntf,S.ntk,S.hf⟩ (kp _ _ hq fun m=>by rw[zh.mp m,S.gk]at hq;cases hq) hz zz i1 (wq _ (.head _)) rfl ?_ fun F2 es' y11 y12 S'=>kk F2 es' _ y11 y12 (by rw[zA,v6];lia) S'
    .obtain m'|m':=yy.mp m'
     .obtain⟨r',c',h'⟩:=S.kk e' m'
      exact⟨r',c',kp _ _ h' fun m=>by rw[zh.mp m,S.gk]at h';cases h'⟩
     .rw[zh.mp m']
      exact⟨rest,ch,(ag kpp).trans hp⟩
    .unfold fR
     rw[List.find?_append,show ks.find? (fun e=>decide (e.1=z.cu))=none from fe];simp
 obtain⟨uB,huB,cB⟩:=cB;have c2:∃u,PSs (cJ (XE P w) P w K mg base ["_law_rates_here","_law_booked","_law_currency","_law_day_here","_law_together","_law_one","_law_rows_here","_law_row","_law_found","_law_known","_law_pair","_law_p","_law_q"] "_law_owns" (ak cO) fA WW A WX s H (gcE H E)) (ZE 2 (bh cO)) u/\∀(G:Hp) t x5 x6 x7,WT H G->NoB t G->G t=some (.dT ((dk (rwU bs d)).map eP))->H t=none->u { nx:=fun _ H'=>∃G,Gc H G H'/\Q .non G,rt:=fun v H'=>∃G,Gc H G H'/\Q v G } [some (.ref r),some (.ref bk),some (VS g),some (.int d),some (.ref t),x5,x6,x7,none,none,none,none,none] G:=by
  refine⟨_,(af (aE 8 ND dq)
   (af (aE 9 ND dq)
   (af (nD (bY (by passes_own) rfl (sV (fv 4)) (aK (i:=10) ND rfl (Wb rfl)) (ah (bi (aX (fT K HU) (aT (Zz HU) (fv 4) (fv 10) (fun _ _=>rfl)) ae) huB aL))))
   (ah (aB (fv 8)))))),fun G t x5 x6 x7 sG nB gt ft=>?_⟩
  walk_at "q";have gtd:Rd G t (.dT ((dk (rwU bs d)).map eP)):=.inl gt;generalize hD:dk (rwU bs d)=D at gt gtd;intro f ff;have s1:=aj (HO.dK []) ff;intro kn_ fk;have s2:=s1.trans (aj (HO.dK []) fk);have hfk:f≠kn_:=aq aa fk;have gf:upd (upd G f (HO.dK [])) kn_ (HO.dK []) f=some (.dK []):=(ag hfk).trans aa;have gk:upd (upd G f (HO.dK [])) kn_ (HO.dK []) kn_=some (.dK []):=aa;have ntk:NoB t (upd (upd G f (HO.dK [])) kn_ (HO.dK [])):=(nB.upd rfl).upd rfl;have f0:G kn_=none:=s1.free fk;generalize upd (upd G f (HO.dK [])) kn_ (HO.dK [])=G2 at s2 gf gk ntk |-
  have gt2:=s2 _ _ gt;refine Gf ?_;walk_at "q";refine⟨t,.dT (D.map eP),rfl,rfl,.inl gt2,fun o ho=>?_⟩;have ntf:t≠f:=fun z=>by rw[<- z,gt]at ff;cases ff
  have ntn:t≠kn_:=fun z=>by rw[<- z,gt]at f0;cases f0
  refine HA (fun i σ' F=>∃es ks x10 x11 x12,OS H t f kn_ o D R d g i (res (rwU bs d) ((D.map (·.1)).take i)) es ks F/\ks.length<=i/\H kn_=none/\σ'=[some (.ref r),some (.ref bk),some (VS g),some (.int d),some (.ref t),x5,x6,x7,some (.ref f),some (.ref kn_),x10,x11,x12]) ?_ ?_ ?_ ?_
  .exact⟨[],[],none,none,none,⟨fun c z e=>(ag fun q=>by rw[q,ft]at e;cases e).trans (s2 _ _ (sG _ _ e)),ntk.frz _ _,aa,(ag (Wc ntf)).trans gf,(ag (Wc ntn)).trans gk,(fun _ m=>nomatch m),⟨ZQ,fun x m=>(by rw[YO]at m;cases m),(fun c m=>nomatch m),(fun e m=>nomatch m)⟩,tB _,fun z m=>(by rw[YO]at m;cases m),hfk,ntf,ntn,sG.free ff⟩,tB _,sG.free f0,rfl⟩
  .rintro i σ' F ⟨es,ks,x10,x11,x12,S,_⟩
   exact S.gt
  .rintro i x v σ' F hi en ⟨es,ks,x10,x11,x12,S,lk_,hk,rfl⟩
   refine Fx en fun ky q hky yy1 hq=>?_;clear en;subst yy1;rw[Wm]at hky;refine bE (sx.mp hky) fun e he ee=>?_;cases ee;have me:=yo he;have nd:(D.map (·.1)).Nodup:=by rw[<- hD];exact(mH _).1
   have ga:=DV nd me;have vk:K19.val (rwU bs d) e.1=e.2:=by unfold K19.val;rw[hD,ga];rfl
   have hke:(D.map (·.1))[i]? = some e.1:=by rw[Wm,he];rfl
   have iD:i<D.length:=(Wn.mp he).1;have le:=S.le;have ld:=(mH (rwU bs d)).2.2;rw[hD]at ld;have lf:=Zb (fun b:Bo=>decide (b.d<=d)) bs;have lr:=fg (bs:=bs.filter fun b=>decide (b.d<=d)) fun x m=>l7 x (Zn.mp m).1;walk_at "q";refine⟨_,_,rfl,.inr ⟨_,kP e.1,q,.inr ⟨o,S.gt⟩,rfl,hq,by rw[ei,ga];rfl⟩,?_⟩;walk_at "q";rw[oJ (rwU bs d) hke,vk];by_cases ze:e.2=0
   .simp only[VY ze,Za]
    refine⟨es,ks,_,_,_,⟨S.same,S.nt,S.gt,S.gf,S.gk,S.kk,S.dd,ZK le,S.fr,S.nfk,S.ntf,S.ntk,S.hf⟩,ZK lk_,hk,rfl,rfl,rfl⟩
   .simp only[VZ ze]
    have mz:(⟨e.1.1,e.1.2,e.2⟩:Row)∈zO bs d:=by
     show _∈res (rwU bs d) ((dk (rwU bs d)).map (·.1));rw[hD];refine yR.mpr ⟨e.1,Zn.mpr ⟨uO me,by rw[vk];simpa using ze⟩,by rw[vk]⟩
    refine cB _ t f kn_ o D F q ⟨e.1.1,e.1.2,e.2⟩ es ks _ i _ _ _ _ _ S hk hq ga (zk _ mz) (wG (ZO iD) (wG ld (wG lr (wG (Nat.mul_le_mul_left 7 (wG lf l8)) (by decide))))) lk_ (fun no F' sF' gt'=>?_) fun F' es' ks' y11 y12 lk' S'=>⟨es',ks',_,_,_,S',lk',hk,rfl⟩;exact⟨t,o,.dT (D.map eP),gt',.inl ⟨gt2,rfl,H,Gc.none (bX sF' ft),kn ⟨_,mz,no⟩ H (WT.refl H) hN⟩⟩
  .rintro σ' F ⟨es,ks,x10,x11,x12,S,lk_,hk,rfl⟩
   have e0:(D.map (·.1)).take (dF (.dT (D.map eP)))=D.map (·.1):=by
    rw[ZP];show _<=(D.map eP).length;rw[zV,zV];exact zK _
   rw[e0]at S;walk_at "q";refine⟨t,o,.dT (D.map eP),S.gt,.inl ⟨gt2,rfl,?_⟩⟩;walk_at "q";refine⟨_,Gc.one (bX S.same ft) S.hf ((ag (Wc S.ntf)).trans S.gf) rfl,?_⟩;exact k0 es f _ (by show ∀z∈res (rwU bs d) ((dk (rwU bs d)).map (·.1)),_;rw[hD];exact S.fr) (by show DI ((res (rwU bs d) ((dk (rwU bs d)).map (·.1))).map _) es;rw[hD];exact S.dd) S.hf aa (aj _ S.hf) (al hN rfl)
 obtain⟨u2,hu2,c2⟩:=c2;refine⟨hN,_,(af (aE 4 ND n9)
  (af (bY (by passes_own) rfl (bA K (fv 1)) (eT K (n:=2) rfl (bz (aK (i:=5) ND rfl (Wb rfl)) (bz (aK (i:=6) ND rfl (Wb rfl)) eU))) (ah (bY (by passes_own) rfl (bA K (fv 6)) (aK (i:=7) ND rfl (Wb rfl)) (ah (bi (aX fO (fv 5) (fv 3)) (ah (cj (Zz HU) (fv 4) (cU (wS K) (fv 7) dI (dQ ae)) (ai aP (cR (Zz HU) (fv 4) (cU (wS K) (fv 7) dI (dQ ae)) ae ⟨rfl,rfl,rfl,rfl⟩) (aH K (fv 7) ae)) rfl)) aL)))))
  hu2)),?_⟩
 walk_at "q";intro t ft;refine cf ?_;walk_at "q";have s0:=aj (HO.dT []) ft;refine cN (az (s0 _ _ hbk)) (cM (xs:=vs) (fun i σ' G=>WT H G/\NoB t G/\∃x5 x6 x7,G t=some (.dT ((dk (rwU (bs.take i) d)).map eP))/\σ'=[some (.ref r),some (.ref bk),some (VS g),some (.int d),some (.ref t),x5,x6,x7,none,none,none,none,none]) ⟨s0,NoB.updb (NoB.of hN),none,none,none,by rw[YO];exact aa,rfl⟩ (fun i σ' G _ h=>az (h.1 _ _ hbk)) ?_ ?_)
 .rintro i x σ' G hx ⟨sG,nG,x5,x6,x7,gt,rfl⟩
  refine bE (hv.at_ hx) fun b hb yz=>Gs yz fun q tr us yy1 hq htr au=>?_;subst yy1;have hqG:=sG _ _ hq;have htG:=sG _ _ htr;have lu:=au.len;have lb:=l7 b (yo hb);walk_at "q";refine⟨q,_,rfl,bF hqG,rfl,_,_,rfl,_,_,rfl,rfl,cf ?_⟩;walk_at "q";refine cN (az htG) (cM (xs:=us) (fun j σ' F=>WT H F/\NoB t F/\∃x7,F t=some (.dT ((dk (rwU (bs.take i) d++if b.d<=d then b.rs.take j else [])).map eP))/\σ'=[some (.ref r),some (.ref bk),some (VS g),some (.int d),some (.ref t),some (.int b.d),some (.ref tr),x7,none,none,none,none,none]) ⟨sG,nG,x7,by rw[YO,ite_self,Za];exact gt,rfl⟩ (fun j σ' F _ h=>az (h.1 _ _ htr)) ?_ ?_)
  .rintro j y σ' F hy ⟨sF,nF,y7,ftt,rfl⟩
   refine bE (au.at_ hy) fun rw0 hrw yz=>bE yz fun p yy1 hp=>?_;subst yy1;have hpF:=sF _ _ hp;walk_at "q";by_cases hd':b.d<=d
   .rw[VY hd']at ftt
    simp only[VY hd'];have lr:=fg (bs:=(bs.take i).filter fun b=>decide (b.d<=d)) fun x m=>l7 x (ZI (Zn.mp m).1);have lf:=Zb (fun b:Bo=>decide (b.d<=d)) (bs.take i);rw[Zv]at lf;have ld:=(mH (rwU (bs.take i) d++b.rs.take j)).2.2;rw[zA,Zv]at ld;refine⟨.inr ⟨_,.inl ftt⟩,p,_,rfl,bF hpF,(by show ¬ (HT.sIx 3 0 none=0/\HT.sIx 3 3 (some 2)=3);decide),fun p1 fp1=>?_⟩;rw[show fX [VS rw0.pa,VS rw0.cu,V.int rw0.am] none (some 2)=[VS rw0.pa,VS rw0.cu] from rfl];have s1:=aj (HO.tup [VS rw0.pa,VS rw0.cu]) fp1;refine⟨_,DGet.t (k:=kP (rw0.pa,rw0.cu)) (s1 _ _ ftt) aa,_,_,.inr (bF (s1 _ _ hpF)),aO (j:=2) rfl,?_⟩;rw[ei,wR];walk_at "q";refine⟨p,_,rfl,bF (s1 _ _ hpF),(by show ¬ (HT.sIx 3 0 none=0/\HT.sIx 3 3 (some 2)=3);decide),fun p2 fp2=>?_⟩;rw[show fX [VS rw0.pa,VS rw0.cu,V.int rw0.am] none (some 2)=[VS rw0.pa,VS rw0.cu] from rfl];have s2:=s1.trans (aj (HO.tup [VS rw0.pa,VS rw0.cu]) fp2);refine⟨t,_,rfl,DPut.t (k:=kP (rw0.pa,rw0.cu)) (s2 _ _ ftt) aa (by rw[zV,ue];lia),?_⟩;rw[nU];refine⟨bX (sF.trans s2) ft,((nF.upd rfl).upd rfl).updb,_,?_,rfl⟩;rw[aa,bO hrw,<- Y0,nN];rfl
   .rw[VZ hd']at ftt
    simp only[VZ hd'];exact⟨sF,nF,_,ftt,rfl⟩
  .rintro σ' F ⟨sF,nF,y7,ftt,rfl⟩
   rw[lu,Zp]at ftt;refine⟨sF,nF,_,_,_,?_,rfl⟩;rw[Aw hb];exact ftt
 .rintro σ' G ⟨sG,nG,x5,x6,x7,gt,rfl⟩
  rw[lv,Zp]at gt;exact c2 G t x5 x6 x7 sG nG gt ft
def zu{K:Ws}{CH:WH}{i:Nat}{tb:XKs->TS}{th:WH->TS}{D:fo}{σ:St}{H:Hp}(F:(WH->TS)->Prop)(h:F th)(k:∀th,F th->wW K CH i tb th D σ H):wW K CH i tb th D σ H:=k th h
noncomputable def wds:List (List Nat):=[[99,117,114,114,101,110,99,121],[100,97,121],[114,97,116,101]]
def sp_Ef(a:Adr):Sp:=sp5 fun x y z g t H Q _=>WM H/\((asR x fun pc=>asR y fun j=>asR z fun r=>asT g fun g=>asI t fun d=>∃bs R Cs cs,VA a.a7 a.bg a.aM a.aN H pc j r bs R Cs cs g d /\
 (∀out,out.Perm ((dk (rwU bs d)).map (·.1))->r9 out->∃z∈res (rwU bs d) out,∀n,¬ Far (Lk R d) g n z.cu)/\∀H',WT H H'->WM H'->Q (VS (wds.getD 2 [])) H') \/
 (okV g/\(asK H g fun _=>asK H t fun _=>((j5 g=false/\∀H',WT H H'->WM H'->Q (VS (wds.getD 0 [])) H')\/(j5 g=true/\amg t 0 146096=false/\∀H',WT H H'->WM H'->Q (VS (wds.getD 1 [])) H')))))
structure Wk(K:Ws)(a:Adr)(C:WH)(i:Nat):Prop where
 x:dH K C
 rt:Zo K (.ref C) (.ref a.eX)=some false
 na:Zo K (.ref C) (.ref a.dA)=some false
 ve:Zo K (.ref C) (.type "ValueError")=some true
 k0:Zo K (.ref C) (.ref a.aW)=some (decide (i=0))
 k1:Zo K (.ref C) (.ref a.bN)=some (decide (i=1))
 k2:Zo K (.ref C) (.ref a.bq)=some (decide (i=2))
 i3:i<3
def ig(T:Txt K mg a):Fo P w K mg base "_law_word" 11 (sp_Ef a):=by
 refine T.uW.hx ["_law_chart_here","_law_journal","_law_rates_here","_law_currency","_law_day_here","e","_law_others","_law_kinds"] (gX5 fun x0 x1 x2 x3 x4 fA WW A WX s H Q E ND HU hr h=>?_);obtain⟨hN,h1⟩:=h;have sz:=szl;refine⟨_,(af (C4 (i:=5) ND rfl rfl rfl T.qL rfl rfl rfl (fun pn Ee Ex PX=>(ah (bH (aF (lD T) hr PX (fa5 (fv 0) (fv 1) (fv 2) (fv 3) (fv 4)))))) (fun e=>(af (aE 6 ND (xP (aI (cr K) rfl T.bf aY (fa2 (fv 5) (ja (v:=.ref a.eX) rfl T.yI rfl))) (xP (aI (cr K) rfl T.bf aY (fa2 (fv 5) (ja (v:=.ref a.dA) rfl T.tX rfl))) (dO (v8 (aI (cr K) rfl T.bf aY (fa2 (fv 5) (dN (v:=.ty "ValueError") rfl T.se pE rfl))))))))
  (af (aE 7 ND (cy (fa4 (aI (cr K) rfl T.bf aY (fa2 (fv 5) (ja (v:=.ref a.aW) rfl T.df rfl))) (aI (cr K) rfl T.bf aY (fa2 (fv 5) (ja (v:=.ref a.bN) rfl T.gr rfl))) (aI (cr K) rfl T.bf aY (fa2 (fv 5) (ja (v:=.ref a.bq) rfl T.o5 rfl))) (fv 6))))
  (ah (aB (ai DX (gN (fa4 (ay [99,117,114,114,101,110,99,121]) (ay [100,97,121]) (ay [114,97,116,101]) (ay [111,116,104,101,114])) (cD K Zm PySem.F.slot_list_index PySem.F.type_list_index (Ej K) (fv 7) (fa1 iE)) (fun _ _=>rfl)) (dW sS rfl T.ul pd (fa1 (dl (bS K HU) (aI (cq K) rfl T.eJ de (fa1 (AS K yM (cl:=_) (x:="_law_one") (xs:=["_law_one"]) (fr:=[]) (ks:=[]) (by walk_at "k") rfl (fv 7) (fun _ _ _ _ _=>(aK (i:=0) (d_ (l:=["_law_one"]) (by decide)) rfl (Wb rfl))) (fun _ _ _ _ _=>(hU (bM (fv 0)))) (fun _ _ _ _ _=>ae)))) ae (dY _)))))))))))
  (ah (aB (ay [110,111,110,101])))),?_⟩
 walk_at "q";refine zu (fun th=>∀(C e:WH) i (G:Hp) (D:fo),Wk K a C i->WT H G->WM G->G e=none->D.rt=Q->(∀H',WT H H'->WM H'->Q (VS (wds.getD i [])) H')->th e D [some x0,some x1,some x2,some x3,some x4,some (.ref e),none,none] (upd G e (dP (.ref C) e))) (fun C e i G D X sG nG ge hD k=>?_) fun th hth=>?_
 .have he:(upd G e (dP (.ref C) e)) e=some (dP (.ref C) e):=aa
  have s1:WT H (upd G e (dP (.ref C) e)):=sG.trans (aj _ ge);have N1:WM (upd G e (dP (.ref C) e)):=al nG rfl;have i3:i=0\/i=1\/i=2:=by have:=X.i3;lia
  generalize upd G e (dP (.ref C) e)=G1 at he s1 N1 |-
  have ke:c0 G1 (.ref e)=none:=by simp[c0,he,dP]
  walk_at "q";refine⟨C,false,he,X.x,X.rt,itn (by decide) ⟨C,false,he,X.x,X.na,itn (by decide) ?_⟩⟩;simp only[ke];refine⟨e,C,true,rfl,he,X.x,X.ve,C,_,he,X.x,X.k0,C,_,he,X.x,X.k1,C,_,he,X.x,X.k2,by walk_at "o",fun p fp=>?_⟩;refine bQ (bv (o:=HO.lst [V.bl (decide (i=0)),V.bl (decide (i=1)),V.bl (decide (i=2)),V.bl (!true)]) fp N1 rfl) fun G2 e2 s2 g2 N2=>?_;rw[e2];refine⟨N2,by walk_at "o",fun p1 f1=>?_⟩;refine bQ (bv (o:=HO.lst [VS [99,117,114,114,101,110,99,121],VS [100,97,121],VS [114,97,116,101],VS [111,116,104,101,114]]) f1 N2 rfl) fun G3 e3 s3 g3 N3=>?_;rw[e3];have hp3:=s3 _ _ g2;have s13:WT H G2:=s1.trans s2;have he2:=s2 _ _ he;refine⟨.inl ⟨_,az hp3⟩,p,[decide (i=0),decide (i=1),decide (i=2),false],i,rfl,rfl,az hp3,?_,?_,rfl,?_⟩
  .obtain h|h|h:=i3 <;> rw[h] <;> rfl
  .intro j hj
   obtain h|h|h:=i3
   .lia
   .obtain rfl:j=0:=by lia
    rw[h];rfl
   .rcases(by lia:j=0\/j=1) with h'|h' <;> rw[h',h] <;> rfl
  have ea:atI [VS [99,117,114,114,101,110,99,121],VS [100,97,121],VS [114,97,116,101],VS [111,116,104,101,114]] (i:Int)=some (VS (wds.getD i [])):=by
   obtain h|h|h:=i3 <;> rw[h] <;> rfl
  simp only[gW,ea];refine IB ?_;walk_at "q";refine⟨⟨_,az g2⟩,JR (C:=.ref C) p _ (fun v=>match v with | .bl b=>b|_=>false) (.int 1) he2 g2 (by show 4<WC;lia) (fun x hx G R r=>?_) (fun x hx G R r=>r) (fun D' hD'=>?_)⟩
  .have hb:∃b,x = .bl b:=by
    obtain h|hx:=z9.mp hx
    .exact⟨_,h⟩
    obtain h|hx:=z9.mp hx
    .exact⟨_,h⟩
    obtain h|hx:=z9.mp hx
    .exact⟨_,h⟩
    exact⟨_,zh.mp hx⟩
   obtain⟨b,rfl⟩:=hb;walk_at "q";exact r
  have cl:(([V.bl (decide (i=0)),V.bl (decide (i=1)),V.bl (decide (i=2)),V.bl (!true)].filter fun v=>match v with | .bl b=>b|_=>false).map fun _=>V.int 1)=[V.int 1]:=by
   obtain h|h|h:=i3 <;> rw[h] <;> rfl
  rw[cl];walk_at "q";refine⟨[V.int 1],.inl (az aa),⟨?_,by decide,by decide⟩,?_⟩
  .obtain h|h|h:=i3 <;> rw[h] <;> decide
  rw[hD,show(Xc (if (([V.int 1]:List V).length:Int)=1 then 1 else 0:Int).toNat (wds.getD i [])).flatten=wds.getD i [] from by simp];exact k _ (s13.trans (aj _ hD')) (al N2 rfl)
 .dsimp only[wW]
  walk_at "q";refine⟨hN,?_⟩;obtain h1|⟨ho,h1⟩:=h1
  .refine bE (aQ h1) fun pc yy1 h2=>?_;subst yy1
   refine bE (aQ h2) fun j yy1 h3=>?_;subst yy1;refine bE (aQ h3) fun r yy1 h4=>?_;subst yy1;refine bE (bt h4) fun g yy1 h5=>?_;subst yy1;refine bE (ba h5) fun d yy1 yz=>IQ yz fun bs R Cs cs VV kn k=>?_;subst yy1;refine .inl ⟨bs,R,Cs,cs,VV,fun out po oo fr H1 s1 N1=>⟨_,rfl,T.jh,fun e fe=>hth _ e 2 H1 _ ⟨T.Co,T.l_,T.jL,T.ji,T.iR,T.m9,T.m_,by decide⟩ s1 N1 fe rfl k⟩,fun out es o2 p ws H1 po oo fr=>?_⟩;obtain⟨z,mz,no⟩:=kn out po oo;obtain⟨n,yes⟩:=fr z mz;exact VT yes (no n)
  .refine fL (jP h1) fun t1 ht1 hb1 h2=>?_
   refine fL (jP h2) fun t2 ht2 hb2 k=>?_;refine .inr ⟨ho,asK.of ht1 (asK.of ht2 ?_)⟩;obtain⟨e1,k⟩|⟨e1,e2,k⟩:=k
   .exact .inl ⟨e1,_,rfl,T.fU,fun e fe=>hth _ e 0 H _ ⟨T.pP,T.iA,T.gY,T.fY,T.fM,T.iH,T.iP,by decide⟩ (WT.refl H) hN fe rfl k⟩
   .exact .inr ⟨e1,e2,_,rfl,T.jm,fun e fe=>hth _ e 1 H _ ⟨T.Bu,T.mq,T.jJ,T.jk,T.iT,T.mU,T.mV,by decide⟩ (WT.refl H) hN fe rfl k⟩
end
section
open K3
def dR(x:Pr)(L:List Pr)(c:List Nat):psm (x::L) c=(if x.1=c then x.2 else 0)+psm L c:=by
 unfold psm;by_cases h:x.1=c
 .rw[ZU (by simpa using h),VY h];simp
 .rw[ZT (by simpa using h),VZ h];simp
def EJ(A B:List Pr)(c:List Nat):psm (A++B) c=psm A c+psm B c:=by
 unfold psm;rw[ZW,yE,List.sum_append]
def jW{A B:List Pr}(h:A.Perm B)(c:List Nat):psm A c=psm B c:=by
 induction h with
 |nil=>rfl
 |cons x _ ih=>rw[dR,dR,ih]
 |swap x y l=>rw[dR,dR,dR,dR];lia
 |trans _ _ h1 h2=>exact h1.trans h2
noncomputable def raN(l:List Nat):List Nat:=bU [58] (spN 58 l).dropLast
def xS{n:List Nat}(h:58∉n):lup n=[n]:=by
 unfold lup abN;rw[gH 58 n h];rfl
def xV{n:List Nat}(h:58∉n):raN n=[]:=by
 unfold raN;rw[gH 58 n h];rfl
def rT{u n:List Nat}(h:58∉n):raN (u++58::n)=u:=by
 unfold raN;rw[hV h,List.dropLast_concat,gv]
structure Pk(l:List Nat):Prop where
 nd:(lup l).Nodup
 ne:[]∉lup l
 mp:(lup l).map raN=[]::abN l
 ln:∀x∈lup l,x.length<=l.length
def Pk.top{n:List Nat}(h:58∉n)(h1:1<=n.length):Pk n:=by
 have e:=xS h;have ea:abN n=[]:=by
  have:=VU List.dropLast e;unfold lup at this;rw[List.dropLast_concat]at this;exact this
 refine⟨by rw[e];exact Zj.mpr ⟨(fun m=>nomatch m),ZQ⟩,by rw[e];intro m;rw[<- zh.mp m]at h1;exact VT h1 (by decide),by rw[e,ea,XG,xV h],fun x m=>?_⟩;rw[e]at m;rw[zh.mp m];exact zK _
def Pk.ext{u n:List Nat}(k:Pk u)(h:58∉n):Pk (u++58::n):=by
 have e:lup (u++58::n)=lup u++[u++58::n]:=by
  show abN (u++58::n)++_=_;rw[j4 h];rfl
 have nl:u++58::n∉lup u:=fun m=>by
  have:=k.ln _ m;rw[zA,vZ]at this;lia
 refine⟨by rw[e];exact dU k.nd nl,by rw[e];intro m;obtain m|m:=yy.mp m;exact k.ne m;have:=zh.mp m;simp at this,?_,fun x m=>?_⟩
 .rw[e,yE,k.mp,XG,rT h,j4 h];rfl
 .rw[e]at m
  obtain m|m:=yy.mp m
  .have:=k.ln x m
   rw[zA];lia
  .rw[zh.mp m];exact zK _
theorem kf{α:Type}{g:α->Int}:∀ {l:List α},(∀x∈l,g x=0)->(l.map g).sum=0
 | [],_=>rfl
 |x::l,h=>by rw[yH,Xk,h x (.head _),kf fun y m=>h y (.tail _ m)];rfl
theorem wV{α:Type}{f g:α->Int}:∀l:List α,(l.map fun x=>f x+g x).sum=(l.map f).sum+(l.map g).sum
 | []=>rfl
 |x::l=>by rw[yH,yH,yH,Xk,Xk,Xk,wV l];lia
theorem jV{α:Type}{g:α->Int}{k:α}{v:Int}:∀ {l:List α},l.Nodup->k∈l->g k=v->(∀x∈l,x≠k->g x=0)->(l.map g).sum=v
 |x::l,nd,m,e,h=>by
  obtain⟨n1,n2⟩:=Zj.mp nd;rw[yH,Xk];obtain q|m:=z9.mp m
  .subst q
   rw[e,kf fun y my=>h y (.tail _ my) fun z=>n1 (z ▸ my),XW]
  .rw[h x (.head _) (fun z=>n1 (z ▸ m)),jV n2 m e fun y my=>h y (.tail _ my),Y9]
def rN{e:Pr}(nd:(lup e.1).Nodup)(l:List Nat):psm ((lup e.1).map fun l=>(l,e.2)) l=if l∈lup e.1 then e.2 else 0:=by
 generalize lup e.1=ps at nd
 induction ps with
 |nil=>rfl
 |cons p q ih=>
  obtain⟨n1,n2⟩:=Zj.mp nd;rw[yH,dR,ih n2];by_cases e1:p=l
  .subst e1
   rw[VY rfl,VZ n1,VY (.head _),XW]
  .rw[VZ (show ¬ (p,e.2).1=l from e1),Y9]
   by_cases m:l∈q
   .rw[VY m,VY (.tail _ m)]
   .rw[VZ m,VZ fun z=>(z9.mp z).elim (fun z=>e1 z.symm) m]
noncomputable def kid(out:List (List Nat))(l:List Nat):List (List Nat):=out.filter fun k=>decide (raN k=l)
def Km{out:List (List Nat)}{r:Pr}(nd:out.Nodup)(k:Pk r.1)(sub:∀x∈lup r.1,x∈out)(l:List Nat) :
 ((kid out l).map fun x=>psm ((lup r.1).map fun l=>(l,r.2)) x).sum=if l=[]\/l∈abN r.1 then r.2 else 0:=by
 have nk:(kid out l).Nodup:=List.Pairwise.filter _ nd;have ndm:((lup r.1).map raN).Nodup:=by
  rw[k.mp];refine Zj.mpr ⟨fun m=>k.ne (vS _ m),?_⟩;have:=k.nd;unfold lup at this;exact(Z8.mp this).1
 by_cases h:l=[]\/l∈abN r.1
 .rw[VY h]
  have ml:l∈(lup r.1).map raN:=by
   rw[k.mp];obtain e|m:=h
   .rw[e];exact .head _
   .exact .tail _ m
  obtain⟨x,mx,ex⟩:=yR.mp ml;refine jV nk (k:=x) (Zn.mpr ⟨sub x mx,VX ex⟩) (by rw[rN k.nd,VY mx]) fun y my ny=>?_;rw[rN k.nd,VZ fun z=>ny ?_];exact uq ndm z mx ((of_decide_eq_true (Zn.mp my).2).trans ex.symm)
 .rw[VZ h]
  refine kf fun y my=>?_;rw[rN k.nd,VZ fun z=>h ?_];have ml:=uO (f:=raN) z;rw[of_decide_eq_true (Zn.mp my).2,k.mp]at ml;obtain e|m:=z9.mp ml
  .exact .inl e
  .exact .inr m
def Bz(r:Pr)(R:List Pr):liP (r::R)=((lup r.1).map fun l=>(l,r.2))++liP R:=Ye
theorem xM{out:List (List Nat)}(nd:out.Nodup){l:List Nat}(hl:l≠[]):∀ {R:List Pr},(∀r∈R,Pk r.1/\∀x∈lup r.1,x∈out)->psm (liP R) l=psm R l+((kid out l).map fun x=>psm (liP R) x).sum
 | [],_=>by rw[kf (g:=fun x=>psm (liP []) x) fun _ _=>rfl];rfl
 |r::R,h=>by
  obtain⟨k,sub⟩:=h r (.head _);have ih:=xM nd hl fun x m=>h x (.tail _ m);simp only[Bz,EJ];rw[wV,Km nd k sub,ih,dR,rN k.nd];have na:r.1∉abN r.1:=fun m=>(Z8.mp (show(abN r.1++[r.1]).Nodup from k.nd)).2.2 _ m _ (.head _) rfl;have e:(if l∈lup r.1 then r.2 else 0)=(if r.1=l then r.2 else 0)+if l=[]\/l∈abN r.1 then r.2 else 0:=by
   by_cases e1:r.1=l
   .subst e1
    rw[VY (show r.1∈lup r.1 from wq _ (.head _)),VY rfl,VZ fun z=>z.elim hl na,XW]
   .rw[VZ e1,Y9]
    by_cases m:l∈abN r.1
    .rw[VY (show l∈lup r.1 from vS _ m),VY (.inr m)]
    .rw[VZ (show l∉lup r.1 from fun z=>(yy.mp z).elim m fun z=>e1 (zh.mp z).symm),VZ fun z=>z.elim hl m]
  rw[e];lia
structure TP(ps:List (List Nat)):Prop where
 np:ps.Nodup
 ne:[]∉ps
 pk:∀p∈ps,Pk p/\∀x∈lup p,x∈ps
 up:∀p∈ps,raN p∈[]::ps
 ok:∀p∈ps,(∀c∈p,c<128)/\p.length<=199
 l20:ps.length<=20
def yh{zs ls:List Pr}{ps:List (List Nat)}{q:List Nat}:((vlR zs ls ps).filter fun x=>decide (raN x.1=q)).map (fun x=>x.2.2)=(kid ps q).map fun x=>psm ls x:=by
 unfold vlR kid;rw[XM,vN];rfl
end
section
variable{P:WF}{w:WE}{K:Ws}{mg:Str->Option WI}{base:Wz}{a:Adr}
open K3
noncomputable def kwT(l:List Nat):Key:=.inr ⟨⟨l⟩⟩
noncomputable def rZ:List Nat:=[114,97,116,101,115]
noncomputable def fP:List Nat:=[98,111,111,107,101,100]
noncomputable def lT:List Nat:=[99,104,97,114,116]
noncomputable def j7:List Nat:=[106,111,117,114,110,97,108]
noncomputable def lM:List Nat:=[112,97,116,104,115]
noncomputable def oV:List Nat:=[104,101,108,100]
structure TD(a:Adr)(H:Hp)(mm pc j r bk pp hl:WH)(mv:List (Key × V))(bs:List Bo)(R:List Qr)(Cs:List (List Nat))(cs:List Acc)(ps:List (List Nat))(bvs hvs:List V)(g:List Nat)(d:Int):Prop where
 hm:H mm=some (.dK mv)
 vr:bG mv (kwT rZ)=some (.ref r)
 vb:bG mv (kwT fP)=some (.ref bk)
 vc:bG mv (kwT lT)=some (.ref pc)
 vj:bG mv (kwT j7)=some (.ref j)
 vp:bG mv (kwT lM)=some (.ref pp)
 vh:bG mv (kwT oV)=some (.ref hl)
 va:∀H',WS [hl] H H'->VA a.a7 a.bg a.aM a.aN H' pc j r bs R Cs cs g d
 hb:H bk=some (.lst bvs)
 ab:∀H',WS [hl] H H'->A2 (Ih H') bvs bs
 hp:H pp=some (.lst (ps.map VS))
 pa:(cs.map (·.pa)).Perm ps
 tp:TP ps
 rp:∀z∈zO bs d,z.pa∈ps
 hh:H hl=some (.lst hvs)
 l60:hvs.length<=60
 nb:bk≠hl
 np:pp≠hl
def dgM{F:Hp}{mm:WH}{mv:List (Key × V)}{l:List Nat}{v:V}(h:F mm=some (.dK mv))(e:bG mv (kwT l)=some v):DGet F mm (VS l) (some v):=by
 have:=DGet.k (k:=kwT l) h
 rwa [e]at this
def IP{H:Hp}{n:Nat}(l:List Nat):EqH K H n (VS l) (VS l) true:=by
 have:=EqH.flat (K:=K) (H:=H) (n:=n) (x:=VS l) (y:=VS l) rfl rfl
 rwa [show eqV (VS l) (VS l)=true by simp[eqV]]at this
def Fc{H:Hp}{n:Nat}(i:Int):EqH K H n (.int i) (.int i) true:=by
 have:=EqH.flat (K:=K) (H:=H) (n:=n) (x:=.int i) (y:=.int i) rfl rfl
 rwa [show eqV (.int i) (.int i)=true by simp[eqV]]at this
def JG{H:Hp}{n:Nat}{v v':V}{x:Vr}(h:VrAt H v x)(h':VrAt H v' x):EqH K H (n+1) v v' true:=by
 obtain⟨q,rfl,h1⟩:=h;obtain⟨q',rfl,g1⟩:=h';by_cases hq:q=q'
 .subst hq;exact .same
 .exact EqH.tup (K:=K) (H:=H) (n:=n) (e:=fun _=>true) hq (bF h1) (bF g1) fun j x y gx gy=>by
   match j,gx with
   |0,gx=>cases gx;cases gy;exact IP _
   |1,gx=>cases gx;cases gy;exact Fc _
   |2,gx=>cases gx;cases gy;exact Fc _
   |j+3,gx=>simp at gx
def Fp{β:Type}{R:V->β->Prop}{H:Hp}{p q:WH}{xs ys:List V}{zs:List β}(e:∀x y z,R x z->R y z->EqH K H 50 x y true)(hp:H p=some (.lst xs))(hq:H q=some (.lst ys))(h:A2 R xs zs)(h':A2 R ys zs):EqR K H p q true:=by
 have:=EqR.lst (K:=K) (H:=H) (e:=fun _=>true) (az hp) (az hq) (h.len.trans h'.len.symm) fun j x y gx gy=>by
  obtain⟨z,g1,r1⟩:=h.at_ gx;obtain⟨z',g2,r2⟩:=h'.at_ gy;rw[g1]at g2;cases g2;exact e x y z r1 r2
 rwa [Zk.mpr fun _ _=>rfl]at this
def zG{H:Hp}{p q:WH}{xs ys:List V}{L:List Vr}(hp:H p=some (.lst xs))(hq:H q=some (.lst ys))(h:A2 (VrAt H) xs L)(h':A2 (VrAt H) ys L):EqR K H p q true:=Fp (R:=VrAt H) (fun _ _ _ r1 r2=>JG r1 r2) hp hq h h'
def DI.perm{cs cs' es es':List Pr}(h:cs.Perm cs')(D:DI cs es)(D':DI cs' es'):es.Perm es':=by
 have nd:∀ {cs es:List Pr},DI cs es->es.Nodup:=fun D=>List.Pairwise.of_map (·.1) (fun a b h e=>h (by rw[e])) D.nd;have sub:∀ {cs cs' es es':List Pr},cs.Perm cs'->DI cs es->DI cs' es'->∀e∈es,e∈es':=fun {cs cs' es es'} h D D' e m=>by
  obtain⟨x,mx,ex⟩:=D.of e.1 (uO m);have m2:=D'.has x (h.mem_iff.mp mx);rw[ex]at m2;obtain⟨e',me,ee⟩:=yR.mp m2;have:e'=e:=Prod.ext ee (by rw[D'.sm e' me,D.sm e m,jW h,ee]);exact this ▸ me
 exact(List.perm_ext_iff_of_nodup (nd D) (nd D')).mpr fun e=>⟨sub h D D' e,sub h.symm D' D e⟩
def gG{rs:List Row}{o o':List Pt}(h:o.Perm o'):(res rs o).Perm (res rs o'):=(h.filter _).map _
def Cy{rs:List Row}{R:List Qr}{d:Int}{g:List Nat}{out out2:List Pt}{es es2:List Pr}{o o2 qs:List (List Nat)}(nq:qs.Nodup)(po:out.Perm out2)(D:DI ((res rs out).map (fV R d g)) es)(D2:DI ((res rs out2).map (fV R d g)) es2)(pq:o.Perm qs)(pq2:o2.Perm qs)(io:InO o)(io2:InO o2) :
 vlR ((res rs out2).map (fV R d g)) (liP es2) o2=vlR ((res rs out).map (fV R d g)) (liP es) o:=by
 have pz:=(gG (rs:=rs) po).map (fV R d g);have pe:es.Perm es2:=DI.perm pz D D2;have e0:o2=o:=CB io2 io (pq2.nodup_iff.mpr nq) (pq.nodup_iff.mpr nq) fun c=>(pq2.trans pq.symm).mem_iff;have e1:psm ((res rs out2).map (fV R d g))=psm ((res rs out).map (fV R d g)):=funext fun c=>(jW pz c).symm;have e2:psm (liP es2)=psm (liP es):=funext fun c=>(jW (show(liP es).Perm (liP es2) from pe.flatMap_right _) c).symm;unfold vlR;rw[e0,e1,e2]
theorem Br{f:List Nat->Int}{c:List Nat}:∀ {L:List Pr},(L.map (·.1)).Nodup->(∀x∈L,x.2=f x.1)->psm L c=if c∈L.map (·.1) then f c else 0
 | [],_,_=>rfl
 |x::L,nd,h=>by
  rw[yH]at nd |-
  obtain⟨n1,n2⟩:=Zj.mp nd;rw[dR,Br n2 fun y m=>h y (.tail _ m),h x (.head _)];by_cases e:x.1=c
  .subst e
   rw[VY rfl,VZ n1,VY (.head _),XW]
  .rw[VZ e,Y9]
   by_cases m:c∈L.map (·.1)
   .rw[VY m,VY (.tail _ m)]
   .rw[VZ m,VZ fun z=>(z9.mp z).elim (fun z=>e z.symm) m]
def DI.psm{cs es:List Pr}(D:DI cs es)(c:List Nat):K20.psm es c=K20.psm cs c:=by
 rw[Br D.nd D.sm];by_cases m:c∈es.map (·.1)
 .rw[VY m]
 .rw[VZ m]
  exact(oz fun x mx z=>m (by rw[<- z];exact D.has x mx)).symm
structure Bw(ps:List (List Nat))(ls:List Pr)(ks:List Pr):Prop where
 ky:ks.map (·.1)=[]::ps
 sm:∀e∈ks,e.2=psm ls e.1
def Bw.get{ps:List (List Nat)}{ls ks:List Pr}(B:Bw ps ls ks){l:List Nat}(m:l∈[]::ps):fI ks l=some (l,psm ls l):=by
 cases e:fI ks l with
 |none=>exact VT (B.ky ▸ m) (qN e)
 |some x=>
  obtain⟨mx,ex⟩:=qZ e;have:=B.sm x mx;obtain⟨x1,x2⟩:=x;cases ex;rw[<- this]
def Bw.put{ps:List (List Nat)}{ls ks:List Pr}(B:Bw ps ls ks){q:List Nat}(m:q∈[]::ps)(v:Int):∃ks',bD (ks.map kyI) (.inr ⟨⟨q⟩⟩) (.int (psm ls q+v))=ks'.map kyI/\Bw ps (ls++[(q,v)]) ks'/\ks'.length=ks.length:=by
 have ek:(ks.map fun e=>if e.1=q then (e.1,psm ls q+v) else e).map (·.1)=ks.map (·.1):=by
  rw[vN];exact Zq fun e _=>by show(if e.1=q then (e.1,psm ls q+v) else e).1=e.1;split <;> rfl
 refine⟨ks.map fun e=>if e.1=q then (e.1,psm ls q+v) else e,?_,⟨ek.trans B.ky,fun e m=>?_⟩,zV _⟩
 .unfold bD
  rw[VY (by rw[fB,eE,B.get m];rfl),vN,vN];refine Zq fun e me=>?_;show(if (Sum.inr ⟨⟨e.1⟩⟩:Key) = .inr ⟨⟨q⟩⟩ then ((Sum.inr ⟨⟨e.1⟩⟩:Key),V.int (psm ls q+v)) else kyI e)=kyI (if e.1=q then (e.1,psm ls q+v) else e);by_cases h:e.1=q
  .rw[VY (by rw[h]),VY h];rfl
  .rw[VZ (fun z=>h (by simpa using z)),VZ h]
 .obtain⟨e',me,rfl⟩:=yR.mp m
  rw[nZ];by_cases h:e'.1=q
  .rw[VY h,VY h.symm,h]
  .rw[VZ h,VZ fun z=>h z.symm,XW];exact B.sm e' me
noncomputable def bwP(xs:List Vr):List Pr:=xs.map fun x=>(raN x.1,x.2.2)
def DS(zs ls:List Pr)(o:List (List Nat))(q:List Nat):psm (bwP (vlR zs ls o)) q=((kid o q).map fun x=>psm ls x).sum:=by
 rw[<- yh (zs:=zs)];unfold psm bwP;rw[XM,vN];rfl
def yt(xs:List V)(h:0<xs.length):fX xs none (some (-1))=xs.dropLast:=by
 unfold fX;have e:HT.sIx xs.length xs.length (some (-1))=xs.length-1:=by unfold HT.sIx;simp;lia
 rw[HT.sIx_none,e,List.drop_zero,Nat.sub_zero,List.dropLast_eq_take]
structure CV(bs:List Bo)(R:List Qr)(cs:List Acc)(g:List Nat)(d:Int)(H G:Hp)(out:List Pt)(es:List Pr)(o:List (List Nat))(f:WH)(ws:List V):Prop where
 sG:WT H G
 nG:WM G
 ff:H f=none
 gf:G f=some (.lst ws)
 po:out.Perm ((dk (rwU bs d)).map (·.1))
 oo:r9 out
 DD:DI ((res (rwU bs d) out).map (fV R d g)) es
 pq:o.Perm (cs.map (·.pa))
 io:InO o
 aw:A2 (VrAt G) ws (vlR ((res (rwU bs d) out).map (fV R d g)) (liP es) o)
 far:∀z∈res (rwU bs d) out,∃n,Far (Lk R d) g n z.cu
def sp_Dg(a:Adr):Sp:=sp3 fun x y z H Q _=>WM H/\asR x fun mm=>asT y fun g=>asI z fun d=>∃pc j r bk pp hl mv bs R Cs cs ps bvs hvs,TD a H mm pc j r bk pp hl mv bs R Cs cs ps bvs hvs g d /\
 ∀more H',more.length<=1->H' hl=some (.lst (hvs++more))->(∀v∈more,∃q f c us ws xs,v = .ref q/\H q=none/\H f=none/\H c=none/\H' q=some (.lst [.ref f,.ref c])/\H' f=some (.lst us)/\H' c=some (.lst ws)/\A2 (VrAt H') us xs/\A2 (VrAt H') ws xs)->WS [hl] H H'->WM H'->Q (.bl true) H'
def hJ(T:Txt K mg a):Fo P w K mg base "_law_told" 12 (sp_Dg a):=by
 refine T.u9.hx ["_law_made","_law_currency","_law_day_here","_law_owns_here","_law_found","_law_below","_law_path","_law_row","_law_ahead","_law_own","_law_within","_law_copied"] (gX3 fun x0 x1 x2 fA WW A WX s H Q E ND HU hr h=>?_);obtain⟨hN,h1⟩:=h;obtain⟨mm,rfl,h2⟩:=aQ h1;obtain⟨g,rfl,h3⟩:=bt h2;refine bE (ba h3) fun d yy1 yz=>IH yz fun pc j r bk pp hl mv bs yz=>Iq yz fun R Cs cs ps bvs hvs X k=>?_;subst yy1;have sz:=szl;have c8:∃u,PSs (cJ (XE P w) P w K mg base ["_law_made","_law_currency","_law_day_here","_law_owns_here","_law_found","_law_below","_law_path","_law_row","_law_ahead","_law_own","_law_within","_law_copied"] "_law_told" (ak bw) fA WW A WX s H E) (ZE 8 (bh bw)) u/\∀(G:Hp) (out:List Pt) es (o:List (List Nat)) f ws x3 x5 x6 x7 x8 x9 x10,CV bs R cs g d H G out es o f ws->u { nx:=fun _ H'=>Q .non H',rt:=Q } [some (.ref mm),some (VS g),some (.int d),x3,some (.ref f),x5,x6,x7,x8,x9,x10,none] G:=by
  refine⟨_,(af (aE 11 ND (dW (rR K) rfl T.ra nL (fa1 (fv 4))))
   (af (bH (cD K Zm Zg Zh cz (fv 4) (fa1 (bZ (fa3 (ay [109,111,114,101]) ae ae)))))
   (af (bH (cD K Zm Zg Zh cz (aT (Zz HU) (fv 0) (ay [104,101,108,100]) (fun _ _=>rfl)) (fa1 (cy (fa2 (fv 4) (ai rV (fv 11) (cy (fa1 (bZ (fa3 (ay [109,111,114,101]) ae ae))))))))))
   (ah (aB (dl (bS K HU) (aF (lD T) hr av (fa5 (aT (Zz HU) (fv 0) (ay [99,104,97,114,116]) (fun _ _=>rfl)) (aT (Zz HU) (fv 0) (ay [106,111,117,114,110,97,108]) (fun _ _=>rfl)) (aT (Zz HU) (fv 0) (ay [114,97,116,101,115]) (fun _ _=>rfl)) (fv 1) (fv 2))) (fv 11) (dY _))))))),fun G out es o f ws x3 x5 x6 x7 x8 x9 x10 CVh=>?_⟩
  obtain⟨sG,nG,ff,gf,po,oo,DD,pq,io,aw,far⟩:=CVh;walk_at "q";have lw:=aw.len;have lo:=pq.length_eq;rw[zV]at lo;have lv:(vlR ((res (rwU bs d) out).map (fV R d g)) (liP es) o).length=o.length:=zV _;have c64:=(X.va H WS.refl).c64;have l60:=X.l60;refine⟨_,.inl (az gf),fun c fc=>?_⟩;refine bQ (bv (o:=HO.lst ws) fc nG rfl) fun G1 e1 s1 g1 N1=>?_;rw[e1];have gf1:=s1 _ _ gf;refine⟨.inl ⟨_,az gf1⟩,by walk_at "o",fun m1 f1=>?_⟩;refine bQ (bv (o:=HO.tup [VS [109,111,114,101],V.int 0,V.int 0]) f1 N1 rfl) fun G2 e2 s2 g2 N2=>?_;rw[e2];have gf2:=s2 _ _ gf1;refine⟨f,ws,_,rfl,rfl,gf2,by lia,?_⟩;refine bQ (BR (p:=f) (o:=HO.lst (ws++[V.ref m1])) N2 rfl) fun G3 e3 g3 k3 N3=>?_;rw[e3];have s02:WT H G2:=sG.trans (s1.trans s2);have nf:∀ {p o},H p=some o->p∉[f]:=fun e m=>by rw[zh.mp m,ff]at e;cases e
  have s03:WT H G3:=WS.toSame s02 k3 fun c m=>(by rw[zh.mp m];exact ff);refine⟨mm,_,rfl,dgM (s03 _ _ X.hm) X.vh,.inl ⟨rfl,_,az (s03 _ _ X.hh)⟩,by walk_at "o",fun m2 f2=>?_⟩;refine bQ (bv (o:=HO.tup [VS [109,111,114,101],V.int 0,V.int 0]) f2 N3 rfl) fun G4 e4 s4 g4 N4=>?_;rw[e4];refine⟨by walk_at "o",fun q1 fq1=>?_⟩;refine bQ (bv (o:=HO.lst [V.ref m2]) fq1 N4 rfl) fun G5 e5 s5 g5 N5=>?_;rw[e5];have gc5:=s5 _ _ (s4 _ _ (k3 _ _ (s2 _ _ g1) fun m=>by rw[zh.mp m]at fc;rw[gf]at fc;cases fc));have g35:WT G3 G5:=s4.trans s5;have s05:WT H G5:=s03.trans g35;refine⟨ws,[V.ref m2],gc5,g5,by rw[v6];lia,fun p3 f3=>?_⟩;refine bQ (bv (o:=HO.lst (ws++[V.ref m2])) f3 N5 rfl) fun G6 e6 s6 g6 N6=>?_;rw[e6];refine⟨by walk_at "o",fun p4 f4=>?_⟩;refine bQ (bv (o:=HO.lst [V.ref f,V.ref p3]) f4 N6 rfl) fun G7 e7 s7 g7 N7=>?_;rw[e7];have s07:WT H G7:=s05.trans (s6.trans s7);refine⟨hl,hvs,_,rfl,rfl,s07 _ _ X.hh,by lia,?_⟩;refine bQ (BR (p:=hl) (o:=HO.lst (hvs++[V.ref p4])) N7 rfl) fun G8 e8 g8 k8 N8=>?_;rw[e8];have K8:WS [hl] H G8:=(bL s07).trans k8;have hm8:G8 mm=some (.dK mv):=K8 _ _ X.hm fun m=>by have:=X.hh;rw[<- zh.mp m,X.hm]at this;cases this
  refine⟨mm,_,rfl,dgM hm8 X.vc,mm,_,rfl,dgM hm8 X.vj,mm,_,rfl,dgM hm8 X.vr,N8,.inl ?_⟩;have V8:=X.va G8 K8;refine⟨bs,R,Cs,cs,V8,fun out2 po2 oo2 no H9 s9 N9=>?_,fun out2 es2 o2 p9 ws2 H9 po2 oo2 far2 DD2 pq2 io2 f9 g9 a9 s9 N9=>?_⟩
  .obtain⟨z,mz,nz⟩:=no
   obtain⟨n,yes⟩:=far z ((gG (po2.trans po.symm)).mem_iff.mp mz);exact VT yes (nz n)
  .have ch:c≠hl:=fun z=>by rw[z,sG _ _ X.hh]at fc;cases fc
   have gc8:G8 c=some (.lst ws):=k8 _ _ (s7 _ _ (s6 _ _ gc5)) fun m=>ch (zh.mp m);have gf8:G8 f=some (.lst (ws++[V.ref m1])):=k8 _ _ (s7 _ _ (s6 _ _ (g35 _ _ g3))) fun m=>by rw[zh.mp m,X.hh]at ff;cases ff
   have p3h:p3≠hl:=fun z=>by rw[z,s05 _ _ X.hh]at f3;cases f3
   have p4h:p4≠hl:=fun z=>by rw[z,s6 _ _ (s05 _ _ X.hh)]at f4;cases f4
   have gp3:G8 p3=some (.lst (ws++[V.ref m2])):=k8 _ _ (s7 _ _ g6) fun m=>p3h (zh.mp m);have gp4:G8 p4=some (.lst [V.ref f,V.ref p3]):=k8 _ _ g7 fun m=>p4h (zh.mp m);have t8:∀ {t l},G t=some (.tup l)->G8 t=some (.tup l):=fun e=>(k8 _ _ (s7 _ _ (s6 _ _ (g35 _ _ (k3 _ _ (s2 _ _ (s1 _ _ e)) fun m=>by rw[zh.mp m,gf]at e;cases e)))) fun m=>by rw[zh.mp m,sG _ _ X.hh]at e;cases e);have a8:A2 (VrAt G8) ws _:=aw.imp fun _ _ _ _ z=>VrAt.mv _ _ _ _ (fun t l e=>t8 e) z;have aw9:A2 (VrAt H9) ws _:=a8.imp fun _ _ _ _ z=>VrAt.mv _ _ _ _ (fun t l e=>s9 _ _ e) z;have nq:(cs.map (·.pa)).Nodup:=X.pa.nodup_iff.mpr X.tp.np;rw[Cy nq (po.trans po2.symm) DD DD2 pq pq2 io io2]at a9;refine⟨true,zG g9 (s9 _ _ gc8) a9 aw9,k [V.ref p4] H9 (zK _) (s9 _ _ g8) (fun v mv=>?_) (K8.trans (bL s9)) N9⟩;rw[zh.mp mv];have gm1:H9 m1=some (.tup [VS [109,111,114,101],V.int 0,V.int 0]):=s9 _ _ (k8 _ _ (s7 _ _ (s6 _ _ (g35 _ _ (k3 _ _ g2 fun m=>by rw[zh.mp m,gf2]at g2;cases g2)))) fun m=>by
    rw[zh.mp m,s1 _ _ (sG _ _ X.hh)]at f1;cases f1)
   have gm2:H9 m2=some (.tup [VS [109,111,114,101],V.int 0,V.int 0]):=s9 _ _ (k8 _ _ (s7 _ _ (s6 _ _ (s5 _ _ g4))) fun m=>by
    rw[zh.mp m,s03 _ _ X.hh]at f2;cases f2)
   exact⟨p4,f,p3,ws++[V.ref m1],ws++[V.ref m2],_++[([109,111,114,101],0,0)],rfl,(s05.trans s6).free f4,ff,s05.free f3,s9 _ _ gp4,s9 _ _ gf8,s9 _ _ gp3,aw9.snoc ⟨m1,rfl,gm1⟩,aw9.snoc ⟨m2,rfl,gm2⟩⟩
 obtain⟨u8,hu8,c8⟩:=c8;have c7:∃u,PSs (cJ (XE P w) P w K mg base ["_law_made","_law_currency","_law_day_here","_law_owns_here","_law_found","_law_below","_law_path","_law_row","_law_ahead","_law_own","_law_within","_law_copied"] "_law_told" (ak bw) fA WW A WX s H E) (ZE 7 (bh bw)) u/\∀(G:Hp) (out:List Pt) es (o:List (List Nat)) f ws w0 es0 bd ks x6 x7 x8 x9 x10,CV bs R cs g d H G out es o f ws->G w0=some (.dK (es0.map kyI))->DI ((zO bs d).map (fV R d g)) es0->G bd=some (.dK (ks.map kyI))->Bw ps (bwP (vlR ((res (rwU bs d) out).map (fV R d g)) (liP es) o)) ks->u { nx:=fun _ H'=>Q .non H',rt:=Q } [some (.ref mm),some (VS g),some (.int d),some (.ref w0),some (.ref f),some (.ref bd),x6,x7,x8,x9,x10,none] G:=by
  refine⟨_,(af (bY (by passes_own) rfl (bA K (fv 4)) (eT K (n:=3) rfl (bz (aK (i:=6) ND rfl (Wb rfl)) (bz (aK (i:=9) ND rfl (Wb rfl)) (bz (aK (i:=10) ND rfl (Wb rfl)) eU)))) (ah (bi (L2.PW.pt (gm (aX (fT K HU) (fv 9) (cR (Zz HU) (fv 3) (fv 6) ae ⟨rfl,rfl,rfl,rfl⟩)) (f8 (aX (fT K HU) (fv 10) (ai aP (fv 9) (aT (Zz HU) (fv 5) (fv 6) (fun _ _=>rfl))))))) (ah (aB iE)) aL)))
   hu8),fun G out es o f ws w0 es0 bd ks x6 x7 x8 x9 x10 CVh gw D0 gb B=>?_⟩
  obtain⟨sG,nG,ff,gf,po,oo,DD,pq,io,aw,far⟩:=CVh;walk_at "q";refine cf ?_;walk_at "q";refine cN (az gf) (cM (xs:=ws) (fun i σ' (F:Hp)=>WT G F/\WM F/\∃x6 x9 x10,σ'=[some (.ref mm),some (VS g),some (.int d),some (.ref w0),some (.ref f),some (.ref bd),x6,x7,x8,x9,x10,none]) ⟨WT.refl _,nG,x6,x9,x10,rfl⟩ (fun i σ' F _ h=>az (h.1 _ _ gf)) ?_ ?_)
  .rintro i x σ' F hx ⟨sF,nF,y6,y9,y10,rfl⟩
   refine bE (aw.at_ hx) fun v hv yz=>bE yz fun q yy1 hq=>?_;subst yy1;walk_at "q";refine⟨q,_,rfl,bF (sF _ _ hq),rfl,_,_,rfl,_,_,rfl,_,_,rfl,rfl,?_⟩;walk_at "q";rw[show vlR ((res (rwU bs d) out).map (fV R d g)) (liP es) o=o.map fun l=>(l,psm ((res (rwU bs d) out).map (fV R d g)) l,psm (liP es) l) from rfl,Wm]at hv;obtain⟨l,hl',rfl⟩:=sx.mp hv;have ml:=yo hl';have pq':=pq.trans X.pa;have mp:l∈ps:=pq'.mem_iff.mp ml;have eo:((fI es0 l).map (·.2)).getD 0=psm ((res (rwU bs d) out).map (fV R d g)) l:=by
    rw[D0.get];exact jW ((gG po.symm).map _) l
   have ew:psm (liP es) l=psm ((res (rwU bs d) out).map (fV R d g)) l+psm (bwP (vlR ((res (rwU bs d) out).map (fV R d g)) (liP es) o)) l:=by
    rw[DS,<- DD.psm];refine xM (pq'.nodup_iff.mpr X.tp.np) (fun z=>X.tp.ne (z ▸ mp)) fun e me=>?_;obtain⟨y,my,ey⟩:=DD.of e.1 (uO me);obtain⟨z,mz,rfl⟩:=yR.mp my;have me:e.1∈ps:=by rw[<- ey];exact X.rp z ((gG po).mem_iff.mp mz)
    obtain⟨k1,k2⟩:=X.tp.pk _ me;exact⟨k1,fun x mx=>pq'.mem_iff.mpr (k2 x mx)⟩
   have g1:=DGet.k (k:=.inr ⟨⟨l⟩⟩) (sF _ _ gw);have g2:=DGet.k (k:=.inr ⟨⟨l⟩⟩) (sF _ _ gb);rw[eE]at g1 g2;rw[B.get (.tail _ mp)]at g2;refine⟨.inl ⟨_,.inl (sF _ _ gw)⟩,_,g1,?_⟩;rw[qY,eo];walk_at "q";refine⟨_,_,rfl,g2,?_⟩;walk_at "q";exact itp ew ⟨sF,nF,_,_,_,rfl,rfl,rfl⟩
  .rintro σ' F ⟨sF,nF,y6,y9,y10,rfl⟩
   exact c8 F out es o f ws _ _ _ _ _ _ _ ⟨sG.trans sF,nF,ff,sF _ _ gf,po,oo,DD,pq,io,aw.imp fun _ _ _ _ z=>VrAt.mv _ _ _ _ (fun t l e=>sF _ _ e) z,far⟩
 obtain⟨u7,hu7,c7⟩:=c7;have c6:∃u,PSs (cJ (XE P w) P w K mg base ["_law_made","_law_currency","_law_day_here","_law_owns_here","_law_found","_law_below","_law_path","_law_row","_law_ahead","_law_own","_law_within","_law_copied"] "_law_told" (ak bw) fA WW A WX s H E) (ZE 6 (bh bw)) u/\∀(G:Hp) (out:List Pt) es (o:List (List Nat)) f ws w0 es0 bd ks x6,CV bs R cs g d H G out es o f ws->G w0=some (.dK (es0.map kyI))->DI ((zO bs d).map (fV R d g)) es0->H bd=none->w0≠bd->G bd=some (.dK (ks.map kyI))->Bw ps [] ks->u { nx:=fun _ H'=>Q .non H',rt:=Q } [some (.ref mm),some (VS g),some (.int d),some (.ref w0),some (.ref f),some (.ref bd),x6,none,none,none,none,none] G:=by
  refine⟨_,(af (bY (by passes_own) rfl (bA K (fv 4)) (aK (i:=7) ND rfl (Wb rfl)) (af (bi (L2.PW.pt (gm (bP (bM (aI (cr K) rfl T.bf aY (fa2 (fv 7) (dN (v:=.ty "tuple") rfl T.xG uv rfl))))) (gm (aX (fT K HU) (aI (cq K) rfl T.eJ de (fa1 (fv 7))) ae) (gm (bP (bM (aF (jv T) hr av (fa1 (aH K (fv 7) ae))))) (f8 (bP (bM (aF (jv T) hr av (fa1 (aH K (fv 7) ae)))))))))) (ah (aB iE)) aL)
   (af (aE 8 ND (cD K ZG PySem.F.slot_str_join PySem.F.type_str_join (oX K) (ay [58]) (fa1 (cU (iK K) (cD K ZG Xu Xv k9 (aH K (fv 7) ae) (fa1 (ay [58]))) dI (dQ (oQ jI ae))))))
   (ah (cj (Zz HU) (fv 5) (fv 8) (ai aP (aT (Zz HU) (fv 5) (fv 8) (fun _ _=>rfl)) (aH K (fv 7) ae)) rfl)))))
   hu7),fun G out es o f ws w0 es0 bd ks x6 CVh gw D0 fb wb gb B=>?_⟩
  obtain⟨sG,nG,ff,gf,po,oo,DD,pq,io,aw,far⟩:=CVh;walk_at "q";refine cf ?_;walk_at "q";refine cN (az gf) (cM (xs:=ws) (fun i σ' (F:Hp)=>WS [bd] G F/\WM F/\∃ks x7 x8,F bd=some (.dK (ks.map kyI))/\Bw ps (bwP ((vlR ((res (rwU bs d) out).map (fV R d g)) (liP es) o).take i)) ks/\σ'=[some (.ref mm),some (VS g),some (.int d),some (.ref w0),some (.ref f),some (.ref bd),x6,x7,x8,none,none,none]) ⟨WS.refl,nG,ks,none,none,gb,by rw[YO];exact B,rfl⟩ (fun i σ' F _ h=>az (h.1 _ _ gf fun m=>by rw[zh.mp m,gb]at gf;cases gf)) ?_ ?_)
  .rintro i x σ' F hx ⟨kF,nF,ks1,y7,y8,gbF,BF,rfl⟩
   refine bE (aw.at_ hx) fun v hv yz=>bE yz fun q yy1 hq=>?_;subst yy1;have hqF:=kF _ _ hq fun m=>by rw[zh.mp m,gb]at hq;cases hq
   walk_at "q";rw[show vlR ((res (rwU bs d) out).map (fV R d g)) (liP es) o=o.map fun l=>(l,psm ((res (rwU bs d) out).map (fV R d g)) l,psm (liP es) l) from rfl,Wm]at hv;refine bE (sx.mp hv) fun l hl' yy1=>?_;subst yy1;have ml:=yo hl';have mp:l∈ps:=(pq.trans X.pa).mem_iff.mp ml;obtain⟨lo,ln⟩:=X.tp.ok l mp;have ke:c0 F (.ref q)=some "tuple":=by simp[c0,hqF]
   simp only[ke];refine itn (by decide) ⟨_,.inr (bF hqF),itp rfl ⟨_,_,.inr (bF hqF),aO (j:=1) rfl,nF,?_⟩⟩;walk_at "q";refine⟨_,_,.inr (bF hqF),aO (j:=2) rfl,nF,?_⟩;walk_at "q";refine⟨_,_,.inr (bF hqF),aO (j:=0) rfl,rfl,?_⟩;walk_at "q";have sl:=kM 58 l;have s0:0<(spN 58 l).length:=Y4.mpr (iV 58 l);refine⟨by lia,fun p fp=>?_⟩;refine bQ (bv (o:=HO.lst ((spN 58 l).map VS)) fp nF rfl) fun F1 e1 s1 g1 N1=>?_;rw[e1];refine⟨p,_,rfl,az g1,fun q1 fq1=>?_⟩;refine bQ (bv (o:=HO.lst (fX ((spN 58 l).map VS) none (some (-1)))) fq1 N1 rfl) fun F2 e2 s2 g2 N2=>?_;rw[e2];refine⟨(spN 58 l).dropLast,az (by rw[g2,yt _ (by rw[zV];exact s0),List.map_dropLast]),uH (fun x hx=>by have:=(jc 58 l x (List.dropLast_subset _ hx)).1;lia) (by rw[List.length_dropLast];lia),?_⟩;have mr:raN l∈[]::ps:=X.tp.up l mp;have gb2:=s2 _ _ (s1 _ _ gbF);have hq2:=s2 _ _ (s1 _ _ hqF);have dg:=DGet.k (k:=.inr ⟨⟨raN l⟩⟩) gb2;rw[eE,BF.get mr]at dg;refine⟨_,_,rfl,dg,_,_,.inr (bF hq2),aO (j:=2) rfl,?_⟩;walk_at "q";refine fL (BF.put mr (psm (liP es) l)) fun ks2 ep B2 lk2=>?_;have lks:ks1.length<=21:=by rw[<- zV (f:=(·.1)),BF.ky,vZ];have:=X.tp.l20;lia
   refine⟨_,_,rfl,DPut.k (k:=.inr ⟨⟨raN l⟩⟩) gb2 (by rw[zV,ue];lia),(kF.trans (bL (s1.trans s2))).put (.head _),al N2 rfl,ks2,_,_,by rw[aa,<- ep],?_,rfl,rfl⟩;have hv':(vlR ((res (rwU bs d) out).map (fV R d g)) (liP es) o)[i]? = some (l,psm ((res (rwU bs d) out).map (fV R d g)) l,psm (liP es) l):=by
    show(o.map _)[i]? = _;rw[Wm,hl'];rfl
   rw[bO hv'];unfold bwP at B2 |-
   rw[yE];exact B2
  .rintro σ' F ⟨kF,nF,ks1,y7,y8,gbF,BF,rfl⟩
   have sF:WT H F:=WS.toSame sG kF fun c m=>by rw[zh.mp m];exact fb
   rw[aw.len,Zp]at BF;exact c7 F out es o f ws w0 es0 bd ks1 _ _ _ _ _ ⟨sF,nF,ff,kF _ _ gf fun m=>(by rw[zh.mp m,gb]at gf;cases gf),po,oo,DD,pq,io,aw.imp fun _ _ _ _ z=>VrAt.mv _ _ _ _ (fun t l e=>kF _ _ e fun m=>(by rw[zh.mp m,gb]at e;cases e)) z,far⟩ (kF _ _ gw fun m=>wb (zh.mp m)) D0 gbF BF
 obtain⟨u6,hu6,c6⟩:=c6;have c4:∃u,PSs (cJ (XE P w) P w K mg base ["_law_made","_law_currency","_law_day_here","_law_owns_here","_law_found","_law_below","_law_path","_law_row","_law_ahead","_law_own","_law_within","_law_copied"] "_law_told" (ak bw) fA WW A WX s H E) (ZE 4 (bh bw)) u/\∀(G:Hp) (out:List Pt) es (o:List (List Nat)) f ws w0 es0,CV bs R cs g d H G out es o f ws->G w0=some (.dK (es0.map kyI))->DI ((zO bs d).map (fV R d g)) es0->u { nx:=fun _ H'=>Q .non H',rt:=Q } [some (.ref mm),some (VS g),some (.int d),some (.ref w0),some (.ref f),none,none,none,none,none,none,none] G:=by
  refine⟨_,(af (aE 5 ND (uN (ay []) ae))
   (af (bY (by passes_own) rfl (bA K (aT (Zz HU) (fv 0) (ay [112,97,116,104,115]) (fun _ _=>rfl))) (aK (i:=6) ND rfl (Wb rfl)) (ah (cj (Zz HU) (fv 5) (fv 6) ae rfl)))
   hu6)),fun G out es o f ws w0 es0 CVh gw D0=>?_⟩
  obtain⟨sG,nG,ff,gf,po,oo,DD,pq,io,aw,far⟩:=CVh;walk_at "q";unfold AE;walk_at "q";intro bd fbd;refine bQ (bv (o:=HO.dK []) fbd nG rfl) fun G1 e1 s1 g1 N1=>?_;rw[e1];refine⟨g1,[(kwT [],.int 0)],rfl,(show 1<=15 by decide),?_⟩;refine bQ (BR (p:=bd) (o:=HO.dK (iC [] [(kwT [],V.int 0)])) N1 rfl) fun G3 e3 g3 k3 N3=>?_;rw[e3];have sG3:WT G G3:=WS.toSame s1 k3 fun c m=>(by rw[zh.mp m];exact fbd);have s03:=sG.trans sG3;have wb:w0≠bd:=fun z=>by rw[<- z,gw]at fbd;cases fbd
  refine cf ?_;walk_at "q";refine⟨mm,_,rfl,dgM (s03 _ _ X.hm) X.vp,?_⟩;have lp:=X.tp.l20;refine cN (az (s03 _ _ X.hp)) (cM (xs:=ps.map VS) (fun i σ' (F:Hp)=>WT G F/\WM F/\∃x6,F bd=some (.dK ((([]:List Nat)::ps.take i).map fun l=>kyI (l,0)))/\σ'=[some (.ref mm),some (VS g),some (.int d),some (.ref w0),some (.ref f),some (.ref bd),x6,none,none,none,none,none]) ⟨sG3,N3,none,g3,rfl⟩ (fun i σ' F _ h=>az (h.1 _ _ (sG _ _ X.hp))) ?_ ?_)
  .rintro i y σ' F hy ⟨sF,nF,x6,gF,rfl⟩
   rw[Wm]at hy;refine bE (sx.mp hy) fun l hl yy1=>?_;subst yy1;have li:i<ps.length:=(Wn.mp hl).1;walk_at "q";refine⟨bd,_,rfl,DPut.k (k:=.inr ⟨⟨l⟩⟩) gF (by rw[zV,vZ,Zv,ue];lia),?_⟩;have vn:bG ((([]:List Nat)::ps.take i).map fun l=>kyI (l,0)) (.inr ⟨⟨l⟩⟩)=none:=by
    have:=eE l ((([]:List Nat)::ps.take i).map fun l=>(l,(0:Int)));rw[vN]at this;refine this.trans ?_;cases ef:fI ((([]:List Nat)::ps.take i).map fun l=>(l,(0:Int))) l with
    |none=>rfl
    |some e=>
     obtain⟨m,ee⟩:=qZ ef;obtain⟨l',ml',rfl⟩:=yR.mp m;obtain h|h:=z9.mp ml'
     .have:l=[]:=Eq.trans ee.symm h
      exact VT (this ▸ yo hl) X.tp.ne
     .exact VT (ee ▸ h) (ug X.tp.np hl)
   rw[j8 _ vn];refine⟨fun c z e=>(ag fun q=>by rw[q,fbd]at e;cases e).trans (sF _ _ e),al nF rfl,_,?_,rfl⟩;rw[aa,bO hl];simp only[yH,yE,YS];rfl
  .rintro σ' F ⟨sF,nF,x6,gF,rfl⟩
   rw[zV,Zp]at gF;refine c6 F out es o f ws w0 es0 bd (([]::ps).map fun l=>(l,0)) x6 ⟨sG.trans sF,nF,ff,sF _ _ gf,po,oo,DD,pq,io,aw.imp fun _ _ _ _ z=>VrAt.mv _ _ _ _ (fun t l e=>sF _ _ e) z,far⟩ (sF _ _ gw) D0 (sG.free fbd) wb (by rw[vN];exact gF) ⟨by rw[vN];exact List.map_id _,fun e m=>?_⟩;obtain⟨l,_,rfl⟩:=yR.mp m
   rfl
 obtain⟨u4,hu4,c4⟩:=c4;have V0:=X.va H WS.refl;have c2:∃u,PSs (cJ (XE P w) P w K mg base ["_law_made","_law_currency","_law_day_here","_law_owns_here","_law_found","_law_below","_law_path","_law_row","_law_ahead","_law_own","_law_within","_law_copied"] "_law_told" (ak bw) fA WW A WX s H E) (ZE 2 (bh bw)) u/\∀(H1:Hp) w0 es0,WT H H1->WM H1->H w0=none->H1 w0=some (.dK (es0.map kyI))->DI ((zO bs d).map (fV R d g)) es0->(∀z∈zO bs d,∃n,Far (Lk R d) g n z.cu)->u { nx:=fun _ H'=>Q .non H',rt:=Q } [some (.ref mm),some (VS g),some (.int d),some (.ref w0),none,none,none,none,none,none,none,none] H1:=by
  refine⟨_,(af (aE 4 ND (aF (lD T) hr av (fa5 (aT (Zz HU) (fv 0) (ay [99,104,97,114,116]) (fun _ _=>rfl)) (aT (Zz HU) (fv 0) (ay [106,111,117,114,110,97,108]) (fun _ _=>rfl)) (aT (Zz HU) (fv 0) (ay [114,97,116,101,115]) (fun _ _=>rfl)) (fv 1) (fv 2))))
   (af (bi (L2.PW.pt (gm (bP (bM (aI (cr K) rfl T.bf aY (fa2 (fv 4) (dN (v:=.ty "list") rfl T.ra nL rfl))))) (f8 (aX (fT K HU) (cL rfl (cl:=_) (x:="_law_row") (xs:=["_law_row"]) (fr:=[]) (ks:=[]) (by walk_at "k") rfl (bA K (fv 4)) (fun _ _ _ _ _=>(aK (i:=0) (d_ (l:=["_law_row"]) (by decide)) rfl (Wb rfl))) (fun _ _ _ _ _=>eR) (fun _ _ _ _ _=>(aH K (fv 0) ae))) (aI (Bf K) rfl T.jU i5 (fa1 (aT (Zz HU) (fv 0) (ay [112,97,116,104,115]) (fun _ _=>rfl)))))))) (ah (aB iE)) aL)
   hu4)),fun H1 w0 es0 s1 N1 fw gw DD0 far=>?_⟩
  walk_at "q";have X1:=s1 _ _ X.hm;refine⟨mm,_,rfl,dgM X1 X.vc,mm,_,rfl,dgM X1 X.vj,mm,_,rfl,dgM X1 X.vr,N1,.inl ⟨bs,R,Cs,cs,X.va H1 (bL s1),fun out po oo no H2 s2 N2=>?_,fun out es o2 p ws H2 po oo far2 DD pq io fp gp ap s2 N2=>?_⟩⟩
  .obtain⟨z,mz,nz⟩:=no
   obtain⟨n,yes⟩:=far z ((gG po).mem_iff.mp mz);exact VT yes (nz n)
  .have ke:c0 H2 (.ref p)=some "list":=by simp[c0,gp]
   simp only[ke];have lp2:=pq.length_eq;rw[zV]at lp2;have c64:=V0.c64;have lw:ws.length=o2.length:=by rw[ap.len];exact zV _
   have s02:=s1.trans s2;have pq':=pq.trans X.pa;refine itn (by decide) (ER p ws _ (VrAt H2) (fun _=>true) (fun _ b=>VS b.1) (fun k z=>z) gp ap (by lia) (fun v b mb r F k sF z=>z) (fun v b mb r _ F k sF z=>?_) fun D ws1 fD a1=>?_)
   .obtain⟨q,rfl,hq⟩:=r
    walk_at "q";exact⟨_,_,.inr (bF (sF _ _ hq)),aO (j:=0) rfl,z⟩
   .have e1:ws1=o2.map VS:=by
     rw[Z5.mpr (fun _ _=>rfl)]at a1;unfold vlR at a1;have:∀ {ys:List V} {o:List (List Nat)} {f:List Nat->Vr},(∀l,(f l).1=l)->A2 (fun y b=>∃v,VrAt H2 v b/\y=VS b.1) ys (o.map f)->ys=o.map VS:=fun {ys o f} hf h=>by
      induction o generalizing ys with
      |nil=>cases h;rfl
      |cons x o ih=>
       cases h with
       |cons h1 h2=>
        obtain⟨_,_,e⟩:=h1;rw[ih h2,e,hf];rfl
     exact this (fun _=>rfl) a1
    rw[e1];have sD:=aj (HO.lst (o2.map VS)) fD;walk_at "q";refine⟨mm,_,rfl,dgM ((s02.trans sD) _ _ X.hm) X.vp,?_⟩;walk_at "q";refine⟨ps,az ((s02.trans sD) _ _ X.hp),by have:=X.tp.l20;lia,fun o3 p3 i3 l fl=>?_⟩;have e3:o3=o2:=CB i3 io (p3.nodup_iff.mpr X.tp.np) (pq'.nodup_iff.mpr X.tp.np) fun c=>(p3.trans pq'.symm).mem_iff;rw[e3];walk_at "q";have sl:=aj (HO.lst (o2.map VS)) fl;have sDl:=sD.trans sl;refine⟨true,EqR.flatL (az (sl _ _ aa)) (az aa) (by rw[List.all_map];exact Zk.mpr fun _ _=>rfl),itn (by decide) ?_⟩;exact c4 _ out es o2 p ws w0 es0 ⟨s02.trans sDl,al (al N2 rfl) rfl,s1.free fp,sDl _ _ gp,po,oo,DD,pq,io,ap.imp fun _ _ _ _ z=>VrAt.mv _ _ _ _ (fun t l e=>sDl _ _ e) z,far2⟩ ((s2.trans sDl) _ _ gw) DD0
 obtain⟨u2,hu2,c2⟩:=c2;have c1:∃u,PSs (cJ (XE P w) P w K mg base ["_law_made","_law_currency","_law_day_here","_law_owns_here","_law_found","_law_below","_law_path","_law_row","_law_ahead","_law_own","_law_within","_law_copied"] "_law_told" (ak bw) fA WW A WX s H E) (ZE 1 (bh bw)) u/\(∀H1:Hp,WT H H1->WM H1->(∃z∈zO bs d,∀n,¬ Far (Lk R d) g n z.cu)->u { nx:=fun _ H'=>Q .non H',rt:=Q } [some (.ref mm),some (VS g),some (.int d),some .non,none,none,none,none,none,none,none,none] H1)/\∀(H1:Hp) w0,u2 { nx:=fun _ H'=>Q .non H',rt:=Q } [some (.ref mm),some (VS g),some (.int d),some (.ref w0),none,none,none,none,none,none,none,none] H1->u { nx:=fun _ H'=>Q .non H',rt:=Q } [some (.ref mm),some (VS g),some (.int d),some (.ref w0),none,none,none,none,none,none,none,none] H1:=by
  refine⟨_,(af (bi (gZ (sH (fv 3))) (ah (aB (dl (bS K HU) (aF (ig T) hr av (fa5 (aT (Zz HU) (fv 0) (ay [99,104,97,114,116]) (fun _ _=>rfl)) (aT (Zz HU) (fv 0) (ay [106,111,117,114,110,97,108]) (fun _ _=>rfl)) (aT (Zz HU) (fv 0) (ay [114,97,116,101,115]) (fun _ _=>rfl)) (fv 1) (fv 2))) (ay [114,97,116,101]) (dY _)))) aL)
   hu2),fun H1 s1 N1 no=>?_,fun H1 w0 k1=>?_⟩
  rotate_left 1
  .walk_at "q"
   exact itn (fun z=>nomatch z) k1
  walk_at "q";have X1:=s1 _ _ X.hm;refine⟨mm,_,rfl,dgM X1 X.vc,mm,_,rfl,dgM X1 X.vj,mm,_,rfl,dgM X1 X.vr,N1,.inl ⟨bs,R,Cs,cs,X.va H1 (bL s1),fun out po oo=>?_,fun H2 s2 N2=>?_⟩⟩
  .obtain⟨z,mz,nz⟩:=no
   exact⟨z,(gG po.symm).mem_iff.mp mz,nz⟩
  .rw[show decide (wds.getD 2 []=[114,97,116,101])=true from rfl]
   exact k [] H2 (tB _) (by rw[Za];exact(s1.trans s2) _ _ X.hh) (fun _ m=>nomatch m) (bL (s1.trans s2)) N2
 obtain⟨u1,hu1,c1,c1'⟩:=c1;refine⟨_,(af (aE 3 ND (aF (sK T) hr av (fa4 (aT (Zz HU) (fv 0) (ay [114,97,116,101,115]) (fun _ _=>rfl)) (aT (Zz HU) (fv 0) (ay [98,111,111,107,101,100]) (fun _ _=>rfl)) (fv 1) (fv 2))))
  hu1),?_⟩
 walk_at "q";refine⟨mm,_,rfl,dgM X.hm X.vr,mm,_,rfl,dgM X.hm X.vb,?_⟩;walk_at "q";exact⟨hN,bvs,bs,R,Cs,X.hb,X.ab H WS.refl,V0.l8,V0.l7,fun z m=>(V0.zk _ (.refl _) z m).1,V0.rr,V0.gC,V0.cg,V0.hd,fun no H1 s1 N1=>c1 H1 s1 N1 no,fun es0 w0 H1 far DD0 fw gw s1 N1=>c1' H1 w0 (c2 H1 w0 es0 s1 N1 fw gw DD0 far)⟩
structure Wd where
 mm:WH
 pc:WH
 j:WH
 r:WH
 b:WH
 bk:WH
 pp:WH
 hl:WH
 dd:WH
 jb:WH
 ju:WH
 cp:WH
noncomputable def S3(W:Wd):List WH:=[W.hl,W.bk,W.jb]
noncomputable def mdV(W:Wd):List (Key × V):=[(kwT lT,.ref W.pc),(kwT j7,.ref W.j),(kwT rZ,.ref W.r),(kwT fP,.ref W.bk),(kwT oV,.ref W.hl),(kwT lM,.ref W.pp)]
def BdS(W:Wd)(H:Hp)(v:V)(b:Bo):Prop:=∃q t vs,v = .ref q/\H q=some (.tup [.int b.d,.ref t])/\H t=some (.lst vs)/\t∉S3 W/\A2 (WR H) vs b.rs
def HeS(W:Wd)(H:Hp)(v:V):Prop:=∃q f c us ws xs,v = .ref q/\q∉S3 W/\f∉S3 W/\c∉S3 W/\H q=some (.lst [.ref f,.ref c])/\H f=some (.lst us)/\H c=some (.lst ws)/\A2 (VrAt H) us xs/\A2 (VrAt H) ws xs
structure LC(a:Adr)(W:Wd)(ps cu:List (List Nat))(cs:List Acc)(R:List Qr)(Wf:WH->Prop)(n:Nat)(G:Hp):Prop where
 hm:G W.mm=some (.dK (mdV W))
 ch:CAt a.a7 a.aN G W.pc W.dd cs
 cb:∀c∈cs,c.bl∉S3 W
 rs:∃WU,RS a.aM G W.r W.b WU R Wf
 hp:G W.pp=some (.lst (ps.map VS))
 np:W.pp∉S3 W
 hc:G W.cp=some (.lst (cu.map VS))
 nc:W.cp∉S3 W
 ok:Rows R cu
 len:R.length<=n
 nw:¬ Wf W.mm /\ ¬ Wf W.dd /\ ¬ Wf W.ju
 tp:TP ps
 o6:∀p∈ps,pOk p
 pa:(cs.map (·.pa)).Perm ps
 c64:cs.length<64
 c4:cu.length=4
 cn:cu.Nodup
 cc:∀l∈cu,cur l=true
def LC.mv{W:Wd}{ps cu:List (List Nat)}{cs:List Acc}{R:List Qr}{Wf:WH->Prop}{n:Nat}{G G':Hp}(C:LC a W ps cu cs R Wf n G)(t:LW (S3 W) G)(k:∀c o,G c=some o->c∉S3 W->c≠W.b->G' c=some o)(rd:∀WU,Rd G W.b (.dT WU)->Rd G' W.b (.dT WU)):LC a W ps cu cs R Wf n G':=by
 obtain⟨WU,hr⟩:=C.rs;obtain⟨_,_,_,_,hB,_⟩:=hr.ex;have nb:∀ {c o},G c=some o->dw o=true->(∀x u,o ≠ .frz x u)->c≠W.b:=fun e n nf=>Wc (uw hB.at_ e n nf);refine⟨k _ _ C.hm (t.no C.hm (by intro _ z;cases z)) (nb C.hm rfl (by intro _ _ z;cases z)),⟨?_,?_,fun c m=>⟨?_,?_⟩,C.ch.np,C.ch.na,C.ch.nb⟩,C.cb,⟨WU,hr.mv (rd _ hB.at_) fun p o e ne h=>k _ _ e (fun m=>?_) ne⟩,k _ _ C.hp C.np (nb C.hp rfl (by intro _ _ z;cases z)),C.np,k _ _ C.hc C.nc (nb C.hc rfl (by intro _ _ z;cases z)),C.nc,C.ok,C.len,C.nw,C.tp,C.o6,C.pa,C.c64,C.c4,C.cn,C.cc⟩
 .obtain⟨dx,e⟩:=C.ch.ob
  exact⟨dx,k _ _ e (t.no e (by intro _ z;cases z)) (nb e rfl (by intro _ _ z;cases z))⟩
 .exact k _ _ C.ch.dc (t.no C.ch.dc (by intro _ z;cases z)) (nb C.ch.dc rfl (by intro _ _ z;cases z))
 .obtain⟨dx,e⟩:=(C.ch.ac c m).ob
  exact⟨dx,k _ _ e (t.no e (by intro _ z;cases z)) (nb e rfl (by intro _ _ z;cases z))⟩
 .exact k _ _ (C.ch.ac c m).ls (C.cb c m) (nb (C.ch.ac c m).ls rfl (by intro _ _ z;cases z))
 .obtain⟨l,e'⟩:=t p m
  obtain h|h|⟨l',h⟩:=h
  .exact hr.nw e' (by intro _ z;cases z) (by intro _ z;cases z) (by intro _ _ z;cases z) h
  .obtain⟨dx,_,_,e2,_⟩:=hr.ex
   rw[h,e2]at e';cases e'
  .rw[e,h]at e';cases e'
structure LS(a:Adr)(W:Wd)(ps cu:List (List Nat))(cs:List Acc)(R:List Qr)(Wf:WH->Prop)(n:Nat)(vs:List V)(bj:List Bo)(bvs:List V)(bb:List Bo)(hvs:List V)(G:Hp):Prop where
 c:LC a W ps cu cs R Wf n G
 jr:∃WU,JAt a.bg G W.j W.jb W.ju vs WU/\WU.length<=100
 bk:A2 (BkAt G) vs bj
 hb:G W.bk=some (.lst bvs)
 bd:A2 (BdS W G) bvs bb
 hh:G W.hl=some (.lst hvs)
 he:∀v∈hvs,HeS W G v
 ne:W.hl≠W.bk/\W.hl≠W.jb/\W.bk≠W.jb
section
variable{W:Wd}{ps cu:List (List Nat)}{cs:List Acc}{R:List Qr}{Wf:WH->Prop}{n:Nat}{vs:List V}{bj:List Bo}{bvs:List V}{bb:List Bo}{hvs:List V}{G G':Hp}
def LS.lw(L:LS a W ps cu cs R Wf n vs bj bvs bb hvs G):LW (S3 W) G:=fun s m=>by
 obtain⟨WU,J,_⟩:=L.jr;simp only[S3,z9,yW,or_false]at m;obtain rfl|rfl|rfl:=m
 .exact⟨_,L.hh⟩
 .exact⟨_,L.hb⟩
 .exact⟨_,J.ls⟩
def Bv{H H':Hp}{W:Wd}{vs:List V}{bs:List Bo}(h:A2 (BdS W H) vs bs)(t:∀c l,H c=some (.tup l)->H' c=some (.tup l))(l:∀c l,H c=some (.lst l)->c∉S3 W->H' c=some (.lst l)):A2 (BdS W H') vs bs:=h.imp fun _ _ _ _ z=>by
 obtain⟨q,tt,us,e,h1,h2,n,h3⟩:=z;exact⟨q,tt,us,e,t _ _ h1,l _ _ h2 n,n,h3.imp fun _ _ _ _ z=>WR.mv _ _ _ _ t z⟩
def EX{H H':Hp}{W:Wd}{v:V}(h:HeS W H v)(t:∀c l,H c=some (.tup l)->H' c=some (.tup l))(l:∀c l,H c=some (.lst l)->c∉S3 W->H' c=some (.lst l)):HeS W H' v:=by
 obtain⟨q,f,c,us,ws,xs,e,n1,n2,n3,h1,h2,h3,h4,h5⟩:=h;exact⟨q,f,c,us,ws,xs,e,n1,n2,n3,l _ _ h1 n1,l _ _ h2 n2,l _ _ h3 n3,h4.imp fun _ _ _ _ z=>VrAt.mv _ _ _ _ t z,h5.imp fun _ _ _ _ z=>VrAt.mv _ _ _ _ t z⟩
def Cl{H H':Hp}{v:V}{b:Bo}(t:∀c l,H c=some (.tup l)->H' c=some (.tup l))(h:BkAt H v b):BkAt H' v b:=by
 obtain⟨q,tt,us,nt,e,h1,h2,h3⟩:=h;exact⟨q,tt,us,nt,e,t _ _ h1,t _ _ h2,h3.imp fun _ _ _ _ z=>WR.mv _ _ _ _ t z⟩
def LS.chg{vs':List V}{bvs' hvs':List V}(L:LS a W ps cu cs R Wf n vs bj bvs bb hvs G)(k:∀c o,G c=some o->c∉S3 W->c≠W.b->G' c=some o)(rd:∀WU,Rd G W.b (.dT WU)->Rd G' W.b (.dT WU))(h1:G' W.jb=some (.lst vs'))(h2:G' W.bk=some (.lst bvs'))(h3:G' W.hl=some (.lst hvs')) :
 LC a W ps cu cs R Wf n G'/\(∃WU,JAt a.bg G' W.j W.jb W.ju vs' WU/\WU.length<=100)/\A2 (BkAt G') vs bj/\A2 (BdS W G') bvs bb/\(∀v∈hvs,HeS W G' v)/\∀t l,G t=some (.tup l)->G' t=some (.tup l):=by
 obtain⟨kv0,hr⟩:=L.c.rs;refine IA hr.ex fun _ _ _ _ hB _=>?_;have nb:∀ {c o},G c=some o->dw o=true->(∀x u,o ≠ .frz x u)->c≠W.b:=fun e n nf=>Wc (uw hB.at_ e n nf);have t:=L.lw;have tk:∀c l,G c=some (.tup l)->G' c=some (.tup l):=fun c l e=>k _ _ e (t.tup e) (nb e rfl (by intro _ _ z;cases z));have lk:∀c l,G c=some (.lst l)->c∉S3 W->G' c=some (.lst l):=fun c l e m=>k _ _ e m (nb e rfl (by intro _ _ z;cases z));obtain⟨WU,J,l1⟩:=L.jr;refine⟨L.c.mv t k rd,⟨WU,⟨?_,h1,k _ _ J.dc (t.no J.dc (by intro _ z;cases z)) (nb J.dc rfl (by intro _ _ z;cases z))⟩,l1⟩,L.bk.imp fun _ _ _ _ z=>Cl tk z,Bv L.bd tk lk,fun v m=>EX (L.he v m) tk lk,tk⟩;obtain⟨dx,e⟩:=J.ob;exact⟨dx,k _ _ e (t.no e (by intro _ z;cases z)) (nb e rfl (by intro _ _ z;cases z))⟩
def LS.same(L:LS a W ps cu cs R Wf n vs bj bvs bb hvs G)(s:WT G G'):LS a W ps cu cs R Wf n vs bj bvs bb hvs G':=by
 obtain⟨WU,J,_⟩:=L.jr;obtain⟨h1,h2,h3,h4,h5,_⟩:=L.chg (fun c o e _ _=>s _ _ e) (fun WU r=>nI r s) (s _ _ J.ls) (s _ _ L.hb) (s _ _ L.hh);exact⟨h1,h2,h3,s _ _ L.hb,h4,s _ _ L.hh,h5,L.ne⟩
def LS.bne(L:LS a W ps cu cs R Wf n vs bj bvs bb hvs G){c:WH}{o:HO}(e:G c=some o)(n:dw o=true)(nf:∀x u,o ≠ .frz x u):c≠W.b:=by
 obtain⟨kv0,hr⟩:=L.c.rs;obtain⟨_,_,_,_,hB,_⟩:=hr.ex;exact Wc (uw hB.at_ e n nf)
def LS.frz(L:LS a W ps cu cs R Wf n vs bj bvs bb hvs G)(k:∀c,c≠W.b->G' c=G c)(rd:∀WU,Rd G W.b (.dT WU)->Rd G' W.b (.dT WU)):LS a W ps cu cs R Wf n vs bj bvs bb hvs G':=by
 obtain⟨WU,J,_⟩:=L.jr;have g1:=(k _ (L.bne J.ls rfl (by intro _ _ z;cases z))).trans J.ls;have g2:=(k _ (L.bne L.hb rfl (by intro _ _ z;cases z))).trans L.hb;have g3:=(k _ (L.bne L.hh rfl (by intro _ _ z;cases z))).trans L.hh;obtain⟨h1,h2,h3,h4,h5,_⟩:=L.chg (fun c o e _ n=>(k c n).trans e) rd g1 g2 g3;exact⟨h1,h2,h3,g2,h4,g3,h5,L.ne⟩
def LS.hld(L:LS a W ps cu cs R Wf n vs bj bvs bb hvs G)(x:WS [W.hl] G G')(rd:∀WU,Rd G W.b (.dT WU)->Rd G' W.b (.dT WU)){more:List V}(g:G' W.hl=some (.lst (hvs++more)))(m:∀v∈more,HeS W G' v):LS a W ps cu cs R Wf n vs bj bvs bb (hvs++more) G':=by
 obtain⟨WU,J,_⟩:=L.jr;obtain⟨n1,n2,n3⟩:=L.ne;have g1:=x _ _ J.ls fun m=>n2 (zh.mp m).symm;have g2:=x _ _ L.hb fun m=>n1 (zh.mp m).symm;obtain⟨h1,h2,h3,h4,h5,_⟩:=L.chg (fun c o e n _=>x _ _ e fun m=>n (by rw[zh.mp m];exact .head _)) rd g1 g2 g;refine⟨h1,h2,h3,g2,h4,g,fun v mv=>?_,L.ne⟩;obtain mv|mv:=yy.mp mv
 .exact h5 v mv
 .exact m v mv
end
def BsOk(ps cu:List (List Nat))(bs:List Bo):Prop:=bs.length<=3/\∀b∈bs,b.rs.length<=5/\∀r∈b.rs,rwD ps cu r
theorem E9{B:Nat}{k:Pt}:∀ {rs:List Row},(∀r∈rs,r.am.natAbs<=B)->(sm rs k).natAbs<=rs.length*B
 | [],_=>tB _
 |r::rs,h=>by
  have ih:=E9 (k:=k) fun x m=>h x (.tail _ m);have h1:=h r (.head _);have h2:(sm (r::rs) k)=(if (r.pa,r.cu)=k then r.am else 0)+sm rs k:=rfl;have h3:(sm (r::rs) k).natAbs<=B+rs.length*B:=by
   rw[h2];refine wG (Int.natAbs_add_le _ _) (Nat.add_le_add ?_ ih);split
   .exact h1
   .exact tB _
  rw[vZ,Nat.succ_mul,Nat.add_comm];exact h3
def BsOk.rows{ps cu:List (List Nat)}{bs:List Bo}(h:BsOk ps cu bs)(d:Int):(rwU bs d).length<=15/\∀r∈rwU bs d,rwD ps cu r:=by
 have lf:=Zb (fun b:Bo=>decide (b.d<=d)) bs;have h1:=h.1;refine⟨?_,fun r m=>?_⟩
 .have:∀ {l:List Bo},(∀b∈l,b.rs.length<=5)->(l.flatMap (·.rs)).length<=5*l.length:=fun {l} hl=>by
   induction l with
   |nil=>exact zK _
   |cons x l ih=>
    have h2:=hl x (.head _);have h3:=ih fun y m=>hl y (.tail _ m);rw[Ye,zA,vZ];lia
  have h4:=this (l:=bs.filter fun b=>decide (b.d<=d)) fun b m=>(h.2 b (Zn.mp m).1).1;lia
 .obtain⟨b,mb,mr⟩:=XU.mp m
  exact(h.2 b (Zn.mp mb).1).2 r mr
def BsOk.res{ps cu:List (List Nat)}{bs:List Bo}(h:BsOk ps cu bs){d:Int}{out:List Pt}(po:out.Perm ((dk (rwU bs d)).map (·.1))){z:Row}(m:z∈K19.res (rwU bs d) out):z.pa∈ps/\z.cu∈cu/\z.am.natAbs<=10 ^ 18:=by
 obtain⟨h1,h2⟩:=h.rows d;obtain⟨k,mk,rfl⟩:=yR.mp m;have mk':=po.mem_iff.mp (Zn.mp mk).1;obtain⟨r,mr,rfl⟩:=(mH (rwU bs d)).2.1 k mk';obtain⟨r1,r2,_⟩:=h2 r mr;refine⟨r1,r2,?_⟩;show(K19.val _ _).natAbs<=_;rw[Fv];refine wG (E9 fun x mx=>(h2 x mx).2.2) ?_;exact wG (Nat.mul_le_mul_right _ h1) (by decide)
def LS.td{W:Wd}{ps cu:List (List Nat)}{cs:List Acc}{R:List Qr}{Wf:WH->Prop}{n:Nat}{vs bvs hvs:List V}{bs:List Bo}{G:Hp}(L:LS a W ps cu cs R Wf n vs bs bvs bs hvs G)(B:BsOk ps cu bs)(hn:n<=20){g:List Nat}(gC:g∈cu){d:Int}(hd:0<=d/\d<=146096)(l60:hvs.length<=60) :
 TD a G W.mm W.pc W.j W.r W.bk W.pp W.hl (mdV W) bs R cu cs ps bvs hvs g d:=by
 have lw:=L.lw;have mk:∀ {H'},WS [W.hl] G H'->∀c o,G c=some o->c∉S3 W->c≠W.b->H' c=some o:=fun x c o e n _=>x _ _ e fun m=>n (by rw[zh.mp m];exact .head _);obtain⟨kv0,hr⟩:=L.c.rs;obtain⟨_,_,_,_,hB,_⟩:=hr.ex;have rk:∀ {H'},WS [W.hl] G H'->∀WU,Rd G W.b (.dT WU)->Rd H' W.b (.dT WU):=fun x WU r=>by
  obtain r|⟨o,r⟩:=r
  .exact .inl (x _ _ r fun m=>by rw[zh.mp m,L.hh]at r;cases r)
  .exact .inr ⟨o,x _ _ r fun m=>by rw[zh.mp m,L.hh]at r;cases r⟩
 have tk:∀ {H'},WS [W.hl] G H'->∀c l,G c=some (.tup l)->H' c=some (.tup l):=fun x c l e=>x _ _ e fun m=>by rw[zh.mp m,L.hh]at e;cases e
 have le:=L.c.len;refine⟨L.c.hm,rfl,rfl,rfl,rfl,rfl,rfl,fun H' x=>?_,L.hb,fun H' x=>?_,L.c.hp,L.c.pa,L.c.tp,fun z m=>(B.res (.refl _) m).1,L.hh,l60,Wc L.ne.1,fun z=>L.c.np (by rw[z];exact .head _)⟩
 .have C:=L.c.mv lw (mk x) (rk x)
  obtain⟨WU,J,_⟩:=L.jr;obtain⟨kv1,hr1⟩:=C.rs;refine⟨⟨_,C.ch⟩,C.c64,⟨_,_,_,_,⟨?_,x _ _ J.ls fun m=>L.ne.2.1 (zh.mp m).symm,x _ _ J.dc fun m=>?_⟩,L.bk.imp fun _ _ _ _ z=>Cl (tk x) z⟩,by have:=B.1;lia,fun b m=>by have:=(B.2 b m).1;lia,fun out po z m=>?_,⟨⟨_,_,_,hr1⟩,by lia,C.ok,by rw[C.c4];exact zK _⟩,gC,C.cc g gC,hd⟩
  .obtain⟨dx,e⟩:=J.ob
   exact⟨dx,x _ _ e fun m=>by rw[zh.mp m,L.hh]at e;cases e⟩
  .have e:=J.dc
   rw[zh.mp m,L.hh]at e;cases e
  .obtain⟨z1,z2,z3⟩:=B.res po m
   exact⟨⟨C.cc _ z2,z3⟩,C.o6 _ z1⟩
 .refine L.bd.imp fun _ _ _ _ z=>?_
  obtain⟨q,t,us,e,h1,h2,nt,h3⟩:=z;exact⟨q,t,us,e,tk x _ _ h1,x _ _ h2 fun m=>nt (by rw[zh.mp m];exact .head _),h3.imp fun _ _ _ _ z=>WR.mv _ _ _ _ (tk x) z⟩
def ScAt(K:Ws)(sc:WH)(sv:Option (Obj × List V))(ns:List Int)(G:Hp):Prop:=(∀x,sv=some x->G sc=some (.frz x.1 (.lst x.2)))/\∀F:Hp,(∀x,sv=some x->F sc=some (.frz x.1 (.lst x.2)))->SqL K F sc (ns.map V.int)
def ScAt.sq{K:Ws}{sc:WH}{sv:Option (Obj × List V)}{ns:List Int}{G:Hp}(h:ScAt K sc sv ns G):SqL K G sc (ns.map V.int):=h.2 G h.1
def ScAt.mv{K:Ws}{sc:WH}{sv:Option (Obj × List V)}{ns:List Int}{G G':Hp}(h:ScAt K sc sv ns G)(k:∀c o xs,G c=some (.frz o (.lst xs))->G' c=some (.frz o (.lst xs))):ScAt K sc sv ns G':=⟨fun x e=>k _ _ _ (h.1 x e),h.2⟩
def q23:((0:Int)<=0/\(0:Int)<=146096)/\((1:Int)<=2/\(2:Int)<=1000000000)/\(1:Int)<=3/\(3:Int)<=1000000000:=by decide
def KnL(G:Hp)(v:V):Prop:=∀F:Hp,(∀p xs,G p=some (.lst xs)->F p=some (.lst xs))->∃t,c0 F v=some t
def B_{G:Hp}{v:V}(h:cY v=true):KnL G v:=fun F _=>by
 cases v with
 |non=>exact⟨_,rfl⟩
 |bl=>exact⟨_,rfl⟩
 |int=>exact⟨_,rfl⟩
 |str=>exact⟨_,rfl⟩
 |_=>cases h
def KnL.mv{G G':Hp}{v:V}(h:KnL G v)(k:∀p xs,G p=some (.lst xs)->G' p=some (.lst xs)):KnL G' v:=fun F hF=>h F fun p xs e=>hF p xs (k p xs e)
def xO{B:V->Prop}{xs:List V}{H H1:Hp}{Q:VK}{i:Int}(hN:WM H)(h0:0<=i)(h1:i<xs.length)(h:∀v∈xs,(cY v=true/\B v)\/∃p ys,v = .ref p/\H p=none/\H1 p=some (.lst ys))(k:∀v H',WT H H'->WM H'->KnL H' v->(B v\/∃p,v = .ref p)->Q v H'):gW xs H H1 Q (.int i):=by
 obtain⟨j,rfl⟩:∃j:Nat,i=j:=⟨i.toNat,by lia⟩;have hj:j<xs.length:=by lia
 have e:atI xs (j:Int)=some xs[j]:=aO (Wl hj);obtain⟨f,o⟩|⟨p,ys,ev,hp,ho⟩:=h _ (List.getElem_mem hj)
 .have q:=k _ H (WT.refl _) hN (B_ f) (.inl o)
  unfold gW;simp only[e];split
  .rename_i q' e'
   injection e' with e'
   rw[e']at f;cases f
  .rename_i v _ e'
   injection e' with e'
   rw[e']at q;exact q
  .rename_i e';cases e'
 .rw[ev]at e
  refine B6 e hp ho rfl (k _ _ (aj _ hp) (al hN rfl) (fun F hF=>⟨"list",?_⟩) (.inr ⟨p,rfl⟩));have:=hF p ys aa;simp[c0,this]
def Ky{W:Wd}{G:Hp}{WU:List (List Key × V)}(hb:G W.b=some (.dT WU))(o:Obj):∀kvs',Rd G W.b (.dT kvs')->Rd (upd G W.b (.frz o (.dT WU))) W.b (.dT kvs'):=fun kvs' r=>by
 obtain r|⟨_,r⟩:=r
 .rw[hb]at r;cases r;exact .inr ⟨o,aa⟩
 .rw[hb]at r;cases r
section
variable{W:Wd}{ps cu:List (List Nat)}{cs:List Acc}{R:List Qr}{Wf:WH->Prop}{n:Nat}{vs bvs hvs:List V}{bj bb:List Bo}{G H':Hp}{WU:List (List Key × V)}{o:Obj}
def LS.hs(L:LS a W ps cu cs R Wf n vs bj bvs bb hvs G)(hb:G W.b=some (.dT WU))(o:Obj):LS a W ps cu cs R Wf n vs bj bvs bb hvs (upd G W.b (.frz o (.dT WU))):=L.frz (fun c ne=>ag ne) (Ky hb o)
def LS.go(L:LS a W ps cu cs R Wf n vs bj bvs bb hvs G)(hb:G W.b=some (.frz o (.dT WU))):LS a W ps cu cs R Wf n vs bj bvs bb hvs (upd G W.b (.dT WU)):=L.frz (fun c ne=>ag ne) fun kvs' r=>by
 obtain r|⟨_,r⟩:=r
 .rw[hb]at r;cases r
 .rw[hb]at r;cases r;exact .inl aa
def LS.le(L:LS a W ps cu cs R Wf n vs bj bvs bb hvs G){n':Nat}(h:n<=n'):LS a W ps cu cs R Wf n' vs bj bvs bb hvs G:=by
 have C:=L.c;exact⟨⟨C.hm,C.ch,C.cb,C.rs,C.hp,C.np,C.hc,C.nc,C.ok,wG C.len h,C.nw,C.tp,C.o6,C.pa,C.c64,C.c4,C.cn,C.cc⟩,L.jr,L.bk,L.hb,L.bd,L.hh,L.he,L.ne⟩
def LS.qt{G2:Hp}{r:Qr}{kvs2:List (List Key × V)}{W2:WH->Prop}(L:LS a W ps cu cs R Wf n vs bj bvs bb hvs G)(R2:RS a.aM G2 W.r W.b kvs2 (R++[r]) W2)(fW:∀p,W2 p->Wf p\/G p=none)(K2:Kp Wf G G2)(ro:Rows (R++[r]) cu):LS a W ps cu cs (R++[r]) W2 (n+1) vs bj bvs bb hvs G2:=by
 obtain⟨kv0,hr⟩:=L.c.rs;have k:∀ {c o},G c=some o->(∀m,o ≠ .dK m)->(∀m,o ≠ .dT m)->(∀x u,o ≠ .frz x u)->G2 c=some o:=fun e n1 n2 n3=>K2 _ _ e (hr.nw e n1 n2 n3);have kl:∀c l,G c=some (.lst l)->G2 c=some (.lst l):=fun c l e=>k e (by intro _ z;cases z) (by intro _ z;cases z) (by intro _ _ z;cases z);have kt:∀c l,G c=some (.tup l)->G2 c=some (.tup l):=fun c l e=>k e (by intro _ z;cases z) (by intro _ z;cases z) (by intro _ _ z;cases z);have C:=L.c;obtain⟨n1,n2,n3⟩:=C.nw;obtain⟨WU,J,lk⟩:=L.jr;have nn:∀ {c o},G c=some o -> ¬ Wf c -> ¬ W2 c:=fun e n h=>(fW _ h).elim n fun z=>by rw[z]at e;cases e
 refine⟨⟨K2 _ _ C.hm n1,⟨?_,K2 _ _ C.ch.dc n2,fun c m=>⟨?_,kl _ _ (C.ch.ac c m).ls⟩,C.ch.np,C.ch.na,C.ch.nb⟩,C.cb,⟨_,R2⟩,kl _ _ C.hp,C.np,kl _ _ C.hc,C.nc,ro,by rw[zA,v6];have:=C.len;lia,⟨nn C.hm n1,nn C.ch.dc n2,nn J.dc n3⟩,C.tp,C.o6,C.pa,C.c64,C.c4,C.cn,C.cc⟩,⟨WU,⟨?_,kl _ _ J.ls,K2 _ _ J.dc n3⟩,lk⟩,L.bk.imp fun _ _ _ _ z=>Cl kt z,kl _ _ L.hb,Bv L.bd kt fun c l e _=>kl c l e,kl _ _ L.hh,fun v m=>EX (L.he v m) kt fun c l e _=>kl c l e,L.ne⟩
 .obtain⟨dx,e⟩:=C.ch.ob
  exact⟨dx,k e (by intro _ z;cases z) (by intro _ z;cases z) (by intro _ _ z;cases z)⟩
 .obtain⟨dx,e⟩:=(C.ch.ac c m).ob
  exact⟨dx,k e (by intro _ z;cases z) (by intro _ z;cases z) (by intro _ _ z;cases z)⟩
 .obtain⟨dx,e⟩:=J.ob
  exact⟨dx,k e (by intro _ z;cases z) (by intro _ z;cases z) (by intro _ _ z;cases z)⟩
def LS.told(L:LS a W ps cu cs R Wf n vs bj bvs bb hvs G)(hb:G W.b=some (.frz o (.dT WU))){more:List V}(g:H' W.hl=some (.lst (hvs++more)))(m:∀v∈more,∃q f c us ws xs,v = .ref q/\G q=none/\G f=none/\G c=none/\H' q=some (.lst [.ref f,.ref c])/\H' f=some (.lst us)/\H' c=some (.lst ws)/\A2 (VrAt H') us xs/\A2 (VrAt H') ws xs)(x:WS [W.hl] G H') :
 H' W.b=some (.frz o (.dT WU))/\LS a W ps cu cs R Wf n vs bj bvs bb (hvs++more) H'/\∀c o xs,G c=some (.frz o (.lst xs))->H' c=some (.frz o (.lst xs)):=by
 have hb':H' W.b=some (.frz o (.dT WU)):=x _ _ hb fun m=>by rw[zh.mp m,L.hh]at hb;cases hb
 refine⟨hb',L.hld x (fun kvs' r=>?_) g fun v mv=>?_,fun c o xs e=>x _ _ e fun m=>by rw[zh.mp m,L.hh]at e;cases e⟩
 .obtain r|⟨_,r⟩:=r
  .rw[hb]at r;cases r
  .rw[hb]at r;cases r;exact .inr ⟨_,hb'⟩
 .obtain⟨q,f,c,us,ws,xs,e,n1,n2,n3,h1,h2,h3,h4,h5⟩:=m v mv
  have t:=L.lw;exact⟨q,f,c,us,ws,xs,e,t.new n1,t.new n2,t.new n3,h1,h2,h3,h4,h5⟩
end
def sp_CY(K:Ws)(a:Adr):Sp:=sp3 fun x y z H Q _=>asR x fun sc=>asR y fun mm=>asR z fun cp=>∃(W:Wd) (ps cu:List (List Nat)) (cs:List Acc) (R:List Qr) (Wf:WH->Prop) (vs:List V) (bs:List Bo) (bvs hvs:List V) (WU:List (List Key × V)) (ns:List Int) (sv:Option (Obj × List V)),mm=W.mm/\cp=W.cp/\LS a W ps cu cs R Wf 4 vs bs bvs bs hvs H/\H W.b=some (.dT WU)/\NoB W.b H/\BsOk ps cu bs/\hvs.length<=50/\ScAt K sc sv ns H /\
 ∀R' Wf' hvs' kvs' H',LS a W ps cu cs R' Wf' 20 vs bs bvs bs hvs' H'->hvs'.length<=60->H' W.b=some (.dT kvs')->NoB W.b H'->Q (.bl true) H'
def qM(T:Txt K mg a):Fo P w K mg base "_law_ends" 13 (sp_CY K a):=by
 refine T.vg.hx ["_law_script","_law_made","_law_currencies_here","_law_odd","_law_no_day","_law_k"] (gX3 fun x0 x1 x2 fA WW A WX s H Q E ND HU hr h=>?_);obtain⟨sc,rfl,h2⟩:=aQ h;obtain⟨mm,rfl,h3⟩:=aQ h2;refine bE (aQ h3) fun cp yy1 yz=>IH yz fun W ps cu cs R Wf vs bs yz=>JY yz fun bvs hvs WU ns sv yy2 yy3 L hb nB B l50 hS k=>?_;subst yy1 yy2 yy3;have sz:=szl;have c6:∃u,PSs (cJ (XE P w) P w K mg base ["_law_script","_law_made","_law_currencies_here","_law_odd","_law_no_day","_law_k"] "_law_ends" (ak cF) fA WW A WX s H E) (ZE 6 (bh cF)) u/\∀(G:Hp) R Wf hvs WU x3 x4 x5,LS a W ps cu cs R Wf 20 vs bs bvs bs hvs G->G W.b=some (.dT WU)->NoB W.b G->hvs.length<=52->u { nx:=fun _ H'=>Q .non H',rt:=Q } [some (.ref sc),some (.ref W.mm),some (.ref W.cp),x3,x4,x5] G:=by
  refine⟨_,(ah (fE (aB (aF (hJ T) hr av (fa3 (fv 1) (aH K (fv 2) ae) ae))))),fun G R Wf hvs WU x3 x4 x5 L hb nB l52=>?_⟩;walk_at "q";refine⟨W.b,.dT WU,rfl,hb,fun o=>?_⟩;have LF:=L.hs hb o;obtain⟨x0,hx0⟩:∃x,cu[0]? = some x:=⟨_,Wl (by have:=L.c.c4;lia)⟩;refine⟨_,_,.inl (az LF.c.hc),aO (j:=0) (by rw[Wm,hx0];rfl),nB.frz _ _,?_⟩;walk_at "q";refine⟨_,_,_,_,_,_,_,_,_,_,_,_,_,_,LF.td B (by lia) (yo hx0) ⟨by lia,by lia⟩ (by lia),fun more H' lm g m x N'=>?_⟩;obtain⟨e1,L1,_⟩:=LF.told aa g m x;exact⟨e1,k _ _ _ _ _ (L1.go e1) (by rw[zA];lia) aa (NoB.thw N' _)⟩
 obtain⟨u6,hu6,c6⟩:=c6;have c5:∃u,PSs (cJ (XE P w) P w K mg base ["_law_script","_law_made","_law_currencies_here","_law_odd","_law_no_day","_law_k"] "_law_ends" (ak cF) fA WW A WX s H E) (ZE 5 (bh cF)) u/\∀(G:Hp) hvs WU x3 x4 x5,LS a W ps cu cs R Wf 4 vs bs bvs bs hvs G->G W.b=some (.dT WU)->NoB W.b G->hvs.length<=51->u { nx:=fun _ H'=>Q .non H',rt:=Q } [some (.ref sc),some (.ref W.mm),some (.ref W.cp),x3,x4,x5] G:=by
  refine⟨_,(af (bY (by passes_own) rfl (dC rfl T.d6 (fa1 ae)) (aK (i:=5) ND rfl (Wb rfl)) (ah (bH (cZ (aT (Zz HU) (fv 1) (ay [114,97,116,101,115]) (fun _ _=>rfl)) T.bK (iX T) hr.mono av (fa5 ae (aH K (fv 2) (fv 5)) ae (aH K (fv 2) (ai aP (fv 5) ae)) ae)))))
   hu6),fun G hvs WU x3 x4 x5 L hb nB l52=>?_⟩
  refine gU ?_;walk_at "q";refine dZ (lo:=0) (n:=3) (fun i σ' F=>∃R WU Wf x5,LS a W ps cu cs R Wf (4+i) vs bs bvs bs hvs F/\F W.b=some (.dT WU)/\NoB W.b F/\σ'=[some (.ref sc),some (.ref W.mm),some (.ref W.cp),x3,x4,x5]) ⟨_,_,_,x5,L,hb,nB,rfl⟩ ?_ ?_
  .rintro i σ' F hi ⟨R,WU,Wf,x5,L,hb,nB,rfl⟩
   walk_at "q";obtain⟨kvr,hr⟩:=L.c.rs;refine IA hr.ex fun dx s0' sks hr0 hB _=>?_;obtain rfl:kvr=WU:=by
    obtain z|⟨_,z⟩:=hB.at_
    .rw[hb]at z;cases z;rfl
    .rw[hb]at z;cases z
   have c4:=L.c.c4;have c4:i+1<cu.length:=by lia
   have hx:cu[i]? = some (cu[i]'(by lia)):=Wl (by lia);have hy:cu[i+1]? = some (cu[i+1]'c4):=Wl c4;generalize cu[i]'(by lia)=x at hx;generalize cu[i+1]'c4=y at hy;have mx:=yo hx;have my:=yo hy;have xy:x≠y:=fun z=>by
    subst z;have:=(List.getElem?_inj (by lia) L.c.cn).mp (hx.trans hy.symm);lia
   refine⟨W.mm,_,rfl,dgM L.c.hm rfl,?_⟩;walk_at "q";have lR:=L.c.len;refine⟨_,_,hr0,tV _ _,_,_,.inl (az L.c.hc),(show atI (cu.map VS) (0+(i:Int))=some (VS x) by rw[Y9];exact aO (by rw[Wm,hx];rfl)),_,_,.inl (az L.c.hc),(show atI (cu.map VS) (0+(i:Int)+1)=some (VS y) by rw[Y9];exact aO (j:=i+1) (by rw[Wm,hy];rfl)),?_⟩;walk_at "q";refine⟨W.b,kvr,R,Wf,⟨0,x,2,y,3⟩,rfl,rfl,rfl,rfl,rfl,hr,hb,nB,by lia,(by obtain⟨h1,h2,h3⟩:=q23;exact⟨h1,L.c.cc x mx,L.c.cc y my,xy,h2,h3⟩),fun kvs2 W2 G2 R2 hb2 nB2 fW K2=>⟨_,kvs2,W2,_,L.qt R2 fW K2 fun r' m'=>?_,hb2,nB2,rfl⟩⟩;obtain m'|m':=yy.mp m'
   .exact L.c.ok r' m'
   .rw[zh.mp m'];obtain⟨h1,h2,h3⟩:=q23;exact⟨h1,mx,my,xy,h2,h3⟩
  .rintro σ' F ⟨R,WU,Wf,x5,L,hb,nB,rfl⟩
   exact c6 F R Wf hvs WU x3 x4 x5 (L.le (by lia)) hb nB (by lia)
 obtain⟨u5,hu5,c5⟩:=c5;have c3:∃u,PSs (cJ (XE P w) P w K mg base ["_law_script","_law_made","_law_currencies_here","_law_odd","_law_no_day","_law_k"] "_law_ends" (ak cF) fA WW A WX s H E) (ZE 3 (bh cF)) u/\∀(G:Hp) hvs WU v3 v4 x5,LS a W ps cu cs R Wf 4 vs bs bvs bs hvs G->G W.b=some (.dT WU)->NoB W.b G->hvs.length<=51->ScAt K sc sv ns G->okV v3->KnL G v3->KnL G v4->j5 v3=false->amg v4 0 146096=false->u { nx:=fun _ H'=>Q .non H',rt:=Q } [some (.ref sc),some (.ref W.mm),some (.ref W.cp),some v3,some v4,x5] G:=by
  refine⟨_,(af (fE (bi (aX (fT K HU) (aF (ig T) hr av (fa5 (aT (Zz HU) (fv 1) (ay [99,104,97,114,116]) (fun _ _=>rfl)) (aT (Zz HU) (fv 1) (ay [106,111,117,114,110,97,108]) (fun _ _=>rfl)) (aT (Zz HU) (fv 1) (ay [114,97,116,101,115]) (fun _ _=>rfl)) (fv 3) (fv 4))) (ay [99,117,114,114,101,110,99,121])) (ah (aB iE)) aL))
   (af (fE (bi (aX (fT K HU) (aF (ig T) hr av (fa5 (aT (Zz HU) (fv 1) (ay [99,104,97,114,116]) (fun _ _=>rfl)) (aT (Zz HU) (fv 1) (ay [106,111,117,114,110,97,108]) (fun _ _=>rfl)) (aT (Zz HU) (fv 1) (ay [114,97,116,101,115]) (fun _ _=>rfl)) (aH K (fv 2) ae) (fv 4))) (ay [100,97,121])) (ah (aB iE)) aL))
   hu5)),fun G hvs WU v3 v4 x5 L hb nB l52 S o3 k3 k4 e3 e4=>?_⟩
  walk_at "q";refine⟨W.b,.dT WU,rfl,hb,fun o=>?_⟩;have LF:=L.hs hb o;have ne:∀ {p xs},G p=some (.lst xs)->p≠W.b:=fun e z=>by rw[z,hb]at e;cases e
  have kF:∀ {F F':Hp},WT (upd G W.b (.frz o (.dT WU))) F->F'=upd F W.b (.dT WU)->∀p xs,G p=some (.lst xs)->F' p=some (.lst xs):=fun s e p xs h=>by rw[e,ag (ne h)];exact s _ _ ((ag (ne h)).trans h)
  have l0:∀p xs,G p=some (.lst xs)->(upd G W.b (.frz o (.dT WU))) p=some (.lst xs):=fun p xs h=>(ag (ne h)).trans h;refine⟨W.mm,_,rfl,dgM LF.c.hm rfl,W.mm,_,rfl,dgM LF.c.hm rfl,W.mm,_,rfl,dgM LF.c.hm rfl,nB.frz _ _,.inr ⟨o3,?_⟩⟩;obtain⟨t3,ht3⟩:=k3 _ l0;obtain⟨t4,ht4⟩:=k4 _ l0;refine asK.of ht3 (asK.of ht4 (.inl ⟨e3,fun H1 s1 N1=>itp rfl ?_⟩));have hb1:=s1 _ _ aa;refine⟨hb1,?_⟩;have L1:=(LF.same s1).go hb1;have nB1:NoB W.b (upd H1 W.b (.dT WU)):=NoB.thw N1 _;have l1:=kF s1 rfl;generalize eG:upd H1 W.b (.dT WU)=G1 at L1 nB1 l1;have hbG:G1 W.b=some (.dT WU):=by rw[<- eG];exact aa
  refine⟨W.b,.dT WU,rfl,hbG,fun o2=>?_⟩;have LF2:=L1.hs hbG o2;have ne2:∀ {p xs},G1 p=some (.lst xs)->p≠W.b:=fun e z=>by rw[z,hbG]at e;cases e
  have l2:∀p xs,G p=some (.lst xs)->(upd G1 W.b (.frz o2 (.dT WU))) p=some (.lst xs):=fun p xs h=>(ag (ne2 (l1 _ _ h))).trans (l1 _ _ h);obtain⟨x0,hx0⟩:∃x,cu[0]? = some x:=⟨_,Wl (by have:=L.c.c4;lia)⟩;obtain⟨t5,ht5⟩:=k4 _ l2;refine⟨W.mm,_,rfl,dgM LF2.c.hm rfl,W.mm,_,rfl,dgM LF2.c.hm rfl,W.mm,_,rfl,dgM LF2.c.hm rfl,_,_,.inl (az LF2.c.hc),aO (j:=0) (by rw[Wm,hx0];rfl),nB1.frz _ _,.inr ⟨jq (lG (L.c.cc _ (yo hx0))),?_⟩⟩;refine asK.of (t:="str") rfl (asK.of ht5 (.inr ⟨L.c.cc _ (yo hx0),e4,fun H2 s2 N2=>itp rfl ?_⟩));have hb2:=s2 _ _ aa;exact⟨hb2,c5 _ hvs WU _ _ _ ((LF2.same s2).go hb2) aa (NoB.thw N2 _) l52⟩
 obtain⟨u3,hu3,c3⟩:=c3;refine⟨_,(af (fE (bi (bP (bM (aF (hJ T) hr av (fa3 (fv 1) (aH K (fv 2) ae) ae)))) (ah (aB iE)) aL))
  (af (fE (aE 3 ND (gN (FA.pa (aU (ay [97,97,97]) (aU (ay [65,65]) (aU (ay [65,65,65,65]) (aU (ay [65,32,65]) (aU eC (aU ae (aU (cy (fa1 (ay [65,65,65]))) c_)))))))) (ai aS (ai a_ (aF (bC T) hr av (fa2 (fv 0) ae)) ae) ae) (fun _ _=>rfl))))
  (af (fE (aE 4 ND (gN (FA.pa (aU (oQ jI ae) (aU ae (aU iE (aU eC (aU (ay [48]) (aU (ai lF ae ae) (aU (cy (fa1 ae)) c_)))))))) (ai aS (ai a_ (aF (bC T) hr av (fa2 (fv 0) ae)) ae) ae) (fun _ _=>rfl))))
  hu3))),?_⟩
 walk_at "q";refine⟨W.b,.dT WU,rfl,hb,fun o=>?_⟩;have LF:=L.hs hb o;obtain⟨x0,hx0⟩:∃x,cu[0]? = some x:=⟨_,Wl (by have:=L.c.c4;lia)⟩;refine⟨_,_,.inl (az LF.c.hc),aO (j:=0) (by rw[Wm,hx0];rfl),nB.frz _ _,?_⟩;walk_at "q";refine⟨_,_,_,_,_,_,_,_,_,_,_,_,_,_,LF.td B (by lia) (yo hx0) ⟨by lia,by lia⟩ (by lia),fun more H' lm g m x N'=>?_⟩;refine HB (LF.told aa g m x) fun e1 L1 f1=>?_;refine⟨e1,?_⟩;have S1:ScAt K sc sv ns (upd H' W.b (.dT WU)):=hS.mv fun c o' xs e=>by
  have nb:c≠W.b:=fun z=>by rw[z,hb]at e;cases e
  exact(ag nb).trans (f1 _ _ _ ((ag nb).trans e))
 have L2_:=L1.go e1;have nB2:NoB W.b (upd H' W.b (.dT WU)):=NoB.thw N' _;have hb2:(upd H' W.b (.dT WU)) W.b=some (.dT WU):=aa;have l51:(hvs++more).length<=51:=by rw[zA];lia
 generalize upd H' W.b (.dT WU)=G2 at S1 L2_ nB2 hb2;generalize hvs++more=hvs2 at L2_ l51;walk_at "q";refine⟨W.b,.dT WU,rfl,hb2,fun o2=>⟨nB2.frz _ _,by walk_at "o",fun p fp=>⟨aj _ fp,by walk_at "o",fun p1 fp1=>⟨ns,?_,?_⟩⟩⟩⟩
 .refine(S1.mv fun c o' xs e=>?_).sq
  have nb:c≠W.b:=fun z=>by rw[z,hb2]at e;cases e
  have e1:(upd G2 W.b (.frz o2 (.dT WU))) c=_:=(ag nb).trans e;have e2:=aj (HO.lst [VS [65,65,65]]) fp _ _ e1;exact aj _ fp1 _ _ e2
 have m0:=Zt (ns.getD (4:Int).toNat 0 / 5) (b:=7) (by decide);have m1:=Zu (ns.getD (4:Int).toNat 0 / 5) (b:=7) (by decide);refine xO (B:=fun v=>okV v/\j5 v=false) (nB2.frz _ _) m0 m1 (fun v mv=>?_) fun v3 F1 sF N1 k3 b3=>?_
 .simp only[z9,yW,or_false]at mv
  obtain rfl|rfl|rfl|rfl|rfl|rfl|rfl:=mv
  .exact .inl ⟨rfl,jq (by unfold ok;decide),by decide⟩
  .exact .inl ⟨rfl,jq (by unfold ok;decide),by decide⟩
  .exact .inl ⟨rfl,jq (by unfold ok;decide),by decide⟩
  .exact .inl ⟨rfl,jq (by unfold ok;decide),by decide⟩
  .exact .inl ⟨rfl,(fun _ z=>nomatch z),rfl⟩
  .exact .inl ⟨rfl,(fun _ z=>nomatch z),rfl⟩
  .exact .inr ⟨p,_,rfl,fp,aa⟩
 have o3:okV v3/\j5 v3=false:=by
  obtain z|⟨q,rfl⟩:=b3
  .exact z
  .exact⟨(fun _ z=>nomatch z),rfl⟩
 have LF3:=(L2_.hs hb2 o2).same sF;have eb:=sF _ _ aa;refine⟨eb,?_⟩;have L3:=LF3.go eb;have nB3:NoB W.b (upd F1 W.b (.dT WU)):=NoB.thw N1 _;have hb3:(upd F1 W.b (.dT WU)) W.b=some (.dT WU):=aa;have S3_:ScAt K sc sv ns (upd F1 W.b (.dT WU)):=S1.mv fun c o' xs e=>by
  have nb:c≠W.b:=fun z=>by rw[z,hb2]at e;cases e
  exact(ag nb).trans (sF _ _ ((ag nb).trans e))
 have k3:KnL (upd F1 W.b (.dT WU)) v3:=k3.mv fun c xs e=>(ag fun z=>by rw[z,eb]at e;cases e).trans e;generalize upd F1 W.b (.dT WU)=G3 at L3 nB3 hb3 S3_ k3;walk_at "q";refine⟨W.b,.dT WU,rfl,hb3,fun o4=>⟨nB3.frz _ _,by decide,by walk_at "o",fun p2 f2=>⟨aj _ f2,by walk_at "o",fun p3 f3=>⟨ns,?_,?_⟩⟩⟩⟩
 .refine(S3_.mv fun c o' xs e=>?_).sq
  have nb:c≠W.b:=fun z=>by rw[z,hb3]at e;cases e
  have e1:(upd G3 W.b (.frz o4 (.dT WU))) c=_:=(ag nb).trans e;have e2:=aj (HO.lst [V.int 0]) f2 _ _ e1;exact aj _ f3 _ _ e2
 have m2:=Zt (ns.getD (4:Int).toNat 0 / 35) (b:=7) (by decide);have m3:=Zu (ns.getD (4:Int).toNat 0 / 35) (b:=7) (by decide);refine xO (B:=fun v=>amg v 0 146096=false) (nB3.frz _ _) m2 m3 (fun v mv=>?_) fun v4 F2 sF2 N2 k4 b4=>?_
 .simp only[z9,yW,or_false]at mv
  obtain rfl|rfl|rfl|rfl|rfl|rfl|rfl:=mv
  .exact .inl ⟨rfl,by decide⟩
  .exact .inl ⟨rfl,by decide⟩
  .exact .inl ⟨rfl,rfl⟩
  .exact .inl ⟨rfl,rfl⟩
  .exact .inl ⟨rfl,rfl⟩
  .exact .inl ⟨rfl,by decide +kernel⟩
  .exact .inr ⟨p2,_,rfl,f2,aa⟩
 have e4:amg v4 0 146096=false:=by
  obtain z|⟨q,rfl⟩:=b4
  .exact z
  .rfl
 have LF4:=(L3.hs hb3 o4).same sF2;have eb4:=sF2 _ _ aa;have n4:∀ {c o},G3 c=some o->(∀m,o ≠ .dT m)->(upd F2 W.b (.dT WU)) c=some o:=fun {c o} e n=>by
  have nb:c≠W.b:=fun z=>by rw[z,hb3]at e;cases e;exact n _ rfl
  exact(ag nb).trans (sF2 _ _ ((ag nb).trans e))
 refine⟨eb4,c3 _ hvs2 WU v3 v4 _ (LF4.go eb4) aa (NoB.thw N2 _) l51 (S3_.mv fun c o' xs e=>n4 e (by intro _ z;cases z)) o3.1 (k3.mv fun c xs e=>n4 e (by intro _ z;cases z)) (k4.mv fun c xs e=>(ag fun z=>by rw[z,eb4]at e;cases e).trans e) o3.2 e4⟩
section
variable(P w base)(T:Txt K mg a)(WW:WI)(A:WD)(WX:List Env)(s:WG)(H:Hp){Q:VK}(E:XK)(hr:Room 13 (A.deeper (YZ "law" (ak c9) s.heap.objs.size a.eA WW)))
include T hr in
def e13(k:∀H',Q (.bl true) H'):∃u,PSs (cJ (XE P w) P w K mg base nO "law" (ak c9) a.eA WW A WX s H E) (ZE 13 (bh c9)) u/\∀(W:Wd) ps cu cs R Wf vs bs bvs hvs WU ns sv G sc x1 x2 x5 x6 x7 x8 x9 x10 x11 x12,LS a W ps cu cs R Wf 4 vs bs bvs bs hvs G->G W.b=some (.dT WU)->NoB W.b G->BsOk ps cu bs->hvs.length<=50->ScAt K sc sv ns G->u { nx:=fun _ H'=>Q .non H',rt:=Q } [some (.ref sc),x1,x2,some (.ref W.cp),some (.ref W.mm),x5,x6,x7,x8,x9,x10,x11,x12] G:=by
 have sz:=szl;have ND:=iU.nd;have HU:=cT hr;refine⟨_,(af (bi (bP (bM (aF (qM T) hr av (fa3 (fv 0) (fv 4) (fv 3))))) (ah (aB iE)) aL)
  (ah (aB (aI (r_ K rfl) rfl T.Ac wl (fa1 (cL rfl (cl:=_) (x:="_law_pair") (xs:=["_law_pair"]) (fr:=[]) (ks:=[]) (by walk_at "k") rfl (bA K (aT (Zz HU) (fv 4) (ay [104,101,108,100]) (fun _ _=>rfl))) (fun _ _ _ _ _=>(aK (i:=0) (d_ (l:=["_law_pair"]) (by decide)) rfl (Wb rfl))) (fun _ _ _ _ _=>eR) (fun _ _ _ _ _=>(dl (bS K HU) (aH K (fv 0) ae) (aH K (fv 0) ae) (dY _))))))))),fun W ps cu cs R Wf vs bs bvs hvs WU ns sv G sc x1 x2 x5 x6 x7 x8 x9 x10 x11 x12 L hb nB B l50 S=>?_⟩
 walk_at "q";refine⟨W,ps,cu,cs,R,Wf,vs,bs,bvs,hvs,WU,ns,sv,rfl,rfl,L,hb,nB,B,l50,S,fun R2 Wf2 hv2 kv2 H2 L2_ l60 hb2 nB2=>?_⟩;have a2s:∀ {l:List V},(∀v∈l,HeS W H2 v)->A2 (fun v b=>v=b/\HeS W H2 v) l l:=fun {l} h=>by
  induction l with
  |nil=>exact .nil
  |cons x l ih=>exact .cons ⟨rfl,h x (.head _)⟩ (ih fun v m=>h v (.tail _ m))
 refine ER W.hl hv2 hv2 (fun v b=>v=b/\HeS W H2 v) (fun _=>true) (fun _ _=>.bl true) (fun k z=>?_) L2_.hh (a2s L2_.he) (by lia) (fun v b mb r F k sF z=>z) (fun v b mb r _ F k sF z=>?_) fun D ws fD aD=>?_
 .walk_at "q"
  exact⟨W.mm,_,rfl,dgM L2_.c.hm rfl,z⟩
 .refine Cc r fun yy1 yz=>J7 yz fun q f c us ws xs yy2 _ _ _ h1 h2 h3 h4 h5=>?_;clear r;subst yy1 yy2
  have mv:∀ {l:List V},A2 (VrAt H2) l xs->A2 (VrAt F) l xs:=fun h=>h.imp fun _ _ _ _ z=>VrAt.mv _ _ _ _ (fun t l e=>sF _ _ e) z;walk_at "q";refine⟨_,_,.inl (az (sF _ _ h1)),aO (j:=0) rfl,_,_,.inl (az (sF _ _ h1)),aO (j:=1) rfl,?_⟩;walk_at "q";exact⟨true,zG (sF _ _ h2) (sF _ _ h3) (mv h4) (mv h5),z⟩
 .have e1:ws=hv2.map fun _=>V.bl true:=by
   rw[Z5.mpr (fun _ _=>rfl)]at aD;have:∀ {l ys:List V},A2 (fun y b=>∃v,(v=b/\HeS W H2 v)/\y=V.bl true) ys l->ys=l.map fun _=>V.bl true:=fun {l ys} h=>by
    induction l generalizing ys with
    |nil=>cases h;rfl
    |cons x l ih=>
     cases h with
     |cons h t=>obtain⟨_,_,e⟩:=h;rw[e,ih t];rfl
   exact this aD
  walk_at "q";refine⟨hv2.map fun _=>true,az (by rw[aa,e1,vN];rfl),?_⟩;rw[show(hv2.map fun _=>true).all id=true by rw[List.all_map];exact Zk.mpr fun _ _=>rfl];exact k _
end
noncomputable abbrev An:List Stmt:=Jw ((bh c9).getD 12 (.Pass ⟨0,0,0,0⟩))
structure LZ(a:Adr)(K:Ws)(W:Wd)(ps cu:List (List Nat))(cs:List Acc)(R:List Qr)(Wf:WH->Prop)(o:Obj)(WU:List (List Key × V))(sc:WH)(sv:Option (Obj × List V))(ns:List Int)(vs:List V)(bs:List Bo)(bvs hvs:List V)(nh:Nat)(G:Hp):Prop where
 ls:LS a W ps cu cs R Wf 4 vs bs bvs bs hvs G
 hb:G W.b=some (.frz o (.dT WU))
 nt:WM G
 sc:ScAt K sc sv ns G
 bo:BsOk ps cu bs
 lh:hvs.length<=nh
def D1{xs:List V}{lo hi:Option Int}{v:V}(h:v∈fX xs lo hi):v∈xs:=by
 unfold fX at h;exact List.mem_of_mem_drop (ZI h)
section
variable{W:Wd}{ps cu:List (List Nat)}{cs:List Acc}{R:List Qr}{Wf:WH->Prop}{o:Obj}{WU:List (List Key × V)}{sc:WH}{sv:Option (Obj × List V)}{ns:List Int}{vs:List V}{bs:List Bo}{bvs hvs:List V}{nh:Nat}{G G':Hp}
def LZ.same(Z:LZ a K W ps cu cs R Wf o WU sc sv ns vs bs bvs hvs nh G)(s:WT G G')(N:WM G'):LZ a K W ps cu cs R Wf o WU sc sv ns vs bs bvs hvs nh G':=⟨Z.ls.same s,s _ _ Z.hb,N,Z.sc.mv fun _ _ _ e=>s _ _ e,Z.bo,Z.lh⟩
end
section
variable(P w base)(T:Txt K mg a)(WW:WI)(A:WD)(WX:List Env)(s:WG)(H:Hp){Q:VK}(E:XK)(hr:Room 13 (A.deeper (YZ "law" (ak c9) s.heap.objs.size a.eA WW)))
include T hr
def b6:∃u,PSs (cJ (XE P w) P w K mg base nO "law" (ak c9) a.eA WW A WX s H E) (ZE 6 An) u/\∀(Dn:fo) W ps cu cs R Wf o WU sc sv ns vs bs bvs hvs nh G x1 x2 x5 x8 x9 x12 p1 p2 c1 d1 c2 d2 (l k:Int),LZ a K W ps cu cs R Wf o WU sc sv ns vs bs bvs hvs nh G->nh<=40->G p1=some (.tup [VS c1,.int d1])->G p2=some (.tup [VS c2,.int d2])->c1∈cu->c2∈cu->(0<=d1/\d1<=146096)->(0<=d2/\d2<=146096) ->
 (∀G' hvs' x12,LZ a K W ps cu cs R Wf o WU sc sv ns vs bs bvs hvs' (nh+3) G'->Dn.nx [some (.ref sc),x1,x2,some (.ref W.cp),some (.ref W.mm),x5,some (.int l),some (.int k),x8,x9,some (.ref p1),some (.ref p2),x12] G')->u Dn [some (.ref sc),x1,x2,some (.ref W.cp),some (.ref W.mm),x5,some (.int l),some (.int k),x8,x9,some (.ref p1),some (.ref p2),x12] G:=by
 have sz:=szl;have ND:=iU.nd;have HU:=cT hr;refine⟨_,(ah (bY (by passes_own) rfl (bA K (cU (iK K) (cy (fa3 (fv 10) (fv 11) (fv 10))) dI (dQ (ai aP ae (ai b8 ae (dW sS rfl T.ul pd (fa1 (dl (bS K HU) (fv 7) (fv 6) (dY _))))))))) (aK (i:=12) ND rfl (Wb rfl)) (ah (bi (bP (bM (aF (hJ T) hr av (fa3 (fv 4) (aH K (fv 12) ae) (aH K (fv 12) ae))))) (ah (aB iE)) aL)))),fun Dn W ps cu cs R Wf o WU sc sv ns vs bs bvs hvs nh G x1 x2 x5 x8 x9 x12 p1 p2 c1 d1 c2 d2 l k Z n40 h1 h2 m1 m2 i1 i2 kk=>?_⟩;walk_at "q";refine cf ?_;walk_at "q";refine⟨by walk_at "o",fun p fp=>?_⟩;refine bQ (bv (o:=HO.lst [V.ref p1,V.ref p2,V.ref p1]) fp Z.nt rfl) fun G1 e1 s1 g1 N1=>?_;rw[e1];refine⟨p,_,rfl,az g1,fun q fq=>?_⟩;generalize hys:fX [V.ref p1,V.ref p2,V.ref p1] none (some (1+2*if k=l then 1 else 0))=ys;have my:∀v∈ys,v = .ref p1\/v = .ref p2:=fun v m=>by
  rw[<- hys]at m;have:=D1 m;simp only[z9,yW,or_false]at this;obtain h|h|h:=this
  .exact .inl h
  .exact .inr h
  .exact .inl h
 have ly:ys.length<=3:=by
  rw[<- hys];unfold fX;rw[Zv,YT];exact wG (XV _ _) (Nat.sub_le _ _)
 refine bQ (bv (o:=HO.lst ys) fq N1 rfl) fun G2 e2 s2 g2 N2=>?_;rw[e2];have Z2:=Z.same (s1.trans s2) N2;have qh:q≠W.hl:=fun z=>by rw[z,s1 _ _ Z.ls.hh]at fq;cases fq
 have h12:=s2 _ _ (s1 _ _ h1);have h22:=s2 _ _ (s1 _ _ h2);have th:∀ {c l},G2 c=some (.tup l)->c∉[W.hl]:=fun e m=>by rw[zh.mp m,Z2.ls.hh]at e;cases e
 refine cf ?_;walk_at "q";refine cN (az g2) (cM (xs:=ys) (fun i σ' (F:Hp)=>∃hvs' x12,LZ a K W ps cu cs R Wf o WU sc sv ns vs bs bvs hvs' (nh+i) F/\WS [W.hl] G2 F/\σ'=[some (.ref sc),x1,x2,some (.ref W.cp),some (.ref W.mm),x5,some (.int l),some (.int k),x8,x9,some (.ref p1),some (.ref p2),x12]) ⟨hvs,x12,Z2,WS.refl,rfl⟩ (fun i σ' F _ h=>by obtain⟨_,_,_,x,_⟩:=h;exact az (x _ _ g2 fun m=>qh (zh.mp m))) ?_ ?_)
 .rintro i v σ' F hv ⟨hv2,y12,ZF,xF,rfl⟩
  have li:i<ys.length:=(Wn.mp hv).1;obtain⟨c,d,pc,rfl,hpc,mc,hd⟩:∃c d pc,v = .ref pc/\G2 pc=some (.tup [VS c,.int d])/\c∈cu/\(0<=d/\d<=146096):=by
   obtain e|e:=my v (yo hv)
   .exact⟨c1,d1,p1,e,h12,m1,i1⟩
   .exact⟨c2,d2,p2,e,h22,m2,i2⟩
  have hpF:=xF _ _ hpc (th hpc);have lh:=ZF.lh;walk_at "q";refine⟨_,_,.inr (bF hpF),aO (j:=0) rfl,_,_,.inr (bF hpF),aO (j:=1) rfl,ZF.nt,?_⟩;walk_at "q";refine⟨_,_,_,_,_,_,_,_,_,_,_,_,_,_,ZF.ls.td ZF.bo (by lia) mc hd (by lia),fun more H' lm g m x N'=>?_⟩;obtain⟨e3,L3,f3⟩:=ZF.ls.told ZF.hb g m x;exact⟨_,_,⟨L3,e3,N',ZF.sc.mv f3,ZF.bo,by rw[zA];lia⟩,xF.trans x,rfl⟩
 .rintro σ' F ⟨hv2,y12,ZF,xF,rfl⟩
  exact kk F hv2 y12 ⟨ZF.ls,ZF.hb,ZF.nt,ZF.sc,ZF.bo,by have:=ZF.lh;lia⟩
end
def DW(x y:V):qW (zR "put") [(zR "bookings",x),(zR "undoings",y)]=none:=by rw[aZ (by decide +kernel),aZ (by decide +kernel)];rfl
section
variable{W:Wd}{ps cu:List (List Nat)}{cs:List Acc}{R:List Qr}{Wf:WH->Prop}{n:Nat}{vs bvs hvs:List V}{bj bb:List Bo}{G G':Hp}
def LS.rdk(L:LS a W ps cu cs R Wf n vs bj bvs bb hvs G){S:List WH}(x:WS S G G')(sub:∀c∈S,c∈S3 W):∀WU,Rd G W.b (.dT WU)->Rd G' W.b (.dT WU):=fun WU r=>by
 have t:=L.lw;obtain r|⟨o,r⟩:=r
 .exact .inl (x _ _ r fun m=>t.no r (by intro _ z;cases z) (sub _ m))
 .exact .inr ⟨o,x _ _ r fun m=>t.no r (by intro _ z;cases z) (sub _ m)⟩
def LS.jput(L:LS a W ps cu cs R Wf n vs bj bvs bb hvs G)(x:WS [W.jb] G G'){v:V}{b:Bo}(g:G' W.jb=some (.lst (vs++[v])))(m:BkAt G' v b):LS a W ps cu cs R Wf n (vs++[v]) (bj++[b]) bvs bb hvs G':=by
 obtain⟨n1,n2,n3⟩:=L.ne;have sub:∀c∈[W.jb],c∈S3 W:=fun c m=>by rw[zh.mp m];exact .tail _ (.tail _ (.head _))
 have g1:=x _ _ L.hb fun m=>n3 (zh.mp m);have g2:=x _ _ L.hh fun m=>n2 (zh.mp m);obtain⟨h1,h2,h3,h4,h5,_⟩:=L.chg (fun c o e n _=>x _ _ e fun m=>n (sub _ m)) (L.rdk x sub) g g1 g2;exact⟨h1,h2,h3.snoc m,g1,h4,g2,h5,L.ne⟩
def LS.bput(L:LS a W ps cu cs R Wf n vs bj bvs bb hvs G)(x:WS [W.bk] G G'){v:V}{b:Bo}(g:G' W.bk=some (.lst (bvs++[v])))(m:BdS W G' v b):LS a W ps cu cs R Wf n vs bj (bvs++[v]) (bb++[b]) hvs G':=by
 obtain⟨n1,n2,n3⟩:=L.ne;obtain⟨WU,J,_⟩:=L.jr;have sub:∀c∈[W.bk],c∈S3 W:=fun c m=>by rw[zh.mp m];exact .tail _ (.head _)
 have g1:=x _ _ J.ls fun m=>n3 (zh.mp m).symm;have g2:=x _ _ L.hh fun m=>n1 (zh.mp m);obtain⟨h1,h2,h3,h4,h5,_⟩:=L.chg (fun c o e n _=>x _ _ e fun m=>n (sub _ m)) (L.rdk x sub) g1 g g2;exact⟨h1,h2,h3,g,h4.snoc m,g2,h5,L.ne⟩
end
def AG{xs:List (List Nat)}{i:Int}(h0:0<=i):fX (xs.map VS) none (some i)=(xs.take i.toNat).map VS:=by
 obtain⟨j,rfl⟩:=Zi h0;unfold fX;rw[HT.sIx_none,HT.sIx_nat,List.drop_zero,Nat.sub_zero,List.map_take,ZJ,<- List.take_eq_take_min]
section
variable(P w base)(T:Txt K mg a)(WW:WI)(A:WD)(WX:List Env)(s:WG)(H:Hp){Q:VK}(E:XK)(hr:Room 13 (A.deeper (YZ "law" (ak c9) s.heap.objs.size a.eA WW)))
include T hr
def b0:∃u,PSs (cJ (XE P w) P w K mg base nO "law" (ak c9) a.eA WW A WX s H E) An u/\∀(Dn:fo) W ps cu cs R Wf o WU sc sv ns vs bs bvs hvs nh G (bse:Int) x5 x8 x9 x10 x11 x12 (l k c:Int),LZ a K W ps cu cs R Wf o WU sc sv ns vs bs bvs hvs nh G->nh<=40->bs.length+1<=3->1<=ps.length->(0<=bse/\bse<=4796)->0<=k->atI (ns.map V.int) k=some (.int c) ->
 (∀G' vs' bs' bvs' hvs' x8 x9 x10 x11 x12,LZ a K W ps cu cs R Wf o WU sc sv ns vs' bs' bvs' hvs' (nh+3) G'->bs'.length=bs.length+1->Dn.nx [some (.ref sc),some (.int bse),some (.ref W.pp),some (.ref W.cp),some (.ref W.mm),x5,some (.int l),some (.int k),x8,x9,x10,x11,x12] G')->u Dn [some (.ref sc),some (.int bse),some (.ref W.pp),some (.ref W.cp),some (.ref W.mm),x5,some (.int l),some (.int k),x8,x9,x10,x11,x12] G:=by
 have sz:=szl;have ND:=iU.nd;have HU:=cT hr;refine bE (b6 P w base T WW A WX s H E hr) fun u6 hu6 c6=>?_;have c4:∃u,PSs (cJ (XE P w) P w K mg base nO "law" (ak c9) a.eA WW A WX s H E) (ZE 4 An) u/\∀(Dn:fo) W ps cu cs R Wf o WU sc sv ns vs bs bvs hvs nh G (bse:Int) x5 x8 dy x10 x11 x12 (l k c:Int),LZ a K W ps cu cs R Wf o WU sc sv ns vs bs bvs hvs nh G->nh<=40->(0<=bse/\bse<=4796)->(0<=dy/\dy<=146096)->atI (ns.map V.int) k=some (.int c) ->
  (∀G' hvs' x10 x11 x12,LZ a K W ps cu cs R Wf o WU sc sv ns vs bs bvs hvs' (nh+3) G'->Dn.nx [some (.ref sc),some (.int bse),some (.ref W.pp),some (.ref W.cp),some (.ref W.mm),x5,some (.int l),some (.int k),x8,some (.int dy),x10,x11,x12] G')->u Dn [some (.ref sc),some (.int bse),some (.ref W.pp),some (.ref W.cp),some (.ref W.mm),x5,some (.int l),some (.int k),x8,some (.int dy),x10,x11,x12] G:=by
  refine⟨_,(af (aE 10 ND (bZ (fa2 (aH K (fv 3) (ai aS (ai a_ (aH K (fv 0) (fv 7)) ae) ae)) (gN (fa3 (fv 9) ae (aI (FU rfl) rfl T.z0 vR (fa2 ae (ai fZ (fv 9) ae)))) (ai aS (ai a_ (aH K (fv 0) (fv 7)) ae) ae) (fun _ _=>rfl)))))
   (af (aE 11 ND (bZ (fa2 (aH K (fv 3) (ai aS (ai a_ (aH K (fv 0) (fv 7)) ae) ae)) (aF (iF T) hr av (fa2 (ai a_ (aF (bp T) hr av (fa2 (aH K (fv 0) (fv 7)) ae)) ae) (ai aP (fv 1) (ai aS (ai a_ (aH K (fv 0) (fv 7)) ae) ae)))))))
   hu6)),fun Dn W ps cu cs R Wf o WU sc sv ns vs bs bvs hvs nh G bse x5 x8 dy x10 x11 x12 l k c Z n40 hbs hdy hc kk=>?_⟩
  have L4:=Z.ls.c.c4;have lc:((cu.map VS).length:Int)=4:=by rw[zV,L4];rfl
  walk_at "q";refine⟨_,_,.inl Z.sc.sq,hc,?_⟩;walk_at "q";refine bE (ql (C:=cu) (i:=c / 3 % 4) (by lia) (by lia)) fun x1 hx1 gx1=>?_;refine⟨_,_,.inl (az Z.ls.c.hc),hx1,Z.nt,by walk_at "o",fun p fp=>?_⟩;have sp:=aj (HO.lst [V.int dy,V.int 146096,V.int (if dy-1 > 0 then dy-1 else 0)]) fp;refine⟨_,_,.inl (SqL.same sp Z.sc.sq),hc,?_⟩;walk_at "q";obtain⟨dv,ea,hdv⟩:∃dv,atI [V.int dy,V.int 146096,V.int (if dy-1 > 0 then dy-1 else 0)] (c / 12 % 3)=some (.int dv)/\0<=dv/\dv<=146096:=by
   have m0:c / 12 % 3=0\/c / 12 % 3=1\/c / 12 % 3=2:=by lia
   obtain m|m|m:=m0 <;> rw[m]
   .exact⟨_,rfl,hdy⟩
   .exact⟨_,rfl,by decide,by decide⟩
   .exact⟨_,rfl,by split <;> lia,by split <;> lia⟩
  simp only[gW,ea];refine⟨by walk_at "o",fun p1 fp1=>?_⟩;refine bQ (bv (o:=HO.tup [VS x1,V.int dv]) fp1 Z.nt rfl) fun G1 e1 s1 g1 N1=>?_;rw[e1];have Z1:=Z.same s1 N1;refine⟨_,_,.inl Z1.sc.sq,hc,?_⟩;walk_at "q";refine bE (ql (C:=cu) (i:=c / 36 % 4) (by lia) (by lia)) fun x2 hx2 gx2=>?_;refine⟨_,_,.inl (az Z1.ls.c.hc),hx2,_,_,.inl Z1.sc.sq,hc,N1,?_⟩;walk_at "q";refine⟨_,_,.inl Z1.sc.sq,hc,?_⟩;walk_at "q";refine⟨N1,fun d2 z1 z2=>⟨by walk_at "o",fun p2 fp2=>?_⟩⟩;have dd2:=wf (by have:=Zt (c / 144) (b:=4) (by decide);lia) (by have:=Zu (c / 144) (b:=4) (by decide);lia) z1 z2;refine bQ (bv (o:=HO.tup [VS x2,V.int d2]) fp2 N1 rfl) fun G2 e2 s2 g2 N2=>?_;rw[e2];exact c6 Dn W ps cu cs R Wf o WU sc sv ns vs bs bvs hvs nh G2 _ _ _ _ _ _ p1 p2 x1 dv x2 d2 l k (Z1.same s2 N2) n40 (s2 _ _ g1) g2 (yo gx1) (yo gx2) hdv dd2 fun G' hvs' x12 Z'=>kk G' hvs' _ _ x12 Z'
 obtain⟨u4,hu4,c4⟩:=c4;refine⟨_,(af (aE 8 ND (aF (rL T) hr av (fa3 (ai a_ (aF (bp T) hr av (fa2 (aH K (fv 0) (fv 7)) ae)) ae) (fv 2) (cU (iK K) (fv 3) dI (dQ (ai aP ae (ai aS (aH K (fv 0) (fv 7)) ae)))))))
  (af (aE 9 ND (aF (iF T) hr av (fa2 (ai a_ (aF (bp T) hr av (fa2 (aH K (fv 0) (fv 7)) ae)) ae) (ai aP (fv 1) (ai aS (ai a_ (aF (bp T) hr av (fa2 (aH K (fv 0) (fv 7)) ae)) ae) ae)))))
  (af (bH (cZ (aT (Zz HU) (fv 4) (ay [106,111,117,114,110,97,108]) (fun _ _=>rfl)) T.cQ (nQ T) hr.mono av (fa4 (fv 9) (ay []) (dW (rR K) rfl T.ra nL (fa1 (fv 8))) eC)))
  (af (bH (cD K Zm Zg Zh cz (aT (Zz HU) (fv 4) (ay [98,111,111,107,101,100]) (fun _ _=>rfl)) (fa1 (bZ (fa2 (fv 9) (fv 8))))))
  hu4)))),fun Dn W ps cu cs R Wf o WU sc sv ns vs bs bvs hvs nh G bse x5 x8 x9 x10 x11 x12 l k c Z n40 b3 lps hbs k0 hc kk=>?_⟩
 have L4:=Z.ls.c.c4;walk_at "q";refine⟨_,_,.inl Z.sc.sq,hc,Z.nt,?_⟩;walk_at "q";refine⟨_,_,.inl Z.sc.sq,hc,?_⟩;walk_at "q";refine⟨_,_,rfl,az Z.ls.c.hc,fun q fq=>?_⟩;rw[AG (by have:=Zt c (b:=3) (by decide);lia)];refine bQ (bv (o:=HO.lst ((cu.take (2+c % 3).toNat).map VS)) fq Z.nt rfl) fun G1 e1 s1 g1 N1=>?_;rw[e1];have Z1:=Z.same s1 N1;have ld:=Zv (i:=(2+c % 3).toNat) (l:=cu);refine⟨N1,ps,_,Z1.ls.c.hp,lps,Z1.ls.c.tp.l20,g1,by have:=Zt c (b:=3) (by decide);lia,by lia,fun rs ws rq G2 dr lr frq grq ar s2 N2=>?_⟩;have Z2:=Z1.same s2 N2;refine⟨_,_,.inl Z2.sc.sq,hc,N2,?_⟩;walk_at "q";refine⟨_,_,.inl Z2.sc.sq,hc,N2,?_⟩;walk_at "q";refine⟨N2,fun dy y1 y2=>?_⟩;have dd:=wf (by have:=Zt (MX c 22 / 3) (b:=4) (by decide);lia) (by have:=Zu (MX c 22 / 3) (b:=4) (by decide);lia) y1 y2;refine bE Z2.ls.jr fun kv0 J lk=>?_;obtain⟨dxj,hj⟩:=J.ob;have lv:=Z2.ls.bk.len;refine⟨W.mm,_,rfl,dgM Z2.ls.c.hm rfl,?_⟩;walk_at "q";refine⟨_,_,hj,DW _ _,ws,.inl (az grq),fun l1 fl1=>?_⟩;refine bQ (bv (o:=HO.lst ws) fl1 N2 rfl) fun G3 e3 s3 g3 N3=>?_;rw[e3];have Z3:=Z2.same s3 N3;refine⟨N3,W.jb,W.ju,vs,kv0,ws,J.keep (S:=[]) (bL s3) yW yW yW,by lia,lk,.inl (az g3),fun t q4 G4 ht gt fq4 gq4 J4 x4 N4=>?_⟩;have ju3:G3 W.ju=some (.dK kv0):=s3 _ _ J.dc;have x4':WS [W.jb] G3 G4:=fun c o e n=>by
  by_cases h:c=W.ju
  .rw[h,ju3]at e;cases e;rw[h];exact J4.dc
  .exact x4 _ _ e fun m=>by
    obtain m|m:=z9.mp m
    .exact n (by rw[m];exact .head _)
    .exact h (zh.mp m)
 have tk4:∀c l,G3 c=some (.tup l)->G4 c=some (.tup l):=fun c l e=>x4' _ _ e fun m=>by
  have e5:=s3 _ _ J.ls;rw[zh.mp m,e5]at e;cases e
 have jb3:=s3 _ _ J.ls;have ar3:=ar.imp fun _ _ _ _ z=>WR.mv _ _ _ _ (fun t l e=>tk4 _ _ (s3 _ _ e)) z;have La:=Z3.ls.jput (b:=⟨vs.length,dy,rs,none⟩) x4' J4.ls ⟨q4,t,ws,[],rfl,gq4,gt,ar3⟩;have S4:ScAt K sc sv ns G4:=Z3.sc.mv fun c o' xs e=>x4' _ _ e fun m=>by rw[zh.mp m,jb3]at e;cases e
 have hb4:G4 W.b=some (.frz o (.dT WU)):=x4' _ _ Z3.hb fun m=>by have:=Z3.hb;rw[zh.mp m,jb3]at this;cases this
 have rqn:rq∉S3 W:=Z1.ls.lw.new frq;have grq4:G4 rq=some (.lst ws):=x4' _ _ (s3 _ _ grq) fun m=>rqn (by rw[zh.mp m];exact .tail _ (.tail _ (.head _)));refine⟨W.mm,_,rfl,dgM La.c.hm rfl,?_⟩;walk_at "q";have lb:=La.bd.len;refine⟨.inl ⟨_,az La.hb⟩,by walk_at "o",fun p5 f5=>?_⟩;refine bQ (bv (o:=HO.tup [V.int dy,V.ref rq]) f5 N4 rfl) fun G5 e5 s5 g5 N5=>?_;rw[e5];have Lb:=La.same s5;refine⟨W.bk,bvs,_,rfl,rfl,Lb.hb,by lia,?_⟩;refine bQ (BR (p:=W.bk) (o:=HO.lst (bvs++[V.ref p5])) N5 rfl) fun G6 e6 g6 k6 N6=>?_;rw[e6];have tk6:∀c l,G4 c=some (.tup l)->G6 c=some (.tup l):=fun c l e=>k6 _ _ (s5 _ _ e) fun m=>by
  rw[zh.mp m,La.hb]at e;cases e
 have g56:G6 p5=some (.tup [V.int dy,V.ref rq]):=k6 _ _ g5 fun m=>by rw[zh.mp m,Lb.hb]at g5;cases g5
 have Lc:=Lb.bput (b:=⟨vs.length,dy,rs,none⟩) k6 g6 ⟨p5,rq,ws,rfl,g56,k6 _ _ (s5 _ _ grq4) fun m=>rqn (by rw[zh.mp m];exact .tail _ (.head _)),rqn,ar3.imp fun _ _ _ _ z=>WR.mv _ _ _ _ (fun t l e=>tk6 _ _ e) z⟩;refine c4 Dn W ps cu cs R Wf o WU sc sv ns _ _ _ hvs nh G6 bse x5 _ dy _ _ _ l k c ⟨Lc,?_,N6,?_,⟨by rw[zA,v6];exact b3,fun b mb=>?_⟩,Z.lh⟩ n40 hbs dd hc fun G' hvs' x10 x11 x12 Z'=>kk G' _ _ _ hvs' _ _ x10 x11 x12 Z' (by rw[zA];rfl)
 .exact k6 _ _ (s5 _ _ hb4) fun m=>by rw[zh.mp m,La.hb]at hb4;cases hb4
 .exact S4.mv fun c o' xs e=>k6 _ _ (s5 _ _ e) fun m=>by rw[zh.mp m,La.hb]at e;cases e
 .obtain mb|mb:=yy.mp mb
  .exact Z.bo.2 b mb
  .rw[zh.mp mb]
   exact⟨lr,fun r mr=>⟨(dr r mr).1,ZI (dr r mr).2.1,(dr r mr).2.2⟩⟩
end
section
variable(P w base)(T:Txt K mg a)(WW:WI)(A:WD)(WX:List Env)(s:WG)(H:Hp){Q:VK}(E:XK)(hr:Room 13 (A.deeper (YZ "law" (ak c9) s.heap.objs.size a.eA WW)))
include T hr in
def e12(k:∀H',Q (.bl true) H'):∃u,PSs (cJ (XE P w) P w K mg base nO "law" (ak c9) a.eA WW A WX s H E) (ZE 12 (bh c9)) u/\∀(W:Wd) ps cu cs R Wf WU (ns:List Int) sv G sc (bse:Int) x5 (l:Int),LS a W ps cu cs R Wf 4 [] [] [] [] [] G->G W.b=some (.dT WU)->NoB W.b G->ScAt K sc sv ns G->1<=ps.length->(0<=bse/\bse<=4796) -> -1<=l->l<=10->l<ns.length->u { nx:=fun _ H'=>Q .non H',rt:=Q } [some (.ref sc),some (.int bse),some (.ref W.pp),some (.ref W.cp),some (.ref W.mm),x5,some (.int l),none,none,none,none,none,none] G:=by
 have sz:=szl;have ND:=iU.nd;have HU:=cT hr;refine bE (b0 P w base T WW A WX s H E hr) fun ub hub cb=>?_;refine bE (e13 P w base T WW A WX s H E hr k) fun u13 hu13 c13=>?_;refine⟨_,(af (fE (bY (by passes_own) rfl (qB rfl T.d6 (fa2 ae (ai aP (fv 6) ae))) (aK (i:=7) ND rfl (Wb rfl)) hub))
  hu13),fun W ps cu cs R Wf WU ns sv G sc bse x5 l L hb nB S lps hbs l0 l10 ll=>?_⟩
 walk_at "q";refine⟨W.b,.dT WU,rfl,hb,fun o=>yp ?_⟩;walk_at "q";refine⟨8,l+1,⟨rfl,rfl⟩,⟨by lia,by lia,by lia,by lia⟩,dZ (lo:=8) (n:=(l+1-8).toNat) (fun i σ' (F:Hp)=>∃vs bs bvs hvs x7 x8 x9 x10 x11 x12,LZ a K W ps cu cs R Wf o WU sc sv ns vs bs bvs hvs (3*i) F/\bs.length=i/\σ'=[some (.ref sc),some (.int bse),some (.ref W.pp),some (.ref W.cp),some (.ref W.mm),x5,some (.int l),x7,x8,x9,x10,x11,x12]) ⟨[],[],[],[],none,none,none,none,none,none,⟨L.hs hb o,aa,nB.frz _ _,S.mv fun c o' xs e=>(ag fun z=>by rw[z,hb]at e;cases e).trans e,⟨tB _,(fun _ m=>nomatch m)⟩,tB _⟩,rfl,rfl⟩ ?_ ?_⟩
 .rintro i σ' F li ⟨vs,bs,bvs,hvs,x7,x8,x9,x10,x11,x12,Z,lb,rfl⟩
  obtain⟨c,hc⟩:∃c,ns[8+i]? = some c:=⟨_,Wl (by lia)⟩;have ac:atI (ns.map V.int) (8+(i:Int))=some (.int c):=by
   have:=aO (xs:=ns.map V.int) (j:=8+i) (v:=.int c) (by rw[Wm,hc];rfl)
   rwa [show((8+i:Nat):Int)=8+(i:Int) by lia]at this
  walk_at "q";exact cb _ W ps cu cs R Wf o WU sc sv ns vs bs bvs hvs (3*i) F bse x5 x8 x9 x10 x11 x12 l (8+(i:Int)) c Z (by lia) (by lia) lps hbs (by lia) ac fun G' vs' bs' bvs' hvs' x8 x9 x10 x11 x12 Z' lb'=>⟨vs',bs',bvs',hvs',_,x8,x9,x10,x11,x12,Z',by lia,rfl⟩
 .rintro σ' F ⟨vs,bs,bvs,hvs,x7,x8,x9,x10,x11,x12,Z,lb,rfl⟩
  have lh:=Z.lh;exact⟨Z.hb,c13 W ps cu cs R Wf vs bs bvs hvs WU ns sv _ sc _ _ _ _ _ _ _ _ _ _ (Z.ls.go Z.hb) aa (NoB.thw Z.nt _) Z.bo (by lia) (Z.sc.mv fun c o' xs e=>(ag fun z=>by rw[z,Z.hb]at e;cases e).trans e)⟩
end
def Pths.pk{c:Int}{ps:List (List Nat)}(h:Pths c ps):∀p∈ps,Pk p/\∀x∈lup p,x∈ps:=by
 have tp:∀ {k:Nat} {qs:List (List Nat)},nms c k∈qs->Pk (nms c k)/\∀x∈lup (nms c k),x∈qs:=fun {k qs} m=>⟨Pk.top (dt c k) (iS (c:=c) (k:=k)).1,fun x mx=>by
  rw[xS (dt c k)]at mx;rw[zh.mp mx];exact m⟩
 induction h with
 |two=>
  intro p m;simp only[z9,yW,or_false]at m;obtain rfl|rfl:=m
  .exact tp (.head _)
  .exact tp (.tail _ (.head _))
 | @more ps u k h hu _ _ ih=>
  intro p m;obtain m|m:=yy.mp m
  .exact⟨(ih p m).1,fun x mx=>vS _ ((ih p m).2 x mx)⟩
  .rw[zh.mp m]
   refine⟨(ih u hu).1.ext (dt c k),fun x mx=>?_⟩;have mx:x∈abN (u++58::nms c k)++[u++58::nms c k]:=mx;rw[j4 (dt c k)]at mx;obtain mx|mx:=yy.mp mx
   .exact vS _ ((ih u hu).2 x mx)
   .exact wq _ mx
noncomputable def ltP(e:Int):List Nat:=nms e 0++58::[122,108,97,116,101,122]
def yZ:58∉([122,108,97,116,101,122]:List Nat):=by decide
def BC{e:Int}{ps:List (List Nat)}(h:Pths e ps):ltP e∉ps:=fun m=>by
 obtain⟨_,k,z⟩:=K20.Pths.beneath h yZ m;exact K17.En (c:=e) (k:=k) (r:=K17.vC) (.inr rfl) z.symm
def Gj{e:Int}{ps:List (List Nat)}(h:Pths e ps):nms e 0∈ps:=yo (K20.Pths.head h)
def sp_lt(e:Int):spN 58 (ltP e)=[nms e 0,[122,108,97,116,101,122]]:=by unfold ltP;rw[hV yZ,gH 58 _ (dt e 0)];rfl
def BH(e:Int):(∀c∈ltP e,c<128)/\(ltP e).length<=199:=by
 have l0:=iS (c:=e) (k:=0);refine⟨fun c mc=>?_,?_⟩
 .obtain mc|mc:=yy.mp mc
  .have:=l0.2.2 c mc;lia
  .have:∀x∈(58::[122,108,97,116,101,122]:List Nat),x<128:=by decide
   exact this c mc
 .unfold ltP
  rw[zA];show(nms e 0).length+7<=199;lia
def xw(l:List Nat):(lup l).length=(spN 58 l).length-1+1:=by
 unfold lup abN;rw[zA,zV,List.length_range];rfl
def TP.of{e:Int}{ps:List (List Nat)}(h:Pths e ps)(l10:ps.length<=10):TP (ps++[ltP e]):=by
 have pk:=K20.Pths.pk h;refine⟨dU (K20.Pths.nd h) (BC h),fun m=>?_,fun p m=>?_,fun p m=>?_,fun p m=>?_,by rw[zA,v6];lia⟩
 .obtain m|m:=yy.mp m
  .exact(pk [] m).1.ne (wq _ (.head _))
  .have:=zh.mp m
   unfold ltP at this;simp at this
 .obtain m|m:=yy.mp m
  .exact⟨(pk p m).1,fun x mx=>vS _ ((pk p m).2 x mx)⟩
  .rw[zh.mp m]
   obtain⟨k0,k1⟩:=pk _ (Gj h);refine⟨k0.ext yZ,fun x mx=>?_⟩;have mx:x∈abN (ltP e)++[ltP e]:=mx;unfold ltP at mx;rw[j4 yZ]at mx;obtain mx|mx:=yy.mp mx
   .exact vS _ (k1 x mx)
   .exact wq _ mx
 .obtain m|m:=yy.mp m
  .obtain⟨i,hi⟩:=List.getElem?_of_mem m
   obtain⟨h,_⟩|⟨u,k,rfl,mu⟩:=K20.Pths.up h i p hi
   .rw[xV h];exact .head _
   .rw[rT (dt e k)];exact .tail _ (vS _ (ZI mu))
  .rw[zh.mp m]
   unfold ltP;rw[rT yZ];exact .tail _ (vS _ (Gj h))
 .obtain m|m:=yy.mp m
  .have:=K20.Pths.ok h p m
   exact⟨this.lo,by have:=this.len;lia⟩
  .rw[zh.mp m];exact BH e
def JC{e:Int}{ps:List (List Nat)}(h:Pths e ps):∀p∈ps++[ltP e],pOk p:=fun p m=>by
 obtain m|m:=yy.mp m
 .have k:=K20.Pths.ok h p m
  refine⟨⟨k.lo,by have:=k.len;lia⟩,?_⟩;have:=k.pn;unfold iW at this;simp only[ZR,decide_eq_true_eq]at this;rw[xw];lia
 .rw[zh.mp m]
  refine⟨BH e,?_⟩;rw[xw,sp_lt];show 2-1+1<=6
  decide
def vi{b:WH}{S:List WH}{H H1:Hp}{u z:HO}(hb:H b=some u)(x:WS S (upd H b z) H1):WS S H (upd H1 b u):=fun c o e n=>by
 by_cases h:c=b
 .rw[h,aa,<- e,h,hb]
 .rw[ag h];exact x _ _ ((ag h).trans e) n
def CAt.fz{C A:WH}{H:Hp}{p d b:WH}{cs:List Acc}{z o:HO}(J:CAt C A H p d cs)(hb:H b=some o)(n1:∀C dx fs,o ≠ .ins C dx fs)(n2:∀m,o ≠ .dK m)(n3:∀l,o ≠ .lst l):CAt C A (upd H b z) p d cs:=by
 refine J.keep (S:=[b]) (WS.refl.put (.head _)) (fun m=>?_) (fun m=>?_) fun c mc=>⟨fun m=>?_,fun m=>?_⟩
 .obtain⟨dx,e⟩:=J.ob
  rw[zh.mp m,hb]at e;cases e;exact n1 _ _ _ rfl
 .have e:=J.dc
  rw[zh.mp m,hb]at e;cases e;exact n2 _ rfl
 .obtain⟨dx,e⟩:=(J.ac c mc).ob
  rw[zh.mp m,hb]at e;cases e;exact n1 _ _ _ rfl
 .have e:=(J.ac c mc).ls
  rw[zh.mp m,hb]at e;cases e;exact n3 _ rfl
structure RF(a:Adr)(K:Ws)(W:Wd)(ps cu:List (List Nat))(cs:List Acc)(R:List Qr)(Wf:WH->Prop)(WU:List (List Key × V))(sc:WH)(sv:Option (Obj × List V))(ns:List Int)(m:List (Key × V))(G:Hp):Prop where
 hm:G W.mm=some (.dK m)
 ch:CAt a.a7 a.aN G W.pc W.dd cs
 jr:JAt a.bg G W.j W.jb W.ju [] []
 rs:RS a.aM G W.r W.b WU R Wf
 ok:Rows R cu
 len:R.length<=4
 hb:G W.b=some (.dT WU)
 nb:NoB W.b G
 pp:G W.pp=some (.lst (ps.map VS))
 cp:G W.cp=some (.lst (cu.map VS))
 sc:ScAt K sc sv ns G
 nw:¬ Wf W.mm /\ ¬ Wf W.dd /\ ¬ Wf W.ju
 nd:W.mm≠W.dd/\W.mm≠W.ju/\W.dd≠W.ju
 n1:W.pp≠W.jb/\W.cp≠W.jb
 n2:∀c∈cs,c.bl≠W.jb/\c.bl≠W.pp/\c.bl≠W.cp
 nj:∀c∈cs,c.ob≠W.j/\c.ob≠W.r
section
variable{W:Wd}{ps cu:List (List Nat)}{cs:List Acc}{R:List Qr}{Wf:WH->Prop}{WU:List (List Key × V)}{sc:WH}{sv:Option (Obj × List V)}{ns:List Int}{m:List (Key × V)}{G G':Hp}
def RF.chg(F:RF a K W ps cu cs R Wf WU sc sv ns m G){cs':List Acc}(k:∀c o,G c=some o->c∉W.dd::(cs.map (·.bl)++cs.map (·.ob))->c≠W.b->G' c=some o)(ch':CAt a.a7 a.aN G' W.pc W.dd cs')(hb':G' W.b=some (.dT WU))(nb':NoB W.b G')(fr:∀c∈cs',(c.bl∈cs.map (·.bl)\/G c.bl=none)/\(c.ob∈cs.map (·.ob)\/G c.ob=none)):RF a K W ps cu cs' R Wf WU sc sv ns m G':=by
 have out:∀ {c o},G c=some o->(∀l,o = .lst l->c∉cs.map (·.bl))->(∀C d f,o = .ins C d f->c∉cs.map (·.ob))->(∀z,o = .dK z->c≠W.dd)->c∉W.dd::(cs.map (·.bl)++cs.map (·.ob)):=fun {c o} e h1 h2 h3 mc=>by
  obtain q|mc:=z9.mp mc
  .rw[q,F.ch.dc]at e;cases e;exact h3 _ rfl q
  obtain mc|mc:=yy.mp mc
  .obtain⟨y,my,ey⟩:=yR.mp mc
   have e2:=(F.ch.ac y my).ls;rw[ey,e]at e2;cases e2;exact h1 _ rfl mc
  .obtain⟨y,my,ey⟩:=yR.mp mc
   obtain⟨dx,e2⟩:=(F.ch.ac y my).ob;rw[ey,e]at e2;cases e2;exact h2 _ _ _ rfl mc
 have nb:∀ {c o},G c=some o->(∀m,o ≠ .dT m)->c≠W.b:=fun e n z=>by rw[z,F.hb]at e;cases e;exact n _ rfl
 obtain⟨w1,w2,w3⟩:=F.nw;obtain⟨d1,d2,d3⟩:=F.nd;refine⟨?_,ch',⟨?_,?_,?_⟩,?_,F.ok,F.len,hb',nb',?_,?_,?_,F.nw,F.nd,F.n1,fun c mc=>?_,fun c mc=>?_⟩
 .exact k _ _ F.hm (out F.hm (by intro _ z;cases z) (by intro _ _ _ z;cases z) fun _ _=>d1) (nb F.hm (by intro _ z;cases z))
 .obtain⟨dx,e⟩:=F.jr.ob
  exact⟨dx,k _ _ e (out e (by intro _ z;cases z) (fun _ _ _ _ mc=>by obtain⟨y,my,ey⟩:=yR.mp mc;exact(F.nj y my).1 ey) (by intro _ z;cases z)) (nb e (by intro _ z;cases z))⟩
 .exact k _ _ F.jr.ls (out F.jr.ls (fun _ _ mc=>by obtain⟨y,my,ey⟩:=yR.mp mc;exact(F.n2 y my).1 ey) (by intro _ _ _ z;cases z) (by intro _ z;cases z)) (nb F.jr.ls (by intro _ z;cases z))
 .exact k _ _ F.jr.dc (out F.jr.dc (by intro _ z;cases z) (by intro _ _ _ z;cases z) fun _ _=>Wc d3) (nb F.jr.dc (by intro _ z;cases z))
 .refine F.rs.mv (.inl hb') fun p o e ne h=>k _ _ e (fun mc=>?_) ne
  obtain q|mc:=z9.mp mc
  .obtain h|h|⟨l,h⟩:=h
   .exact w2 (q ▸ h)
   .obtain⟨dx,_,_,e2,_⟩:=F.rs.ex
    rw[<- h,q,F.ch.dc]at e2;cases e2
   .rw[q,F.ch.dc,h]at e;cases e
  obtain mc|mc:=yy.mp mc
  .obtain⟨y,my,ey⟩:=yR.mp mc
   have e2:=(F.ch.ac y my).ls;rw[ey]at e2;obtain h|h|⟨l,h⟩:=h
   .exact F.rs.nw e2 (by intro _ z;cases z) (by intro _ z;cases z) (by intro _ _ z;cases z) h
   .obtain⟨dx,_,_,e3,_⟩:=F.rs.ex
    rw[<- h,e2]at e3;cases e3
   .rw[e2,h]at e;cases e
  .obtain⟨y,my,ey⟩:=yR.mp mc
   obtain⟨dx,e2⟩:=(F.ch.ac y my).ob;rw[ey]at e2;obtain h|h|⟨l,h⟩:=h
   .exact F.rs.nw e2 (by intro _ z;cases z) (by intro _ z;cases z) (by intro _ _ z;cases z) h
   .exact(F.nj y my).2 (ey.trans h)
   .rw[e2,h]at e;cases e
 .exact k _ _ F.pp (out F.pp (fun _ _ mc=>by obtain⟨y,my,ey⟩:=yR.mp mc;exact(F.n2 y my).2.1 ey) (by intro _ _ _ z;cases z) (by intro _ z;cases z)) (nb F.pp (by intro _ z;cases z))
 .exact k _ _ F.cp (out F.cp (fun _ _ mc=>by obtain⟨y,my,ey⟩:=yR.mp mc;exact(F.n2 y my).2.2 ey) (by intro _ _ _ z;cases z) (by intro _ z;cases z)) (nb F.cp (by intro _ z;cases z))
 .exact F.sc.mv fun c o xs e=>k _ _ e (out e (by intro _ z;cases z) (by intro _ _ _ z;cases z) (by intro _ z;cases z)) (nb e (by intro _ z;cases z))
 .rcases(fr c mc).1 with h|h
  .obtain⟨y,my,ey⟩:=yR.mp h
   have:=F.n2 y my;rw[ey]at this;exact this
  .exact⟨fun z=>(by rw[z,F.jr.ls]at h;cases h),fun z=>(by rw[z,F.pp]at h;cases h),fun z=>(by rw[z,F.cp]at h;cases h)⟩
 .rcases(fr c mc).2 with h|h
  .obtain⟨y,my,ey⟩:=yR.mp h
   have:=F.nj y my;rw[ey]at this;exact this
  .obtain⟨dx,e1⟩:=F.jr.ob
   obtain⟨dy,_,_,e2,_⟩:=F.rs.ex;exact⟨fun z=>(by rw[z,e1]at h;cases h),fun z=>(by rw[z,e2]at h;cases h)⟩
end
noncomputable def m3(W:Wd):List (Key × V):=[(kwT lT,.ref W.pc),(kwT j7,.ref W.j),(kwT rZ,.ref W.r)]
def IC(W:Wd)(p1 p2 p3:WH):bD (bD (bD (m3 W) (kwT fP) (.ref p2)) (kwT oV) (.ref p3)) (kwT lM) (.ref p1)=mdV { W with pp:=p1,bk:=p2,hl:=p3 }:=by simp[m3,mdV,bD,kwT,fP,oV,lM,lT,j7,rZ]
def RF.ls{W W':Wd}{ps ps0 cu:List (List Nat)}{cs:List Acc}{R:List Qr}{Wf:WH->Prop}{WU:List (List Key × V)}{sc:WH}{sv:Option (Obj × List V)}{ns:List Int}{m:List (Key × V)}{G G':Hp}{p1 p2 p3:WH}(F:RF a K W ps0 cu cs R Wf WU sc sv ns m G)(eW:W' = { W with pp:=p1,bk:=p2,hl:=p3 })(k:∀c o,G c=some o->c≠W.mm->G' c=some o)(hm:G' W.mm=some (.dK (mdV W')))(g1:G' p1=some (.lst (ps.map VS)))(g2:G' p2=some (.lst []))(g3:G' p3=some (.lst []))
 (f1:G p1=none) (f2:G p2=none) (f3:G p3=none) (n12:p1≠p2) (n13:p1≠p3) (n23:p2≠p3) (tp:TP ps) (o6:∀p∈ps,pOk p) (pa:(cs.map (·.pa)).Perm ps) (c4:cu.length=4) (cn:cu.Nodup) (cc:∀l∈cu,cur l=true):LS a W' ps cu cs R Wf 4 [] [] [] [] [] G'/\G' W'.b=some (.dT WU)/\ScAt K sc sv ns G':=by
 have nm:∀ {c o},G c=some o->(∀z,o ≠ .dK z)->c≠W.mm:=fun e n z=>by rw[z,F.hm]at e;cases e;exact n _ rfl
 have kk:∀ {c o},G c=some o->(∀z,o ≠ .dK z)->G' c=some o:=fun e n=>k _ _ e (nm e n);have old:∀ {c o},G c=some o->c≠p1/\c≠p2/\c≠p3:=fun e=>⟨fun z=>(by rw[z,f1]at e;cases e),fun z=>(by rw[z,f2]at e;cases e),fun z=>(by rw[z,f3]at e;cases e)⟩;have no3:∀ {c},c≠p3->c≠p2->c≠W.jb->c∉S3 W':=fun h1 h2 h3 mc=>by
  rw[eW]at mc;simp only[S3,z9,yW,or_false]at mc;obtain q|q|q:=mc
  .exact h1 q
  .exact h2 q
  .exact h3 q
 obtain⟨d1,d2,d3⟩:=F.nd;have hb':=kk F.hb (by intro _ z;cases z);have lc:cs.length=ps.length:=by have:=pa.length_eq;rwa [zV]at this
 have l20:=tp.l20;have ojb:=old F.jr.ls;subst eW;refine⟨⟨⟨hm,⟨?_,k _ _ F.ch.dc (Wc d1),fun c mc=>⟨?_,kk (F.ch.ac c mc).ls (by intro _ z;cases z)⟩,F.ch.np,F.ch.na,F.ch.nb⟩,fun c mc=>no3 (old (F.ch.ac c mc).ls).2.2 (old (F.ch.ac c mc).ls).2.1 (F.n2 c mc).1,⟨WU,F.rs.mv (.inl hb') fun p o e _ h=>k _ _ e fun z=>?_⟩,g1,no3 n13 n12 (fun z=>ojb.1 z.symm),kk F.cp (by intro _ z;cases z),no3 (old F.cp).2.2 (old F.cp).2.1 F.n1.2,F.ok,F.len,F.nw,tp,o6,pa,by lia,c4,cn,cc⟩,⟨[],⟨?_,kk F.jr.ls (by intro _ z;cases z),k _ _ F.jr.dc (Wc d2)⟩,tB _⟩,.nil,g2,.nil,g3,(fun _ m=>nomatch m),⟨Wc n23,Wc ojb.2.2,Wc ojb.2.1⟩⟩,hb',F.sc.mv fun c o xs e=>kk e (by intro _ z;cases z)⟩
 .obtain⟨dx,e⟩:=F.ch.ob
  exact⟨dx,kk e (by intro _ z;cases z)⟩
 .obtain⟨dx,e⟩:=(F.ch.ac c mc).ob
  exact⟨dx,kk e (by intro _ z;cases z)⟩
 .obtain h|h|⟨l,h⟩:=h
  .exact F.nw.1 (z ▸ h)
  .obtain⟨dx,_,_,e2,_⟩:=F.rs.ex
   rw[<- h,z,F.hm]at e2;cases e2
  .rw[z,F.hm,h]at e;cases e
 .obtain⟨dx,e⟩:=F.jr.ob
  exact⟨dx,kk e (by intro _ z;cases z)⟩
section
variable(P w base)(T:Txt K mg a)(WW:WI)(A:WD)(WX:List Env)(s:WG)(H:Hp){Q:VK}(E:XK)(hr:Room 13 (A.deeper (YZ "law" (ak c9) s.heap.objs.size a.eA WW)))
include T hr in
def e7(k:∀H',Q (.bl true) H'):∃u,PSs (cJ (XE P w) P w K mg base nO "law" (ak c9) a.eA WW A WX s H E) (ZE 7 (bh c9)) u/\∀(W:Wd) e ps cu cs R Wf WU (ns:List Int) sv G sc (bse:Int),RF a K W ps cu cs R Wf WU sc sv ns (m3 W) G->Pths e ps->ps.length<=10->(cs.map (·.pa)).Perm (ps++[ltP e])->cu.length=4->cu.Nodup->(∀l∈cu,cur l=true)->(0<=bse/\bse<=4796)->u { nx:=fun _ H'=>Q .non H',rt:=Q } [some (.ref sc),some (.int bse),some (.ref W.pp),some (.ref W.cp),some (.ref W.mm),some (VS (ltP e)),none,none,none,none,none,none,none] G:=by
 have sz:=szl;have ND:=iU.nd;have HU:=cT hr;refine bE (e12 P w base T WW A WX s H E hr k) fun u12 hu12 c12=>?_;refine⟨_,(af (aE 2 ND (ai rV (fv 2) (cy (fa1 (fv 5)))))
  (af (cj (Zz HU) (fv 4) (ay [98,111,111,107,101,100]) (cy (FA.pa c_)) rfl)
  (af (cj (Zz HU) (fv 4) (ay [104,101,108,100]) (cy (FA.pa c_)) rfl)
  (af (cj (Zz HU) (fv 4) (ay [112,97,116,104,115]) (fv 2) rfl)
  (af (aE 6 ND (ai fZ (aI (FZ rfl) rfl T.Jz Hs (fa2 (aI (cq K) rfl T.eJ de (fa1 (fv 0))) ae)) ae))
  hu12))))),fun W e ps cu cs R Wf WU ns sv G sc bse F hP l10 pp4 lc nc cc hbs=>?_⟩
 walk_at "q";have lcs:((ps.map VS).length:Nat)=ps.length:=zV _;have pl:∀ {WU:List (Key × V)} {k:Key} {v:V},WU.length<=5->(bD WU k v).length<=6:=fun {WU k v} h=>wG (cG WU k v) (by lia);have chg:∀(A:Hp) (o:HO),∃A',upd A W.mm o=A'/\A' W.mm=some o/\(∀c,c≠W.mm->A' c=A c)/\(NoB W.b A->dw o=true->NoB W.b A'):=fun A o=>⟨_,rfl,aa,fun c n=>ag n,fun n d=>n.upd d⟩;refine⟨by walk_at "o",fun p0 f0=>?_⟩;refine fL (K20.alloc (HO.lst [VS (ltP e)]) f0) fun A1 e1 s1 g1=>?_;have b1:NoB W.b A1:=by rw[<- e1];exact F.nb.upd rfl
 rw[e1];refine⟨_,_,s1 _ _ F.pp,g1,by rw[zV,v6];lia,fun p1 f1=>?_⟩;refine fL (K20.alloc (HO.lst (ps.map VS++[VS (ltP e)])) f1) fun A2 e2 s2 g2=>?_;have b2:NoB W.b A2:=by rw[<- e2];exact b1.upd rfl
 rw[e2];refine⟨tB _,fun p2 f2=>?_⟩;refine fL (K20.alloc (HO.lst []) f2) fun A3 e3 s3 g3=>?_;have b3:NoB W.b A3:=by rw[<- e3];exact b2.upd rfl
 rw[e3];have s03:=(s1.trans s2).trans s3;refine⟨W.mm,_,rfl,DPut.k (k:=kwT fP) (s03 _ _ F.hm) (by show 3<WC;lia),?_⟩;refine bQ (chg A3 (.dK (bD (m3 W) (kwT fP) (.ref p2)))) fun A4 e4 g4 k4 b4=>?_;rw[e4];refine⟨tB _,fun p3 f3=>?_⟩;refine fL (K20.alloc (HO.lst []) f3) fun A5 e5 s5 g5=>?_;have b5:NoB W.b A5:=by rw[<- e5];exact(b4 b3 rfl).upd rfl
 rw[e5];refine⟨W.mm,_,rfl,DPut.k (k:=kwT oV) (s5 _ _ g4) (ZZ (pl (wG (zK 3) (by decide))) (by lia)),?_⟩;refine bQ (chg A5 (.dK (bD (bD (m3 W) (kwT fP) (.ref p2)) (kwT oV) (.ref p3)))) fun A6 e6 g6 k6 b6=>?_;rw[e6];refine⟨W.mm,_,rfl,DPut.k (k:=kwT lM) g6 (ZZ (cG _ _ _) (ZZ (YU (cG _ _ _)) (by show 3+1+1<WC;lia))),?_⟩;refine bQ (chg A6 (.dK (bD (bD (bD (m3 W) (kwT fP) (.ref p2)) (kwT oV) (.ref p3)) (kwT lM) (.ref p1)))) fun A7 e7 g7 k7 b7=>?_;rw[e7];rw[IC]at g7;have fr1:G p1=none:=s1.free f1;have fr2:G p2=none:=(s1.trans s2).free f2;have q1:p1≠W.mm:=fun z=>by rw[z,F.hm]at fr1;cases fr1
 have q2:p2≠W.mm:=fun z=>by rw[z,F.hm]at fr2;cases fr2
 have q3:p3≠W.mm:=fun z=>by rw[z,g4]at f3;cases f3
 have fr3:G p3=none:=s03.free ((k4 p3 q3).symm.trans f3);have n12:p1≠p2:=fun z=>by rw[<- z,g2]at f2;cases f2
 have n13:p1≠p3:=fun z=>by rw[<- z,k4 _ q1,s3 _ _ g2]at f3;cases f3
 have n23:p2≠p3:=fun z=>by rw[<- z,k4 _ q2,g3]at f3;cases f3
 have up:∀c o,A3 c=some o->c≠W.mm->A7 c=some o:=fun c o h n=>(k7 c n).trans ((k6 c n).trans (s5 _ _ ((k4 c n).trans h)));obtain⟨L,hb,S⟩:=F.ls (ps:=ps++[ltP e]) (G':=A7) rfl (fun c o h n=>up _ _ (s03 _ _ h) n) g7 (by rw[yE];exact up _ _ (s3 _ _ g2) q1) (up _ _ g3 q2) ((k7 _ q3).trans ((k6 _ q3).trans g5)) fr1 fr2 fr3 n12 n13 n23 (TP.of hP l10) (JC hP) pp4 lc nc cc;have ll:(ns.map V.int).length=ns.length:=zV _;refine⟨ns.map V.int,.inl S.sq,?_⟩;rw[ll];exact c12 _ _ _ _ _ _ _ ns sv A7 sc bse _ _ L hb (b7 (b6 b5 rfl) rfl) S (by rw[zA,v6];exact Nat.le_add_left _ _) hbs (by split <;> lia) (by split <;> lia) (by split <;> lia)
end
def ED{cs:List Acc}{ps:List (List Nat)}{v l:List Nat}{z:Acc}(h:CG cs ps)(e1:z.pa=l):(je cs v (grw l)++[z]).map (·.pa)=ps++[l]:=by
 rw[yE,cK (f:=grw l) _ fun _=>rfl,h.pa,<- e1];rfl
def D3(x:V):qW (zR "shut") [(zR "by_path",x)]=none:=by rw[aZ (by decide +kernel)];rfl
section
variable(P w base)(T:Txt K mg a)(WW:WI)(A:WD)(WX:List Env)(s:WG)(H:Hp){Q:VK}(E:XK)(hr:Room 13 (A.deeper (YZ "law" (ak c9) s.heap.objs.size a.eA WW)))
include T hr in
def e4(k:∀H',Q (.bl true) H'):∃u,PSs (cJ (XE P w) P w K mg base nO "law" (ak c9) a.eA WW A WX s H E) (ZE 4 (bh c9)) u/\∀(W:Wd) e ps cu cs R Wf WU (ns:List Int) sv G sc (bse:Int),RF a K W ps cu cs R Wf WU sc sv ns (m3 W) G->CG cs ps->Pths e ps->ps.length<=10->cu.length=4->cu.Nodup->(∀l∈cu,cur l=true)->(0<=bse/\bse<=4796)->u { nx:=fun _ H'=>Q .non H',rt:=Q } [some (.ref sc),some (.int bse),some (.ref W.pp),some (.ref W.cp),some (.ref W.mm),none,none,none,none,none,none,none,none] G:=by
 have sz:=szl;have ND:=iU.nd;have HU:=cT hr;obtain⟨u7,hu7,c7⟩:=e7 P w base T WW A WX s H E hr k;refine⟨_,(af (aE 5 ND (ai aP (aH K (fv 2) ae) (ay [58,122,108,97,116,101,122])))
  (af (fE (bH (cZ (aT (Zz HU) (fv 4) (ay [99,104,97,114,116]) (fun _ _=>rfl)) T.bR (jZ T) hr.mono av (fa3 (fv 5) eC (aF (dh T) hr av (fa1 (ai aP (fv 1) ae)))))))
  (af (fE (bH (cZ (aT (Zz HU) (fv 4) (ay [99,104,97,114,116]) (fun _ _=>rfl)) T.bR (pw T) hr.mono av (fa2 (aH K (fv 2) (oQ jI ae)) (aF (dh T) hr av (fa1 (ai aP (fv 1) ae)))))))
  hu7))),fun W e ps cu cs R Wf WU ns sv G sc bse F cg hP l10 lc nc cc hbs=>?_⟩
 have l0:=iS (c:=e) (k:=0);walk_at "q";refine⟨_,_,.inl (az F.pp),aO (j:=0) (by rw[Wm,K20.Pths.head hP];rfl),?_⟩;walk_at "q";have J1:∀o,CAt a.a7 a.aN (upd G W.b (.frz o (.dT WU))) W.pc W.dd cs:=fun o=>F.ch.fz F.hb (by intro _ _ _ z;cases z) (by intro _ z;cases z) (by intro _ z;cases z);refine⟨by lia,W.b,.dT WU,rfl,F.hb,fun o=>?_⟩;have nF:=F.nb.frz o (.dT WU);have hmb:(upd G W.b (.frz o (.dT WU))) W.mm=some (.dK (m3 W)):=(ag (fun z=>by have:=F.hb;rw[<- z,F.hm]at this;cases this)).trans F.hm;obtain⟨dx,hc⟩:=(J1 o).ob;have lps:cs.length=ps.length:=by rw[<- cg.pa,zV]
 have ex:nms e 0++[58,122,108,97,116,101,122]=ltP e:=rfl;have f1:=rG (m:=0) (n:=bse+2) (by lia);have f2:=zT (m:=bse+2) (by lia);have f3:=sX (bse+2);rw[IY]at f1;rw[ex];refine bE (yR.mp (show nms e 0∈cs.map (·.pa) by rw[cg.pa];exact Gj hP)) fun u0 mu0 eu0=>?_;have st:=cg.st u0 mu0;have hnl:=BC hP;refine⟨W.mm,_,rfl,dgM hmb (l:=lT) rfl,?_⟩;walk_at "q";refine⟨dx,_,hc,BU _,nF,nF,BH e,⟨by lia,by lia⟩,nms e 0,[122,108,97,116,101,122],W.dd,cs,u0,rfl,yZ,?_,J1 o,by lia,fun c m=>by have:=(cg.st c m).2.2;lia,cg.none_ hnl,mu0,eu0,st.1,by rw[st.2.1];lia,fun z H' e1 e5 e2 e3 e4 o1 o2 J2 kp nT=>?_⟩
 .unfold iW
  rw[sp_lt];simp[qQ]
  decide
 have kp2:=vi F.hb kp;have bn:W.b∉W.dd::cs.map (·.bl):=fun m=>by
  obtain q|m:=z9.mp m
  .have:=F.hb;rw[q,F.ch.dc]at this;cases this
  .obtain⟨y,my,ey⟩:=yR.mp m
   have:=F.hb;rw[<- ey,(F.ch.ac y my).ls]at this;cases this
 have hfb:H' W.b=some (.frz o (.dT WU)):=kp _ _ aa bn;have zb:z.bl≠W.b:=fun q=>by rw[q,aa]at o2;cases o2
 have zo:z.ob≠W.b:=fun q=>by rw[q,aa]at o1;cases o1
 have F2:=F.chg (fun c o h n _=>kp2 c o h fun m=>n (by
  obtain q|m:=z9.mp m
  .rw[q];exact .head _
  .exact .tail _ (vS _ m))) (J2.fz hfb (by intro _ _ _ z;cases z) (by intro _ z;cases z) (by intro _ z;cases z)) aa (NoB.thw nT _) (fun y my=>by
  obtain my|my:=yy.mp my
  .obtain⟨y2,my2,rfl⟩:=d9 my
   rw[show(if y2.pa=nms e 0 then grw (ltP e) y2 else y2).bl=y2.bl by split <;> rfl,show(if y2.pa=nms e 0 then grw (ltP e) y2 else y2).ob=y2.ob by split <;> rfl];exact⟨.inl (uO (f:=(·.bl)) my2),.inl (uO (f:=(·.ob)) my2)⟩
  .rw[zh.mp my]
   rw[ag zb]at o2;rw[ag zo]at o1;exact⟨.inr o2,.inr o1⟩)
 refine⟨hfb,?_⟩;generalize upd H' W.b (.dT WU)=G2 at F2;have la:=ED (v:=nms e 0) cg e1;walk_at "q";refine⟨W.b,.dT WU,rfl,F2.hb,fun o2=>?_⟩;have hm2:(upd G2 W.b (.frz o2 (.dT WU))) W.mm=some (.dK (m3 W)):=(ag (fun z=>by have:=F2.hb;rw[<- z,F2.hm]at this;cases this)).trans F2.hm;refine⟨W.mm,_,rfl,dgM hm2 (l:=lT) rfl,?_⟩;walk_at "q";have l2:=K20.Pths.len2 hP;obtain⟨ps',lst,ep⟩:∃ps' lst,ps=ps'++[lst]:=⟨ps.dropLast,ps.getLast (by intro z;rw[z]at l2;exact VT l2 (by decide)),(List.dropLast_concat_getLast _).symm⟩;have hl:ps.getLast? = some lst:=by rw[ep];exact List.getLast?_concat
 have mlst:lst∈ps:=by rw[ep];exact wq _ (.head _)
 have k:=K20.Pths.ok hP lst mlst;refine bE (yR.mp (show lst∈cs.map (·.pa) by rw[cg.pa];exact mlst)) fun y my ey=>?_;have sy:=cg.st y my;have nh:y.pa≠nms e 0:=fun z=>by
  have h0:=K20.Pths.head hP;have h1:ps[ps.length-1]? = some lst:=by rw[ep];simp
  rw[<- ey,z]at h1;have:=(List.getElem?_inj (by lia) (K20.Pths.nd hP)).mp (h0.trans h1.symm);lia
 have mu:y∈je cs (nms e 0) (grw (ltP e))++[z]:=by
  refine vS _ ?_;have:=uO (f:=fun c:Acc=>if c.pa=nms e 0 then grw (ltP e) c else c) my;rw[VZ nh]at this;exact this
 have by_:y.be=[]:=List.eq_nil_iff_forall_not_mem.mpr fun b mb=>by
  obtain⟨m1,n,hn,eb⟩:=cg.be y my b mb;rw[eb,ey]at m1;exact K20.Pths.last hP hn hl m1
 have g1:=ET (m:=bse) (by lia);have g2:=sX bse;have g3:=zT (m:=bse+1) (by lia);have g4:=sX (bse+1);have J3:CAt a.a7 a.aN (upd G2 W.b (.frz o2 (.dT WU))) W.pc W.dd _:=F2.ch.fz F2.hb (by intro _ _ _ z;cases z) (by intro _ z;cases z) (by intro _ z;cases z);obtain⟨dx3,hc3⟩:=J3.ob;have pp3:(upd G2 W.b (.frz o2 (.dT WU))) W.pp=some (.lst (ps.map VS)):=(ag (fun z=>by have:=F2.hb;rw[<- z,F2.pp]at this;cases this)).trans F2.pp;refine⟨dx3,_,hc3,D3 _,_,_,.inl (az pp3),(show atI (ps.map VS) (-1)=some (VS lst) by rw[ep,yE];exact oU _ _),F2.nb.frz _ _,F2.nb.frz _ _,?_⟩;walk_at "q";refine⟨⟨k.lo,by have:=k.len;lia⟩,⟨by lia,by lia⟩,W.dd,_,y,J3,mu,ey,k.pn,sy.1,by rw[sy.2.1];lia,by_,fun H3 J4 kp3 N3=>?_⟩;have kp4:=vi F2.hb kp3;have bn3:W.b∉(je cs (nms e 0) (grw (ltP e))++[z]).map (·.ob):=fun m=>by
  obtain⟨y,my,ey⟩:=yR.mp m;obtain⟨dx,e⟩:=(F2.ch.ac y my).ob;have:=F2.hb;rw[<- ey,e]at this;cases this
 have hfb3:H3 W.b=some (.frz o2 (.dT WU)):=kp3 _ _ aa bn3;have F3:=F2.chg (fun c o h n _=>kp4 c o h fun m=>n (.tail _ (wq _ m))) (J4.fz hfb3 (by intro _ _ _ z;cases z) (by intro _ z;cases z) (by intro _ z;cases z)) aa (NoB.thw N3 _) (fun y my=>by
  obtain⟨y2,my2,rfl⟩:=d9 my;rw[show(if y2.pa=lst then shu (FD (bse+1)) y2 else y2).bl=y2.bl by split <;> rfl,show(if y2.pa=lst then shu (FD (bse+1)) y2 else y2).ob=y2.ob by split <;> rfl];exact⟨.inl (uO (f:=(·.bl)) my2),.inl (uO (f:=(·.ob)) my2)⟩)
 exact⟨hfb3,c7 W e ps cu _ R Wf WU ns sv _ sc bse F3 hP l10 (by rw[cK (f:=shu (FD (bse+1))) _ fun _=>rfl,la]) lc nc cc hbs⟩
end
def sp_law(K:Ws):Sp:=sp1 fun x H Q _=>asR x fun p=>vB H/\∃ns:List Int,SqL K H p (ns.map V.int)/\ns.length<=63/\∀H',Q (.bl true) H'
def Hv(T:Txt K mg a){fd:FuncData}(FL:Fun K "law" "law" c9 a.eA fd):iz P w K mg base (XE P w) 14 a.eA fd ["_law_script"] (sp_law K):=by
 refine FL.okX iU (fun vs H Q E h=>sp1.len h) (fun WW A WX s H vs Q E hr h=>?_);obtain⟨x0,rfl,h⟩:=sp1.inv h
 try dsimp only[sp_law,sp1]at h
 have ND:=iU.nd;have HU:=cT hr;refine fL (aQ h) fun sc yy1 hO yz=>fL yz fun ns hS hl k=>?_;subst yy1;have hN:=zH hO;have sz:=szl;obtain⟨u4,hu4,c4⟩:=e4 P w base T WW A WX s H E hr k;refine⟨_,(af (aE 1 ND (ai aS (aF (bC T) hr av (fa2 (fv 0) ae)) ae))
  (af (aE 2 ND (aF (pG T) hr av (fa2 (fv 0) (ai aP ae (ai aS (ai a_ (aF (bC T) hr av (fa2 (fv 0) ae)) ae) ae)))))
  (af (aE 3 ND (aF (jC T) hr av (fa1 (aF (bC T) hr av (fa2 (fv 0) ae)))))
  (af (aE 4 ND (xj (j2 (ay [99,104,97,114,116]) (aF (ph T) hr av (fa1 (fv 2))) (j2 (ay [106,111,117,114,110,97,108]) (vx T.wa (jf T) hr.mono rfl T.zn av) (j2 (ay [114,97,116,101,115]) (aF (pJ T) hr av (fa3 (fv 0) (fv 1) (fv 3))) xI))) rfl rfl (by simp) (by decide)))
  hu4)))),?_⟩
 walk_at "q";have b0:=Zt (ns.getD (XF 0) 0) (b:=4797) (by decide);have b1:=Zu (ns.getD (XF 0) 0) (b:=4797) (by decide);have b2:=Zt (ns.getD (XF 0) 0 / 4797) (b:=6) (by decide);have b3:=Zu (ns.getD (XF 0) 0 / 4797) (b:=6) (by decide);obtain⟨sv,S0⟩:∃sv,ScAt K sc sv ns H:=by
  obtain(h|⟨ob,h⟩)|h:=hS
  .obtain z|⟨o,xs,z⟩:=hO sc <;> rw[h]at z <;> cases z
  .exact⟨some (ob,ns.map V.int),fun x e=>(by cases e;exact h),fun F hF=>.inl (.inr ⟨ob,hF _ rfl⟩)⟩
  .exact⟨none,(fun l e=>nomatch e),fun F _=>.inr h⟩
 refine⟨ns,hS,ns,hS,hN,ns,hS,⟨by lia,by lia⟩,fun e ps q hP l10 fq=>?_⟩;refine bQ (bv (o:=HO.lst (ps.map VS)) fq hN rfl) fun G1 e1 s1 g1 N1=>?_;rw[e1];refine⟨ns,hS.same s1,N1,fun cu lc nc cc q1 fq1=>?_⟩;refine bQ (bv (o:=HO.lst (cu.map VS)) fq1 N1 rfl) fun G2 e2 s2 g2 N2=>?_;rw[e2];simp only[E2,rJ];intro mm fmm;refine bQ (bv (o:=HO.dK []) fmm N2 rfl) fun G3 e3 s3 g3 N3=>?_;rw[e3];walk_at "q";refine⟨N3,e,ps,(s2.trans s3) _ _ g1,hP,l10,fun c d cs G4 J cg fc fz fd s4 N4=>?_⟩;intro j dj hj hdj nj;refine⟨al (al N4 rfl) rfl,dj,aa,fun jl ud G5 fjl fud J5 k5 N5=>?_⟩;have s5:WT G4 G5:=fun c z e=>gA hj hdj k5 c z e yW;have fjl:=dB fjl;have fud:=dB fud;have s35:=s4.trans s5;have s15:=(s2.trans s3).trans s35;refine⟨N5,ns,cu,(hS.same s1).same s15,⟨b0,by lia⟩,(s3.trans s35) _ _ g2,lc,nc,cc,fun r b WU R Wf G6 RL6 fr fb fW hb6 nB6 s6=>?_⟩;have s46:=s5.trans s6;have m4:G4 mm=some (.dK []):=s4 _ _ g3;have m5:=s5 _ _ m4;have m6:=s6 _ _ m5;have nm:∀ {F:Hp} {x o},F mm=some o->F x=none->x≠mm:=fun h1 h2 z=>by rw[z,h1]at h2;cases h2
 refine⟨m6,m3 ⟨mm,c,j,r,b,mm,q,mm,d,jl,ud,q1⟩,rfl,(show 3<=15 by decide),?_⟩;have k7:∀ {x o},G6 x=some o->x≠mm->(upd G6 mm (.dK (m3 ⟨mm,c,j,r,b,mm,q,mm,d,jl,ud,q1⟩))) x=some o:=fun h n=>(ag n).trans h;have kn:∀ {x o},G6 x=some o->(∀z,o ≠ .dK z)->(upd G6 mm (.dK (m3 ⟨mm,c,j,r,b,mm,q,mm,d,jl,ud,q1⟩))) x=some o:=fun h n=>k7 h fun z=>by rw[z,m6]at h;cases h;exact n _ rfl
 have wm:¬ Wf mm:=fun z=>by have:=fW _ z;rw[m5]at this;cases this
 have d4:=J.dc;have gq4:G4 q=some _:=s4 _ _ (s3 _ _ (s2 _ _ g1));have gq14:G4 q1=some _:=s4 _ _ (s3 _ _ g2);have F:RF a K ⟨mm,c,j,r,b,mm,q,mm,d,jl,ud,q1⟩ ps cu cs R Wf WU sc sv ns (m3 ⟨mm,c,j,r,b,mm,q,mm,d,jl,ud,q1⟩) (upd G6 mm (.dK (m3 ⟨mm,c,j,r,b,mm,q,mm,d,jl,ud,q1⟩))):=by
  refine⟨aa,⟨?_,k7 (s46 _ _ J.dc) (nm g3 fd),fun z mz=>⟨?_,kn (s46 _ _ (J.ac z mz).ls) (by intro _ z;cases z)⟩,J.np,J.na,J.nb⟩,⟨?_,kn (s6 _ _ J5.ls) (by intro _ z;cases z),k7 (s6 _ _ J5.dc) (nm m4 fud)⟩,RL6.at_.mv (.inl (kn hb6 (by intro _ z;cases z))) fun p o e _ h=>?_,RL6.ok,RL6.len,kn hb6 (by intro _ z;cases z),nB6.upd rfl,kn (s46 _ _ gq4) (by intro _ z;cases z),kn (s46 _ _ gq14) (by intro _ z;cases z),S0.mv fun x o xs e=>kn (s46 _ _ (s4 _ _ (s3 _ _ (s2 _ _ (s1 _ _ e))))) (by intro _ z;cases z),⟨wm,fun z=>?_,fun z=>?_⟩,⟨Wc (nm g3 fd),Wc (nm m4 fud),fun z=>?_⟩,⟨fun z=>?_,fun z=>?_⟩,fun z mz=>⟨fun e=>?_,fun e=>?_,fun e=>?_⟩,fun z mz=>⟨fun e=>?_,fun e=>?_⟩⟩
  .obtain⟨dx,e⟩:=J.ob
   exact⟨dx,kn (s46 _ _ e) (by intro _ z;cases z)⟩
  .obtain⟨dx,e⟩:=(J.ac z mz).ob
   exact⟨dx,kn (s46 _ _ e) (by intro _ z;cases z)⟩
  .obtain⟨dx,e⟩:=J5.ob
   exact⟨dx,kn (s6 _ _ e) (by intro _ z;cases z)⟩
  .refine k7 e fun z=>?_
   obtain h|h|⟨l,h⟩:=h
   .exact wm (z ▸ h)
   .obtain⟨dx,_,_,e2,_⟩:=RL6.at_.ex
    rw[<- h,z,m6]at e2;cases e2
   .rw[z,m6,h]at e;cases e
  .have:=fW _ z;rw[s5 _ _ d4]at this;cases this
  .have:=fW _ z;rw[J5.dc]at this;cases this
  .have z:d=ud:=z
   rw[<- z,d4]at fud;cases fud
  .have z:q=jl:=z
   rw[<- z,gq4]at fjl;cases fjl
  .have z:q1=jl:=z
   rw[<- z,gq14]at fjl;cases fjl
  .have e:z.bl=jl:=e
   rw[<- e,(J.ac z mz).ls]at fjl;cases fjl
  .have e:z.bl=q:=e
   have:=(fz z mz).1;rw[e,s3 _ _ (s2 _ _ g1)]at this;cases this
  .have e:z.bl=q1:=e
   have:=(fz z mz).1;rw[e,s3 _ _ g2]at this;cases this
  .have e:z.ob=j:=e
   obtain⟨dx,e2⟩:=(J.ac z mz).ob;rw[<- e,e2]at hj;cases hj
  .have e:z.ob=r:=e
   obtain⟨dx,e2⟩:=(J.ac z mz).ob;rw[<- e,s5 _ _ e2]at fr;cases fr
 exact c4 _ e ps cu cs R Wf WU ns sv _ sc _ F cg hP l10 lc nc cc ⟨b0,by lia⟩
def law_starts{H:Hp}{p:WH}{ns:List Int}(hO:vB H)(hS:SqL K H p (ns.map V.int))(hl:ns.length<=63):sp_law K [.ref p] H (fun v _=>v = .bl true) fun _ _ _=>False:=⟨hO,ns,hS,hl,fun _=>rfl⟩
end
noncomputable abbrev IX(x q:Str)(s:Stmt)(kV dc pm:WI)(an:Option WH)(cd ct:WI):FuncData:=YD x q (hG s) (bh s) (ak s) .none kV dc pm an cd ct
section
variable{K:Ws}{h:Wz}{mg:Str->Option WI}{x WK:Str}{st:Stmt}{f g C:WH}{oc:WI}{od an:Option WH}{osl:Array (Option WI)}{kV doc pm WW ct:WI}{cl:ClassData}
def nf_of(X:K.In h)(G:h.Ns ZB mg)(a:PySem.W.nsIn K ZB x=some (some (.ref f)))(l:K.lookup f=some ⟨oc,od,.func (IX x x st kV doc pm an WW ct),osl⟩)(c:PySem.W.codeIn K WW x=true)(k:Yk K (.ref f)=true):DfN K mg x st:=⟨_,_,PySem.W.mg_of X G a,wy l c k⟩
def mf_of(a:ZM K (.ref C) x=some (some (.ref f)))(i:PySem.W.isFn K (.ref f)=true)(l:K.lookup f=some ⟨oc,od,.func (IX x WK st kV doc pm an WW ct),osl⟩)(c:PySem.W.codeIn K WW WK=true)(k:Yk K (.ref f)=true):DfM K C x WK st:=⟨_,_,⟨a,i,k⟩,wy l c k⟩
def exc_of(u:ZM K (.ref C) "__getattribute__" = some (some (.builtin "BaseException.__getattribute__")))(w:ZM K (.ref C) "__getattr__" = some none)(y:ZM K (.ref C) "__class__" = some (some (.builtin "object.__class__")))(o:PySem.W.clsIn K C=some cl)(g:YV K C (.type "object")=some true)(b:YV K C (.type "BaseException")=some true):dH K C:=⟨u,w,y,(by rw[o];rfl),g,b⟩
def cst_of{WV:Array WI}{n:Nat}{vs:List V}{d:Option WH}{sl:Array (Option WI)}(l:K.lookup f=some ⟨.type "tuple",d,.seq WV n,sl⟩)(z:WV.size<=WC)(v:WP vs WV.toList):∃(o:Obj) (WV:Array WI) (n:Nat),K.lookup f=some o/\o.cls = .type "tuple" /\ o.data = .seq WV n/\WV.size<=WC/\WP vs WV.toList:=⟨_,_,_,l,rfl,rfl,z,v⟩
def fin_of{l:PySem.W.OpenLaw}{w:WE}{fa:WH}{a:Adr}(hfa:mg "law" = some (.ref fa))(T:Txt K mg a)(e:mg "law" = some (.ref a.eA)):∃fd:FuncData,(∀(s:WG) (v:WI),BindsTo s fd ⟨[v],[]⟩ [("_law_script",v)])/\∀base:Wz,K.In base->base.Ns ZB mg->iz l.prog w K mg base (XE l.prog w) 14 fa fd ["_law_script"] (sp_law K):=by
 cases hfa.symm.trans e;obtain⟨fd,F⟩:=T.Ie;refine⟨fd,fun s v=>?_,fun base _ _=>Hv T F⟩;obtain⟨oc,od,kV,doc,pm,an,WW,ct,osl,e,lk,hcd⟩:=F.ex;rw[e];exact .of_eq rfl
end
end K20
open PySem PySem.W PyProof.Rows
theorem PySem.Challenge.cw_evenhall_k20_whole_values_holds : PySem.Challenge.rw_evenhall_k20_whole_values.Holds := by
 w_on
 refine PySem.W.holds_law K20.ws fun said=>?_;refine PySem.W.holds_open (q:=K20.vw) (loose:=[]) (Xt:=fun s=>PySem.W.xlAt K20.vw [] s&&PySem.W.recOk (PySem.W.RowW.records (PySem.W.OpenRow.toRowW (PySem.W.OpenLaw.row jw))) s) (XP:=PySem.W.XL K20.vw []) (Yf:=PySem.W.Hook.obs (Xm K20.frag K20.adrs K20.adrs_eq)) (Ya:=PySem.W.Hook.val (Xm K20.frag K20.adrs K20.adrs_eq)) (YP:=PySem.W.Hook.says (Xm K20.frag K20.adrs K20.adrs_eq)) (N:=12686) K20.left (PySem.W.Hook.of (Xm K20.frag K20.adrs K20.adrs_eq)) (PySem.W.Hook.keeps (Xm K20.frag K20.adrs K20.adrs_eq))
  (fun s e=>PySem.W.xl_of s (Bool.and_eq_true_iff.mp e).1) PySem.W.XL.keeps (by rfl) (by rfl) (by rfl) (fun s e=>PySem.W.recFacts_of (Bool.and_eq_true_iff.mp e).2) (by rfl) (by assumption) (by decide +kernel) ⟨rfl,rfl,rfl,rfl,rfl,by decide +kernel⟩ ?hw ?hc
 (case hw=>w_witness2)
 k_fill
 refine L2.Cd (l:=jw) (n:=63) (k:=14) (x:="_law_script") (sp:=K20.sp_law) rfl (by decide) rfl ⟨rfl,by decide,by decide⟩ (fun w h Y=>PySem.W.kIn_of Y) ?F ?S
 case F=>
  intro w mg fa h KX G hmg;refine' K20.fin_of (a:=⟨793,31,51,70,89,108,127,146,165,184,203,222,241,260,441,537,593,666,410⟩) hmg ?T (PySem.W.mg_of KX G (by k_is))
  case T=>
  constructor
  all_goals try dsimp only
  all_goals first|exact PySem.W.mg_of KX G (by k_is)|exact PySem.W.mg_none_of KX G (by k_is)|exact K20.nf_of KX G (by k_is) (by k_is) (by k_is) (by k_is)|exact K20.mf_of (by k_is) (by k_is) (by k_is) (by k_is) (by k_is)|exact⟨_,L2.wy (by k_is) (by k_is) (by k_is)⟩|exact⟨by k_is,by k_is,by k_is,by k_is⟩|(unfold L2.NoAttr;k_is)|exact⟨by k_is,by k_is⟩|(unfold K20.zzX;k_exc)|exact K20.exc_of (by k_is) (by k_is) (by k_is) (by k_is) (by k_is) (by k_is)|exact L2.yj (by k_is) (by k_is) (by k_is) (by k_is)|exact L2.yP (by k_is)|exact L2.yu (by k_is) (by k_is) (by k_is) (by k_is)|exact K20.cst_of (by k_is) (by show _<=WC;decide) (by repeat first|exact .nil|refine .cons ⟨_,rfl⟩ ?_)
 case S=>exact fun K H a ns hl hO hS=>K20.law_starts hO hS hl
