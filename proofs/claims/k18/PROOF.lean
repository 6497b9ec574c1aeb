import PyProof.Rows.All
import KE.KUnpack
import PyProof.DictTruth
import PyProof.DictWalks
import PyProof.Rows.SortKeyStr
import KE.KItem
import KE.KTupSum
import KE.KEqDict
import KE.KFromBytes
import KE.KIntText
import KE.KRevIter
import KE.KDictOf
import KE.LcSums
import KE.KDictSum
import KE.KTryMore
import OpenK.KLine
import OpenK.KOwn
import Wide.Line
import Wide.FinOn
import PyProof.MaxThree
import KE.KSortTup
import KE.KPairComp
import KE.KListMore
import Lean
import PySem.Challenge.RW_evenhall_k18_whole_reports
set_option genInjectivity false
set_option genSizeOf false
set_option Elab.async false
set_option linter.all false
set_option maxRecDepth 100000
set_option maxHeartbeats 0
open PySem.Challenge renaming pw_evenhall_k18_whole_reports -> Qq, rw_evenhall_k18_whole_reports -> Qj
open PyProof.Rows renaming wpS_bind -> WC, wpS_pure -> WB, wpS_get -> WA
open PySem.W renaming Frag -> Wz
open PySem.Heap renaming get?_push_of_some -> Wy, get?_push_size -> Wx, get?_update_other -> Ww, get?_update_self -> Wv
open Or renaming inl -> Wi, inr -> Wh
open Ne renaming symm -> Wj
open Array renaming getElem?_eq_getElem -> Wn, getElem?_eq_some_iff -> Wm, getElem?_toList -> Wl
open List renaming getElem?_eq_some_iff -> Wu, getElem?_map -> Ws, getElem?_eq_getElem -> Wr, getElem?_append_left -> Wq, getElem?_concat_length -> Wp, find?_eq_none -> Wo
open PySem renaming wpAny -> WH, model -> WG, Heap -> WF, starEach -> WE, backTo -> WD
open And renaming intro -> wb
open Array renaming length_toList -> ZY, perm_iff_toList_perm -> YT
open Bool renaming false_ne_true -> vV, false_eq_true -> Zd, and_eq_true -> Za, eq_iff_iff -> YL
open Classical renaming byContradiction -> Z8
open False renaming elim -> YX
open Int renaming eq_ofNat_of_zero_le -> Zk, toNat_natCast -> ZV, add_zero -> ZQ, emod_lt_of_pos -> ZN, emod_nonneg -> ZH, add_assoc -> Z3, zero_add -> Yj, le_refl -> Xl, ofNat -> Xe
open List renaming mem_singleton -> zw, length_map -> zm, mem_cons -> zk, length_append -> zc, mem_append -> yf, size_toArray -> yN, mem_map -> yI, nodup_cons -> yE, map_append -> yB, map_cons -> xY, mem_map_of_mem -> xW, mem_of_getElem? -> wt, length_singleton -> wa, not_mem_nil -> vO, mem_append_left -> uj, map_map -> uR, mem_append_right -> uD, filter_cons_of_pos -> tR, filter_cons_of_neg -> tK, mem_cons_of_mem -> tH, length_cons -> sP, lookup -> qI, length_take -> qF, range -> lq, map_congr_left -> lW, take_length -> Zx, all_eq_true -> Zv, nodup_nil -> Zu, append_nil -> Zs, filter_append -> Zp, filter_eq_self -> Zo, take_of_length_le -> Zm, length_filter_le -> Zj, mem_filter -> Zf, nodup_append -> ZW, length -> ZT, map_nil -> ZR, mem_cons_self -> ZO, flatMap_cons -> ZI, pairwise_cons -> ZC, drop -> ZB, mem_of_mem_take -> ZA, flatMap_append -> Z7, cons_append -> Yy, map_singleton -> Yw, filter_nil -> Ym, filter_eq_nil_iff -> Yi, map_id -> Ye, sum_cons -> Yb, mem_flatMap -> YZ, any_eq_true -> YY, pairwise_iff_getElem -> YR, length_nil -> YM, append_assoc -> YI, length_set -> Xy, take_succ -> Xj, lt_irrefl -> Xi, length_drop -> Xc, flatMap_nil -> Xb, length_pos_iff -> XZ
open List.Pairwise renaming filter -> Xg, imp_of_mem -> XV
open Nat renaming le_refl -> ym, zero_le -> rp, le_trans -> r9, ne_of_lt -> Zy, lt_of_lt_of_le -> Zw, lt_irrefl -> ZM, le_of_lt -> ZK, lt_of_le_of_lt -> ZD, lt_or_ge -> Yu, min_eq_left -> Xz, le_succ_of_le -> Xp, le_succ -> Xm, succ_le_succ -> Xd, le_antisymm -> XR
open Option renaming map_eq_some_iff -> Zn, isSome_map -> Xq
open Option.some renaming inj -> Zt
open Prod.mk renaming inj -> Zg
open PyProof.Rows renaming callWith_type1 -> Yh, envOfC -> YB, listItems_at -> Y2
open PySem renaming Value -> WO, Addr -> WN, Shared -> WM, Program -> WL, World -> WK, Around -> WJ, sizeLine -> WI, wpAny_bind -> zv, wpAny_pure -> yy, sizeLine_eq -> tV, compareOp -> Zl, wpAny_mono -> Zi, wpAny_truthy_bool -> Ze, bootBuiltins -> Zc, wpAny_call_entry -> Zb, wpAny_newObj_type -> ZZ, sysModules -> ZU, mainGlobals -> ZP, wpAny_holding -> Z2, mem_of_lookup -> Z6, tupleKind_room_in1 -> Yx, wpAny_typeNameOfWhole_itemiter -> Yv, wpAny_typeNameOfWhole_keyiter -> Yr, wpAny_dictEntries -> Yp, behindInMarks -> Yd, attributeBase -> Yc, wpAny_fieldsOf -> YW, wpAny_typeNameOf_itemiter -> YS, wpAny_passesOwn -> YN, sliceBounds -> YK, call_meets -> YF, wpAny_typeNameOf_keyiter -> YD, DictEntry -> YA, wpAny_getItem_str_slice -> Y0, wpAny_setField_rec -> Y3, wpAny_Call_Name_kw -> Y4, wpAny_isOneOf_itemiter -> Y5, wpAny_dictEpoch -> Y9, foldedSetIterable -> Xr, keywordEach -> Xn, dictSetDefault -> Xk, wpAny_execs_nil -> XT, letOwnedTupleGo -> XS, typeIs_str -> XQ, assignEach -> XO, IsItemIter -> XN, wpAny_field -> XJ
open PySem.Builtin.Dict renaming showsAll -> Xs
open PySem.Builtin.Dict_items renaming ownsTuple -> ZG
open PySem.Builtin.List renaming listExtendWith -> Yg, listFitsIndex -> Xf, listTooLong -> XU
open PySem.Builtin.Slice renaming slicePlaces -> YQ, sliceAdjust -> Xa
open PySem.Builtin.Str renaming strKind -> Yk, subAt -> YH, strSliceIndices -> Xo
open PySem.Builtin.Tuple renaming tupleExact -> YC
open PySem.Calls renaming callWith_builtin -> Z5, spliced_cons -> YU, evalArgs_plain -> YG
open PySem.Data renaming dict -> Xx, func -> XM, fields -> XI
open PySem.Expr renaming Constant -> Xu
open PySem.F renaming plainAttrs_list -> qS, type_list_append -> Zr, slot_list_append -> Zq, plainAttrs_str -> Zh, slot_dict_get -> Z9, slot_dict_itemiterator_next -> Yq, slot_dict_keyiterator_next -> Yl, plainAttrs_dict -> Y1, type_str_split -> Y6, slot_str_split -> Y7, entry_dict_get -> Y8, type_list_extend -> XX, slot_list_extend -> XW
open PySem.FuncBody renaming stmts -> YV
open PySem.Heap renaming lt_size -> vN, SameBut -> Z4
open PySem.NameKind renaming globalImplicit -> Z1
open PySem.Obj renaming mapSeq -> Yz, data_mapDictKeys -> Xh
open PySem.Paired renaming length -> Xv
open PySem.ScopeKind renaming function -> ZE
open PySem.Str renaming ofString -> zS, length -> Yo
open PySem.Value renaming ref -> vv, none -> ZS, str -> YO, type -> YE
open PySem.W renaming findIn -> ZX, kia_one -> ZL, emptyDict -> ZJ, kitOne -> Yt, keepIn -> Ys, instObj -> Yn, fnOf -> YJ, kHook -> Xw, mroIn -> XY
open True renaming intro -> ZF
def XH{p:Prop}(h:False):p:=h.elim
def Wg{c:Prop}[h:Decidable c](hc:¬c){α:Sort u}{t e:α}:ite c t e=e:=_root_.if_neg hc
def Wf{c:Prop}[h:Decidable c](hc:c){α:Sort u}{t e:α}:ite c t e=t:=_root_.if_pos hc
def We{p:Prop}[h:Decidable p](x:p):decide p=true:=_root_.decide_eq_true x
def Wc{p:Prop}[h:Decidable p](x:¬p):decide p=false:=_root_.decide_eq_false x
def Wb{α:Sort u}{β:Sort v}{a b:α}(f:α→β)(h:a=b):f a=f b:=_root_.congrArg f h
def Wa{a b:Prop}(h:a)(k:¬a):b:=(k h).elim
namespace L2
def Zz{n k c:Nat}(h:n+100<c)(d:k<=100:=by decide):n+k<c:=ZD (Nat.add_le_add_left d _) h
open PySem
noncomputable def bA(s:Stmt)(j:Nat):Stmt:=match s with
 | .ClassDef _ _ _ body _ _ _ _ _ _ _=>body.getD j (.Pass ⟨0,0,0,0⟩)
 |_=>.Pass ⟨0,0,0,0⟩
noncomputable def gC(s:Stmt):Arguments:=match s with
 | .FunctionDef _ a _ _ _ _ _ _ _ _=>a
 |_=>{ posonlyargs:=[],args:=[],vararg:=none,kwonlyargs:=[],kw_defaults:=[],kwarg:=none,defaults:=[] }
noncomputable def bB(s:Stmt):List Stmt:=match s with
 | .FunctionDef _ _ b _ _ _ _ _ _ _=>b
 |_=>[]
noncomputable def ay(s:Stmt):Scope:=match s with
 | .FunctionDef _ _ _ _ _ _ sc _ _ _=>sc
 |_=>{ kind:=.function,names:=[],isGenerator:=false,isCoroutine:=false }
end L2
namespace K18
open PySem L2
noncomputable def top(i:Nat):Stmt:=Qq.main.body.getD i (.Pass ⟨0,0,0,0⟩)
noncomputable abbrev om:Stmt:=top 79
noncomputable abbrev cH:Stmt:=top 87
noncomputable abbrev c9:Stmt:=top 89
noncomputable abbrev fP:Stmt:=bA (top 59) 2
end K18
namespace TR
open PySem PySem.W PyProof PyProof.Rows
noncomputable def go(p:WL)(w:WK)(lo:Nat)(an:Option WO):Nat->SharedT->Thread->Option SharedT
 |0,_,_=>none
 |k+1,x,th=>match through th with
  |true=>some x
  |false=>match stepOk lo an th with
   |false=>none
   |true=>match stepT (denote treeTable) p w x th with
    |none=>none
    |some y=>go p w lo an k y.1 y.2
def pX{p:WL}{w:WK}{lo:Nat}{an:Option WO}(k:Nat):∀ {x y:SharedT} {th:Thread},go p w lo an k x th=some y->topRun treeTable p w lo an k x.abs th=some y.abs:=by
 induction k with
 |zero=>intro x y th e;cases e
 |succ k ih=>
  intro x y th e;unfold go at e;unfold topRun
  revert e
  cases through th with
  |true=>intro e;cases e;rfl
  |false=>
   cases stepOk lo an th with
   |false=>intro e;cases e
   |true=>
    dsimp only;cases z:stepT (denote treeTable) p w x th with
    |none=>intro e;cases e
    |some v=>
     intro e;obtain⟨v1,v2⟩:=v;rw[stepT_spec z];exact ih e
noncomputable def lookB(p:WL)(b:WF)(s:WM):Bool:=staticsOk (importedModules p.main.body) b s.heap&&namesBound p s.heap&&gensDone s&&laidKept b s.heap
noncomputable def look(p:WL)(P:Params)(s:WM):Bool:=lookB p (boot_heap P) s
def left{p q:WL}{ls:List Str}{Xt:WM->Bool}{β:Type}{Yf:WM->β}{Ya:WK->β}{N lo:Nat}{an:Option WO}{tr:Params->BT}
 (ho:∀w:WK,(fencedOpening treeTable p w N).map (fun s=>(s.heap,s.gens,s.drawn,s.toks))=some (boot_heap w.params,Array.mk [],boot_drawn,boot_toks))
 (hz:∀P:Params,((boot_heap P).isNs ZP,(boot_heap P).objs.size,(boot_heap P).nsMap ZP "__annotations__")=(true,lo,an))
 (ht:∀P:Params,absHeap (tr P) lo (boot_heap P).life=boot_heap P)
 (hr:∀w:WK,(fun os=>(go p w lo an N ⟨tr w.params,lo,(boot_heap w.params).life,Array.mk [],boot_drawn,boot_toks,os⟩ (topStub p)).map fun x=>(look p w.params x.abs,openSeen q ls (importedModules p.main.body) Xt true x.abs,Yf x.abs))=fun _=>some (true,openGood q ls,Ya w)) :
 LeftO p q ls Xt Yf Ya N:=by
 intro w;obtain⟨⟨h,g,d,k,os⟩,e1,e2⟩:=Zn.mp (ho w);simp only[Prod.mk.injEq]at e2;obtain⟨rfl,rfl,rfl,rfl⟩:=e2;have z:=hz w.params;simp only[Prod.mk.injEq]at z;obtain⟨z1,z2,z3⟩:=z;obtain⟨x,r1,r2⟩:=Zn.mp (congrFun (hr w) os);simp only[Prod.mk.injEq]at r2;obtain⟨l1,l2,l3⟩:=r2;have t:=pX _ r1;have ab:SharedT.abs ⟨tr w.params,lo,(boot_heap w.params).life,Array.mk [],boot_drawn,boot_toks,os⟩=⟨boot_heap w.params,Array.mk [],boot_drawn,boot_toks,os⟩:=by
  show Shared.mk (absHeap (tr w.params) lo (boot_heap w.params).life) _ _ _ _=_;rw[ht]
 rw[ab]at t;have f:topFrom treeTable p w N ⟨boot_heap w.params,Array.mk [],boot_drawn,boot_toks,os⟩=some x.abs:=by
  unfold topFrom;dsimp only;rw[z1,z2,z3,t];show(match look p w.params x.abs with|true=>some x.abs|false=>none)=_;rw[l1]
 unfold openEnds;rw[e1];show(topFrom treeTable p w N _).map _=_;rw[f];show some (_,_)=_;rw[l2,l3]
noncomputable def s1(q:WL)(s:WM):=seen ((recsOf q).map (·.name)) (ownsOf q) [] { s with gens:=#[] }
noncomputable def s2(p q:WL)(c:WRecords)(s:WM):=(s.heap.bltView,s.heap.keysOk (looseW q []) ((recsOf q).map (·.name)) ((litsOf q).map (·.1)) ((clssOf q (looseW q [])).map (·.name))&&s.heap.accountedOkI (importedModules p.main.body)&&s.heap.isNs ZP&&s.heap.isNs builtinsNs&&tablesOk q s.heap&&(xlAt q [] s&&recOk c s)&&(s.gens.size==0),tabsOk q s)
noncomputable def s3(q:WL)(s:WM):=(pinSeenD q (drecsOf q) s,plainSeenE q (looseW q []) s,plainSeenD q [] s,wideSeen q s,clsSeenW q [] s)
noncomputable def d3(q:WL):=(pinGoodD (drecsOf q),plainGoodE q (looseW q []),plainGoodD q [],wideGood q,clsGoodW q [])
def seen3{p q:WL}{c:WRecords}{o:Option SharedT}(e1:o.map (fun x=>s1 q x.abs)=some (expectedOf q))(e2:o.map (fun x=>s2 p q c x.abs)=some (bltViewBooted,true,true))(e3:o.map (fun x=>s3 q x.abs)=some (d3 q)):o.map (fun x=>openSeen q [] (importedModules p.main.body) (fun s=>xlAt q [] s&&recOk c s) true x.abs)=some (openGood q []):=by
 cases o with
 |none=>cases e1
 |some x=>
  have f1:s1 q x.abs=_:=Zt e1;have f2:s2 p q c x.abs=_:=Zt e2;have f3:s3 q x.abs=_:=Zt e3;show some (s1 q x.abs,(s2 p q c x.abs).1,(s2 p q c x.abs).2.1,(s2 p q c x.abs).2.2,s3 q x.abs)=_;rw[f1,f2,f3];rfl
def three{α β γ δ:Type}{o:Option α}{f:α->β}{g:α->γ}{h:α->δ}{a:β}{b:γ}{c:δ}(e1:o.map f=some a)(e2:o.map g=some b)(e3:o.map h=some c):o.map (fun x=>(f x,g x,h x))=some (a,b,c):=by
 cases o with
 |none=>cases e1
 |some x=>cases e1;cases e2;cases e3;rfl
noncomputable def atT(x:SharedT)(a:Nat):Option Obj:=match Nat.blt a x.n with
 |true=>match x.tree.get a with
  |some o=>alive o
  |none=>none
 |false=>none
def G0{x:SharedT}{a:Nat}{o:Obj}(h:atT x a=some o):x.abs.heap.get? a=some o:=by
 revert h;unfold atT
 cases b:Nat.blt a x.n with
 |false=>intro h;cases h
 |true=>
  dsimp only;cases g:x.tree.get a with
  |none=>intro h;cases h
  |some o'=>intro h;exact(abs_get (Nat.le_of_ble_eq_true b) g).trans h
def atTs{β:Type}{o:Option SharedT}{l:List Nat}{fr:List (β × Obj)}(e:o.map (fun x=>l.map (atT x))=some (fr.map fun p=>some p.2)):o.map (fun x=>l.map x.abs.heap.get?)=some (fr.map fun p=>some p.2):=by
 cases o with
 |none=>cases e
 |some x=>
  have f:l.map (atT x)=_:=Zt e;refine Wb some (?_:l.map x.abs.heap.get? = _);clear e
  induction l generalizing fr with
  |nil=>cases fr with
   |nil=>rfl
   |cons y ys=>cases f
  |cons a l ih=>cases fr with
   |nil=>cases f
   |cons y ys=>
    injection f with f1 f2
    exact(Wb (· :: _) (G0 f1)).trans (Wb (_ :: ·) (ih f2))
end TR
namespace K18
open PySem L2
noncomputable abbrev kS(s:String):Str:=zS s
noncomputable abbrev kR(a:WN):WO:=.ref a
noncomputable abbrev kY(s:String):WO:=.type s
noncomputable abbrev kB(s:String):WO:=.builtin s
noncomputable abbrev kZ(s:Str)(t:Tok):WO:=.str s t
noncomputable abbrev kN:WO:=.none
noncomputable abbrev kD(h:Int)(k v:WO):YA:=⟨h,k,v⟩
noncomputable abbrev kO(c:WO)(d:Option WN)(t:Data)(s:Array (Option WO)):Obj:=⟨c,d,t,s⟩
noncomputable abbrev keyHash:=PyData.keyHash
noncomputable abbrev kE(P:Params)(s:String)(t:Tok)(v:WO):YA:=⟨keyHash P (kS s),kZ (kS s) t,v⟩
noncomputable abbrev kI(i:Int)(t:Tok):WO:=.int i t
noncomputable abbrev kz(s:String)(t:Tok):WO:=kZ (kS s) t
noncomputable abbrev kC(t:Tok):WO:=kz "/claim/cut.py" t
noncomputable abbrev kT(x:Array WO):Obj:=kO (kY "tuple") none (.seq x 0) #[]
noncomputable abbrev kU:WO:=.bool true
noncomputable def frP:Nat->List Str->List WO
 |_,[]=>[]
 |t,s::r=>kZ s t::frP (t+1) r
noncomputable def frL(s:Stmt):List Str:=(ay s).names.filterMap fun p=>match p.2 with | .local=>some p.1|_=>none
noncomputable def frM(P:Params):List (String × Nat × Nat)->List YA->List YA
 | [],r=>r
 |(s,t,a)::l,r=>kE P s t (kR a)::frM P l r
noncomputable abbrev frQ(n q:String)(t l g a m:Nat):Obj:=kO (kY "code") none (XI #[kz n t,kz q (t+1),kC (t+2),kI (Xe l) 0,kI (Xe g) 0,kI 0 0,kI 0 0,kI 3 0,kR a,kU,kI 181 0,kR (a+1),kN,kR (a+2),kR (a+3),kR (a+4),kI (Xe m) 0,kI (Xe l) 0,kC (m+1)]) #[]
noncomputable abbrev frG(n q:String)(t l g a:Nat):Obj:=kO (kY "code") none (XI #[kz n t,kz q (t+1),kC (t+2),kI (Xe l) 0,kI (Xe g) 0,kI 0 0,kI 0 0,kI 3 0,kR a,kU,kI 181 0,kR (a+1),kN,kN,kN,kR (a+2),kI (Xe (t+3)) 0,kI (Xe l) 0,kC (t+4)]) #[]
noncomputable abbrev frZ(m:String)(k:Nat)(n q:String)(s:Stmt)(r:Nat):Obj:=kO (kY "function") none (XM (YJ (kS n) (kS q) (gC s) (bB s) (ay s) kN kN kN (kz m k) none (kR r) kN)) #[]
noncomputable def frA(a:Nat)(n q:String)(t l g h:Nat)(ps:List Str)(o:Obj)(r:Wz):Wz:=(a,kT #[])::(a+2,kT (frP (t+3) ps).toArray)::(a+3,kT #[])::(a+5,frQ n q t l g a (t+h+3))::(a+6,o)::r
noncomputable def frB(Z:String->String->Stmt->Nat->Obj)(a:Nat)(n q:String)(s:Stmt)(t l g h:Nat)(r:Wz):Wz:=frA a n q t l g h (frL s) (Z n q s (a+5)) r
noncomputable def frC(Z:String->String->Stmt->Nat->Obj)(a:Nat)(n:String)(s:Stmt)(t l g h:Nat)(r:Wz):Wz:=frB Z a n n s t l g h r
noncomputable def frD(Z:String->String->Stmt->Nat->Obj)(a:Nat)(n q:String)(s:Stmt)(t l g:Nat)(r:Wz):Wz:=(a,kT #[])::(a+3,frG n q t l g a)::(a+4,Z n q s (a+3))::r
noncomputable abbrev frW(q:String)(l m i c r:Nat):Obj:=kO (kY "function") none (XM (FuncData.mk (kS "small_words") (kS q) (Arguments.mk [] [(Arg.mk (kS "self") none (Pos.mk l 20 l 24))] none [] [] none []) (YV [(Stmt.Expr (Expr.Call (Expr.Name (kS "_wall") (Pos.mk m 8 m 13)) [(Xu (Const.int (Xe i)) 0 (Pos.mk m 14 m c))] [] (Pos.mk m 8 m (c+1))) (Pos.mk m 8 m (c+1)))]) (Scope.mk ZE [((kS "self"),NameKind.local),((kS "_wall"),Z1)] false false []) 3 [] kN kN kN (kz "evenhall.errors" 194) none (kR r) kN 0)) #[]
noncomputable abbrev frE(P:Params)(e l f g:Nat):Obj:=kO (kY "dict") none (Xx #[kE P "__module__" (e+7) (kz "evenhall.errors" 194),kE P "__firstlineno__" (e+11) (kI (Xe l) (e+10)),kE P "small_words" (e+18) (kR f),kE P "__static_attributes__" (e+19) (kR g),kE P "__doc__" (e+20) kN] 2) #[]
noncomputable abbrev frT(x:String)(b c d e:Nat):Obj:=kO (kY "type") none (Data.cls (ClassData.mk (kS x) [kR 31] [kR b,kR 31,kY "ValueError",kY "Exception",kY "BaseException",kY "object"] c (kS x) true [] [] false none false)) #[some (kR d),none,some (kz x e),some (kz x (e+8)),some (kB "ValueError.__new__"),some kU]
noncomputable def frX(P:Params)(a:Nat)(x q:String)(e l i c:Nat)(r:Wz):Wz:=(a,kT #[kR 31])::frA (a+7) "small_words" q (e+12) (l+2) 1 1 [kS "self"] (frW q (l+2) (l+3) i c (a+12)) ((a+14,kT #[])::(a+15,frE P e l (a+13) (a+14))::(a+16,frT x (a+16) (a+15) a e)::r)
noncomputable abbrev Bu:=frZ "evenhall.words" 614
noncomputable abbrev Jf:=frZ "evenhall.money" 652
noncomputable abbrev vZ:=frZ "evenhall.bookings" 668
noncomputable abbrev DY:=frZ "evenhall.paths" 725
noncomputable abbrev BN:=frZ "evenhall.reports" 753
noncomputable abbrev zu:=frZ "evenhall.days" 800
noncomputable abbrev kj:=frZ "evenhall.chart" 861
noncomputable abbrev HD:=frZ "evenhall.deeds" 1038
noncomputable abbrev og:=frZ "evenhall.journal" 1067
noncomputable abbrev zK:=frZ "evenhall.sums" 1199
noncomputable abbrev dE:=frZ "law_evenhall_k18_whole_reports" 1280
noncomputable abbrev q0(a:String)(b:Nat)(c:Nat)(d:Nat)(e:Nat):Obj:=(kO (kY "type") none (Data.cls (ClassData.mk (kS a) [(kY "object")] [(kR b),(kY "object")] c (kS a) true [] [] false none false)) #[none,none,(some (kz a d)),(some (kz a e)),(some (kB "object.__new__")),(some kU)])
noncomputable abbrev q1(a:Nat)(b:Nat):Obj:=(kO (kY "getset_descriptor") none (XI #[(kz "__weakref__" a),(kR b),(kB "ExceptionGroup.__weakref__"),kN]) #[])
noncomputable abbrev q2(a:Nat)(b:Nat):Obj:=(kO (kY "getset_descriptor") none (XI #[(kz "__dict__" a),(kR b),(kB "function.__dict__"),(kB "function.__dict__#set")]) #[])
noncomputable def EK(P:Params):Wz:=
(2,(kO kN none (Xx #[] 0) #[]))::
(3,(kO (kY "dict") none (Xx ((kE P "__name__" 165 (kz "law_evenhall_k18_whole_reports" 1280))::(kE P "__doc__" 166 kN)::(kE P "__package__" 167 kN)::(kE P "__loader__" 168 (kB "__main__.__loader__#opaque"))::(kE P "__spec__" 169 kN)::(kE P "__annotations__" 170 (kR 6))::(kE P "__builtins__" 171 (kR 4))::(kE P "__file__" 173 (kC 172))::(kE P "__cached__" 174 kN)::frM P [("_wall",193,21),("HouseError",213,31),("BadName",236,51),("BadNote",259,70),("BadDay",282,89),("BadMonth",305,108),("BadCurrency",328,127),("BadPath",351,146),("BadKind",374,165),("NoAccount",397,184),("Twice",420,203),("NotOpen",443,222),("HasBelow",466,241),("BadRow",489,260),("Uneven",521,286),("NoBooking",544,305),("Undone",567,324),("Closed",590,343),("NotNext",613,362),("is_whole",622,371),("is_among",631,378),("signs_lie",637,383),("is_name",644,390),("is_note",651,397),("is_amount",660,404),("is_currency",667,411),("is_row",676,418),("need_form",684,425),("need_account",694,432),("turned",700,437),("sums_of",706,442),("need_even",712,447),("need_rows",724,454),("are_names",732,459),("is_path",739,466),("names_of",746,473),("above",752,478),("rows_of",763,485),("bookings_up_to",769,490),("lifted",781,497),("by_paths",793,504),("report",799,509),("LENGTHS",814,510),("is_day",821,517),("is_month",828,524),("leap_days",835,531),("first_day",845,538),("last_day",852,545),("month_of",860,552),("KINDS",868,553),("Account",919,584),("Chart",1037,680),("need_note_and_gate",1048,691),("book",1060,698),("undo",1066,703),("Gate",1127,748),("Journal",1198,804),("Sums",1279,863),("_law_cell_at",1289,874),("_law_mixed",1297,881),("_law_whole",1304,888),("_law_names",1310,893),("_law_paths",1324,900),("_law_currencies",1330,905),("_law_holds",1342,912),("_law_chart",1353,919),("_law_first",1364,926),("_law_day",1372,933),("_law_amount",1380,940),("_law_rows",1396,947),("_law_undone",1402,952),("_law_done",1413,959),("_law_together",1419,964),("_law_kinds",1425,969),("_law_right_above",1433,976),("_law_right",1439,981),("_law_told",1445,986),("law",1451,991)] ([])).toArray 87) #[]))::
frA 15 "_wall" "_wall" 187 1 1 1 [kS "k"] (kO (kY "function") none (XM (FuncData.mk (kS "_wall") (kS "_wall") (Arguments.mk [] [(Arg.mk (kS "k") none (Pos.mk 1 10 1 11))] none [] [] none []) (YV [(Stmt.While (Xu (Const.bool true) 0 (Pos.mk 2 10 2 14)) [(Stmt.Pass (Pos.mk 3 8 3 12))] [] (Pos.mk 2 4 3 12))]) (Scope.mk ZE [((kS "k"),NameKind.local)] false false []) 3 [] kN kN kN (kz "__main__" 164) none (kR 20) kN 0)) #[]) (
(22,(kT #[(kY "ValueError")]))::
(29,(kT #[]))::
(30,(kO (kY "dict") none (Xx ((kE P "__module__" 203 (kz "evenhall.errors" 194))::(kE P "__firstlineno__" 207 (kI 5 206))::(kE P "__static_attributes__" 208 (kR 29))::(kE P "__weakref__" 210 (kR 32))::(kE P "__doc__" 211 kN)::[]).toArray 3) #[]))::
(31,(kO (kY "type") none (Data.cls (ClassData.mk (kS "HouseError") [(kY "ValueError")] [(kR 31),(kY "ValueError"),(kY "Exception"),(kY "BaseException"),(kY "object")] 30 (kS "HouseError") true [] [(kR 51),(kR 70),(kR 89),(kR 108),(kR 127),(kR 146),(kR 165),(kR 184),(kR 203),(kR 222),(kR 241),(kR 260),(kR 286),(kR 305),(kR 324),(kR 343),(kR 362)] false none false)) #[(some (kR 22)),none,(some (kz "HouseError" 196)),(some (kz "HouseError" 204)),(some (kB "ValueError.__new__")),(some kU)]))::
(32,(q1 209 31))::
frX P 35 "BadName" "BadName.small_words" 214 7 0 15 (
frX P 54 "BadNote" "BadNote.small_words" 237 11 1 15 (
frX P 73 "BadDay" "BadDay.small_words" 260 15 2 15 (
frX P 92 "BadMonth" "BadMonth.small_words" 283 19 3 15 (
frX P 111 "BadCurrency" "BadCurrency.small_words" 306 23 4 15 (
frX P 130 "BadPath" "BadPath.small_words" 329 27 5 15 (
frX P 149 "BadKind" "BadKind.small_words" 352 31 6 15 (
frX P 168 "NoAccount" "NoAccount.small_words" 375 35 7 15 (
frX P 187 "Twice" "Twice.small_words" 398 39 8 15 (
frX P 206 "NotOpen" "NotOpen.small_words" 421 43 9 15 (
frX P 225 "HasBelow" "HasBelow.small_words" 444 47 10 16 (
frX P 244 "BadRow" "BadRow.small_words" 467 51 11 16 (
(263,(kT #[(kR 31)]))::
frA 270 "__init__" "Uneven.__init__" 502 57 2 2 [kS "self",kS "currency"] (kO (kY "function") none (XM (FuncData.mk (kS "__init__") (kS "Uneven.__init__") (Arguments.mk [] [(Arg.mk (kS "self") none (Pos.mk 57 17 57 21)),(Arg.mk (kS "currency") none (Pos.mk 57 23 57 31))] none [] [] none []) (YV [(Stmt.Assign [(Expr.Attribute (Expr.Name (kS "self") (Pos.mk 58 8 58 12)) (kS "currency") (Pos.mk 58 8 58 21))] (Expr.Name (kS "currency") (Pos.mk 58 24 58 32)) (Pos.mk 58 8 58 32))]) (Scope.mk ZE [((kS "self"),NameKind.local),((kS "currency"),NameKind.local)] false false []) 3 [] kN kN kN (kz "evenhall.errors" 194) none (kR 275) kN 0)) #[]) (
frA 277 "small_words" "Uneven.small_words" 510 60 1 1 [kS "self"] (kO (kY "function") none (XM (FuncData.mk (kS "small_words") (kS "Uneven.small_words") (Arguments.mk [] [(Arg.mk (kS "self") none (Pos.mk 60 20 60 24))] none [] [] none []) (YV [(Stmt.Expr (Expr.Call (Expr.Name (kS "_wall") (Pos.mk 61 8 61 13)) [(Xu (Const.int 12) 0 (Pos.mk 61 14 61 16))] [] (Pos.mk 61 8 61 17)) (Pos.mk 61 8 61 17))]) (Scope.mk ZE [((kS "self"),NameKind.local),((kS "_wall"),Z1)] false false []) 3 [] kN kN kN (kz "evenhall.errors" 194) none (kR 282) kN 0)) #[]) (
(284,(kT #[(kz "currency" 517)]))::
(285,(kO (kY "dict") none (Xx ((kE P "__module__" 497 (kz "evenhall.errors" 194))::(kE P "__firstlineno__" 501 (kI 55 500))::frM P [("__init__",509,276),("small_words",516,283),("__static_attributes__",518,284)] ((kE P "__doc__" 519 kN)::[])).toArray 2) #[]))::
(286,(kO (kY "type") none (Data.cls (ClassData.mk (kS "Uneven") [(kR 31)] [(kR 286),(kR 31),(kY "ValueError"),(kY "Exception"),(kY "BaseException"),(kY "object")] 285 (kS "Uneven") true [] [] false none false)) #[(some (kR 263)),none,(some (kz "Uneven" 490)),(some (kz "Uneven" 498)),(some (kB "ValueError.__new__")),(some kU)]))::
frX P 289 "NoBooking" "NoBooking.small_words" 522 62 13 16 (
frX P 308 "Undone" "Undone.small_words" 545 66 14 16 (
frX P 327 "Closed" "Closed.small_words" 568 70 15 16 (
frX P 346 "NotNext" "NotNext.small_words" 591 74 16 16 (
frC Bu 365 "is_whole" (top 21) 616 79 1 1 (
frC Bu 372 "is_among" (top 22) 623 81 3 3 (
frD Bu 379 "signs_lie" "signs_lie" (top 23) 632 83 3 (
frC Bu 384 "is_name" (top 24) 638 85 1 1 (
frC Bu 391 "is_note" (top 25) 645 87 1 1 (
frC Jf 398 "is_amount" (top 27) 654 94 1 1 (
frC Jf 405 "is_currency" (top 28) 661 96 1 1 (
frC vZ 412 "is_row" (top 30) 670 99 1 1 (
frC vZ 419 "need_form" (top 31) 677 103 1 2 (
frC vZ 426 "need_account" (top 32) 685 109 4 4 (
frD vZ 433 "turned" "turned" (top 33) 695 114 1 (
frD vZ 438 "sums_of" "sums_of" (top 34) 701 116 1 (
frD vZ 443 "need_even" "need_even" (top 35) 707 121 1 (
frC vZ 448 "need_rows" (top 36) 713 125 3 6 (
frD DY 455 "are_names" "are_names" (top 38) 727 131 1 (
frC DY 460 "is_path" (top 39) 733 133 1 1 (
frC DY 467 "names_of" (top 40) 740 135 1 1 (
frD DY 474 "above" "above" (top 41) 747 139 1 (
frC BN 479 "rows_of" (top 43) 755 143 1 3 (
frD BN 486 "bookings_up_to" "bookings_up_to" (top 44) 764 148 2 (
frC BN 491 "lifted" (top 45) 770 150 1 6 (
frC BN 498 "by_paths" (top 46) 782 156 1 6 (
frD BN 505 "report" "report" (top 47) 794 162 4 (
(510,(kT #[(kI 31 802),(kI 28 803),(kI 31 804),(kI 30 805),(kI 31 806),(kI 30 807),(kI 31 808),(kI 31 809),(kI 30 810),(kI 31 811),(kI 30 812),(kI 31 813)]))::
frC zu 511 "is_day" (top 50) 815 169 1 1 (
frC zu 518 "is_month" (top 51) 822 171 1 1 (
frC zu 525 "leap_days" (top 52) 829 173 1 1 (
frC zu 532 "first_day" (top 53) 836 175 1 4 (
frC zu 539 "last_day" (top 54) 846 180 1 1 (
frC zu 546 "month_of" (top 55) 853 182 1 2 (
(553,(kT #[(kz "have" 863),(kz "owe" 864),(kz "own" 865),(kz "gain" 866),(kz "cost" 867)]))::
frB kj 561 "__init__" "Account.__init__" (bA (top 58) 0) 881 193 4 4 (
frB kj 568 "stands_on" "Account.stands_on" (bA (top 58) 1) 891 200 2 2 (
frB kj 575 "stands_later" "Account.stands_later" (bA (top 58) 2) 899 203 2 2 (
(582,(kT #[(kz "below" 907),(kz "currency" 908),(kz "first" 909),(kz "kind" 910),(kz "until" 911)]))::
(583,(kO (kY "dict") none (Xx ((kE P "__module__" 876 (kz "evenhall.chart" 861))::(kE P "__firstlineno__" 880 (kI 191 879))::frM P [("__init__",890,567),("stands_on",898,574),("stands_later",906,581),("__static_attributes__",912,582),("__dict__",914,585),("__weakref__",916,586)] ((kE P "__doc__" 917 kN)::[])).toArray 4) #[]))::
(584,(q0 "Account" 584 583 869 877))::
(585,(q2 913 584))::
(586,(q1 915 584))::
frB kj 596 "__init__" "Chart.__init__" (bA (top 59) 0) 932 207 1 1 (
frB kj 603 "add_top" "Chart.add_top" (bA (top 59) 1) 939 210 3 3 (
frB kj 610 "add" "Chart.add" fP 948 219 4 5 (
frD kj 617 "shut" "Chart.shut" (bA (top 59) 3) 959 234 3 (
frB kj 622 "has" "Chart.has" (bA (top 59) 4) 965 246 2 2 (
frB kj 629 "account" "Chart.account" (bA (top 59) 5) 973 249 2 2 (
frA 636 "kind_of" "Chart.kind_of" 981 254 2 2 [kS "self",kS "path"] (kO (kY "function") none (XM (FuncData.mk (kS "kind_of") (kS "Chart.kind_of") (Arguments.mk [] [(Arg.mk (kS "self") none (Pos.mk 254 16 254 20)),(Arg.mk (kS "path") none (Pos.mk 254 22 254 26))] none [] [] none []) (YV [(Stmt.Expr (Expr.Call (Expr.Name (kS "_wall") (Pos.mk 255 8 255 13)) [(Xu (Const.int 17) 0 (Pos.mk 255 14 255 16))] [] (Pos.mk 255 8 255 17)) (Pos.mk 255 8 255 17))]) (Scope.mk ZE [((kS "self"),NameKind.local),((kS "path"),NameKind.local),((kS "_wall"),Z1)] false false []) 3 [] kN kN kN (kz "evenhall.chart" 861) none (kR 641) kN 0)) #[]) (
frB kj 643 "currency_of" "Chart.currency_of" (bA (top 59) 7) 989 257 2 2 (
frA 650 "span_of" "Chart.span_of" 997 260 2 2 [kS "self",kS "path"] (kO (kY "function") none (XM (FuncData.mk (kS "span_of") (kS "Chart.span_of") (Arguments.mk [] [(Arg.mk (kS "self") none (Pos.mk 260 16 260 20)),(Arg.mk (kS "path") none (Pos.mk 260 22 260 26))] none [] [] none []) (YV [(Stmt.Expr (Expr.Call (Expr.Name (kS "_wall") (Pos.mk 261 8 261 13)) [(Xu (Const.int 18) 0 (Pos.mk 261 14 261 16))] [] (Pos.mk 261 8 261 17)) (Pos.mk 261 8 261 17))]) (Scope.mk ZE [((kS "self"),NameKind.local),((kS "path"),NameKind.local),((kS "_wall"),Z1)] false false []) 3 [] kN kN kN (kz "evenhall.chart" 861) none (kR 655) kN 0)) #[]) (
frB kj 657 "is_open" "Chart.is_open" (bA (top 59) 9) 1005 263 3 3 (
frB kj 664 "beneath" "Chart.beneath" (bA (top 59) 10) 1014 266 2 2 (
frB kj 671 "accounts" "Chart.accounts" (bA (top 59) 11) 1022 269 1 1 (
(678,(kT #[(kz "by_path" 1029)]))::
(679,(kO (kY "dict") none (Xx ((kE P "__module__" 927 (kz "evenhall.chart" 861))::(kE P "__firstlineno__" 931 (kI 205 930))::frM P [("__init__",938,602),("add_top",947,609),("add",958,616),("shut",964,621),("has",972,628),("account",980,635),("kind_of",988,642),("currency_of",996,649),("span_of",1004,656),("is_open",1013,663),("beneath",1021,670),("accounts",1028,677),("__static_attributes__",1030,678),("__dict__",1032,681),("__weakref__",1034,682)] ((kE P "__doc__" 1035 kN)::[])).toArray 4) #[]))::
(680,(q0 "Chart" 680 679 920 928))::
(681,(q2 1031 680))::
(682,(q1 1033 680))::
frC HD 685 "need_note_and_gate" (top 61) 1040 272 3 3 (
frC HD 692 "book" (top 62) 1049 277 6 6 (
frD HD 699 "undo" "undo" (top 63) 1061 283 6 (
frB og 711 "__init__" "Gate.__init__" (bA (top 65) 0) 1081 296 1 1 (
frB og 718 "closed" "Gate.closed" (bA (top 65) 1) 1088 299 1 1 (
frB og 725 "lets" "Gate.lets" (bA (top 65) 2) 1095 302 2 2 (
frB og 732 "need_next" "Gate.need_next" (bA (top 65) 3) 1103 305 2 2 (
frB og 739 "shut" "Gate.shut" (bA (top 65) 4) 1111 311 2 2 (
(746,(kT #[(kz "last_closed" 1119)]))::
(747,(kO (kY "dict") none (Xx ((kE P "__module__" 1076 (kz "evenhall.journal" 1067))::(kE P "__firstlineno__" 1080 (kI 294 1079))::frM P [("__init__",1087,717),("closed",1094,724),("lets",1102,731),("need_next",1110,738),("shut",1118,745),("__static_attributes__",1120,746),("__dict__",1122,749),("__weakref__",1124,750)] ((kE P "__doc__" 1125 kN)::[])).toArray 4) #[]))::
(748,(q0 "Gate" 748 747 1069 1077))::
(749,(q2 1121 748))::
(750,(q1 1123 748))::
frB og 760 "__init__" "Journal.__init__" (bA (top 66) 0) 1140 316 1 1 (
frB og 767 "put" "Journal.put" (bA (top 66) 1) 1147 320 5 6 (
frB og 774 "many" "Journal.many" (bA (top 66) 2) 1159 327 1 1 (
frB og 781 "booking" "Journal.booking" (bA (top 66) 3) 1166 330 2 2 (
frB og 788 "every" "Journal.every" (bA (top 66) 4) 1174 335 1 1 (
frB og 795 "undone_by" "Journal.undone_by" (bA (top 66) 5) 1181 338 2 2 (
(802,(kT #[(kz "bookings" 1189),(kz "undoings" 1190)]))::
(803,(kO (kY "dict") none (Xx ((kE P "__module__" 1135 (kz "evenhall.journal" 1067))::(kE P "__firstlineno__" 1139 (kI 314 1138))::frM P [("__init__",1146,766),("put",1158,773),("many",1165,780),("booking",1173,787),("every",1180,794),("undone_by",1188,801),("__static_attributes__",1191,802),("__dict__",1193,805),("__weakref__",1195,806)] ((kE P "__doc__" 1196 kN)::[])).toArray 4) #[]))::
(804,(q0 "Journal" 804 803 1128 1136))::
(805,(q2 1192 804))::
(806,(q1 1194 804))::
frB zK 816 "__init__" "Sums.__init__" (bA (top 68) 0) 1213 343 1 1 (
frB zK 823 "put" "Sums.put" (bA (top 68) 1) 1220 346 2 7 (
frB zK 830 "months_of" "Sums.months_of" (bA (top 68) 2) 1233 352 3 3 (
frD zK 837 "own" "Sums.own" (bA (top 68) 3) 1242 355 5 (
frA 842 "standing" "Sums.standing" 1248 358 4 4 [kS "self",kS "path",kS "currency",kS "month"] (kO (kY "function") none (XM (FuncData.mk (kS "standing") (kS "Sums.standing") (Arguments.mk [] [(Arg.mk (kS "self") none (Pos.mk 358 17 358 21)),(Arg.mk (kS "path") none (Pos.mk 358 23 358 27)),(Arg.mk (kS "currency") none (Pos.mk 358 29 358 37)),(Arg.mk (kS "month") none (Pos.mk 358 39 358 44))] none [] [] none []) (YV [(Stmt.Expr (Expr.Call (Expr.Name (kS "_wall") (Pos.mk 359 8 359 13)) [(Xu (Const.int 19) 0 (Pos.mk 359 14 359 16))] [] (Pos.mk 359 8 359 17)) (Pos.mk 359 8 359 17))]) (Scope.mk ZE [((kS "self"),NameKind.local),((kS "path"),NameKind.local),((kS "currency"),NameKind.local),((kS "month"),NameKind.local),((kS "_wall"),Z1)] false false []) 3 [] kN kN kN (kz "evenhall.sums" 1199) none (kR 847) kN 0)) #[]) (
frD zK 849 "currencies" "Sums.currencies" (bA (top 68) 5) 1258 361 2 (
frA 854 "all_sums" "Sums.all_sums" 1264 364 1 1 [kS "self"] (kO (kY "function") none (XM (FuncData.mk (kS "all_sums") (kS "Sums.all_sums") (Arguments.mk [] [(Arg.mk (kS "self") none (Pos.mk 364 17 364 21))] none [] [] none []) (YV [(Stmt.Expr (Expr.Call (Expr.Name (kS "_wall") (Pos.mk 365 8 365 13)) [(Xu (Const.int 20) 0 (Pos.mk 365 14 365 16))] [] (Pos.mk 365 8 365 17)) (Pos.mk 365 8 365 17))]) (Scope.mk ZE [((kS "self"),NameKind.local),((kS "_wall"),Z1)] false false []) 3 [] kN kN kN (kz "evenhall.sums" 1199) none (kR 859) kN 0)) #[]) (
(861,(kT #[(kz "by_place" 1271)]))::
(862,(kO (kY "dict") none (Xx ((kE P "__module__" 1208 (kz "evenhall.sums" 1199))::(kE P "__firstlineno__" 1212 (kI 341 1211))::frM P [("__init__",1219,822),("put",1232,829),("months_of",1241,836),("own",1247,841),("standing",1257,848),("currencies",1263,853),("all_sums",1270,860),("__static_attributes__",1272,861),("__dict__",1274,864),("__weakref__",1276,865)] ((kE P "__doc__" 1277 kN)::[])).toArray 4) #[]))::
(863,(q0 "Sums" 863 862 1201 1209))::
(864,(q2 1273 863))::
(865,(q1 1275 863))::
frC dE 868 "_law_cell_at" (top 70) 1282 367 2 2 (
frC dE 875 "_law_mixed" (top 71) 1290 371 2 2 (
frC dE 882 "_law_whole" (top 72) 1298 373 1 1 (
frD dE 889 "_law_names" "_law_names" (top 73) 1305 375 1 (
frC dE 894 "_law_paths" (top 74) 1311 386 2 8 (
frD dE 901 "_law_currencies" "_law_currencies" (top 75) 1325 396 1 (
frC dE 906 "_law_holds" (top 76) 1331 401 3 6 (
frC dE 913 "_law_chart" (top 77) 1343 408 2 5 (
frC dE 920 "_law_first" (top 78) 1354 416 1 5 (
frC dE 927 "_law_day" om 1365 423 2 2 (
frC dE 934 "_law_amount" (top 80) 1373 429 1 2 (
frC dE 941 "_law_rows" (top 81) 1381 436 4 10 (
frD dE 948 "_law_undone" "_law_undone" (top 82) 1397 451 2 (
frC dE 953 "_law_done" (top 83) 1403 465 2 5 (
frD dE 960 "_law_together" "_law_together" (top 84) 1414 476 1 (
frD dE 965 "_law_kinds" "_law_kinds" (top 85) 1420 481 2 (
frC dE 970 "_law_right_above" (top 86) 1426 491 1 2 (
frD dE 977 "_law_right" "_law_right" cH 1434 494 4 (
frD dE 982 "_law_told" "_law_told" (top 88) 1440 512 2 (
frD dE 987 "law" "law" c9 1446 529 1 ( []))))))))))))))))))))))))))))))))))))))))))))))))))))))))))))))))))))))))))))))))))))))))))))))))))))))))
noncomputable def frag(P:Params):Wz:=by
 refine(fun(x:Wz) (_:x=EK P)=>x) ?l ?h
 case h=>
  dsimp only[EK,frB,frC,frD,frA,frX,frP,frM,Nat.reduceAdd];dsimp only[OfNat.ofNat,instOfNatNat];exact rfl
noncomputable def adrs:List WN:=(frag { strHash:=fun _=>0,shareClass:=fun _=>0,mergeTok:=id,idOf:=fun _=>0,idOfShared:=fun _ _=>0,followText:=fun _=>true,idOfImm:=fun _=>0 }).map (·.1)
def adrs_eq(P:Params):adrs=(frag P).map (·.1):=by kernel_rfl
noncomputable def vw:WL:=PySem.W.view Qq [0,2,3,4,5,6,7,8,9,10,11,12,13,14,15,16,17,18,19,21,22,23,24,25,27,28,30,31,32,33,34,35,36,38,39,40,41,43,44,45,46,47,49,50,51,52,53,54,55,57,58,59,61,62,63,65,66,68,70,71,72,73,74,75,76,77,78,79,80,81,82,83,84,85,86,87,88,89]
open PySem.W in
noncomputable def tree0(P:Params):BT:=(.node (boot_o_0 P) (.node (boot_o_1 P) (.node (boot_o_3 P) (.node (boot_o_7 P) .nil .nil) .nil) (.node (boot_o_5 P) (.node (boot_o_9 P) .nil .nil) .nil)) (.node (boot_o_2 P) (.node (boot_o_4 P) (.node (boot_o_8 P) .nil .nil) .nil) (.node (boot_o_6 P) (.node (boot_o_10 P) .nil .nil) .nil)))
open PySem.W PyProof.Rows in
noncomputable def ran(p:WL)(t:BT)(b:WF)(w:WK)(os:OsState):Option SharedT:=TR.go p w 11 (some (.ref 6)) 16250 ⟨t,11,b.life,Array.mk [],boot_drawn,boot_toks,os⟩ (topStub p)
def Ih{α β γ:Type}{o:Option α}{f:α->β}{g:α->γ}{a:β}{b:γ}(e:o.map (fun x=>(f x,g x))=some (a,b)):o.map f=some a:=by
 cases o with
 |none=>cases e
 |some x=>cases e;rfl
def Hr{α β γ:Type}{o:Option α}{f:α->β}{g:α->γ}{a:β}{b:γ}(e:o.map (fun x=>(f x,g x))=some (a,b)):o.map g=some b:=by
 cases o with
 |none=>cases e
 |some x=>cases e;rfl
noncomputable def runP(p v:WL)(t:PySem.W.BT)(b:WF)(l:List WN)(w:WK)(os:OsState):=(ran p t b w os).map fun x=>(TR.lookB p b x.abs,(TR.s1 v x.abs,l.map (TR.atT x)))
noncomputable def runQ(p v:WL)(c:PySem.W.WRecords)(t:PySem.W.BT)(b:WF)(w:WK)(os:OsState):=(ran p t b w os).map fun x=>TR.s2 p v c x.abs
noncomputable def runF(p v:WL)(t:PySem.W.BT)(b:WF)(w:WK)(os:OsState):=(ran p t b w os).map fun x=>TR.s3 v x.abs
open PyProof PyProof.Rows PySem.W in
noncomputable def goodP(v:WL)(r:List (Option Obj))(_:OsState):=some (true,(expectedOf v,r))
noncomputable def goodF(v:WL)(_:OsState):=some (TR.d3 v)
lay_quick K18.runP
lay_quick K18.runQ
lay_quick K18.runF
lay_quick K18.goodP
lay_quick K18.goodF
def gP(w:WK):PySem.W.Fast.tw1919471497664905695 Qq vw (tree0 w.params) (PySem.W.boot_heap w.params) adrs w=PySem.W.Fast.tw10039223742628223137 vw ((frag w.params).map fun p=>some p.2):=by kernel_rfl
open PyProof PyProof.Rows in
def gQ(w:WK):PySem.W.Fast.tw18386359589195619076 Qq vw (PySem.W.RowW.records (PySem.W.OpenRow.toRowW (PySem.W.OpenLaw.row Qj))) (tree0 w.params) (PySem.W.boot_heap w.params) w=fun _=>some (PySem.bltViewBooted,true,true):=by kernel_rfl
def gF(w:WK):PySem.W.Fast.tw2512331153312024608 Qq vw (tree0 w.params) (PySem.W.boot_heap w.params) w=PySem.W.Fast.tw3149296522408961509 vw:=by kernel_rfl
def left:PySem.W.LeftO Qq vw [] (fun s=>PySem.W.xlAt vw [] s&&PySem.W.recOk (PySem.W.RowW.records (PySem.W.OpenRow.toRowW (PySem.W.OpenLaw.row Qj))) s) (Xw frag adrs adrs_eq).obs (Xw frag adrs adrs_eq).val 16250:=
 TR.left (lo:=11) (an:=some (.ref 6)) (tr:=tree0) (PySem.W.boot_open (by kernel_rfl) (by decide) (fun s=>by kernel_rfl)) (fun P=>by kernel_rfl) (fun P=>by kernel_rfl) fun w=>funext fun os=>
  have a:=congrFun ((congrFun (congrFun (congrFun (congrFun (congrFun (congrFun PySem.W.Fast.te1919471497664905695 _) _) _) _) _) w).trans ((gP w).trans (congrFun (congrFun PySem.W.Fast.te10039223742628223137 _) _).symm)) os;have b:=congrFun ((congrFun (congrFun (congrFun (congrFun (congrFun (congrFun PySem.W.Fast.te18386359589195619076 _) _) _) _) _) w).trans (gQ w)) os;have c:=congrFun ((congrFun (congrFun (congrFun (congrFun (congrFun PySem.W.Fast.te2512331153312024608 _) _) _) _) w).trans ((gF w).trans (congrFun PySem.W.Fast.te3149296522408961509 _).symm)) os
  TR.three (Ih a) (TR.seen3 (Ih (Hr a)) b c) (TR.atTs (Hr (Hr a)))
noncomputable def wsaid(l:PySem.W.OpenLaw):Bool:=PySem.W.OpenLaw.wellSaid l
lay_quick K18.wsaid
def ws:wsaid Qj=true:=(congrFun PySem.W.Fast.te4494667061280070113 _).trans (by kernel_rfl)
end K18
namespace L2
open PySem PySem.Spec PyProof.Rows
abbrev Key:=Sum Int Str
noncomputable def pP:Key->WO->Bool
 | .inl k,v=>Value.isInt k v
 | .inr x,v=>Value.isStrOf x v
noncomputable def J9(w:WK):Key->Int
 | .inl k=>hashInt k
 | .inr x=>hashStr w x
theorem cG:∀ {k:Key} {v:WO},pP k v=true->(∃i t,k=Sum.inl i/\v=Value.int i t)\/(∃x t,k=Sum.inr x/\v=YO x t)
 | .inl i,v,h=>by
  obtain⟨t,e⟩:=Value.isInt_shape (k:=i) (v:=v) h;exact .inl ⟨i,t,rfl,e⟩
 | .inr x,v,h=>by
  obtain⟨t,e⟩:=Value.isStrOf_shape (x:=x) (v:=v) h;exact .inr ⟨x,t,rfl,e⟩
def zj(i:Int)(t:Tok):pP (.inl i) (.int i t)=true:=by simp[pP,Value.isInt]
def zo(x:Str)(t:Tok):pP (.inr x) (.str x t)=true:=by simp[pP,Value.isStrOf]
def Fv(a b:Int):decide ((Sum.inl a:Key)=Sum.inl b)=(a==b):=by
 by_cases e:a=b
 .subst e;simp
 .have h:¬ (Sum.inl a:Key)=Sum.inl b:=fun q=>e (Sum.inl.inj q)
  rw[Wc h];exact(beq_eq_false_iff_ne.mpr e).symm
def FH(a b:Str):decide ((Sum.inr a:Key)=Sum.inr b)=decide (a=b):=by
 by_cases e:a=b
 .subst e;simp
 .have h:¬ (Sum.inr a:Key)=Sum.inr b:=fun q=>e (Sum.inr.inj q)
  rw[Wc h,Wc e]
def GT(a:Int)(b:Str):decide ((Sum.inl a:Key)=Sum.inr b)=false:=Wc (fun q=>nomatch q)
def GB(a:Str)(b:Int):decide ((Sum.inr a:Key)=Sum.inl b)=false:=Wc (fun q=>nomatch q)
noncomputable def bL(prog:WL)(w:WK):PySem.KeyKind prog w Key where
 is:=pP
 hash:=J9 w
 inj:=fun v a b ha hb=>by
  obtain⟨i,t,rfl,rfl⟩|⟨x,t,rfl,rfl⟩:=cG ha
  .obtain⟨j,u,rfl,e⟩|⟨y,u,rfl,e⟩:=cG hb
   .injection e with e1 _;rw[e1]
   .exact nomatch e
  .obtain⟨j,u,rfl,e⟩|⟨y,u,rfl,e⟩:=cG hb
   .exact nomatch e
   .injection e with e1 _;rw[e1]
 byValue:=fun k v h=>by
  obtain⟨i,t,rfl,rfl⟩|⟨x,t,rfl,rfl⟩:=cG h <;> rfl
 pyHash:=fun hv h=>by
  obtain⟨i,t,rfl,rfl⟩|⟨x,t,rfl,rfl⟩:=cG hv
  .exact wpAny_pyHash_int h
  .exact wpAny_pyHash_str h
 eqBool:=fun hu hv h=>by
  obtain⟨i,t,rfl,rfl⟩|⟨x,t,rfl,rfl⟩:=cG hu
  .obtain⟨j,u,rfl,rfl⟩|⟨y,u,rfl,rfl⟩:=cG hv
   .rw[Fv]at h;exact wpAny_eqBool_int h
   .rw[GT]at h;exact SeqAt.EqAt.int_str i t y u _ _ _ _ h
  .obtain⟨j,u,rfl,rfl⟩|⟨y,u,rfl,rfl⟩:=cG hv
   .rw[GB]at h;exact SeqAt.EqAt.str_int x t j u _ _ _ _ h
   .rw[FH]at h;exact wpAny_eqBool_str h
 «strs»:=fun k x t v h=>by
  obtain⟨i,u,rfl,e⟩|⟨y,u,rfl,e⟩:=cG h
  .exact nomatch e
  .injection e with e1 _
   subst e1;cases v <;> rfl
def t_(prog:WL)(w:WK)(i:Int)(t:Tok):(bL prog w).is (.inl i) (.int i t)=true:=zj i t
def sI(prog:WL)(w:WK)(x:Str)(t:Tok):(bL prog w).is (.inr x) (.str x t)=true:=zo x t
set_option genInjectivity true in
inductive V where
 |non|bl (b:Bool)|int (i:Int)|str (x:Str)|byt (b:Array UInt8)|flt (b:UInt64)|ref (a:WN)|ty (n:String)
 deriving DecidableEq
def WX:V->WO->Prop
 | .non,u=>u=ZS
 | .bl b,u=>u=Value.bool b
 | .int i,u=>∃t,u=Value.int i t
 | .str x,u=>∃t,u=YO x t
 | .byt b,u=>∃t,u=Value.bytes b t
 | .flt b,u=>∃t,u=Value.float b t
 | .ref a,u=>u=vv a
 | .ty n,u=>u=YE n
abbrev WW:List V->List WO->Prop:=Paired WX
def WW.length{xs:List V}{us:List WO}(r:WW xs us):xs.length=us.length:=Xv r
theorem WW.get:∀ {xs:List V} {us:List WO} {i:Nat} {x:V},WW xs us->xs[i]? = some x->∃u,us[i]? = some u/\WX x u
 |_,_,_,_,.nil,e=>by simp at e
 |_,_,0,_,.cons r _,e=>by simp at e;subst e;exact⟨_,rfl,r⟩
 |_,_,i+1,x,.cons _ t,e=>by
  obtain⟨u,h1,h2⟩:=WW.get (i:=i) (x:=x) t (by simpa using e);exact⟨u,by simpa using h1,h2⟩
theorem WW.set{x:V}{u:WO}(r:WX x u):∀ {xs:List V} {us:List WO} (i:Nat),WW xs us->WW (xs.set i x) (us.set i u)
 |_,_,_,.nil=>.nil
 |_,_,0,.cons _ t=>.cons r t
 |_,_,i+1,.cons q t=>.cons q (WW.set r i t)
theorem WW.append:∀ {xs ys:List V} {us ws:List WO},WW xs us->WW ys ws->WW (xs++ys) (us++ws)
 |_,_,_,_,.nil,s=>s
 |_,_,_,_,.cons r t,s=>.cons r (WW.append t s)
theorem WW.take:∀ {xs:List V} {us:List WO} (n:Nat),WW xs us->WW (xs.take n) (us.take n)
 |_,_,0,_=>.nil
 |_,_,_+1,.nil=>.nil
 |_,_,n+1,.cons r t=>.cons r (WW.take n t)
theorem WW.drop:∀ {xs:List V} {us:List WO} (n:Nat),WW xs us->WW (xs.drop n) (us.drop n)
 |_,_,0,r=>r
 |_,_,_+1,.nil=>.nil
 |_,_,n+1,.cons _ t=>WW.drop n t
def RelO:Option V->Option WO->Prop
 |some v,some u=>WX v u
 |none,none=>True
 |_,_=>False
def KV{κ:Type}:List (κ × V)->List (κ × WO)->Prop:=Paired fun(p:κ × V) (q:κ × WO)=>p.1=q.1/\WX p.2 q.2
noncomputable def kV:Key->V
 | .inl i=>.int i
 | .inr x=>.str x
set_option genInjectivity true in
inductive HO where
 |lst (xs:List V)
 |tup (xs:List V)
 |dK (XB:List (Key × V))|dT (XB:List (List Key × V))
 |set (S:Int->Bool) (n:Nat)
 |ins (C dx:WN) (fs:List (Str × V))
 |own (x:WN)
 |xd (fs:List (Str × V))
 |met (f x:WN)
 |rng (lo hi:Int)
 |frz (o:Obj) (u:HO)
 |tbl (ps:Array WO)
 |ext (φ:WF->Prop)
abbrev Hp:=WN->Option HO
noncomputable def upd(H:Hp)(a:WN)(o:HO):Hp:=fun b=>if b=a then some o else H b
def aa:upd H a o a=some o:=by unfold upd;rw[Wf rfl]
def ag(h:b≠a):upd H a o b=H b:=by unfold upd;rw[Wg h]
def rl:upd (upd H a o) a u=upd H a u:=by
 funext b;unfold upd;split <;> rfl
def Eu{H:Hp}{a b:WN}{o u:HO}(h:H a=some o)(h':H b=some u)(d:o≠u):a≠b:=by
 intro e;subst e;rw[h]at h';exact d (Zt h')
def aM{H:Hp}{a b:WN}{o:HO}(h:H a=some o)(h':H b=none):a≠b:=by
 intro e;subst e;rw[h]at h';cases h'
section
variable(P:WL)(w:WK)
def WV(H:Hp)(h:WF)(a:WN):HO->Prop
 | .lst xs=>xs.length<=WI/\∃(XC:List WO) (n:Nat),WW xs XC/\h.get? a=some { cls:=.type "list",data:=.seq XC.toArray n }
 | .tup xs=>xs.length<=WI/\∃XC:List WO,WW xs XC/\IsTup h a XC.toArray
 | .dK XB=>XB.length<=WI/\(a==ZU)=false/\∃vs,KV XB vs/\h.DictOf (bL P w) a vs
 | .dT XB=>XB.length<=WI/\(a==ZU)=false/\∃xs:List (List Key × WN × WO),
  Paired (fun(p:List Key × V) (q:List Key × WN × WO)=>p.1=q.1/\H q.2.1=some (.tup (p.1.map kV))/\WX p.2 q.2.2) XB xs /\
  ∃o es ep,h.get? a=some o/\o.ExactDict/\o.data = .dict es ep/\es.toList=xs.map (entryOfKey (tupleKind (bL P w)))/\(xs.map (·.1)).Nodup
 | .set S n=>h.SetOf (intKind P w) a S n
 | .ins C dx fs=>H dx=some (.own a)/\fs.length<=1000/\dx≠a/\h.get? a=some (Yn C dx) /\
  ∃mA,h.Ns1 dx mA/\(∀f,RelO (fs.lookup f) (mA f))/\PySem.Within mA (fs.map (·.1))
 | .own _=>∃o,h.get? a=some o
 | .xd fs=>∃mA,h.Ns1 a mA/\∀f,RelO (fs.lookup f) (mA f)
 | .rng lo hi=>∃t u v,h.get? a=some { cls:=.type "range",data:=.fields #[.int lo t,.int hi u,.int 1 v] }
 | .frz o u=>h.get? a=some o/\WV H h a u
 | .tbl ps=>h.get? a=some { cls:=.none,data:=.fields ps }
 | .met f x=>h.get? a=some (PySem.W.methodObj (.ref f) (.ref x))
 | .ext φ=>φ h/\(∃o,h.get? a=some o)/\∀h1 h2:WF,φ h1->(∀o,h1.get? a=some o->h2.get? a=some o)->φ h2
def HOk(H:Hp)(h:WF):Prop:=∀a o,H a=some o->WV P w H h a o
end
section
variable{P:WL}{w:WK}{H H':Hp}{h h':WF}{a:WN}{o:HO}
def WV.lt(x:WV P w H h a o):a<h.objs.size:=by
 cases o with
 |lst xs=>obtain⟨_,_,_,_,e⟩:=x;exact vN e
 |tup xs=>obtain⟨_,_,_,p⟩:=x;exact p.lt
 |dK XB=>obtain⟨_,_,_,_,o,_,_,e,_⟩:=x;exact vN e
 |dT XB=>obtain⟨_,_,_,_,o,_,_,e,_⟩:=x;exact vN e
 |set S n=>obtain⟨o,_,_,_,e,_⟩:=x;exact vN e
 |ins C dx fs=>obtain⟨_,_,_,e,_⟩:=x;exact vN e
 |own y=>obtain⟨_,e⟩:=x;exact vN e
 |xd fs=>obtain⟨_,⟨_,_,_,e,_⟩,_⟩:=x;exact vN e
 |rng lo hi=>obtain⟨_,_,_,e⟩:=x;exact vN e
 |frz ob u=>obtain⟨e,_⟩:=x;exact vN e
 |tbl ps=>exact vN (show h.get? a=some _ from x)
 |met f y=>exact vN (show h.get? a=some _ from x)
 |ext φ=>obtain⟨_,⟨_,e⟩,_⟩:=x;exact vN e
theorem Paired.mapP{α β:Type}{F G:α->β->Prop}:∀ {l₁:List α} {l₂:List β},Paired F l₁ l₂->(∀a b,F a b->G a b)->Paired G l₁ l₂
 |_,_,.nil,_=>.nil
 |_,_,.cons r t,f=>.cons (f _ _ r) (Paired.mapP t f)
def WV.stay(x:WV P w H h a o)(k:∀b u,(b=a\/H b=some (.own a))->h.get? b=some u->h'.get? b=some u)
 (ho:∀b,H b=some (.own a)->H' b=some (.own a)) (ht:∀b xs,H b=some (.tup xs)->H' b=some (.tup xs)):WV P w H' h' a o:=by
 induction o with
 |lst xs=>obtain⟨z,XC,n,r,e⟩:=x;exact⟨z,XC,n,r,k _ _ (.inl rfl) e⟩
 |tup xs=>obtain⟨z,XC,r,ob,e,c⟩:=x;exact⟨z,XC,r,ob,k _ _ (.inl rfl) e,c⟩
 |dK XB=>obtain⟨z,y,vs,r,ob,es,ep,e,c⟩:=x;exact⟨z,y,vs,r,ob,es,ep,k _ _ (.inl rfl) e,c⟩
 |dT XB=>
  obtain⟨z,y,xs,r,ob,es,ep,e,c⟩:=x;exact⟨z,y,xs,Paired.mapP r fun p q z=>⟨z.1,ht _ _ z.2.1,z.2.2⟩,ob,es,ep,k _ _ (.inl rfl) e,c⟩
 |set S n=>obtain⟨ob,es,ep,t,e,c⟩:=x;exact⟨ob,es,ep,t,k _ _ (.inl rfl) e,c⟩
 |ins C dx fs=>
  obtain⟨d,z,ne,e,mA,⟨od,es,ep,e2,c⟩,r⟩:=x;exact⟨ho _ d,z,ne,k _ _ (.inl rfl) e,mA,⟨od,es,ep,k _ _ (.inr d) e2,c⟩,r⟩
 |own y=>obtain⟨ob,e⟩:=x;exact⟨ob,k _ _ (.inl rfl) e⟩
 |xd fs=>obtain⟨mA,⟨od,es,ep,e,c⟩,r⟩:=x;exact⟨mA,⟨od,es,ep,k _ _ (.inl rfl) e,c⟩,r⟩
 |rng lo hi=>obtain⟨t,u,v,e⟩:=x;exact⟨t,u,v,k _ _ (.inl rfl) e⟩
 |frz ob u ih=>obtain⟨e,q⟩:=x;exact⟨k _ _ (.inl rfl) e,ih q⟩
 |tbl ps=>
  have e:h.get? a=some { cls:=.none,data:=.fields ps }:=x;show h'.get? a=some { cls:=.none,data:=.fields ps };exact k a _ (.inl rfl) e
 |met f y=>
  have e:h.get? a=some (PySem.W.methodObj (.ref f) (.ref y)):=x;show h'.get? a=some (PySem.W.methodObj (.ref f) (.ref y));exact k a _ (.inl rfl) e
 |ext φ=>obtain⟨p,⟨o,e⟩,st⟩:=x;exact⟨st _ _ p fun o q=>k _ _ (.inl rfl) q,⟨o,k _ _ (.inl rfl) e⟩,st⟩
def HOk.lt(x:HOk P w H h)(e:H a=some o):a<h.objs.size:=(x a o e).lt
def HOk.fresh(x:HOk P w H h)(e:h.objs.size<=a):H a=none:=by
 cases q:H a with
 |none=>rfl
 |some u=>exact Wa (Zw (x.lt q) e) (ZM _)
def HOk.kept(x:HOk P w H h)(k:∀b u,h.get? b=some u->h'.get? b=some u):HOk P w H h':=fun a o e=>
 (x a o e).stay (fun b u _ q=>k b u q) (fun _ q=>q) fun _ _ q=>q
def HOk.laid(x:HOk P w H h)(k:∀b u,h.get? b=some u->h'.get? b=some u)(hp:h.objs.size<=a)(new:WV P w (upd H a o) h' a o):HOk P w (upd H a o) h':=fun b u e=>by
 have hn:=x.fresh hp;by_cases hb:b=a
 .subst hb;rw[aa]at e;cases e;exact new
 .rw[ag hb]at e
  exact(x b u e).stay (fun c v _ q=>k c v q) (fun c q=>by rw[ag (aM q hn)];exact q) fun c xs q=>by rw[ag (aM q hn)];exact q
end
def Rd(H:Hp)(a:WN)(u:HO):Prop:=H a=some u\/∃o,H a=some (.frz o u)
def Rd.ok{P:WL}{w:WK}{H:Hp}{h:WF}{a:WN}{u:HO}(r:Rd H a u)(x:HOk P w H h):WV P w H h a u:=by
 obtain r|⟨o,r⟩:=r
 .exact x a u r
 .obtain⟨_,q⟩:=x a _ r
  exact q
def Mut:Option HO->Prop
 |some (.lst _)=>True
 |some (.dK _)=>True
 |some (.dT _)=>True
 |some (.set _ _)=>True
 |some (.ins _ _ _)=>True
 |some (.ext _)=>True
 |_=>False
section
variable{P:WL}{w:WK}{H:Hp}{h h':WF}{x e:WN}{o':HO}
def HOk.write(ok:HOk P w H h)(mu:Mut (H x))(he:e=x\/H e=some (.own x))(k:∀b u,b≠e->h.get? b=some u->h'.get? b=some u)(heo:∃u,h'.get? e=some u)
 (new:WV P w (upd H x o') h' x o'):HOk P w (upd H x o') h':=fun b u q=>by
 have nown:∀c y,H c=some (.own y)->c≠x:=fun c y r z=>by subst z;rw[r]at mu;exact mu
 have ntup:∀c xs,H c=some (.tup xs)->c≠x:=fun c xs r z=>by subst z;rw[r]at mu;exact mu
 by_cases hb:b=x
 .subst hb;rw[aa]at q;cases q;exact new
 .rw[ag hb]at q
  by_cases hbe:b=e
  .have q':H b=some (.own x):=by
    obtain z|z:=he
    .exact Wa (hbe.trans z) hb
    .rw[hbe];exact z
   rw[q]at q';cases q';obtain⟨v,hv⟩:=heo;exact⟨v,by rw[hbe];exact hv⟩
  .refine(ok b u q).stay (fun c v hc r=>k c v ?_ r) (fun c r=>by rw[ag (nown c b r)];exact r) fun c xs r=>by rw[ag (ntup c xs r)];exact r
   obtain rfl|hc:=hc
   .exact hbe
   .rintro rfl
    obtain z|z:=he
    .exact nown c b hc z
    .rw[hc]at z;cases z;exact hb rfl
end
structure Un(fs ex:List WN)(H H':Hp)(h h':WF):Prop where
 keep:∀b o,h.get? b=some o->H b=none->b∉fs->b∉ex->h'.get? b=some o
 slot:∀b o,h.get? b=some o->H b=none->b∈fs->b∉ex->∃sl,h'.get? b=some { o with slots:=sl }
 free:∀b o,h.get? b=some o->H b=none->b∉ex->H' b=none
 there:∀b o,h.get? b=some o->b∉ex->∃o',h'.get? b=some o'
 tups:∀b xs,H b=some (.tup xs)->H' b=some (.tup xs)
 frzs:∀b o u,H b=some (.frz o u)->H' b=some (.frz o u)
 tbls:∀b ps,H b=some (.tbl ps)->∃more,H' b=some (.tbl (ps++more))
section
variable{fs fs' ex ex':List WN}{H H1 H2:Hp}{h h1 h2 h':WF}{a x e:WN}{o:HO}
def Un.any(u:Un fs ex H H1 h h1){b:WN}{ob:Obj}(q:h.get? b=some ob)(n:H b=none)(hx:b∉ex):∃sl,h1.get? b=some { ob with slots:=sl }:=by
 by_cases hb:b∈fs
 .exact u.slot b ob q n hb hx
 .exact⟨ob.slots,u.keep b ob q n hb hx⟩
def Un.kept(k:∀b u,h.get? b=some u->h'.get? b=some u):Un fs ex H H h h':=
 ⟨fun b ob q _ _ _=>k b ob q,fun b ob q _ _ _=>⟨ob.slots,k b ob q⟩,fun _ _ _ n _=>n,fun b ob q _=>⟨ob,k b ob q⟩,fun _ _ q=>q,fun _ _ _ q=>q,fun _ ps q=>⟨#[],by rw[q];simp⟩⟩
def Un.refl:Un fs ex H H h h:=Un.kept fun _ _ q=>q
def Un.laid(k:∀b u,h.get? b=some u->h'.get? b=some u)(hp:h.objs.size<=a)(hn:H a=none):Un fs ex H (upd H a o) h h' where
 keep:=fun b u q _ _ _=>k b u q
 slot:=fun b u q _ _ _=>⟨u.slots,k b u q⟩
 free:=fun b u q n _=>by rw[ag (Zy (Zw (vN q) hp))];exact n
 there:=fun b u q _=>⟨u,k b u q⟩
 tups:=fun b xs q=>by rw[ag (aM q hn)];exact q
 frzs:=fun b u xs q=>by rw[ag (aM q hn)];exact q
 tbls:=fun b ps q=>⟨#[],by rw[ag (aM q hn),q];simp⟩
def Un.write(mu:Mut (H x))(he:e=x\/H e=some (.own x))(k:∀b u,b≠e->h.get? b=some u->h'.get? b=some u)(heo:∃u,h'.get? e=some u):Un fs ex H (upd H x o) h h':=by
 have hx:∀b,H b=none->b≠x:=fun b n z=>by subst z;rw[n]at mu;exact mu
 have hb:∀b,H b=none->b≠e:=fun b n z=>by
  subst z;obtain r|r:=he
  .exact hx b n r
  .rw[n]at r;cases r
 have hm:∀b u,H b=some u -> ¬ Mut (some u)->b≠x:=fun b u q nm z=>by subst z;rw[q]at mu;exact nm mu
 refine⟨fun b u q n _ _=>k b u (hb b n) q,fun b u q n _ _=>⟨u.slots,k b u (hb b n) q⟩,fun b u q n _=>by rw[ag (hx b n)];exact n,fun b u q _=>?_,
  fun b xs q=>by rw[ag (hm b _ q fun z=>z)];exact q,fun b u xs q=>by rw[ag (hm b _ q fun z=>z)];exact q,fun b ps q=>⟨#[],by rw[ag (hm b _ q fun z=>z),q];simp⟩⟩
 by_cases hbe:b=e
 .subst hbe;exact heo
 .exact⟨u,k b u hbe q⟩
end
noncomputable def trk(h:WF)(H:Hp):List WN:=(lq h.objs.size).filter fun a=>(H a).isSome
noncomputable def qC(h:WF)(H:Hp):WF:=PySem.W.hideAll h (trk h H)
def yr(h:WF)(H:Hp):(qC h H).objs.size=h.objs.size:=PySem.W.hideAll_size _ _
def z6{h:WF}(e:h.get? b=some o)(n:H b=none):(qC h H).get? b=some o:=
 PySem.W.hideAll_get _ e fun hm=>by
  have q:(H b).isSome=true:=(Zf.mp hm).2;rw[n]at q;simp at q
def DH{h:WF}(e:(qC h H).get? b=some o):h.get? b=some o/\H b=none:=by
 have e':h.get? b=some o:=PySem.W.of_hideAll (trk h H) e;refine⟨e',?_⟩;cases q:H b with
 |none=>rfl
 |some x=>
  have hm:b∈trk h H:=Zf.mpr ⟨List.mem_range.mpr (vN e'),by simp[q]⟩;have z:(qC h H).get? b=none:=PySem.W.hideAll_none (trk h H) hm;rw[z]at e;cases e
noncomputable def Ec(g h:WF)(L:WN):List (WN × Obj):=(lq h.objs.size).filterMap fun a=>if a=L\/(g.get? a).isSome=true then none else (h.get? a).map fun o=>(a,o)
noncomputable def rest(g h:WF)(L d:WN):List (WN × Obj):=(Ec g h L).filter fun p=>decide (p.1≠d)
structure Mod(K:Wz)(mg:Str->Option WO)(base:WF):Prop where
 kin:K.In base
 glob:base.Ns ZP mg
 blt:∃mb,base.Ns builtinsNs mb/\∀x:Str,x ≠ "__name__" -> mb x=Zc x
 nolimit:base.NoLimit
structure Cx where
 prog:WL
 w:WK
 K:Wz
 mg:Str->Option WO
 base:WF
 A:WJ
 N:List Str
 s₀:WM
 H₀:Hp
 env:Env
 XF:List Env
 stack:List Env
 ex:List WN
 fn:Str->Bool
 calm:Bool
 pn:List (WN × Obj)
 xe:WO->WM->Prop
noncomputable def frs(l:List Env):List WN:=l.filterMap (·.frame)
noncomputable abbrev Cx.fs(X:Cx):List WN:=frs X.XF
def Vis(sc:Scope)(x:Str):Prop:=sc.names.lookup x=some .local\/sc.names.lookup x=some .cell\/sc.names.lookup x=some .free
def Loc(sc:Scope)(x:Str):Prop:=sc.names.lookup x=some .local\/sc.names.lookup x=some .cell
def KL(env:Env)(h:WF)(m:Str->Option WO)(x:Str)(u:WO):Prop:=
 (env.kindOf x=some .local/\m x=some u)\/((env.kindOf x=some .cell\/env.kindOf x=some .free)/\∃c,env.cells.lookup x=some c/\h.IsCell c (some u))
structure Cx.Ok(X:Cx):Prop where
 mod:Mod X.K X.mg X.base
 kind:X.env.scope.kind = .function
 glob:X.env.globals=ZP
 blt:X.env.builtins=builtinsNs
 above:X.s₀.heap.objs.size<=X.env.locals
 inj:∀x y c,X.env.cells.lookup x=some c->X.env.cells.lookup y=some c->x=y
 has:∀x,(X.env.kindOf x=some .cell\/X.env.kindOf x=some .free)->∃c,X.env.cells.lookup x=some c
 cab:∀x c,X.fn x=true->X.env.cells.lookup x=some c->X.s₀.heap.objs.size<=c
 hd:X.calm=true->X.A.handled=none
 frames:X.A.frames=some X.stack
 stk:X.stack=X.XF\/(X.stack=X.env::X.XF/\X.env.frame=some X.env.locals)
 exf:∀b∈X.ex,b≠X.env.locals/\∀x c,X.env.cells.lookup x=some c->c≠b
 bs:∀b o,X.base.get? b=some o->X.s₀.heap.get? b=some o/\X.H₀ b=none
 bsz:X.base.objs.size<=X.s₀.heap.objs.size
 noex:∀b o,X.base.get? b=some o->b∉X.ex
 exfs:∀b∈X.ex,b∉X.fs
 funs:X.s₀.heap.FunFrames X.base X.XF
 frf:∀b∈X.fs,X.H₀ b=none
structure WR(X:Cx)(XG:List (WN × Obj))(σ:List (Option V))(H:Hp)(s:WM):Prop where
 ok:X.Ok
 os:s.os=X.s₀.os
 bare:AllBare s.gens
 base:Un X.fs X.ex X.H₀ H X.s₀.heap s.heap
 loc:∃m,s.heap.Ns X.env.locals m/\∀(i:Nat) (x:Str) (v:V),X.N[i]? = some x->σ[i]? = some (some v)->Vis X.env.scope x->∃u,WX v u/\KL X.env s.heap m x u
 cell:∀x c,X.env.cells.lookup x=some c->∃v,s.heap.IsCell c v
 free:H X.env.locals=none
 freeC:∀x c,X.env.cells.lookup x=some c->H c=none
 pin:∀p∈X.pn++XG,s.heap.get? p.1=some p.2/\H p.1=none/\p.1≠X.env.locals/\p.1∉X.fs/\∀v,p.2.data ≠ .cell v
 hok:HOk X.prog X.w H s.heap
 len:σ.length=X.N.length
section
variable{X:Cx}{XG:List (WN × Obj)}{σ:List (Option V)}{H H':Hp}{s:WM}{h':WF}
def Cx.Ok.nofr(ok:X.Ok)(e:X.base.get? b=some o):b∉X.fs:=fun hb=>by
 have:=(ok.funs.mem hb).1;rw[e]at this;cases this
def WR.bs(I:WR X XG σ H s):∀b o,X.base.get? b=some o->s.heap.get? b=some o/\H b=none:=fun b o e=>
 ⟨I.base.keep b o (I.ok.bs b o e).1 (I.ok.bs b o e).2 (I.ok.nofr e) (I.ok.noex b o e),I.base.free b o (I.ok.bs b o e).1 (I.ok.bs b o e).2 (I.ok.noex b o e)⟩
def WR.bk(I:WR X XG σ H s):∀b o,X.base.get? b=some o->s.heap.get? b=some o:=fun b o e=>(I.bs b o e).1
def WR.mod(I:WR X XG σ H s):Mod X.K X.mg X.base:=I.ok.mod
def WR.kIn(I:WR X XG σ H s):X.K.In s.heap:=I.ok.mod.kin.keeps I.bk
def WR.lt(I:WR X XG σ H s):X.env.locals<s.heap.objs.size:=let ⟨_,hn,_⟩:=I.loc;hn.lt
def WR.sz(I:WR X XG σ H s):X.s₀.heap.objs.size<=s.heap.objs.size:=r9 I.ok.above (ZK I.lt)
def WR.nofs(I:WR X XG σ H s)(h:s.heap.objs.size<=a):a∉X.fs:=fun hb=>by
 obtain⟨_,o,ho,_⟩:=I.ok.funs.mem hb;exact Wa (Zw (vN ho) (r9 I.sz h)) (ZM _)
def WR.cne(I:WR X XG σ H s):∀x c,X.env.cells.lookup x=some c->c≠X.env.locals:=fun x c e z=>by
 obtain⟨v,o,ho,hd⟩:=I.cell x c e;obtain⟨m,⟨o',es,ep,ho',hd',_⟩,_⟩:=I.loc;rw[z,ho']at ho;cases ho;rw[hd']at hd;cases hd
def WR.funs(I:WR X XG σ H s):s.heap.FunFrames X.base X.XF:=by
 have all:∀(l:List Env),(∀b∈frs l,b∈X.fs)->X.s₀.heap.FunFrames X.base l->s.heap.FunFrames X.base l:=by
  intro l
  induction l with
  |nil=>intro _ _;trivial
  |cons env r ih=>
   intro hs hl;obtain⟨hk,⟨L,o,hf,hn,ho,hd⟩,hr⟩:=hl;have hL:L∈X.fs:=hs L (by unfold frs;rw[List.filterMap_cons,hf];exact ZO);obtain⟨sl,e⟩:=I.base.slot L o ho (I.ok.frf L hL) hL fun z=>I.ok.exfs L z hL;exact⟨hk,⟨L,_,hf,hn,e,hd⟩,ih (fun b hb=>hs b (by unfold frs;rw[List.filterMap_cons,hf];exact tH _ hb)) hr⟩
 exact all X.XF (fun _ hb=>hb) I.ok.funs
def WR.stack(I:WR X XG σ H s):s.heap.FunFrames X.base X.stack:=by
 obtain e|⟨e,hf⟩:=I.ok.stk
 .rw[e];exact I.funs
 .rw[e]
  obtain⟨m,hn,_⟩:=I.loc;refine .cons (by rw[I.ok.kind];decide) hf hn ?_ I.funs;exact Heap.get?_none_of_le (r9 I.ok.bsz I.ok.above)
def WR.stkSub(I:WR X XG σ H s):∀b∈frs X.stack,b∈X.env.locals::X.fs:=fun b hb=>by
 obtain e|⟨e,hf⟩:=I.ok.stk
 .rw[e]at hb;exact tH _ hb
 .rw[e]at hb
  unfold frs at hb;rw[List.filterMap_cons,hf]at hb;exact hb
def WR.stkFree(I:WR X XG σ H s):∀b∈frs X.stack,H b=none:=fun b hb=>by
 obtain e|hb:=zk.mp (I.stkSub b hb)
 .rw[e];exact I.free
 .obtain⟨_,o,ho,_⟩:=I.ok.funs.mem hb
  exact I.base.free b o ho (I.ok.frf b hb) fun z=>I.ok.exfs b z hb
def WR.step{g':Array GenState}{t':Nat}{d':Drawn}{ch:List WN}(I:WR X XG σ H s)
 (hch:∀b∈ch,(b∈X.ex\/X.s₀.heap.objs.size<=b)/\b≠X.env.locals/\(∀x c,X.env.cells.lookup x=some c->c≠b)/\∀p∈X.pn++XG,p.1≠b)
 (keep:∀b o,b≠X.env.locals->b∉X.fs->b∉ch->s.heap.get? b=some o->H b=none->h'.get? b=some o)
 (slot:∀b o,b≠X.env.locals->b∈X.fs->b∉ch->s.heap.get? b=some o->H b=none->∃sl,h'.get? b=some { o with slots:=sl }) (free:∀b o,b∉ch->s.heap.get? b=some o->H b=none->H' b=none)
 (there:∀b o,b∉ch->s.heap.get? b=some o->∃o',h'.get? b=some o')
 (tups:∀b xs,H b=some (.tup xs)->H' b=some (.tup xs)) (frzs:∀b o u,H b=some (.frz o u)->H' b=some (.frz o u)) (tbls:∀b ps,H b=some (.tbl ps)->∃more,H' b=some (.tbl (ps++more)))
 (ns:∀m,s.heap.Ns X.env.locals m->h'.Ns X.env.locals m) (hok:HOk X.prog X.w H' h') (hg:AllBare g') :
 WR X XG σ H' { s with heap:=h',gens:=g',drawn:=d',toks:=t' }:=by
 have neL:∀b o,X.s₀.heap.get? b=some o->b≠X.env.locals:=fun b o e=>Zy (Zw (vN e) I.ok.above);have neC:∀b o,X.s₀.heap.get? b=some o->b∉X.ex->b∉ch:=fun b o e hx hb=>by
  rcases(hch b hb).1 with z|z
  .exact hx z
  .exact Wa (Zw (vN e) z) (ZM _)
 have cellK:∀x c,X.env.cells.lookup x=some c->∀v,s.heap.IsCell c v->h'.IsCell c v:=fun x c e v hq_=>by
  obtain⟨o,ho,hd⟩:=hq_;have nch:c∉ch:=fun z=>(hch c z).2.2.1 x c e rfl;by_cases hc:c∈X.fs
  .obtain⟨sl,q⟩:=slot c o (I.cne x c e) hc nch ho (I.freeC x c e)
   exact⟨_,q,hd⟩
  .exact⟨o,keep c o (I.cne x c e) hc nch ho (I.freeC x c e),hd⟩
 refine⟨I.ok,I.os,hg,⟨fun b o e n hb hx=>?_,fun b o e n hb hx=>?_,fun b o e n hx=>?_,fun b o e hx=>?_,fun b xs e=>tups b xs (I.base.tups b xs e),fun b o xs e=>frzs b o xs (I.base.frzs b o xs e),fun b ps e=>?_⟩,?_,fun x c e=>?_,?_,fun x c e=>?_,fun p hp=>?_,hok,I.len⟩
 .exact keep b o (neL b o e) hb (neC b o e hx) (I.base.keep b o e n hb hx) (I.base.free b o e n hx)
 .obtain⟨sl,e1⟩:=I.base.slot b o e n hb hx
  obtain⟨sl',e2⟩:=slot b _ (neL b o e) hb (neC b o e hx) e1 (I.base.free b o e n hx);exact⟨sl',e2⟩
 .obtain⟨o',e1⟩:=I.base.there b o e hx
  exact free b o' (neC b o e hx) e1 (I.base.free b o e n hx)
 .obtain⟨o',e1⟩:=I.base.there b o e hx
  exact there b o' (neC b o e hx) e1
 .obtain⟨m1,e1⟩:=I.base.tbls b ps e
  obtain⟨m2,e2⟩:=tbls b _ e1;exact⟨m1++m2,by rw[e2,Array.append_assoc]⟩
 .obtain⟨m,hn,hl⟩:=I.loc
  refine⟨m,ns m hn,fun i x v e1 e2 e3=>?_⟩;obtain⟨u,r,l⟩:=hl i x v e1 e2 e3;refine⟨u,r,?_⟩;obtain l|⟨k,c,e,z⟩:=l
  .exact .inl l
  .exact .inr ⟨k,c,e,cellK x c e _ z⟩
 .obtain⟨v,z⟩:=I.cell x c e
  exact⟨v,cellK x c e v z⟩
 .obtain⟨m,⟨o,_,_,ho,_⟩,_⟩:=I.loc
  exact free _ o (fun z=>(hch _ z).2.1 rfl) ho I.free
 .obtain⟨v,o,ho,hd⟩:=I.cell x c e
  exact free c o (fun z=>(hch c z).2.2.1 x c e rfl) ho (I.freeC x c e)
 .obtain⟨e,n,ne,nf,d⟩:=I.pin p hp
  have nch:p.1∉ch:=fun z=>(hch p.1 z).2.2.2 p hp rfl;exact⟨keep p.1 p.2 ne nf nch e n,free p.1 p.2 nch e n,ne,nf,d⟩
def WR.un{t':Nat}(I:WR X XG σ H s)(u:Un X.fs [] H H' s.heap h')(hok:HOk X.prog X.w H' h'):WR X XG σ H' { s with heap:=h',toks:=t' }:=by
 obtain⟨m,⟨o,es,ep,ho,r⟩,_⟩:=id I.loc;obtain⟨sl,hL⟩:=u.any ho I.free (by simp);exact I.step (g':=s.gens) (d':=s.drawn) (ch:=[]) (fun _ z=>nomatch z) (fun b o _ hb _ e n=>u.keep b o e n hb (by simp)) (fun b o _ hb _ e n=>u.slot b o e n hb (by simp)) (fun b o _ e n=>u.free b o e n (by simp)) (fun b o _ e=>u.there b o e (by simp)) u.tups u.frzs u.tbls (fun m' hm=>by
  obtain⟨o',es',ep',ho',r'⟩:=hm;rw[ho]at ho';cases ho';exact⟨_,es',ep',hL,r'⟩) hok I.bare
def WR.call{g':Array GenState}{t':Nat}{d':Drawn}{ch:List WN}(I:WR X XG σ H s)(u:Un (frs X.stack) ch H H' s.heap h')(hok:HOk X.prog X.w H' h')(hg:AllBare g')
 (hch:∀b∈ch,(b∈X.ex\/X.s₀.heap.objs.size<=b)/\b≠X.env.locals/\(∀x c,X.env.cells.lookup x=some c->c≠b)/\∀p∈X.pn++XG,p.1≠b) :
 WR X XG σ H' { s with heap:=h',gens:=g',drawn:=d',toks:=t' }:=by
 obtain⟨m,⟨o,es,ep,ho,r⟩,_⟩:=id I.loc;obtain⟨sl,hL⟩:=u.any ho I.free fun z=>(hch _ z).2.1 rfl;exact I.step (ch:=ch) hch (fun b o hL hb hc e n=>u.keep b o e n (fun z=>(zk.mp (I.stkSub b z)).elim hL hb) hc) (fun b o _ _ hc e n=>u.any e n hc) (fun b o hc e n=>u.free b o e n hc) (fun b o hc e=>u.there b o e hc) u.tups u.frzs u.tbls (fun m' hm=>by
  obtain⟨o',es',ep',ho',r'⟩:=hm;rw[ho]at ho';cases ho';exact⟨_,es',ep',hL,r'⟩) hok hg
def WR.turned{t':Nat}{it:WN}(I:WR X XG σ H s)(k:∀b o,b≠it->s.heap.get? b=some o->h'.get? b=some o)(hn:H it=none)(hL:it≠X.env.locals)
 (h1:it∈X.ex\/X.s₀.heap.objs.size<=it) (h2:∀x c,X.env.cells.lookup x=some c->c≠it) (h3:∀p∈X.pn++XG,p.1≠it):WR X XG σ H { s with heap:=h',toks:=t' }:=by
 have nit:∀b u,H b=some u->b≠it:=fun b u e z=>by rw[z,hn]at e;cases e
 refine I.step (g':=s.gens) (d':=s.drawn) (ch:=[it]) (fun b hb=>?_) (fun b o _ _ hc e _=>k b o (fun z=>hc (by simp[z])) e) (fun b o _ _ hc e _=>⟨o.slots,k b o (fun z=>hc (by simp[z])) e⟩) (fun _ _ _ _ n=>n)
  (fun b o hc e=>⟨o,k b o (fun z=>hc (by simp[z])) e⟩) (fun _ _ e=>e) (fun _ _ _ e=>e) (fun b ps e=>⟨#[],by rw[e];simp⟩) (fun m hm=>?_) (fun b u e=>?_) I.bare
 .have e:b=it:=by simpa using hb
  subst e;exact⟨h1,hL,h2,h3⟩
 .obtain⟨o,es,ep,ho,r⟩:=hm
  exact⟨o,es,ep,k _ o (Wj hL) ho,r⟩
 .refine(I.hok b u e).stay (fun c v hc q=>k c v ?_ q) (fun _ q=>q) fun _ _ q=>q
  obtain z|z:=hc
  .rw[z];exact nit b u e
  .exact nit c _ z
def WR.tok(I:WR X XG σ H s)(t:Nat):WR X XG σ H { s with toks:=t }:=I.un (h':=s.heap) (t':=t) Un.refl I.hok
def WR.kept{t':Nat}(I:WR X XG σ H s)(k:∀b u,s.heap.get? b=some u->h'.get? b=some u):WR X XG σ H { s with heap:=h',toks:=t' }:=I.un (Un.kept k) (I.hok.kept k)
def WR.laid{a:WN}{o:HO}{t':Nat}(I:WR X XG σ H s)(k:∀b u,s.heap.get? b=some u->h'.get? b=some u)(hp:s.heap.objs.size<=a)(new:WV X.prog X.w (upd H a o) h' a o) :
 WR X XG σ (upd H a o) { s with heap:=h',toks:=t' }:=I.un (Un.laid k hp (I.hok.fresh hp)) (I.hok.laid k hp new)
def WR.write(I:WR X XG σ H s)(mu:Mut (H x))(he:e=x\/H e=some (.own x))(k:∀b u,b≠e->s.heap.get? b=some u->h'.get? b=some u)(heo:∃u,h'.get? e=some u)
 (new:WV X.prog X.w (upd H x o) h' x o):WR X XG σ (upd H x o) { s with heap:=h',toks:=t' }:=I.un (Un.write mu he k heo) (I.hok.write mu he k heo new)
def WR.pins_of(I:WR X XG σ H s)(h:∀p∈pins',s.heap.get? p.1=some p.2/\H p.1=none/\p.1≠X.env.locals/\p.1∉X.fs/\∀v,p.2.data ≠ .cell v):WR X pins' σ H s:=
 ⟨I.ok,I.os,I.bare,I.base,I.loc,I.cell,I.free,I.freeC,fun p hp=>(yf.mp hp).elim (fun z=>I.pin p (uj _ z)) (h p),I.hok,I.len⟩
def ua{N:List Str}(hN:N.Nodup){i j:Nat}{x:Str}(a:N[i]? = some x)(b:N[j]? = some x):i=j:=by
 obtain⟨h1,e1⟩:=Wu.mp a;obtain⟨h2,e2⟩:=Wu.mp b;exact(List.getElem_inj hN).mp (e1.trans e2.symm)
def p9{M:Model}{A:WJ}{E:WO->WM->Prop}{i:Nat}{x:Str}{v:V}{u:WO}{Q:Unit->WM->Prop}(I:WR X XG σ H s)(hN:X.N.Nodup)(hi:X.N[i]? = some x)(hx:Loc X.env.scope x)(r:WX v u)
 (h:∀s',WR X XG (σ.set i (some v)) H s'->(∃a,Z4 a s.heap s'.heap/\(a=X.env.locals\/X.env.cells.lookup x=some a))->Q () s') (hf:X.fn x=true\/X.env.scope.names.lookup x=some .local:=by first|exact .inl rfl|exact .inr rfl|assumption):WH M A (storeName X.env x u) Q E s:=by
 obtain⟨m,hn,hl⟩:=id I.loc;have hcls:(X.env.scope.kind == .class || (X.env.scope.kind == .module&&X.env.locals != X.env.globals))=false:=by rw[I.ok.kind];rfl
 have hiσ:i<σ.length:=by rw[I.len];exact(Wu.mp hi).1
 have cne:=I.cne;have tracked:∀ {a:WN} {h':WF},(∃o,s.heap.get? a=some o/\H a=none)->Z4 a s.heap h'->HOk X.prog X.w H h':=fun {a h'} ha hs b ob e=>by
  obtain⟨_,_,hfree⟩:=ha;refine(I.hok b ob e).stay (fun c w' hc q=>(hs.2 c ?_).trans q) (fun _ q=>q) fun _ _ q=>q;rintro rfl;obtain rfl|hc:=hc
  .rw[hfree]at e;cases e
  .rw[hfree]at hc;cases hc
 obtain hk|hk:=hx
 .refine wpAny_storeName_local hk hn (fun h' hn' hs=>?_) hcls
  obtain⟨oL,_,_,hoL,_⟩:=id hn;refine h _ ⟨I.ok,I.os,I.bare,⟨fun b o e n hb hx=>?_,fun b o e n hb hx=>?_,I.base.free,fun b o e hx=>?_,I.base.tups,I.base.frzs,I.base.tbls⟩,⟨_,hn',fun j y v' e1 e2 e3=>?_⟩,fun y c e=>?_,I.free,I.freeC,fun p hp=>?_,tracked ⟨oL,hoL,I.free⟩ hs,by simpa using I.len⟩ ⟨_,hs,.inl rfl⟩
  .exact(hs.2 b (Zy (Zw (vN e) I.ok.above))).trans (I.base.keep b o e n hb hx)
  .obtain⟨sl,e1⟩:=I.base.slot b o e n hb hx
   exact⟨sl,(hs.2 b (Zy (Zw (vN e) I.ok.above))).trans e1⟩
  .obtain⟨o',e1⟩:=I.base.there b o e hx
   exact⟨o',(hs.2 b (Zy (Zw (vN e) I.ok.above))).trans e1⟩
  .by_cases hj:j=i
   .subst hj
    rw[hi]at e1;cases e1;rw[List.getElem?_set_self hiσ]at e2;cases e2;exact⟨u,r,.inl ⟨hk,by simp⟩⟩
   .rw[List.getElem?_set_ne (Wj hj)]at e2
    obtain⟨u',r',q⟩:=hl j y v' e1 e2 e3;refine⟨u',r',?_⟩;obtain⟨k,e⟩|⟨k,c,e,z⟩:=q
    .refine .inl ⟨k,?_⟩
     have:y≠x:=fun e=>hj (ua hN e1 (e ▸ hi));simp[this,e]
    .exact .inr ⟨k,c,e,z.sameBut hs (cne y c e)⟩
  .obtain⟨w',z⟩:=I.cell y c e
   exact⟨w',z.sameBut hs (cne y c e)⟩
  .obtain⟨e,n,ne,nf,d⟩:=I.pin p hp
   exact⟨(hs.2 p.1 ne).trans e,n,ne,nf,d⟩
 .have hfn:X.fn x=true:=by
   obtain z|z:=hf
   .exact z
   .rw[z]at hk;cases hk
  obtain⟨c,hc⟩:=I.ok.has x (.inl hk);obtain⟨w',z⟩:=I.cell x c hc;refine wpAny_storeName_cell I.ok.kind hk hc z (fun h' hc' hs=>?_);obtain⟨oc,hoc,hocd⟩:=id z;refine h { s with heap:=h' } ⟨I.ok,I.os,I.bare,⟨fun b o e n hb hx=>?_,fun b o e n hb hx=>?_,I.base.free,fun b o e hx=>?_,I.base.tups,I.base.frzs,I.base.tbls⟩,⟨m,hn.sameBut hs (Wj (cne x c hc)),fun j y v' e1 e2 e3=>?_⟩,fun y c' e=>?_,I.free,I.freeC,fun p hp=>?_,tracked ⟨oc,hoc,I.freeC x c hc⟩ hs,by simpa using I.len⟩ ⟨c,hs,.inr hc⟩
  .exact(hs.2 b (Zy (Zw (vN e) (I.ok.cab x c hfn hc)))).trans (I.base.keep b o e n hb hx)
  .obtain⟨sl,e1⟩:=I.base.slot b o e n hb hx
   exact⟨sl,(hs.2 b (Zy (Zw (vN e) (I.ok.cab x c hfn hc)))).trans e1⟩
  .obtain⟨o',e1⟩:=I.base.there b o e hx
   exact⟨o',(hs.2 b (Zy (Zw (vN e) (I.ok.cab x c hfn hc)))).trans e1⟩
  .by_cases hj:j=i
   .subst hj
    rw[hi]at e1;cases e1;rw[List.getElem?_set_self hiσ]at e2;cases e2;exact⟨u,r,.inr ⟨.inl hk,c,hc,hc'⟩⟩
   .rw[List.getElem?_set_ne (Wj hj)]at e2
    obtain⟨u',r',q⟩:=hl j y v' e1 e2 e3;refine⟨u',r',?_⟩;obtain q|⟨k,c',e,z'⟩:=q
    .exact .inl q
    .refine .inr ⟨k,c',e,z'.sameBut hs ?_⟩
     rintro rfl;exact hj (ua hN e1 (I.ok.inj _ _ _ e hc ▸ hi))
  .by_cases hcc:c'=c
   .subst hcc;exact⟨_,hc'⟩
   .obtain⟨w2,z2⟩:=I.cell y c' e
    exact⟨w2,z2.sameBut hs hcc⟩
  .obtain⟨e,n,ne,nf,d⟩:=I.pin p hp
   refine⟨(hs.2 p.1 ?_).trans e,n,ne,nf,d⟩;intro q;rw[q,hoc]at e;have q':oc=p.2:=Zt e;exact d w' (by rw[<- q'];exact hocd)
def uW{M:Model}{A:WJ}{E:WO->WM->Prop}{i:Nat}{x:Str}{v:V}{u:WO}{Q:Unit->WM->Prop}(I:WR X XG σ H s)(hN:X.N.Nodup)(hi:X.N[i]? = some x)(hx:Loc X.env.scope x)(r:WX v u)
 (h:∀s',WR X XG (σ.set i (some v)) H s'->Q () s') (hf:X.fn x=true\/X.env.scope.names.lookup x=some .local:=by first|exact .inl rfl|exact .inr rfl|assumption):WH M A (storeName X.env x u) Q E s:=
 p9 I hN hi hx r (fun s' I' _=>h s' I') hf
def WR.call'{s':WM}(I:WR X XG σ H s)(ho:s'.os=s.os)(u:Un (frs X.stack) ch H H' s.heap s'.heap)(hok:HOk X.prog X.w H' s'.heap)(hg:AllBare s'.gens)
 (hch:∀b∈ch,(b∈X.ex\/X.s₀.heap.objs.size<=b)/\b≠X.env.locals/\(∀x c,X.env.cells.lookup x=some c->c≠b)/\∀p∈X.pn++XG,p.1≠b):WR X XG σ H' s':=by
 obtain⟨h',g',d',t',o'⟩:=s';have e:o'=s.os:=ho;subst e;exact I.call (g':=g') (t':=t') (d':=d') u hok hg hch
end
abbrev XK:=WO->Option WN->Hp->Prop
abbrev St:=List (Option V)
abbrev VK:=V->Hp->Prop
abbrev TE:=St->Hp->VK->Prop
abbrev TT:=St->Hp->(Bool->Hp->Prop)->Prop
abbrev TA:=St->Hp->(List V->Hp->Prop)->Prop
structure gl where
 nx:St->Hp->Prop
 rt:VK
 bk:St->Hp->Prop:=fun _ _=>False
 ct:St->Hp->Prop:=fun _ _=>False
abbrev TS:=gl->St->Hp->Prop
def EP(X:Cx)(XG:List (WN × Obj))(σ:St)(Q:VK)(u:WO)(s':WM):Prop:=∃v H',WR X XG σ H' s'/\WX v u/\Q v H'
def TP(X:Cx)(XG:List (WN × Obj))(σ:St)(Q:Bool->Hp->Prop)(b:Bool)(s':WM):Prop:=∃H',WR X XG σ H' s'/\Q b H'
def AP(X:Cx)(XG:List (WN × Obj))(σ:St)(Q:List V->Hp->Prop)(us:List WO)(s':WM):Prop:=∃vs H',WR X XG σ H' s'/\WW vs us/\Q vs H'
def SP(X:Cx)(XG:List (WN × Obj))(D:gl)(f:Flow)(s':WM):Prop:=
 match f with
 | .next=>∃σ' H',WR X XG σ' H' s'/\D.nx σ' H'
 | .brk=>∃σ' H',WR X XG σ' H' s'/\D.bk σ' H'
 | .cont=>∃σ' H',WR X XG σ' H' s'/\D.ct σ' H'
 | .ret u=>∃v σ' H',WR X XG σ' H' s'/\WX v u/\D.rt v H'
def PE(X:Cx)(e:Expr)(t:TE):Prop:=
 ∀(XG:List (WN × Obj)) (s:WM) (σ:St) (H:Hp) (Q:VK),WR X XG σ H s->t σ H Q->WH (WG X.prog X.w) X.A (eval e X.env) (EP X XG σ Q) X.xe s
def PT(X:Cx)(e:Expr)(t:TT):Prop:=
 ∀(XG:List (WN × Obj)) (s:WM) (σ:St) (H:Hp) (Q:Bool->Hp->Prop),WR X XG σ H s->t σ H Q->WH (WG X.prog X.w) X.A (isTrue e X.env (eval e X.env)) (TP X XG σ Q) X.xe s
def PW(X:Cx)(e:Expr)(t:TT):Prop:=
 ∀(whole:Sem WO) (XG:List (WN × Obj)) (s:WM) (σ:St) (H:Hp) (Q:Bool->Hp->Prop),WR X XG σ H s->t σ H Q->WH (WG X.prog X.w) X.A (isTrue e X.env whole) (TP X XG σ Q) X.xe s
def PW.pt{X:Cx}{e:Expr}{t:TT}(h:PW X e t):PT X e t:=h _
def PA(X:Cx)(es:List Expr)(t:TA):Prop:=
 ∀(pos:Pos) (XG:List (WN × Obj)) (s:WM) (σ:St) (H:Hp) (Q:List V->Hp->Prop),WR X XG σ H s->t σ H Q->WH (WG X.prog X.w) X.A (spliced (WD pos (WE es X.env))) (AP X XG σ Q) X.xe s
def PS(X:Cx)(st:Stmt)(t:TS):Prop:=
 ∀(XG:List (WN × Obj)) (s:WM) (σ:St) (H:Hp) (D:gl),WR X XG σ H s->t D σ H->WH (WG X.prog X.w) X.A (exec st X.env) (SP X XG D) X.xe s
def PSs(X:Cx)(st:List Stmt)(t:TS):Prop:=
 ∀(XG:List (WN × Obj)) (s:WM) (σ:St) (H:Hp) (D:gl),WR X XG σ H s->t D σ H->WH (WG X.prog X.w) X.A (execs st X.env) (SP X XG D) X.xe s
def thn{α:Type}{t:Sem α}{Q Q':α->WM->Prop}{M:Model}{A:WJ}{E:WO->WM->Prop}{s:WM}(h:WH M A t Q E s)(hQ:∀a s,Q a s->Q' a s):WH M A t Q' E s:=Zi h hQ fun _ _ x=>x
section
variable{X:Cx}
def Ke(i:Nat):TE:=fun σ H Q=>∃v,σ[i]? = some (some v)/\Q v H
def tC(v:V):TE:=fun _ H Q=>Q v H
def Gm(hN:X.N[i]? = some x)(hv:Vis X.env.scope x)(hd:(x==("__debug__":Str))=false:=by decide)(hcd:(x==("__classdict__":Str))=false:=by decide):PE X (.Name x pos) (Ke i):=by
 intro XG s σ H Q I h;obtain⟨v,e,h⟩:=h;obtain⟨m,hn,hl⟩:=I.loc;obtain⟨u,r,l⟩:=hl i x v hN e hv;have fin:EP X XG σ Q u s:=⟨v,H,I,r,h⟩;obtain⟨hk,hm⟩|⟨hk,c,hc,hcell⟩:=l
 .exact wpAny_Name (wpAny_loadName_local I.ok.kind hk hn hm fin) hd
 .obtain hk|hk:=hk
  .exact wpAny_Name (wpAny_loadName_cell I.ok.kind hk hc hcell fin) hd
  .exact wpAny_Name (wpAny_loadName_free I.ok.kind hk hc hcell fin hcd) hd
def ad{i j pos}:PE X (.Constant (.int i) j pos) (tC (.int i)):=fun _ _ _ H _ I h=>wpAny_Constant_int ⟨.int i,H,I.tok _,⟨_,rfl⟩,h⟩
def cW{b j pos}:PE X (.Constant (.bool b) j pos) (tC (.bl b)):=fun _ _ _ H _ I h=>Constant_bool ⟨.bl b,H,I,rfl,h⟩
def ky{j pos}:PE X (.Constant .none j pos) (tC .non):=fun _ _ _ H _ I h=>Constant_none ⟨.non,H,I,rfl,h⟩
def Cs{x j pos}:PE X (.Constant (.str x) j pos) (tC (.str x)):=fun _ _ _ H _ I h=>Calls.Constant_str ⟨.str x,H,I.tok _,⟨_,rfl⟩,h⟩
def Gl(X:Cx)(x:Str):Prop:=X.env.kindOf x=some .globalImplicit
def iQ{E:WO->WM->Prop}{XG:List (WN × Obj)}{s:WM}{σ:St}{H:Hp}{x:Str}{u:WO}{pos:Pos}{Q:WO->WM->Prop}(I:WR X XG σ H s)(hg:Gl X x)(hm:X.mg x=some u)(h:Q u s)
 (hd:(x==("__debug__":Str))=false:=by decide):WH (WG X.prog X.w) X.A (eval (.Name x pos) X.env) Q E s:=
 Calls.Name_function_global I.ok.kind hg (Calls.loadGlobal_global (by rw[I.ok.glob];exact I.mod.glob.keeps I.bk) hm h) hd
def ku{E:WO->WM->Prop}{XG:List (WN × Obj)}{s:WM}{σ:St}{H:Hp}{x:Str}{u:WO}{pos:Pos}{Q:WO->WM->Prop}(I:WR X XG σ H s)(hg:Gl X x)(hm:X.mg x=none)(hv:Zc x=some u)(h:Q u s)
 (hn:x ≠ "__name__":=by decide) (hd:(x==("__debug__":Str))=false:=by decide):WH (WG X.prog X.w) X.A (eval (.Name x pos) X.env) Q E s:=by
 obtain⟨mb,h1,h2⟩:=I.mod.blt;exact Calls.Name_function_global I.ok.kind hg (Calls.loadGlobal_builtin (by rw[I.ok.glob];exact I.mod.glob.keeps I.bk) hm (by rw[I.ok.blt];exact h1.keeps I.bk) ((h2 x hn).trans hv) h) hd
def wY(hg:Gl X x)(hm:X.mg x=some u)(r:WX v u)(hd:(x==("__debug__":Str))=false:=by decide):PE X (.Name x pos) (tC v):=
 fun _ _ _ H _ I h=>iQ I hg hm ⟨v,H,I,r,h⟩ hd
def cF(hg:Gl X x)(hm:X.mg x=none)(hv:Zc x=some u)(r:WX v u)(hn:x ≠ "__name__":=by decide)(hd:(x==("__debug__":Str))=false:=by decide):PE X (.Name x pos) (tC v):=
 fun _ _ _ H _ I h=>ku I hg hm hv ⟨v,H,I,r,h⟩ hn hd
variable{a b:Expr}{ta tb:TE}{pos:Pos}
def PC(X:Cx)(op:CmpOp)(a b:Expr)(t:TE):Prop:=
 ∀(XG:List (WN × Obj)) (s:WM) (σ:St) (H:Hp) (Q:VK),WR X XG σ H s->t σ H Q ->
  WH (WG X.prog X.w) X.A (eval a X.env) (fun v s₁=>WH (WG X.prog X.w) X.A (eval b X.env) (fun u s₂=>WH (WG X.prog X.w) X.A (Zl op v u) (EP X XG σ Q) X.xe s₂) X.xe s₁) X.xe s
def sQ(b:Expr){op:CmpOp}(h:op ≠ .In)(h2:op ≠ .NotIn):Yd op b=false:=by
 have e1:(op==CmpOp.In)=false:=by cases op <;> first|rfl|exact Wa rfl h
 have e2:(op==CmpOp.NotIn)=false:=by cases op <;> first|rfl|exact Wa rfl h2
 cases b <;> simp[Yd,e1,e2]
def Jm(ta:TE):TE:=fun σ H Q=>ta σ H fun x H1=>Q (.bl (decide (x = .non))) H1
def EE(ta:TE):TE:=fun σ H Q=>ta σ H fun x H1=>Q (.bl (!decide (x = .non))) H1
def WX.none_iff{x:V}{v:WO}(r:WX x v):(v==ZS)=decide (x = .non):=by
 cases x with
 |non=>cases r;rfl
 |bl _=>cases r;rfl
 |int _=>obtain⟨t,rfl⟩:=r;rfl
 |str _=>obtain⟨t,rfl⟩:=r;rfl
 |byt _=>obtain⟨t,rfl⟩:=r;rfl
 |flt _=>obtain⟨t,rfl⟩:=r;rfl
 |ref _=>cases r;rfl
 |ty _=>cases r;rfl
def BB{j pos'}(ha:PE X a ta):PC X .Is a (.Constant .none j pos') (Jm ta):=by
 intro XG s σ H Q I h;refine thn (ha XG s σ H _ I h) fun v s1 hq_=>?_;obtain⟨x,H1,I1,r1,q1⟩:=hq_;exact Constant_none (is_none_gen ⟨.bl _,H1,I1,by rw[r1.none_iff];rfl,q1⟩)
def fT{j pos'}(ha:PE X a ta):PC X .IsNot a (.Constant .none j pos') (EE ta):=by
 intro XG s σ H Q I h;refine thn (ha XG s σ H _ I h) fun v s1 hq_=>?_;obtain⟨x,H1,I1,r1,q1⟩:=hq_;exact Constant_none (isnot_none_gen ⟨.bl _,H1,I1,by rw[r1.none_iff];rfl,q1⟩)
def vq(h:PC X op a b t)(h1:Yd op b=false:=by first|exact sQ _ (by decide) (by decide)|rfl):PE X (.Compare a [op] [b] pos) t:=fun XG s σ H Q I hw=>wpAny_Compare1 (h XG s σ H Q I hw) h1
variable{tA tB':TT}{rest:List Expr}
def JU(t u:TT):TT:=fun σ H Q=>t σ H fun c H1=>if c=true then u σ H1 Q else Q false H1
def tOr(t u:TT):TT:=fun σ H Q=>t σ H fun c H1=>if c=true then Q true H1 else u σ H1 Q
def I_(t:TT):TT:=fun σ H Q=>t σ H fun c H1=>Q (!c) H1
def jy(ha:PT X a tA):PW X (.BoolOp .And [a] pos) tA:=by
 intro wh XG s σ H Q I h;refine isTrue_and (thn (ha XG s σ H Q I h) fun c s1 e=>?_);cases c with
 |true=>exact isTrue_and_nil e
 |false=>exact e
def eP(ha:PT X a tA):PW X (.BoolOp .Or [a] pos) tA:=by
 intro wh XG s σ H Q I h;refine isTrue_or (thn (ha XG s σ H Q I h) fun c s1 e=>?_);cases c with
 |false=>exact isTrue_or_nil e
 |true=>exact e
def nh(ha:PT X a tA)(hb:PW X (.BoolOp .And (b::rest) pos) tB'):PW X (.BoolOp .And (a::b::rest) pos) (JU tA tB'):=by
 intro wh XG s σ H Q I h;refine isTrue_and (thn (ha XG s σ H _ I h) fun c s1 hq_=>?_);obtain⟨H1,I1,q1⟩:=hq_;cases c with
 |true=>exact hb wh XG s1 σ H1 Q I1 q1
 |false=>exact⟨H1,I1,q1⟩
def fJ(ha:PT X a tA)(hb:PW X (.BoolOp .Or (b::rest) pos) tB'):PW X (.BoolOp .Or (a::b::rest) pos) (tOr tA tB'):=by
 intro wh XG s σ H Q I h;refine isTrue_or (thn (ha XG s σ H _ I h) fun c s1 hq_=>?_);obtain⟨H1,I1,q1⟩:=hq_;cases c with
 |true=>exact⟨H1,I1,q1⟩
 |false=>exact hb wh XG s1 σ H1 Q I1 q1
def bG(ha:PT X a tA):PT X (.UnaryOp .Not a pos) (I_ tA):=by
 intro XG s σ H Q I h;exact isTrue_not (ha XG s σ H (fun c H1=>Q (!c) H1) I h)
def dv{op}(h:PE X a t):PE X (.BoolOp op [a] pos) t:=fun XG s σ H Q I hw=>BoolOp_one (h XG s σ H Q I hw)
def tIf(t:TT)(ta tb:TE):TE:=fun σ H Q=>t σ H fun c H1=>if c=true then ta σ H1 Q else tb σ H1 Q
def A6{c:Expr}(hc:PT X c tA)(ha:PE X a ta)(hb:PE X b tb):PE X (.IfExp c a b pos) (tIf tA ta tb):=by
 intro XG s σ H Q I h;refine wpAny_IfExp (thn (hc XG s σ H _ I h) fun d s1 hq_=>?_);obtain⟨H1,I1,q1⟩:=hq_;cases d with
 |true=>exact ha XG s1 σ H1 Q I1 q1
 |false=>exact hb XG s1 σ H1 Q I1 q1
end
def SqL(K:Wz)(H:Hp)(a:WN)(xs:List V):Prop:=
 Rd H a (.lst xs) \/
  ∃(o:Obj) (XC:Array WO) (n:Nat),K.lookup a=some o/\o.cls = .type "list" /\ o.dict=none/\o.data = .seq XC n/\XC.size<=WI/\WW xs XC.toList
def SqT(K:Wz)(H:Hp)(a:WN)(xs:List V):Prop:=
 Rd H a (.tup xs) \/
  ∃(o:Obj) (XC:Array WO) (n:Nat),K.lookup a=some o/\o.cls = .type "tuple" /\ o.data = .seq XC n/\XC.size<=WI/\WW xs XC.toList
noncomputable def Kl:WO->Option V
 | .none=>some .non
 | .bool b=>some (.bl b)
 | .int i _=>some (.int i)
 | .str x _=>some (.str x)
 | .bytes b _=>some (.byt b)
 | .float b _=>some (.flt b)
 | .ref a=>some (.ref a)
 | .type n=>some (.ty n)
 |_=>none
def WX.abs(r:WX x u):Kl u=some x:=by
 cases x with
 |non=>cases r;rfl
 |bl _=>cases r;rfl
 |int _=>obtain⟨t,rfl⟩:=r;rfl
 |str _=>obtain⟨t,rfl⟩:=r;rfl
 |byt _=>obtain⟨t,rfl⟩:=r;rfl
 |flt _=>obtain⟨t,rfl⟩:=r;rfl
 |ref _=>cases r;rfl
 |ty _=>cases r;rfl
def WX.inj(r:WX x u)(q:WX y u):x=y:=Zt (r.abs.symm.trans q.abs)
theorem WW.inj:∀ {xs ys:List V} {us:List WO},WW xs us->WW ys us->xs=ys
 |_,_,_,.nil,.nil=>rfl
 |_,_,_,.cons r t,.cons r' t'=>by rw[r.inj r',WW.inj t t']
section
variable{X:Cx}{XG:List (WN × Obj)}{σ:St}{H:Hp}{s:WM}{a:WN}{xs ys:List V}
def al{K:Wz}(h:H a=some (.lst xs)):SqL K H a xs:=.inl (.inl h)
def aY{K:Wz}(h:H a=some (.tup xs)):SqT K H a xs:=.inl (.inl h)
def WR.list(I:WR X XG σ H s)(h:SqL X.K H a xs):∃XC:List WO,WW xs XC/\PlainL s.heap a XC.toArray/\xs.length<=WI:=by
 obtain h|⟨o,XC,n,hk,hc,hd,hs,hz,r⟩:=h
 .obtain⟨z,XC,n,r,e⟩:=h.ok I.hok
  exact⟨XC,r,⟨_,n,e,rfl,rfl,rfl⟩,z⟩
 .refine⟨XC.toList,r,⟨o,n,I.kIn a o hk,hc,hd,by simpa using hs⟩,?_⟩
  have e:=r.length;simp only[ZY]at e;lia
def WR.tuple(I:WR X XG σ H s)(h:SqT X.K H a xs):∃XC:List WO,WW xs XC/\IsTup s.heap a XC.toArray/\xs.length<=WI:=by
 obtain h|⟨o,XC,n,hk,hc,hs,hz,r⟩:=h
 .obtain⟨z,XC,r,p⟩:=h.ok I.hok
  exact⟨XC,r,p,z⟩
 .refine⟨XC.toList,r,⟨o,I.kIn a o hk,hc,n,by simpa using hs⟩,?_⟩
  have e:=r.length;simp only[ZY]at e;lia
def WR.list_inj(I:WR X XG σ H s)(h:SqL X.K H a xs)(h':SqL X.K H a ys):xs=ys:=by
 obtain⟨XC,r,⟨o,n,e,_,_,d⟩,_⟩:=I.list h;obtain⟨its',r',⟨o',n',e',_,_,d'⟩,_⟩:=I.list h';rw[e]at e';cases e';rw[d]at d';injection d' with d1 _
 have:XC=its':=by simpa using Wb Array.toList d1
 subst this;exact r.inj r'
def WR.tuple_inj(I:WR X XG σ H s)(h:SqT X.K H a xs)(h':SqT X.K H a ys):xs=ys:=by
 obtain⟨XC,r,⟨o,e,_,n,d⟩,_⟩:=I.tuple h;obtain⟨its',r',⟨o',e',_,n',d'⟩,_⟩:=I.tuple h';rw[e]at e';cases e';rw[d]at d';injection d' with d1 _
 have:XC=its':=by simpa using Wb Array.toList d1
 subst this;exact r.inj r'
end
noncomputable abbrev Cx.wish(X:Cx)(E:WO->WM->Prop):Cx:={ X with xe:=E }
noncomputable abbrev Cx.nox(X:Cx):Cx:=X.wish fun _ _=>False
section
variable{X:Cx}{st:Stmt}{rest:List Stmt}{t u:TS}{e:Expr}{te:TE}{pos:Pos}
def EC:TS:=fun D σ H=>D.nx σ H
def GR(t u:TS):TS:=fun D σ H=>t { D with nx:=u D } σ H
def aJ:PSs X [] EC:=fun _ _ σ H _ I h=>XT ⟨σ,H,I,h⟩
def ae(h1:PS X st t)(h2:PSs X rest u):PSs X (st::rest) (GR t u):=by
 intro XG s σ H D I h;refine wpAny_execs_cons (thn (h1 XG s σ H { D with nx:=u D } I h) fun f s1 q=>?_);cases f with
 |next=>
  obtain⟨σ',H',I',q⟩:=q;exact h2 XG s1 σ' H' D I' q
 |ret v=>exact q
 |brk=>exact q
 |cont=>exact q
def af(h1:PS X st t):PSs X [st] t:=by
 intro XG s σ H D I h;refine wpAny_execs_cons (thn (h1 XG s σ H D I h) fun f s1 q=>?_);cases f with
 |next=>exact XT q
 |ret v=>exact q
 |brk=>exact q
 |cont=>exact q
def WR.quiet{XG:List (WN × Obj)}{σ:St}{H:Hp}{s:WM}(I:WR X XG σ H s):interactive X.env=false:=by simp[interactive,I.ok.kind]
def wG(te:TE):TS:=fun D σ H=>te σ H fun _ H1=>D.nx σ H1
def bC(he:PE X e te)(hs:swapsWith e none pos.line X.env=pure false:=by rfl):PS X (.Expr e pos) (wG te):=by
 intro XG s σ H D I h;exact wpAny_Expr_any (thn (he XG s σ H _ I h) fun v s1 hq_=>(by obtain⟨x,H1,I1,r1,q1⟩:=hq_;exact⟨σ,H1,I1,q1⟩)) I.quiet hs
def JE(te:TE):TS:=fun D σ H=>te σ H D.rt
def aA(he:PE X e te):PS X (.Return (some e) pos) (JE te):=by
 intro XG s σ H D I h;exact wpAny_Return_some (thn (he XG s σ H _ I h) fun v s1 hq_=>(by obtain⟨x,H1,I1,r1,q1⟩:=hq_;exact⟨x,σ,H1,I1,r1,q1⟩))
def Ii(c:TT)(t u:TS):TS:=fun D σ H=>c σ H fun b H1=>if b=true then t D σ H1 else u D σ H1
def bc{c:Expr}{a b:List Stmt}{tc:TT}(hc:PT X c tc)(ha:PSs X a t)(hb:PSs X b u):PS X (.If c a b pos) (Ii tc t u):=by
 intro XG s σ H D I h;refine wpAny_If (thn (hc XG s σ H _ I h) fun d s1 hq_=>?_);obtain⟨H1,I1,q1⟩:=hq_;cases d with
 |true=>exact ha XG s1 σ H1 D I1 q1
 |false=>exact hb XG s1 σ H1 D I1 q1
end
abbrev TG:=V->St->Hp->(St->Hp->Prop)->Prop
abbrev TGs:=List V->St->Hp->(St->Hp->Prop)->Prop
def PG(X:Cx)(target:Expr)(t:TG):Prop:=
 ∀(XG:List (WN × Obj)) (s:WM) (σ:St) (H:Hp) (v:V) (u:WO) (Q:St->Hp->Prop),WR X XG σ H s->WX v u->t v σ H Q ->
  WH (WG X.prog X.w) X.A (assign target X.env u) (fun _ s'=>∃σ' H',WR X XG σ' H' s'/\Q σ' H') X.xe s
def PGs(X:Cx)(ts:List Expr)(t:TGs):Prop:=
 ∀(XG:List (WN × Obj)) (s:WM) (σ:St) (H:Hp) (vs:List V) (us:List WO) (Q:St->Hp->Prop),WR X XG σ H s->WW vs us->t vs σ H Q ->
  WH (WG X.prog X.w) X.A (assignInOrder ((XO ts X.env).map (·.2)) us) (fun _ s'=>∃σ' H',WR X XG σ' H' s'/\Q σ' H') X.xe s
abbrev Hv:=V->V->V->Hp->(Hp->Prop)->Prop
def JW(X:Cx)(t:Hv):Prop:=
 ∀(XG:List (WN × Obj)) (s:WM) (σ:St) (H:Hp) (o i v:V) (ov iv u:WO) (Q:Hp->Prop),WR X XG σ H s->WX o ov->WX i iv->WX v u->t o i v H Q ->
  WH (WG X.prog X.w) X.A (setItem ov iv u) (fun _ s'=>∃H',WR X XG σ H' s'/\Q H') X.xe s
section
variable{X:Cx}{pos:Pos}
def fS(i:Nat):TG:=fun v σ H Q=>Q (σ.set i (some v)) H
def av(hN:X.N.Nodup)(hi:X.N[i]? = some x)(hx:Loc X.env.scope x)(hf:X.fn x=true\/X.env.scope.names.lookup x=some .local:=by first|exact .inl rfl|exact .inr rfl|assumption):PG X (.Name x pos) (fS i):=by
 intro XG s σ H v u Q I r h;exact wpAny_assign_Name (uW I hN hi hx r (fun s' I'=>⟨_,H,I',h⟩) hf)
def Gv:TGs:=fun vs σ H Q=>vs=[]/\Q σ H
def wK(t:TG)(u:TGs):TGs:=fun vs σ H Q=>∃v r,vs=v::r/\t v σ H fun σ' H'=>u r σ' H' Q
def cL:PGs X [] Gv:=by
 intro XG s σ H vs us Q I r h;obtain⟨e,h⟩:=h;subst e;cases r;exact assignInOrder_nil ⟨σ,H,I,h⟩
def aO{e:Expr}{es:List Expr}{t:TG}{u:TGs}(h1:PG X e t)(h2:PGs X es u)
 (hs:(XO (e::es) X.env).map (·.2)=assign e X.env::(XO es X.env).map (·.2):=by rfl):PGs X (e::es) (wK t u):=by
 intro XG s σ H vs us Q I r h;obtain⟨v,vr,e1,h⟩:=h;subst e1;cases r with
 |cons r rr=>
  rw[hs];refine assignInOrder_cons (thn (h1 XG s σ H _ _ _ I r h) fun _ s1 hq_=>?_);obtain⟨σ1,H1,I1,q1⟩:=hq_;exact h2 XG s1 σ1 H1 _ _ Q I1 rr q1
def DQ(K:Wz)(n:Nat)(t:TGs):TG:=fun v σ H Q=>∃a xs,v = .ref a/\SqT K H a xs/\xs.length=n/\t xs σ H Q
def Ho(hc:X.calm=true)(h:PGs X es t)
 (hn:(XO es X.env).length=n:=by rfl) (hst:(XO es X.env).findIdx? (·.1)=none:=by rfl):PG X (.Tuple es k pos) (DQ X.K n t):=by
 intro XG s σ H v u Q I r hw;obtain⟨a,xs,e1,hq,hl,hw⟩:=hw;subst e1;cases r;obtain⟨XC,rv,ht,hz⟩:=I.tuple hq;refine assign_Tuple_tuple (I.ok.hd hc) ht (by simp[hn,<- hl,rv.length]) hst fun h' hx=>?_;have I1:WR X XG σ H { s with heap:=h' }:=I.kept (t':=s.toks) fun b o e=>hx b o (Zy (vN e)) e;exact h XG _ σ H xs _ Q I1 (by simpa using rv) hw
def Iv(to ti:TE)(t:Hv):TG:=fun v σ H Q=>to σ H fun o H1=>ti σ H1 fun i H2=>t o i v H2 fun H3=>Q σ H3
def A7{o i:Expr}{to ti:TE}{t:Hv}(ho:PE X o to)(hi:PE X i ti)(hs:JW X t)
 (ha:∀v,assign (.Subscript o i pos) X.env v=(do
  let ov <- holding [v] (eval o X.env)
  let iv <- holding [v,ov] (eval i X.env)
  standAt pos
  holding [v,ov,iv] (setItem ov iv v)
  release [v,ov,iv] []):=by intro _;rfl):PG X (.Subscript o i pos) (Iv to ti t):=by
 intro XG s σ H v u Q I r h;rw[ha];refine zv (Z2 (thn (ho XG s σ H _ I h) fun ov s1 hq_=>?_));obtain⟨x,H1,I1,r1,q1⟩:=hq_;refine zv (Z2 (thn (hi XG s1 σ H1 _ I1 q1) fun iv s2 hq_=>?_));obtain⟨y,H2,I2,r2,q2⟩:=hq_;refine zv (wpAny_standAt (zv (Z2 (thn (hs XG s2 σ H2 x y v ov iv u _ I2 r1 r2 r q2) fun _ s3 hq_=>?_))));obtain⟨H3,I3,q3⟩:=hq_;exact wpAny_release ⟨σ,H3,I3,q3⟩
def yQ(te:TE)(g:TG):TS:=fun D σ H=>te σ H fun x H1=>g x σ H1 D.nx
def uY{tg e:Expr}{te:TE}{g:TG}(he:PE X e te)(hg:PG X tg g)(hs:swapsWithSole [tg] e pos.line X.env=pure false:=by rfl)(hw:swappedStores [tg] e X.env=pure none:=by rfl)
 (h1:(XO [tg] X.env).map (·.2)=[assign tg X.env]:=by rfl):PS X (.Assign [tg] e pos) (yQ te g):=by
 intro XG s σ H D I h;refine wpAny_Assign_stores (thn (he XG s σ H _ I h) fun v s1 hq_=>?_) hs hw;obtain⟨x,H1,I1,r1,q1⟩:=hq_;rw[h1];exact thn (hg XG s1 σ H1 x v _ I1 r1 q1) fun _ s2 q=>q
def FF{i:Nat}{x:Str}{e:Expr}{te:TE}{pos':Pos}(hN:X.N.Nodup)(hi:X.N[i]? = some x)(hx:Loc X.env.scope x)(he:PE X e te)(hs:swapsWith e (some (.Name x pos')) pos.line X.env=pure false:=by rfl)(hf:X.fn x=true\/X.env.scope.names.lookup x=some .local:=by first|exact .inl rfl|exact .inr rfl|assumption) :
 PS X (.Assign [.Name x pos'] e pos) (yQ te (fS i)):=by
 intro XG s σ H D I h;refine wpAny_Assign_Name (thn (he XG s σ H _ I h) fun v s1 hq_=>?_) hs;obtain⟨y,H1,I1,r1,q1⟩:=hq_;exact uW I1 hN hi hx r1 (fun s2 I2=>⟨_,H1,I2,q1⟩) hf
def FC(c:TT)(tb:TS):TS:=fun D σ H=>∃W:Nat->St->Hp->Prop,(∃m,W m σ H)/\∀m σ H,W m σ H ->
 c σ H fun b H1=>if b=true then ∃N:St->Hp->Prop,(∀σ' H',N σ' H'->∃m',m'<m/\W m' σ' H')/\tb { D with nx:=N,ct:=N,bk:=D.nx } σ H1 else D.nx σ H1
def sJ{c:Expr}{body:List Stmt}{tc:TT}{tb:TS}(hp:PassesOwn (WG X.prog X.w) X.A X.env X.xe)(hc:PT X c tc)(hb:PSs X body tb):PS X (.While c body [] pos) (FC tc tb):=by
 intro XG s σ H D I h;obtain⟨W,⟨m0,w0⟩,turn⟩:=h;refine wpAny_While (codeAny_whileLoop (fun n s'=>∃σ' H',WR X XG σ' H' s'/\W n σ' H') ?_ m0 ⟨σ,H,I,w0⟩);rintro n s1 ⟨σ1,H1,I1,w1⟩;refine YN hp (thn (hc XG s1 σ1 H1 _ I1 (turn n σ1 H1 w1)) fun b s2 hq_=>?_);obtain⟨H2,I2,q2⟩:=hq_;cases b with
 |true=>
  obtain⟨N,hN,q2⟩:=q2;rw[Wf rfl];refine YN hp (thn (hb XG s2 σ1 H2 _ I2 q2) fun f s3 q3=>?_);cases f with
  |next=>
   obtain⟨σ3,H3,I3,n3⟩:=q3;obtain⟨m',hm,w3⟩:=hN σ3 H3 n3;exact⟨m',hm,σ3,H3,I3,w3⟩
  |cont=>
   obtain⟨σ3,H3,I3,n3⟩:=q3;obtain⟨m',hm,w3⟩:=hN σ3 H3 n3;exact⟨m',hm,σ3,H3,I3,w3⟩
  |brk=>exact q3
  |ret v=>exact q3
 |false=>
  rw[Wg vV];exact XT ⟨σ1,H2,I2,q2⟩
end
structure It where
 go:Nat->Hp->Prop
 yld:Nat->Hp->V->Hp->Prop
 stop:Nat->Hp->Prop
def j5(X:Cx)(XG:List (WN × Obj))(H:Hp)(b:WN):Prop:=
 H b=none/\b≠X.env.locals/\b∉X.fs/\(b∈X.ex\/X.s₀.heap.objs.size<=b)/\(∀x c,X.env.cells.lookup x=some c->c≠b)/\∀p∈X.pn++XG,p.1≠b
def WR.fpOk{X:Cx}{XG:List (WN × Obj)}{σ:St}{H H':Hp}{s:WM}{b:WN}(I:WR X XG σ H s)(hb:s.heap.objs.size<=b)(hn:H' b=none):j5 X XG H' b:=by
 refine⟨hn,Nat.ne_of_gt (Zw I.lt hb),I.nofs hb,.inr (r9 I.sz hb),fun x c e z=>?_,fun p hp z=>?_⟩
 .obtain⟨v,q⟩:=I.cell x c e
  exact Wa (Zw q.lt (by rw[z];exact hb)) (ZM _)
 .exact Wa (Zw (vN (I.pin p hp).1) (by rw[z];exact hb)) (ZM _)
structure vy(P:WL)(w:WK)(K:Wz)(tg:Expr)(J:It)(fp:List WN)(it:WN)(tn:Nat->WF->Prop):Prop where
 mem:it∈fp
 obj:∀i h,tn i h->∀b∈fp,∃o,h.get? b=some o/\∀v,o.data ≠ .cell v
 keep:∀i h h',tn i h->(∀b∈fp,∀o,h.get? b=some o->h'.get? b=some o)->tn i h'
 item:∀(X:Cx),X.prog=P->X.w=w->X.K=K->X.calm=true->∀(i:Nat) (XG:List (WN × Obj)) (s:WM) (σ:St) (H:Hp) (E:WO->WM->Prop),WR X XG σ H s->(∀b∈fp,j5 X XG H b)->tn i s.heap->J.go i H ->
  WH (WG P w) X.A (pyNext (.ref it)) (fun r s1=>∃u,r=some u /\
   WH (WG P w) X.A (XS tg (.ref it) u) (fun _ s2=>∃x H',WR X XG σ H' s2/\WX x u/\J.yld i H x H'/\tn (i+1) s2.heap/\∀b∈fp,H' b=none) E s1) E s
 done:∀(X:Cx),X.prog=P->X.w=w->X.K=K->X.calm=true->∀(i:Nat) (XG:List (WN × Obj)) (s:WM) (σ:St) (H:Hp) (E:WO->WM->Prop),WR X XG σ H s->(∀b∈fp,j5 X XG H b)->tn i s.heap->J.stop i H ->
  WH (WG P w) X.A (pyNext (.ref it)) (fun r s1=>r=none/\WR X XG σ H s1) E s
 self:∀(A:WJ) (i:Nat) (s:WM) (Q:WO->WM->Prop) (E:WO->WM->Prop),tn i s.heap->Q (.ref it) s->WH (WG P w) A (pyIter (.ref it)) Q E s
abbrev TI:=St->Hp->(It->Hp->Prop)->Prop
def PIE(X:Cx)(XG:List (WN × Obj))(σ:St)(tg:Expr)(R:It->Hp->Prop)(itv:WO)(s2:WM):Prop:=
 ∃(it:WN) (fp:List WN) (tn:Nat->WF->Prop) (J:It) (H':Hp),itv = .ref it/\WR X XG σ H' s2/\vy X.prog X.w X.K tg J fp it tn/\tn 0 s2.heap/\(∀b∈fp,j5 X XG H' b)/\R J H'
def PI(X:Cx)(tg iter:Expr)(wi:TI):Prop:=
 ∀(XG:List (WN × Obj)) (s:WM) (σ:St) (H:Hp) (R:It->Hp->Prop),WR X XG σ H s->wi σ H R ->
  WH (WG X.prog X.w) X.A (eval iter X.env) (fun v s1=>WH (WG X.prog X.w) X.A (pyIter v) (PIE X XG σ tg R) X.xe s1) X.xe s
def pX{s:WM}{o:Obj}(ho:s.heap.get? it=some o)(hc:o.cls = .type n)(hd:o.data = .fields vs)
 (hn:["enumerate","zip","dict_itemiterator","dict_reverseitemiterator","odict_iterator","itertools.zip_longest","itertools.pairwise"].contains n=false) (hQ:Q () s):WH M A (XS tg (.ref it) u) Q E s:=by
 unfold XS;cases tg <;> first
  |exact yy hQ
  |(cases u <;> first
   |exact yy hQ
   |(refine zv (wpAny_load ho ?_);rw[hc,hd];show WH M A (if (["enumerate","zip","dict_itemiterator","dict_reverseitemiterator","odict_iterator","itertools.zip_longest","itertools.pairwise"].contains n&&vs[0]? == some (rawInt _))=true then _ else _) Q E s;rw[Wg (by intro h;rw[hn,Bool.false_and]at h;cases h)];exact yy hQ))
noncomputable def Itl(K:Wz)(a:WN):It:=
 ⟨fun i H=>∃xs x,SqL K H a xs/\xs[i]? = some x,fun i H x H'=>H'=H/\∀xs,SqL K H a xs->xs[i]? = some x,fun i H=>∃xs,SqL K H a xs/\xs.length<=i⟩
noncomputable def Itt(K:Wz)(a:WN):It:=
 ⟨fun i H=>∃xs x,SqT K H a xs/\xs[i]? = some x,fun i H x H'=>H'=H/\∀xs,SqT K H a xs->xs[i]? = some x,fun i H=>∃xs,SqT K H a xs/\xs.length<=i⟩
noncomputable def Itr(lo:Int)(n:Nat):It:=⟨fun i _=>i<n,fun i H x H'=>H'=H/\x = .int (lo+i),fun i _=>n<=i⟩
def yn{P:WL}{w:WK}{K:Wz}{tg:Expr}(a it:WN):vy P w K tg (Itl K a) [it] it (fun i h=>h.IsListIter it a i) where
 mem:=by simp
 obj:=fun i h st b hb=>by
  have e:b=it:=by simpa using hb
  subst e;obtain⟨o,e,c,d⟩:=st;exact⟨o,e,fun v z=>by rw[d]at z;cases z⟩
 keep:=fun i h h' st k=>st.at fun o e=>k it (by simp) o e
 item:=by
  intro X hP hw hK hc i XG s σ H E I hf st hg;subst hP hw hK;obtain⟨xs,x,hq,hx⟩:=hg;obtain⟨XC,rv,p,hz⟩:=I.list hq;obtain⟨u,hu,ru⟩:=rv.get hx;obtain⟨f0,f1,f2,f3,f4,f5⟩:=hf it (by simp);refine wpAny_pyNext_list_item st p.isList (x:=u) (by simpa using hu) fun h' st' sb=>?_;have I1:WR X XG σ H { s with heap:=h' }:=I.turned (t':=s.toks) (fun b o hb e=>(sb.2 b hb).trans e) f0 f1 f3 f4 f5;obtain⟨o,e,c,d⟩:=id st';exact⟨u,rfl,pX (s:={ s with heap:=h' }) e c d (by decide) ⟨x,H,I1,ru,⟨rfl,fun ys hy=>by rw[I.list_inj hy hq];exact hx⟩,st',fun b hb=>(hf b hb).1⟩⟩
 done:=by
  intro X hP hw hK hc i XG s σ H E I hf st hg;subst hP hw hK;obtain⟨xs,hq,hx⟩:=hg;obtain⟨XC,rv,p,hz⟩:=I.list hq;obtain⟨f0,f1,f2,f3,f4,f5⟩:=hf it (by simp);have hl:=rv.length;exact wpAny_pyNext_list_end (I.ok.hd hc) st p.isList (by simp;lia) fun h' eb=>⟨rfl,I.turned (t':=s.toks) (fun b o hb e=>eb b o hb e) f0 f1 f3 f4 f5⟩
 self:=fun _ _ _ _ _ st h=>wpAny_pyIter_listiter st h
def u_{P:WL}{w:WK}{K:Wz}{tg:Expr}(a it:WN):vy P w K tg (Itt K a) [it] it (fun i h=>h.IsTupleIter it a i) where
 mem:=by simp
 obj:=fun i h st b hb=>by
  have e:b=it:=by simpa using hb
  subst e;obtain⟨o,e,c,d⟩:=st;exact⟨o,e,fun v z=>by rw[d]at z;cases z⟩
 keep:=fun i h h' st k=>st.at fun o e=>k it (by simp) o e
 item:=by
  intro X hP hw hK hc i XG s σ H E I hf st hg;subst hP hw hK;obtain⟨xs,x,hq,hx⟩:=hg;obtain⟨XC,rv,p,hz⟩:=I.tuple hq;obtain⟨u,hu,ru⟩:=rv.get hx;obtain⟨f0,f1,f2,f3,f4,f5⟩:=hf it (by simp);refine wpAny_pyNext_tuple_item st (show s.heap.IsTuple a XC.toArray from p) (x:=u) (by simpa using hu) fun h' st' sb=>?_;have I1:WR X XG σ H { s with heap:=h' }:=I.turned (t':=s.toks) (fun b o hb e=>(sb.2 b hb).trans e) f0 f1 f3 f4 f5;obtain⟨o,e,c,d⟩:=id st';exact⟨u,rfl,pX (s:={ s with heap:=h' }) e c d (by decide) ⟨x,H,I1,ru,⟨rfl,fun ys hy=>by rw[I.tuple_inj hy hq];exact hx⟩,st',fun b hb=>(hf b hb).1⟩⟩
 done:=by
  intro X hP hw hK hc i XG s σ H E I hf st hg;subst hP hw hK;obtain⟨xs,hq,hx⟩:=hg;obtain⟨XC,rv,p,hz⟩:=I.tuple hq;obtain⟨f0,f1,f2,f3,f4,f5⟩:=hf it (by simp);have hl:=rv.length;exact wpAny_pyNext_tuple_end (I.ok.hd hc) st (show s.heap.IsTuple a XC.toArray from p) (by simp;lia) fun h' eb=>⟨rfl,I.turned (t':=s.toks) (fun b o hb e=>eb b o hb e) f0 f1 f3 f4 f5⟩
 self:=fun _ _ _ _ _ st h=>wpAny_pyIter_tupleiter st h
def wz{P:WL}{w:WK}{K:Wz}{tg:Expr}(it:WN)(lo:Int)(n:Nat):vy P w K tg (Itr lo n) [it] it (fun i h=>IsRangeIter h it (lo+(i:Nat)*1) ((n:Int)-(i:Nat)) 1) where
 mem:=by simp
 obj:=fun i h st b hb=>by
  have e:b=it:=by simpa using hb
  subst e;exact⟨_,st,fun v z=>by
   have z':XI _=Data.cell v:=z;cases z'⟩
 keep:=fun i h h' st k=>k it (by simp) _ st
 item:=by
  intro X hP hw hK hc i XG s σ H E I hf st hg;subst hP hw hK;obtain⟨f0,f1,f2,f3,f4,f5⟩:=hf it (by simp);have W:=Walks.range (prog:=X.prog) (w:=X.w) (I.ok.hd hc) it lo 1 n;refine W.item i s _ _ hg st fun v h' tk hv st' kk=>?_;obtain⟨t,rfl⟩:=hv;have I1:WR X XG σ H { s with heap:=h',toks:=tk }:=I.turned (fun b o hb e=>kk b o (by simpa using hb) e) f0 f1 f3 f4 f5;refine⟨_,rfl,pX (s:={ s with heap:=h',toks:=tk }) (n:="range_iterator") st' rfl rfl (by decide) ⟨.int (lo+i),H,I1,⟨t,?_⟩,⟨rfl,rfl⟩,st',fun b hb=>(hf b hb).1⟩⟩;rw[Int.mul_one]
 done:=by
  intro X hP hw hK hc i XG s σ H E I hf st hg;subst hP hw hK;obtain⟨f0,f1,f2,f3,f4,f5⟩:=hf it (by simp);exact wpAny_pyNext_range_end (I.ok.hd hc) st (by have:n<=i:=hg;lia) fun h' eb=>⟨rfl,I.turned (t':=s.toks) (fun b o hb e=>eb b o hb e) f0 f1 f3 f4 f5⟩
 self:=fun _ _ _ _ _ st h=>wpAny_pyIter_rangeiter st h
section
variable{X:Cx}{tg:Expr}
def oK(K:Wz)(tl:TE):TI:=fun σ H R=>tl σ H fun x H1=>∃a,x = .ref a/\(∃xs,SqL K H1 a xs)/\R (Itl K a) H1
def Ea(K:Wz)(tl:TE):TI:=fun σ H R=>tl σ H fun x H1=>∃a,x = .ref a/\(∃xs,SqT K H1 a xs)/\R (Itt K a) H1
def CP{l:Expr}{tl:TE}(hl:PE X l tl):PI X tg l (oK X.K tl):=by
 intro XG s σ H R I h;refine thn (hl XG s σ H _ I h) fun v s1 hq_=>?_;obtain⟨x,H1,I1,r1,q1⟩:=hq_;obtain⟨a,e,⟨xs,hq⟩,q⟩:=q1;subst e;cases r1;obtain⟨XC,rv,p,hz⟩:=I1.list hq;refine wpAny_pyIter_list p.isList ?_;refine⟨s1.heap.objs.size,[s1.heap.objs.size],_,_,H1,rfl,I1.kept (t':=s1.toks) fun b o e=>Wy _ e,yn a _,⟨_,Wx _ rfl,rfl,rfl⟩,fun b hb=>?_,q⟩;have e:b=s1.heap.objs.size:=by simpa using hb
 subst e;exact I1.fpOk (ym _) (I1.hok.fresh (ym _))
def Gj{l:Expr}{tl:TE}(hl:PE X l tl):PI X tg l (Ea X.K tl):=by
 intro XG s σ H R I h;refine thn (hl XG s σ H _ I h) fun v s1 hq_=>?_;obtain⟨x,H1,I1,r1,q1⟩:=hq_;obtain⟨a,e,⟨xs,hq⟩,q⟩:=q1;subst e;cases r1;obtain⟨XC,rv,p,hz⟩:=I1.tuple hq;refine wpAny_pyIter_tuple (show s1.heap.IsTuple a XC.toArray from p) ?_;refine⟨s1.heap.objs.size,[s1.heap.objs.size],_,_,H1,rfl,I1.kept (t':=s1.toks) fun b o e=>Wy _ e,u_ a _,⟨_,Wx _ rfl,rfl,rfl⟩,fun b hb=>?_,q⟩;have e:b=s1.heap.objs.size:=by simpa using hb
 subst e;exact I1.fpOk (ym _) (I1.hok.fresh (ym _))
def tJ{XG:List (WN × Obj)}{σ:St}{H:Hp}{s:WM}{R:It->Hp->Prop}{E:WO->WM->Prop}{lo hi:Int}{t u v:Tok}{tk:Nat}(I:WR X XG σ H s)(h1:-(2 ^ 62)<=lo)(h2:lo<2 ^ 62)(h3:-(2 ^ 62)<=hi)(h4:hi<2 ^ 62)
 (q:R (Itr lo (hi-lo).toNat) H):WH (WG X.prog X.w) X.A (pyIter (.ref s.heap.objs.size)) (PIE X XG σ tg R) E { s with heap:=s.heap.push { cls:=.type "range",data:=.fields #[.int lo t,.int hi u,.int 1 v] },toks:=tk }:=by
 refine wpAny_pyIter_range (IsRange.new ..) (small_one h1 h2 h3 h4) ?_;have I1:WR X XG σ H { s with heap:=s.heap.push { cls:=.type "range",data:=.fields #[.int lo t,.int hi u,.int 1 v] },toks:=tk }:=I.kept fun b o e=>Wy _ e;refine⟨(s.heap.push { cls:=.type "range",data:=.fields #[.int lo t,.int hi u,.int 1 v] }).objs.size,[(s.heap.push { cls:=.type "range",data:=.fields #[.int lo t,.int hi u,.int 1 v] }).objs.size],_,_,H,rfl,
  I1.kept (t':=tk) fun b o e=>Wy _ e,wz _ lo (hi-lo).toNat,?_,fun b hb=>?_,q⟩
 .have e1:lo+((0:Nat):Int)*1=lo:=by simp
  have e2:(((hi-lo).toNat:Nat):Int)-((0:Nat):Int)=Builtin.Range.rangeSize lo hi 1:=by rw[rangeSize_one];split <;> lia
  show IsRangeIter _ _ (lo+((0:Nat):Int)*1) ((((hi-lo).toNat:Nat):Int)-((0:Nat):Int)) 1;rw[e1,e2];exact Wx _ rfl
 .have e:b=(s.heap.push { cls:=.type "range",data:=.fields #[.int lo t,.int hi u,.int 1 v] }).objs.size:=by simpa using hb
  subst e;exact I1.fpOk (ym _) (I1.hok.fresh (ym _))
def AC(ta:TA):TI:=fun σ H R=>ta σ H fun vs H1=>∃j:Int,vs=[.int j] /\ -(2 ^ 62)<=j/\j<2 ^ 62/\R (Itr 0 j.toNat) H1
def Bp(ta:TA):TI:=fun σ H R=>ta σ H fun vs H1=>∃i j:Int,vs=[.int i,.int j]/\(-(2 ^ 62)<=i/\i<2 ^ 62 /\ -(2 ^ 62)<=j/\j<2 ^ 62)/\R (Itr i (j-i).toNat) H1
def d4{a:Expr}{ta:TA}{p pos:Pos}(hg:Gl X "range")(hm:X.mg "range" = none)(ha:PA X [a] ta)(hs:WE [a] X.env=[(false,eval a X.env)]:=by rfl):PI X tg (.Call (.Name "range" p) [a] [] pos) (AC ta):=by
 intro XG s σ H R I h;refine Call_ (ku I hg hm boot_range (Yh (thn (ha pos XG s σ H _ I h) fun us s1 hq_=>?_) hs rfl));obtain⟨vs,H1,I1,r1,q1⟩:=hq_;obtain⟨j,e,q1,q2,q⟩:=q1;subst e;cases r1 with
 |cons r rr=>
  cases rr;obtain⟨t,rfl⟩:=r;exact call_range_1 (tJ I1 (by lia) (by lia) q1 q2 (by simpa using q))
def p8{a b:Expr}{ta:TA}{p pos:Pos}(hg:Gl X "range")(hm:X.mg "range" = none)(ha:PA X [a,b] ta)(hs:WE [a,b] X.env=[(false,eval a X.env),(false,eval b X.env)]:=by rfl)(hs2:WE [b] X.env=[(false,eval b X.env)]:=by rfl) :
 PI X tg (.Call (.Name "range" p) [a,b] [] pos) (Bp ta):=by
 intro XG s σ H R I h;refine Call_ (ku I hg hm boot_range (Yh (thn (ha pos XG s σ H _ I h) fun us s1 ⟨vs,H1,I1,r1,q1⟩=>?_) (by rw[hs,hs2]) (by rw[hs2];rfl)));obtain⟨i,j,e,⟨q1,q2,q3,q4⟩,q⟩:=q1;subst e;cases r1 with
 |cons r rr=>
  cases rr with
  |cons r' rr=>
   cases rr;obtain⟨t,rfl⟩:=r;obtain⟨t',rfl⟩:=r';exact call_range_2 (tJ I1 q1 q2 q3 q4 q)
def sS(wi:TI)(g:TG)(tb:TS):TS:=fun D σ H=>wi σ H fun J H1=>∃W:Nat->Nat->St->Hp->Prop,(∃m,W 0 m σ H1)/\∀i m σ H,W i m σ H ->
 (J.stop i H/\D.nx σ H)\/(J.go i H/\∃N:St->Hp->Prop,(∀σ' H',N σ' H'->∃m',m'<m/\W (i+1) m' σ' H')/\∀x H',J.yld i H x H'->g x σ H' fun σ2 H2=>tb { D with nx:=N,ct:=N,bk:=D.nx } σ2 H2)
noncomputable def oQ(fp:List WN)(h:WF):List (WN × Obj):=fp.filterMap fun b=>(h.get? b).map fun o=>(b,o)
def gN{fp:List WN}{h:WF}{b:WN}{o:Obj}(hb:b∈fp)(e:h.get? b=some o):(b,o)∈oQ fp h:=List.mem_filterMap.mpr ⟨b,hb,by rw[e];rfl⟩
def zp{h:WF}(hp:p∈oQ fp h):p.1∈fp/\h.get? p.1=some p.2:=by
 obtain⟨b,hb,e⟩:=List.mem_filterMap.mp hp;cases q:h.get? b with
 |none=>rw[q]at e;cases e
 |some o=>
  rw[q]at e;have e':(b,o)=p:=Zt e;subst e';exact⟨hb,q⟩
def WR.pinned{XG:List (WN × Obj)}{σ:St}{H:Hp}{s:WM}{fp:List WN}(I:WR X XG σ H s)(hf:∀b∈fp,j5 X XG H b)(ho:∀b∈fp,∃o,s.heap.get? b=some o/\∀v,o.data ≠ .cell v):WR X (XG++oQ fp s.heap) σ H s:=
 I.pins_of fun p hp=>(yf.mp hp).elim (fun z=>I.pin p (uD _ z)) fun z=>by
  obtain⟨hb,e⟩:=zp z;obtain⟨f0,f1,f2,_⟩:=hf p.1 hb;obtain⟨o,e',d⟩:=ho p.1 hb;rw[e]at e';cases e';exact⟨e,f0,f1,f2,d⟩
def WR.unpinned{XG pl:List (WN × Obj)}{σ:St}{H:Hp}{s:WM}(I:WR X (XG++pl) σ H s):WR X XG σ H s:=I.pins_of fun p hp=>I.pin p (uD _ (uj _ hp))
def b7{iter:Expr}{body:List Stmt}{wi:TI}{g:TG}{tb:TS}{pos:Pos}(hp:PassesOwn (WG X.prog X.w) X.A X.env X.xe)(hc:X.calm=true)(hi:PI X tg iter wi)(hg:PG X tg g)(hb:PSs X body tb)
 (hs:∀x,Xr iter X.env x=pure x:=by intro _;rfl):PS X (.For tg iter body [] pos) (sS wi g tb):=by
 intro XG s σ H D I h;refine wpAny_For (thn (hi XG s σ H _ I h) fun v s1 h1=>thn h1 fun itv s2 h2=>?_) hs;obtain⟨it,fp,tn,J,H2,e,I2,T,st2,f2,W,⟨m0,w0⟩,turn⟩:=h2;subst e;have stat:∀ {H':Hp},(∀b∈fp,H' b=none)->∀b∈fp,j5 X XG H' b:=fun hn b hb=>⟨hn b hb,(f2 b hb).2⟩;refine codeAny_forLoop_any (fun n s'=>∃i σ' H',WR X XG σ' H' s'/\tn i s'.heap/\(∀b∈fp,H' b=none)/\W i n σ' H') ?_ m0 ⟨0,σ,H2,I2,st2,fun b hb=>(f2 b hb).1,w0⟩;rintro n s3 ⟨i,σ3,H3,I3,st3,fr3,w3⟩;obtain⟨stop,qn⟩|⟨go,N,hN,step⟩:=turn i n σ3 H3 w3
 .refine YN hp (thn (T.done X rfl rfl rfl hc i XG s3 σ3 H3 X.xe I3 (stat fr3) st3 stop) fun r s4 hq_=>?_)
  obtain⟨hr,I4⟩:=hq_;subst hr;exact XT ⟨σ3,H3,I4,qn⟩
 .refine YN hp (thn (T.item X rfl rfl rfl hc i XG s3 σ3 H3 X.xe I3 (stat fr3) st3 go) fun r s4 hq_=>?_)
  obtain⟨u,hr,h4⟩:=hq_;subst hr;refine YN hp (thn h4 fun _ s5 hq_=>?_);obtain⟨x,H5,I5,r5,y5,st5,fr5⟩:=hq_;have I5':=I5.pinned (stat fr5) (T.obj _ _ st5);refine YN hp (thn (hg _ s5 σ3 H5 x u _ I5' r5 (step x H5 y5)) fun _ s6 hq_=>?_);obtain⟨σ6,H6,I6,q6⟩:=hq_;refine YN hp (thn (hb _ s6 σ6 H6 _ I6 q6) fun f s7 q7=>?_);have again:∀ {σ7:St} {H7:Hp},WR X (XG++oQ fp s5.heap) σ7 H7 s7->N σ7 H7->∃m,m<n/\∃i σ' H',WR X XG σ' H' s7/\tn i s7.heap/\(∀b∈fp,H' b=none)/\W i m σ' H':=fun {σ7 H7} I7 n7=>by
   obtain⟨m',hm,w7⟩:=hN σ7 H7 n7;refine⟨m',hm,i+1,σ7,H7,I7.unpinned,T.keep _ _ _ st5 fun b hb o e=>(I7.pin (b,o) (uD _ (uD _ (gN hb e)))).1,fun b hb=>?_,w7⟩;obtain⟨o,e,d⟩:=T.obj _ _ st5 b hb;exact(I7.pin (b,o) (uD _ (uD _ (gN hb e)))).2.1
  cases f with
  |next=>obtain⟨σ7,H7,I7,n7⟩:=q7;exact again I7 n7
  |cont=>obtain⟨σ7,H7,I7,n7⟩:=q7;exact again I7 n7
  |brk=>obtain⟨σ7,H7,I7,q7⟩:=q7;exact⟨σ7,H7,I7.unpinned,q7⟩
  |ret v=>obtain⟨x7,σ7,H7,I7,r7,q7⟩:=q7;exact⟨x7,σ7,H7,I7.unpinned,r7,q7⟩
end
def cq{K:Wz}{a:WN}{xs:List V}{g:TG}{tb:TS}{D:gl}{σ:St}{H:Hp}(Pv:Nat->St->Hp->Prop)(h0:Pv 0 σ H)(hl:∀i σ H,i<=xs.length->Pv i σ H->SqL K H a xs)
 (hs:∀i x σ H,xs[i]? = some x->Pv i σ H->g x σ H fun σ2 H2=>tb { D with nx:=Pv (i+1),ct:=Pv (i+1),bk:=D.nx } σ2 H2) (hd:∀σ H,Pv xs.length σ H->D.nx σ H) :
 ∃W:Nat->Nat->St->Hp->Prop,(∃m,W 0 m σ H)/\∀i m σ H,W i m σ H ->
  ((Itl K a).stop i H/\D.nx σ H)\/((Itl K a).go i H/\∃N:St->Hp->Prop,(∀σ' H',N σ' H'->∃m',m'<m/\W (i+1) m' σ' H')/\∀x H',(Itl K a).yld i H x H'->g x σ H' fun σ2 H2=>tb { D with nx:=N,ct:=N,bk:=D.nx } σ2 H2):=by
 refine⟨fun i m σ H=>m=xs.length-i/\i<=xs.length/\Pv i σ H,⟨xs.length,by simp,rp _,h0⟩,?_⟩;rintro i m σ H ⟨rfl,hi,p⟩;have q:=hl i σ H hi p;by_cases hlt:i<xs.length
 .refine .inr ⟨⟨xs,xs[i],q,by simp[hlt]⟩,Pv (i+1),fun σ' H' p'=>⟨xs.length-(i+1),by lia,rfl,hlt,p'⟩,fun x H' y=>?_⟩
  obtain⟨e,y⟩:=y;subst e;exact hs i x σ _ (y xs q) p
 .have e:i=xs.length:=by lia
  subst e;exact .inl ⟨⟨xs,q,ym _⟩,hd σ H p⟩
def eZ{lo:Int}{n:Nat}{g:TG}{tb:TS}{D:gl}{σ:St}{H:Hp}(Pv:Nat->St->Hp->Prop)(h0:Pv 0 σ H)
 (hs:∀i σ H,i<n->Pv i σ H->g (.int (lo+i)) σ H fun σ2 H2=>tb { D with nx:=Pv (i+1),ct:=Pv (i+1),bk:=D.nx } σ2 H2) (hd:∀σ H,Pv n σ H->D.nx σ H) :
 ∃W:Nat->Nat->St->Hp->Prop,(∃m,W 0 m σ H)/\∀i m σ H,W i m σ H ->
  ((Itr lo n).stop i H/\D.nx σ H)\/((Itr lo n).go i H/\∃N:St->Hp->Prop,(∀σ' H',N σ' H'->∃m',m'<m/\W (i+1) m' σ' H')/\∀x H',(Itr lo n).yld i H x H'->g x σ H' fun σ2 H2=>tb { D with nx:=N,ct:=N,bk:=D.nx } σ2 H2):=by
 refine⟨fun i m σ H=>m=n-i/\i<=n/\Pv i σ H,⟨n,by simp,rp _,h0⟩,?_⟩;rintro i m σ H ⟨rfl,hi,p⟩;by_cases hlt:i<n
 .refine .inr ⟨hlt,Pv (i+1),fun σ' H' p'=>⟨n-(i+1),by lia,rfl,hlt,p'⟩,fun x H' y=>?_⟩
  obtain⟨e,y⟩:=y;subst e y;exact hs i σ _ hlt p
 .have e:i=n:=by lia
  subst e;exact .inl ⟨ym _,hd σ H p⟩
abbrev R2:=V->V->Hp->VK->Prop
def OpR(X:Cx)(f:WO->WO->Sem WO)(r:R2):Prop:=
 ∀(XG:List (WN × Obj)) (s:WM) (σ:St) (H:Hp) (x y:V) (v u:WO) (Q:VK),WR X XG σ H s->WX x v->WX y u->r x y H Q ->
  WH (WG X.prog X.w) X.A (f v u) (EP X XG σ Q) X.xe s
def UnR(X:Cx)(f:WO->Sem WO)(r:V->Hp->VK->Prop):Prop:=
 ∀(XG:List (WN × Obj)) (s:WM) (σ:St) (H:Hp) (x:V) (v:WO) (Q:VK),WR X XG σ H s->WX x v->r x H Q ->
  WH (WG X.prog X.w) X.A (f v) (EP X XG σ Q) X.xe s
def WT(X:Cx)(f:WO)(r:List V->Hp->VK->Prop):Prop:=
 ∀(XG:List (WN × Obj)) (s:WM) (σ:St) (H:Hp) (xs:List V) (us:List WO) (Q:VK),WR X XG σ H s->WW xs us->r xs H Q ->
  WH (WG X.prog X.w) X.A (call f us) (EP X XG σ Q) X.xe s
def Kn(X:Cx)(r:V->Hp->(Bool->Hp->Prop)->Prop):Prop:=
 ∀(XG:List (WN × Obj)) (s:WM) (σ:St) (H:Hp) (x:V) (v:WO) (Q:Bool->Hp->Prop),WR X XG σ H s->WX x v->r x H Q ->
  WH (WG X.prog X.w) X.A (truthy v) (TP X XG σ Q) X.xe s
def tOp(r:R2)(ta tb:TE):TE:=fun σ H Q=>ta σ H fun x H1=>tb σ H1 fun y H2=>r x y H2 Q
def tUn(r:V->Hp->VK->Prop)(ta:TE):TE:=fun σ H Q=>ta σ H fun x H1=>r x H1 Q
def rI(C:Int->Int->Prop)(g:Int->Int->V):R2:=fun x y H Q=>∃i j,x = .int i/\y = .int j/\C i j/\Q (g i j) H
def rI0(g:Int->Int->V):R2:=fun x y H Q=>∃i j,x = .int i/\y = .int j/\Q (g i j) H
def rU(g:Int->V):V->Hp->VK->Prop:=fun x H Q=>∃i,x = .int i/\Q (g i) H
section
variable{X:Cx}{a b c:Expr}{ta tb tc:TE}{pos:Pos}
def He(ha:PE X a ta)(hb:PE X b tb){XG:List (WN × Obj)}{s:WM}{σ:St}{H:Hp}{R:V->V->Hp->Prop}(I:WR X XG σ H s)
 (h:ta σ H fun x H1=>tb σ H1 fun y H2=>R x y H2) {Q:WO->WM->Prop} {f:WO->WO->Sem WO}
 (hf:∀v u s2 x y H2,WR X XG σ H2 s2->WX x v->WX y u->R x y H2->WH (WG X.prog X.w) X.A (f v u) Q X.xe s2) :
 WH (WG X.prog X.w) X.A (eval a X.env) (fun v s₁=>WH (WG X.prog X.w) X.A (eval b X.env) (fun u s₂=>WH (WG X.prog X.w) X.A (f v u) Q X.xe s₂) X.xe s₁) X.xe s:=by
 refine thn (ha XG s σ H _ I h) fun v s1 hq_=>?_;obtain⟨x,H1,I1,r1,q1⟩:=hq_;refine thn (hb XG s1 σ H1 _ I1 q1) fun u s2 hq_=>?_;obtain⟨y,H2,I2,r2,q2⟩:=hq_;exact hf v u s2 x y H2 I2 r1 r2 q2
def ah{op:Operator}{r:R2}(ho:OpR X (binaryOp op) r)(ha:PE X a ta)(hb:PE X b tb):PE X (.BinOp a op b pos) (tOp r ta tb):=by
 intro XG s σ H Q I h;exact wpAny_BinOp (He ha hb I h fun v u s2 x y H2 I2 rx ry q=>ho XG s2 σ H2 x y v u Q I2 rx ry q)
def nX{op:UnaryOp}{r:V->Hp->VK->Prop}(ho:UnR X (unaryOp op) r)(ha:PE X a ta):PE X (.UnaryOp op a pos) (tUn r ta):=by
 intro XG s σ H Q I h;exact UnaryOp_ (thn (ha XG s σ H _ I h) fun v s1 hq_=>(by obtain⟨x,H1,I1,r1,q1⟩:=hq_;exact ho XG s1 σ H1 x v Q I1 r1 q1))
def opI{f:WO->WO->Sem WO}{C:Int->Int->Prop}{g:Int->Int->Int}
 (rule:∀(i j:Int) (t u:Tok) (s:WM) (Q:WO->WM->Prop) (E:WO->WM->Prop),C i j->Q (.int (g i j) s.toks) { s with toks:=s.toks+1 }->WH (WG X.prog X.w) X.A (f (.int i t) (.int j u)) Q E s) :
 OpR X f (rI C fun i j=>.int (g i j)):=by
 intro XG s σ H x y v u Q I rx ry h;obtain⟨i,j,rfl,rfl,hc,q⟩:=h;obtain⟨t,rfl⟩:=rx;obtain⟨t',rfl⟩:=ry;exact rule i j t t' s _ _ hc ⟨.int (g i j),H,I.tok _,⟨_,rfl⟩,q⟩
def Ip{f:WO->WO->Sem WO}{g:Int->Int->Int}
 (rule:∀(i j:Int) (t u:Tok) (s:WM) (Q:WO->WM->Prop) (E:WO->WM->Prop),Q (.int (g i j) s.toks) { s with toks:=s.toks+1 }->WH (WG X.prog X.w) X.A (f (.int i t) (.int j u)) Q E s) :
 OpR X f (rI0 fun i j=>.int (g i j)):=by
 intro XG s σ H x y v u Q I rx ry h;obtain⟨i,j,rfl,rfl,q⟩:=h;obtain⟨t,rfl⟩:=rx;obtain⟨t',rfl⟩:=ry;exact rule i j t t' s _ _ ⟨.int (g i j),H,I.tok _,⟨_,rfl⟩,q⟩
def Fc{f:WO->WO->Sem WO}{g:Int->Int->Bool}
 (rule:∀(i j:Int) (t u:Tok) (s:WM) (Q:WO->WM->Prop) (E:WO->WM->Prop),Q (.bool (g i j)) s->WH (WG X.prog X.w) X.A (f (.int i t) (.int j u)) Q E s) :
 OpR X f (rI0 fun i j=>.bl (g i j)):=by
 intro XG s σ H x y v u Q I rx ry h;obtain⟨i,j,rfl,rfl,q⟩:=h;obtain⟨t,rfl⟩:=rx;obtain⟨t',rfl⟩:=ry;exact rule i j t t' s _ _ ⟨.bl (g i j),H,I,rfl,q⟩
def HQ(i j:Int):Prop:=0<j/\j<1073741824
def FQ(i j:Int):Prop:=0<=j/\j<=1000000/\i.natAbs<2 ^ 64
def CMul(i j:Int):Prop:=(-(2 ^ 64)<i/\i<2 ^ 64)\/(-(2 ^ 64)<j/\j<2 ^ 64)
def CMul.ok{i j:Int}(h:CMul i j):IntMulOk i j:=by
 obtain⟨h1,h2⟩|⟨h1,h2⟩:=h
 .exact .of_left (intBits_le_64 h1 h2)
 .exact .of_right (intBits_le_64 h1 h2)
def FJ:OpR X (binaryOp .Add) (rI0 fun i j=>.int (i+j)):=Ip fun _ _ _ _ _ _ _ q=>add_int q
def Ga:OpR X (binaryOp .Sub) (rI0 fun i j=>.int (i-j)):=Ip fun _ _ _ _ _ _ _ q=>sub_int q
def HE:OpR X (binaryOp .Mult) (rI CMul fun i j=>.int (i*j)):=opI fun _ _ _ _ _ _ _ hc q=>mul_int q hc.ok
def DP:OpR X (binaryOp .FloorDiv) (rI HQ fun i j=>.int (i / j)):=opI fun i j _ _ _ _ _ hc q=>by
 have h1:(0:Int)<j:=hc.1;have h2:j<1073741824:=hc.2;exact floordiv_int (by lia) (by rw[Int.fdiv_eq_ediv_of_nonneg i (by lia)];exact q) (.inl (PyProof.noPylong_small (by lia)))
def Hn:OpR X (binaryOp .Mod) (rI (fun _ j=>0<j) fun i j=>.int (i % j)):=opI fun i j _ _ _ _ _ hc q=>by
 have h1:(0:Int)<j:=hc;exact mod_int' (by lia) (by rw[Int.fmod_eq_emod_of_nonneg i (by lia)];exact q)
def Fj:OpR X (binaryOp .Pow) (rI FQ fun i j=>.int (i ^ j.toNat)):=opI fun _ _ _ _ _ _ _ hc q=>pow_int_small hc.1 hc.2.1 hc.2.2 q
def unI{f:WO->Sem WO}{g:Int->Int}
 (rule:∀(i:Int) (t:Tok) (s:WM) (Q:WO->WM->Prop) (E:WO->WM->Prop),Q (.int (g i) s.toks) { s with toks:=s.toks+1 }->WH (WG X.prog X.w) X.A (f (.int i t)) Q E s) :
 UnR X f (rU fun i=>.int (g i)):=by
 intro XG s σ H x v Q I rx h;obtain⟨i,rfl,q⟩:=h;obtain⟨t,rfl⟩:=rx;exact rule i t s _ _ ⟨.int (g i),H,I.tok _,⟨_,rfl⟩,q⟩
def Hc:UnR X (unaryOp .USub) (rU fun i=>.int (-i)):=unI fun _ _ _ _ _ q=>neg_int q
end
noncomputable def Ft:V->V->Bool
 | .non,.non=>true | .non,.int _=>true | .int _,.non=>true | .non,.bl _=>true | .bl _,.non=>true | .non,.str _=>true | .str _,.non=>true
 | .int _,.int _=>true | .bl _,.bl _=>true | .str _,.str _=>true | .byt _,.byt _=>true
 | .int _,.str _=>true | .str _,.int _=>true | .bl _,.str _=>true | .str _,.bl _=>true
 |_,_=>false
def rEq:R2:=fun x y H Q=>Ft x y=true/\Q (.bl (decide (x=y))) H
def rNe:R2:=fun x y H Q=>Ft x y=true/\Q (.bl (!decide (x=y))) H
def wW:decide (V.int i=V.int j)=(i==j):=by
 rw[YL];simp
def A0:decide (V.bl i=V.bl j)=(i==j):=by
 rw[YL];simp
def xp:decide (V.str i=V.str j)=(i==j):=by
 rw[YL];simp
def w8{i j:Array UInt8}:decide (V.byt i=V.byt j)=(i.toList==j.toList):=by
 rw[YL];cases i;cases j;simp
section
variable{X:Cx}{a b c:Expr}{ta tb tc:TE}{pos:Pos}
def bI(I:WR X XG σ H s)(q:Q (.bl k) H)(e:k=k'):EP X XG σ Q (.bool k') s:=by
 subst e;exact⟨.bl k,H,I,rfl,q⟩
def JV:OpR X (Zl .Eq) rEq:=by
 intro XG s σ H x y v u Q I rx ry h;obtain⟨hs,q⟩:=h;cases x with
 |non=>
  cases rx;cases y with
  |non=>cases ry;exact PySem.EqNone.eq_none_none (bI I q (by simp))
  |bl j=>cases ry;exact PySem.EqNone.eq_none_bool (bI I q (by simp))
  |int j=>obtain⟨t',rfl⟩:=ry;exact PySem.EqNone.eq_none_int (bI I q (by simp))
  |str j=>obtain⟨t',rfl⟩:=ry;exact PySem.EqNone.eq_none_str (bI I q (by simp))
  |_=>exact Wa (show false=true from hs) vV
 |bl i=>
  cases rx;cases y with
  |non=>cases ry;exact PySem.EqNone.eq_bool_none (bI I q (by simp))
  |bl j=>cases ry;exact eq_bool (bI I q A0)
  |str j=>obtain⟨t',rfl⟩:=ry;exact PySem.EqMixed.eq_bool_str (bI I q (by simp))
  |_=>exact Wa (show false=true from hs) vV
 |int i=>
  obtain⟨t,rfl⟩:=rx;cases y with
  |non=>cases ry;exact PySem.EqNone.eq_int_none (bI I q (by simp))
  |int j=>obtain⟨t',rfl⟩:=ry;exact eq_int (bI I q wW)
  |str j=>obtain⟨t',rfl⟩:=ry;exact PySem.EqMixed.eq_int_str (bI I q (by simp))
  |_=>exact Wa (show false=true from hs) vV
 |str i=>
  obtain⟨t,rfl⟩:=rx;cases y with
  |non=>cases ry;exact PySem.EqNone.eq_str_none (bI I q (by simp))
  |bl j=>cases ry;exact PySem.EqMixed.eq_str_bool (bI I q (by simp))
  |int j=>obtain⟨t',rfl⟩:=ry;exact PySem.EqMixed.eq_str_int (bI I q (by simp))
  |str j=>obtain⟨t',rfl⟩:=ry;exact eq_str (bI I q xp)
  |_=>exact Wa (show false=true from hs) vV
 |byt i=>
  obtain⟨t,rfl⟩:=rx;cases y with
  |byt j=>obtain⟨t',rfl⟩:=ry;exact PySem.W.eq_bytes (bI I q w8)
  |_=>exact Wa (show false=true from hs) vV
 |_=>cases y <;> exact Wa (show false=true from hs) vV
def Jw:OpR X (Zl .NotEq) rNe:=by
 intro XG s σ H x y v u Q I rx ry h;obtain⟨hs,q⟩:=h;cases x with
 |non=>
  cases rx;cases y with
  |non=>cases ry;exact PySem.EqNone.ne_none_none (bI I q (by simp))
  |bl j=>cases ry;exact PySem.EqNone.ne_none_bool (bI I q (by simp))
  |int j=>obtain⟨t',rfl⟩:=ry;exact PySem.EqNone.ne_none_int (bI I q (by simp))
  |str j=>obtain⟨t',rfl⟩:=ry;exact PySem.EqNone.ne_none_str (bI I q (by simp))
  |_=>exact Wa (show false=true from hs) vV
 |bl i=>
  cases rx;cases y with
  |non=>cases ry;exact PySem.EqNone.ne_bool_none (bI I q (by simp))
  |bl j=>cases ry;exact ne_bool (bI I q (Wb not A0))
  |str j=>obtain⟨t',rfl⟩:=ry;exact PySem.EqMixed.ne_bool_str (bI I q (by simp))
  |_=>exact Wa (show false=true from hs) vV
 |int i=>
  obtain⟨t,rfl⟩:=rx;cases y with
  |non=>cases ry;exact PySem.EqNone.ne_int_none (bI I q (by simp))
  |int j=>obtain⟨t',rfl⟩:=ry;exact ne_int (bI I q (Wb not wW))
  |str j=>obtain⟨t',rfl⟩:=ry;exact PySem.EqMixed.ne_int_str (bI I q (by simp))
  |_=>exact Wa (show false=true from hs) vV
 |str i=>
  obtain⟨t,rfl⟩:=rx;cases y with
  |non=>cases ry;exact PySem.EqNone.ne_str_none (bI I q (by simp))
  |bl j=>cases ry;exact PySem.EqMixed.ne_str_bool (bI I q (by simp))
  |int j=>obtain⟨t',rfl⟩:=ry;exact PySem.EqMixed.ne_str_int (bI I q (by simp))
  |str j=>obtain⟨t',rfl⟩:=ry;exact ne_str (bI I q (Wb not xp))
  |_=>exact Wa (show false=true from hs) vV
 |byt i=>
  obtain⟨t,rfl⟩:=rx;cases y with
  |byt j=>obtain⟨t',rfl⟩:=ry;exact PySem.W.ne_bytes (bI I q (Wb not w8))
  |_=>exact Wa (show false=true from hs) vV
 |_=>cases y <;> exact Wa (show false=true from hs) vV
def J5:OpR X (Zl .Lt) (rI0 fun i j=>.bl (decide (i<j))):=Fc fun _ _ _ _ _ _ _ q=>lt_int q
def JL:OpR X (Zl .LtE) (rI0 fun i j=>.bl (decide (i<=j))):=Fc fun _ _ _ _ _ _ _ q=>le_int q
def Im:OpR X (Zl .Gt) (rI0 fun i j=>.bl (decide (j<i))):=Fc fun _ _ _ _ _ _ _ q=>gt_int q
def yj:OpR X (Zl .Lt) (fun x y H Q=>∃i j,x = .str i/\y = .str j/\Q (.bl (decide (i.cps.toList<j.cps.toList))) H):=by
 intro XG s σ H x y v u Q I rx ry h;obtain⟨i,j,rfl,rfl,q⟩:=h;obtain⟨t,rfl⟩:=rx;obtain⟨t',rfl⟩:=ry;exact lt_str (bI I q rfl)
def x_:OpR X (Zl .In) (fun x y H Q=>∃i j,x = .str i/\y = .str j/\Q (.bl (!(Builtin.Str.occurrences j i 0 j.length 1).isEmpty)) H):=by
 intro XG s σ H x y v u Q I rx ry h;obtain⟨i,j,rfl,rfl,q⟩:=h;obtain⟨t,rfl⟩:=rx;obtain⟨t',rfl⟩:=ry;exact in_str (bI I q rfl)
def OpR.or{f:WO->WO->Sem WO}{r r':R2}(h:OpR X f r)(h':OpR X f r'):OpR X f (fun x y H Q=>r x y H Q\/r' x y H Q):=by
 intro XG s σ H x y v u Q I rx ry q;obtain q|q:=q
 .exact h XG s σ H x y v u Q I rx ry q
 .exact h' XG s σ H x y v u Q I rx ry q
def dD(b:Expr)(h:op ≠ .In:=by decide)(h2:op ≠ .NotIn:=by decide):Yd op b=false:=by
 have e1:(op==CmpOp.In)=false:=by cases op <;> first|rfl|exact Wa rfl h
 have e2:(op==CmpOp.NotIn)=false:=by cases op <;> first|rfl|exact Wa rfl h2
 cases b <;> simp[Yd,e1,e2]
def cX{op:CmpOp}{r:R2}(ho:OpR X (Zl op) r)(ha:PE X a ta)(hb:PE X b tb)(hm:Yd op b=false):PE X (.Compare a [op] [b] pos) (tOp r ta tb):=by
 intro XG s σ H Q I h;exact wpAny_Compare1 (He ha hb I h fun v u s2 x y H2 I2 rx ry q=>ho XG s2 σ H2 x y v u Q I2 rx ry q) hm
def Kv(K:Wz)(x:V)(H:Hp)(k:Bool):Prop:=
 match x with
 | .non=>k=false
 | .bl b=>k=b
 | .int i=>k=(i != 0)
 | .str y=>y.length<=WI/\k=((y.length:Int) != 0)
 | .byt y=>y.size<=WI/\k=((y.size:Int) != 0)
 | .ref p=>(∃xs,SqL K H p xs/\k = !xs.isEmpty)\/(∃xs,SqT K H p xs/\k = !xs.isEmpty)\/∃XB,H p=some (.dK XB)/\k = !XB.isEmpty
 |_=>False
def vC{κ:Type}{XB:List (κ × V)}{vs:List (κ × WO)}(r:KV XB vs):(!vs.isEmpty) = !XB.isEmpty:=by
 cases r <;> rfl
def ox{xs:List V}{XC:List WO}(r:WW xs XC):(!XC.toArray.isEmpty) = !xs.isEmpty:=by
 cases r <;> simp
def kx:(WI:Nat)<2 ^ 63:=by rw[tV];decide
def KN:Kn X (fun x H Q=>∃k,Kv X.K x H k/\Q k H):=by
 intro XG s σ H x v Q I rx h;obtain⟨k,e,q⟩:=h;have hl:=kx;have hs:WI=16777216:=tV;cases x with
 |non=>
  cases rx;have e':k=false:=e;subst e';exact truthy_none ⟨H,I,q⟩
 |bl b=>
  cases rx;have e':k=b:=e;subst e';exact Ze ⟨H,I,q⟩
 |int i=>
  obtain⟨t,rfl⟩:=rx;have e':k=(i != 0):=e;subst e';exact PySem.P.truthy_int ⟨H,I,q⟩
 |str y=>
  obtain⟨t,rfl⟩:=rx;obtain⟨hy,e'⟩:y.length<=WI/\k=((y.length:Int) != 0):=e;subst e';exact PySem.P.truthy_str (by lia) ⟨H,I.tok _,q⟩
 |byt y=>
  obtain⟨t,rfl⟩:=rx;obtain⟨hy,e'⟩:y.size<=WI/\k=((y.size:Int) != 0):=e;subst e';exact PySem.W.truthy_bytes (by lia) ⟨H,I.tok _,q⟩
 |ref p=>
  cases rx;have e':(∃xs,SqL X.K H p xs/\k = !xs.isEmpty)\/(∃xs,SqT X.K H p xs/\k = !xs.isEmpty)\/∃XB,H p=some (.dK XB)/\k = !XB.isEmpty:=e;obtain⟨xs,hx,e'⟩|⟨xs,hx,e'⟩|⟨XB,hx,e'⟩:=e'
  .subst e'
   obtain⟨XC,r,pl,hz⟩:=I.list hx;have hlen:=r.length;exact wpAny_truthy_list pl.isList (by simp only[yN];lia) ⟨H,I.tok _,by rw[ox r];exact q⟩
  .subst e'
   obtain⟨XC,r,pl,hz⟩:=I.tuple hx;have hlen:=r.length;exact truthy_tuple pl (by simp only[yN];lia) ⟨H,I.tok _,by rw[ox r];exact q⟩
  .subst e'
   obtain⟨hz,hS,vs,r,m⟩:XB.length<=WI/\(p==ZU)=false/\∃vs,KV XB vs/\s.heap.DictOf (bL X.prog X.w) p vs:=I.hok p _ hx;have hlen:XB.length=vs.length:=Xv r;exact wpAny_truthy_dict hS m (by lia) ⟨H,I.tok _,by rw[vC r];exact q⟩
 |_=>exact(show False from e).elim
def vU:OpR X (binaryOp .Add) (fun x y H Q=>∃i j,x = .str i/\y = .str j/\i.length+j.length<=WI/\Q (.str (i++j)) H):=by
 intro XG s σ H x y v u Q I rx ry h;obtain⟨i,j,rfl,rfl,hz,q⟩:=h;obtain⟨t,rfl⟩:=rx;obtain⟨t',rfl⟩:=ry;exact add_str (fun t' tk=>⟨.str (i++j),H,I.tok _,⟨_,rfl⟩,q⟩) hz
def dI(r:WW [x] us):∃u,us=[u]/\WX x u:=by
 cases r with
 |cons r1 r2=>cases r2;exact⟨_,rfl,r1⟩
def xJ(r:WW [x,y] us):∃u w',us=[u,w']/\WX x u/\WX y w':=by
 cases r with
 |cons r1 r2=>
  cases r2 with
  |cons r3 r4=>cases r4;exact⟨_,_,rfl,r1,r3⟩
def yh(hc:X.calm=true):WT X (.builtin "max") (fun xs H Q=>∃i j,xs=[.int i,.int j]/\Q (.int (if j > i then j else i)) H):=by
 intro XG s σ H xs us Q I r h;obtain⟨i,j,rfl,q⟩:=h;obtain⟨u,w',rfl,⟨t,rfl⟩,⟨t',rfl⟩⟩:=xJ r;refine max_two_ints (I.ok.hd hc) fun h' tk k=>⟨_,H,I.kept k,?_,q⟩;by_cases hj:j > i
 .rw[Wf hj,Wf hj];exact⟨_,rfl⟩
 .rw[Wg hj,Wg hj];exact⟨_,rfl⟩
def xX(hc:X.calm=true):WT X (.builtin "min") (fun xs H Q=>∃i j,xs=[.int i,.int j]/\Q (.int (if j<i then j else i)) H):=by
 intro XG s σ H xs us Q I r h;obtain⟨i,j,rfl,q⟩:=h;obtain⟨u,w',rfl,⟨t,rfl⟩,⟨t',rfl⟩⟩:=xJ r;refine min_two_ints (I.ok.hd hc) fun h' tk k=>⟨_,H,I.kept k,?_,q⟩;by_cases hj:j<i
 .rw[Wf hj,Wf hj];exact⟨_,rfl⟩
 .rw[Wg hj,Wg hj];exact⟨_,rfl⟩
def zi:WT X (.type "int") (fun xs H Q=>(∃i,xs=[.int i]/\Q (.int i) H)\/∃k,xs=[.bl k]/\Q (.int (if k then 1 else 0)) H):=by
 intro XG s σ H xs us Q I r h;obtain⟨i,rfl,q⟩|⟨k,rfl,q⟩:=h
 .obtain⟨u,rfl,t,rfl⟩:=dI r
  exact call_int_int ⟨.int i,H,I,⟨_,rfl⟩,q⟩
 .obtain⟨u,rfl,r1⟩:=dI r
  cases r1;exact call_int_bool ⟨.int (if k then 1 else 0),H,I.tok _,⟨_,rfl⟩,q⟩
def KC(K:Wz)(x:V)(H:Hp)(n:Nat):Prop:=
 match x with
 | .str y=>y.length<=WI/\n=y.length
 | .byt y=>y.size<=WI/\n=y.size
 | .ref p=>(∃xs,SqL K H p xs/\n=xs.length)\/∃xs,SqT K H p xs/\n=xs.length
 |_=>False
def Ck:WT X (.builtin "len") (fun xs H Q=>∃x n,xs=[x]/\KC X.K x H n/\Q (.int n) H):=by
 intro XG s σ H xs us Q I r h;obtain⟨x,n,rfl,e,q⟩:=h;obtain⟨u,rfl,rx⟩:=dI r;have hl:=kx;have hs:WI=16777216:=tV;cases x with
 |str y=>
  obtain⟨t,rfl⟩:=rx;obtain⟨hy,e'⟩:y.length<=WI/\n=y.length:=e;subst e';exact len_str (by lia) ⟨.int _,H,I.tok _,⟨_,rfl⟩,q⟩
 |byt y=>
  obtain⟨t,rfl⟩:=rx;obtain⟨hy,e'⟩:y.size<=WI/\n=y.size:=e;subst e';exact PySem.W.len_bytes (by lia) ⟨.int _,H,I.tok _,⟨_,rfl⟩,q⟩
 |ref p=>
  cases rx;have e':(∃xs,SqL X.K H p xs/\n=xs.length)\/∃xs,SqT X.K H p xs/\n=xs.length:=e;obtain⟨xs,hx,e'⟩|⟨xs,hx,e'⟩:=e'
  .subst e'
   obtain⟨XC,r',pl,hz⟩:=I.list hx;have hlen:=r'.length;exact Calls.call_len_list pl.isList (by simp only[yN];lia) ⟨.int xs.length,H,I.tok _,⟨_,by simp only[yN];rw[hlen]⟩,q⟩
  .subst e'
   obtain⟨XC,r',pl,hz⟩:=I.tuple hx;have hlen:=r'.length;exact len_tuple pl (by simp only[yN];lia) ⟨.int xs.length,H,I.tok _,⟨_,by simp only[yN];rw[hlen]⟩,q⟩
 |_=>exact(show False from e).elim
end
structure ObjM(h:WF)(x dx C:WN)(mA:Str->Option WO):Prop where
 obj:h.get? x=some (Yn C dx)
 ns:h.Ns1 dx mA
 ne:dx≠x
def xU{h:WF}(n:h.Ns1 dx mA):∃od,h.get? dx=some od/\∀name,PySem.W.lookIn name od=some (mA name):=by
 obtain⟨o,es,ep,ho,hd,hk,_,hm⟩:=n;refine⟨o,ho,fun name=>?_⟩;have e:=hm name;unfold nsFind findBy at e;rw[<- Array.find?_toList]at e;unfold PySem.W.lookIn;rw[hd];dsimp only;split
 .rename_i y q
  rw[q]at e;exact Wb some e
 .rename_i q
  rw[q]at e;have a:es.toList.any (·.refKey)=false:=by
   rw[List.any_eq_false];intro y hy;obtain⟨z,t,hkey⟩:=hk y (Array.mem_toList_iff.mp hy);simp[YA.refKey,hkey]
  have a':¬ es.toList.any (·.refKey)=true:=by rw[a];exact vV
  rw[Wg a'];exact Wb some e
def ObjM.look(I:ObjM h x dx C mA):∃od,PySem.W.InstAt h x (Yn C dx) C (some od)/\∀name,PySem.W.lookIn name od=some (mA name):=
 let ⟨od,ho,hl⟩:=xU I.ns
 ⟨od,⟨I.obj,rfl,rfl,ho⟩,hl⟩
section
variable{prog:WL}{w:WK}{A:WJ}{E:WO->WM->Prop}{s:WM}{K:Wz}{x dx C f:WN}{mA:Str->Option WO}{name:Str}{v:WO}
def DV(X:K.In s.heap)(I:ObjM s.heap x dx C mA)(hg:PySem.W.plainGet K C name=true)(hh:PySem.W.hasDictIn K C=true)
 (ha:ZX K (.ref C) name=some none) (hv:mA name=some v) (hv':PySem.W.handedIn v=true) (h:Q v { s with toks:=s.toks+1 }) :
 WH (WG prog w) A (getAttr (.ref x) name expr) Q E s:=by
 obtain⟨od,J,hl⟩:=I.look;exact PySem.W.get_value X J (PySem.W.plainGet_of hg).1 (PySem.W.findObj_own hh ha rfl (by rw[hl,hv])) hv' h
def zZ{Q:WO × List WO->WM->Prop}(X:K.In s.heap)(I:ObjM s.heap x dx C mA)(hg:PySem.W.plainGet K C name=true)
 (hf:ZX K (.ref C) name=some (some (.ref f))) (ht:PySem.W.isFn K (.ref f)=true) (hv:mA name=none) (h:Q (.ref f,[.ref x]) s) :
 WH (WG prog w) A (getMethod (.ref x) name pl) Q E s:=by
 obtain⟨od,J,hl⟩:=I.look;exact PySem.W.method_fn X J (PySem.W.plainGet_of hg).1 (PySem.W.plainGet_of hg).2 hf (beq_iff_eq.mp ht) (by show(PySem.W.lookIn name od).map (·.isSome)=some false;rw[hl,hv];rfl) h
def iR{ns:List Str}(X:K.In s.heap)(I:ObjM s.heap x dx C mA)
 (hs:ZX K (.ref C) "__setattr__" = some (some (.builtin "object.__setattr__"))) (hp:PySem.W.plainOver K C=true) (ht:PySem.W.takerIn K C name=some none) (hh:PySem.W.hasDictIn K C=true)
 (hw:PySem.Within mA ns) (hsz:ns.length<=WI)
 (h:∀h',ObjM h' x dx C (fun y=>if y=name then some v else mA y)->Z4 dx s.heap h'->Q () { s with heap:=h',toks:=s.toks+2 }) :
 WH (WG prog w) A (setAttr (.ref x) name v) Q E s:=by
 obtain⟨od,J,hl⟩:=I.look;refine PySem.W.set_plain X J hs (PySem.W.osa_open (s:={ s with toks:=s.toks+1 }) (r:=none) X J hp ht fun b=>?_);obtain⟨cd,hc,hd'⟩:=PySem.W.any_some hh;have hx:s.heap.get? x=some ⟨.ref C,some dx,.plain,#[]⟩:=I.obj;refine zv (yy (zv (zv (wpAny_loadPart hx (zv (PySem.W.Looks.here (s:={ s with toks:=s.toks+1 }) (PySem.W.looks_clsIn X hc) ?_))))));rw[hd'];refine yy (a:=some dx) (zv (yy (zv ?_)));refine wpAny_nsSet1 (s:={ s with toks:=s.toks+1 }) I.ns fun h' hn2 hs2=>?_;obtain⟨oD,esD,epD,hoD,hdD,hcD⟩:=hn2.count (PySem.Within.cons name v hw);refine zv (wpAny_lookBehind hoD (by rw[hdD];exact pastItsLine_dict (r9 hcD (by rw[sP];lia))) ?_);exact yy (h _ ⟨(hs2.2 _ (Wj I.ne)).trans I.obj,hn2,I.ne⟩ hs2)
def AK(X:K.In s.heap)(hm:PySem.W.makesIn K C=true)
 (hi:ZX K (.ref C) "__init__" = some (some (.ref f))) (hf:PySem.W.typeIn K (.ref f)=some (.type "function"))
 (h:codeAny (WG prog w) (A.under (.builtin "type.__call__" ⟨.ref C::vs,kw⟩)) (.call (.ref f) ⟨.ref (s.heap.objs.size+1)::vs,kw⟩) (PySem.W.InitBack (s.heap.objs.size+1) R)
  { s with heap:=(s.heap.push ZJ).push (Yn C s.heap.objs.size) }) :
 codeAny (WG prog w) A (.call (.ref C) ⟨vs,kw⟩) R s:=by
 obtain⟨hh,g,d,t,os⟩:=s;exact PySem.W.make_core (PySem.W.makes_of X hm) (PySem.W.looks_findIn X hi) (fun self=>PySem.W.bind_fn X self hf) (.inl rfl) h
end
noncomputable def dL(f:Str)(v:V):List (Str × V)->List (Str × V)
 | []=>[(f,v)]
 |(g,x)::r=>if g=f then (g,v)::r else (g,x)::dL f v r
theorem lT(f g:Str)(v:V):∀fs:List (Str × V),(dL f v fs).lookup g=if g=f then some v else fs.lookup g
 | []=>by
  show qI g [(f,v)]=_;by_cases h:g=f
  .have hb:(g==f)=true:=beq_iff_eq.mpr h
   simp only[qI,hb,Wf h]
  .have hb:(g==f)=false:=beq_eq_false_iff_ne.mpr h
   simp only[qI,hb,Wg h]
 |(k,x)::r=>by
  have ih:=lT f g v r;rw[show dL f v ((k,x)::r)=(if k=f then (k,v)::r else (k,x)::dL f v r) from rfl];by_cases hk:k=f
  .rw[Wf hk]
   by_cases h:g=k
   .have hb:(g==k)=true:=beq_iff_eq.mpr h
    simp only[qI,hb,Wf (h.trans hk)]
   .have hb:(g==k)=false:=beq_eq_false_iff_ne.mpr h
    simp only[qI,hb,Wg (fun e:g=f=>h (e.trans hk.symm))]
  .rw[Wg hk]
   by_cases h:g=k
   .have hb:(g==k)=true:=beq_iff_eq.mpr h
    simp only[qI,hb,Wg (fun e:g=f=>hk (h.symm.trans e))]
   .have hb:(g==k)=false:=beq_eq_false_iff_ne.mpr h
    simp only[qI,hb];exact ih
theorem k9(f:Str)(v:V):∀fs:List (Str × V),f∈(dL f v fs).map (·.1)/\∀g,g∈fs.map (·.1)->g∈(dL f v fs).map (·.1)
 | []=>⟨by simp[dL],fun g h=>by simp at h⟩
 |(k,x)::r=>by
  obtain⟨i1,i2⟩:=k9 f v r;rw[show dL f v ((k,x)::r)=(if k=f then (k,v)::r else (k,x)::dL f v r) from rfl];by_cases hk:k=f
  .rw[Wf hk]
   subst hk;exact⟨by simp,fun g h=>by simpa using h⟩
  .rw[Wg hk]
   refine⟨?_,fun g h=>?_⟩
   .rw[xY]
    exact tH _ i1
   .rw[xY]at h |-
    obtain e|e:=zk.mp h
    .exact zk.mpr (.inl e)
    .exact tH _ (i2 g e)
theorem lV(f:Str)(v:V):∀fs:List (Str × V),(dL f v fs).length<=fs.length+1
 | []=>by simp[dL]
 |(k,x)::r=>by
  have ih:=lV f v r;rw[show dL f v ((k,x)::r)=(if k=f then (k,v)::r else (k,x)::dL f v r) from rfl];by_cases hk:k=f
  .rw[Wf hk,sP,sP];lia
  .rw[Wg hk,sP,sP];lia
def RelO.some_of(r:RelO (some v) o):∃u,o=some u/\WX v u:=by
 cases o with
 |none=>exact(show False from r).elim
 |some u=>exact⟨u,rfl,r⟩
def RelO.none_of(r:RelO none o):o=none:=by
 cases o with
 |none=>rfl
 |some u=>exact(show False from r).elim
def yA(r:WX v u):PySem.W.handedIn u=true:=by
 cases v with
 |non=>cases (show u=ZS from r);rfl
 |bl b=>cases (show u=Value.bool b from r);rfl
 |int i=>obtain⟨t,e⟩:=(show ∃t,u=Value.int i t from r);cases e;rfl
 |str x=>obtain⟨t,e⟩:=(show ∃t,u=YO x t from r);cases e;rfl
 |byt b=>obtain⟨t,e⟩:=(show ∃t,u=Value.bytes b t from r);cases e;rfl
 |flt b=>obtain⟨t,e⟩:=(show ∃t,u=Value.float b t from r);cases e;rfl
 |ref a=>cases (show u=vv a from r);rfl
 |ty n=>cases (show u=YE n from r);rfl
section
variable{P:WL}{w:WK}{H H':Hp}{h h':WF}{a C dx:WN}{fs fs':List (Str × V)}
def mY(hok:HOk P w H h)(e:H a=some (.ins C dx fs)):∃mA,ObjM h a dx C mA/\(∀f,RelO (fs.lookup f) (mA f))/\PySem.Within mA (fs.map (·.1))/\fs.length<=1000/\H dx=some (.own a):=by
 obtain⟨d,z,ne,ob,mA,n,r,q⟩:=(show WV P w H h a (.ins C dx fs) from hok a _ e);exact⟨mA,⟨ob,n,ne⟩,r,q,z,d⟩
end
structure Cls(K:Wz)(C:WN):Prop where
 pg:PySem.W.plainGet K C Str.empty=true
 hd:PySem.W.hasDictIn K C=true
 po:PySem.W.plainOver K C=true
 sa:ZX K (.ref C) "__setattr__" = some (some (.builtin "object.__setattr__"))
def Cls.get{K:Wz}{C:WN}(c:Cls K C)(f:Str):PySem.W.plainGet K C f=true:=c.pg
def NoAttr(K:Wz)(C:WN)(f:Str):Prop:=ZX K (.ref C) f=some none
def NoAttr.taker{K:Wz}{C:WN}{f:Str}(n:NoAttr K C f):PySem.W.takerIn K C f=some none:=by
 unfold PySem.W.takerIn;rw[show ZX K (.ref C) f=some none from n]
 rfl
structure BF(K:Wz)(C:WN)(m:Str)(f:WN):Prop where
 at_:ZX K (.ref C) m=some (some (.ref f))
 fn:PySem.W.isFn K (.ref f)=true
 kp:Ys K (.ref f)=true
section
variable{X:Cx}{XG:List (WN × Obj)}{σ:St}{H:Hp}{s:WM}{a C dx:WN}{fs:List (Str × V)}{f:Str}{v:V}{A:WJ}{E:WO->WM->Prop}
def v5{b:Bool}{Q:WO->WM->Prop}(I:WR X XG σ H s)(e:H a=some (.ins C dx fs))(c:Cls X.K C)(n:NoAttr X.K C f)(l:fs.lookup f=some v)
 (h:∀u s',WR X XG σ H s'->WX v u->Q u s'):WH (WG X.prog X.w) A (getAttr (.ref a) f b) Q E s:=by
 obtain⟨mA,O,r,_,_,_⟩:=mY I.hok e;obtain⟨u,hu,ru⟩:=RelO.some_of (v:=v) (o:=mA f) (by rw[<- l];exact r f);exact DV I.kIn O (c.get f) c.hd n hu (yA ru) (h u _ (I.tok _) ru)
def oG{m:Str}{g:WN}{pl:Sem Bool}{Q:WO × List WO->WM->Prop}(I:WR X XG σ H s)(e:H a=some (.ins C dx fs))(c:Cls X.K C)(k:BF X.K C m g)(l:fs.lookup m=none)
 (h:Q (.ref g,[.ref a]) s):WH (WG X.prog X.w) A (getMethod (.ref a) m pl) Q E s:=by
 obtain⟨mA,O,r,_,_,_⟩:=mY I.hok e;have hn:mA m=none:=RelO.none_of (by rw[<- l];exact r m);exact zZ I.kIn O (c.get m) k.at_ k.fn hn h
def vF{y:V}{u:WO}{Q:Unit->WM->Prop}(I:WR X XG σ H s)(e:H a=some (.ins C dx fs))(c:Cls X.K C)(n:NoAttr X.K C f)(hl:fs.length<1000)(ry:WX y u)
 (h:∀s',WR X XG σ (upd H a (.ins C dx (dL f y fs))) s'->Q () s'):WH (WG X.prog X.w) A (setAttr (.ref a) f u) Q E s:=by
 obtain⟨mA,O,r,wi,_,ho⟩:=mY I.hok e;have hz:(fs.map (·.1)).length<=WI:=by rw[zm,tV];lia
 refine iR I.kIn O c.sa c.po n.taker c.hd wi hz fun h' O' sb=>h _ ?_;have hd:∃o,h'.get? dx=some o:=let ⟨o,_,_,e',_⟩:=O'.ns;⟨o,e'⟩;refine I.write (x:=a) (e:=dx) (by rw[e];exact ZF) (.inr ho) (fun b q hb z=>(sb.2 b hb).trans z) hd ?_;refine⟨by rw[ag O.ne];exact ho,?_,O.ne,O'.obj,_,O'.ns,fun g=>?_,fun g hg=>?_⟩
 .have:=lV f y fs;lia
 .show RelO ((dL f y fs).lookup g) (if g=f then some u else mA g)
  rw[lT];by_cases q:g=f
  .rw[Wf q,Wf q];exact ry
  .rw[Wg q,Wg q];exact r g
 .by_cases q:g=f
  .rw[q];exact(k9 f y fs).1
  .refine(k9 f y fs).2 g (wi g fun z=>hg ?_)
   show(if g=f then some u else mA g)=none;rw[Wg q];exact z
def WR.made(I:WR X XG σ H s):WR X XG σ (upd (upd H s.heap.objs.size (.own (s.heap.objs.size+1))) (s.heap.objs.size+1) (.ins C s.heap.objs.size []))
 { s with heap:=(s.heap.push ZJ).push (Yn C s.heap.objs.size) }:=by
 have e1:(s.heap.push ZJ).get? s.heap.objs.size=some ZJ:=Wx s.heap rfl;have e2:((s.heap.push ZJ).push (Yn C s.heap.objs.size)).get? (s.heap.objs.size+1)=some (Yn C s.heap.objs.size):=by
  have:=Wx (s.heap.push ZJ) (o:=Yn C s.heap.objs.size) rfl
  rwa [Heap.size_push]at this
 have e3:(s.heap.push ZJ).Ns s.heap.objs.size (fun _=>none):=⟨ZJ,#[],_,e1,rfl,(fun e he=>Wa he (by simp)),fun _=>rfl⟩;have I1:=I.laid (a:=s.heap.objs.size) (o:=.own (s.heap.objs.size+1)) (h':=s.heap.push ZJ) (t':=s.toks) (fun b u q=>Wy _ q) (ym _) ⟨_,e1⟩;refine I1.laid (a:=s.heap.objs.size+1) (o:=.ins C s.heap.objs.size []) (t':=s.toks) (fun b u q=>Wy _ q) (Nat.le_of_eq (Heap.size_push _ _)) ?_;have ne:s.heap.objs.size≠s.heap.objs.size+1:=Zy (Nat.lt_succ_self _);refine⟨by rw[ag ne,aa],rp _,ne,e2,fun _=>none,(Heap.Ns1.of_empty e3).at fun o q=>Wy _ q,fun _=>ZF,fun y hy=>Wa rfl hy⟩
def Ep{prog:WL}{w:WK}{env:Env}{e:Expr}{f:Str}{pos:Pos}{s:WM}{Q:WO->WM->Prop}(hb:Yc e f env (eval e env)=eval e env)
 (h:WH (WG prog w) A (eval e env) (fun o s₁=>WH (WG prog w) A (getAttr o f true) Q E s₁) E s):WH (WG prog w) A (eval (.Attribute e f pos) env) Q E s:=
 Attribute_any_ h (by rw[arm_eval_Attribute,hb])
end
section
variable{X:Cx}{XG:List (WN × Obj)}{σ:St}{H:Hp}{s:WM}{A:WJ}{E:WO->WM->Prop}{Q:WO->WM->Prop}{c:WO}{b:Bool}
inductive jq (K:Wz) (H:Hp):V->WO->Prop where
 |non:jq K H .non (.type "NoneType")
 |bl (x:Bool):jq K H (.bl x) (.type "bool")
 |int (i:Int):jq K H (.int i) (.type "int")
 |str (x:Str):jq K H (.str x) (.type "str")
 |flt (x:UInt64):jq K H (.flt x) (.type "float")
 |lst {a:WN} {xs:List V} (e:H a=some (.lst xs)):jq K H (.ref a) (.type "list")
 |frz {a:WN} {o:Obj} {xs:List V} (e:H a=some (.frz o (.lst xs))):jq K H (.ref a) (.type "list")
 |tup {a:WN} {xs:List V} (e:H a=some (.tup xs)):jq K H (.ref a) (.type "tuple")
 |dK {a:WN} {XB:List (Key × V)} (e:H a=some (.dK XB)):jq K H (.ref a) (.type "dict")
 |dT {a:WN} {XB:List (List Key × V)} (e:H a=some (.dT XB)):jq K H (.ref a) (.type "dict")
 |ins {a C dx:WN} {fs:List (Str × V)} (e:H a=some (.ins C dx fs)) (cl:Cls K C) (ha:ZX K (.ref C) "__class__" = some (some (.builtin "object.__class__")))
  (hn:PySem.W.specialIn K (.builtin "object.__class__") "__get__" = some (some (.builtin "getset_descriptor.__get__"))) (htk:PySem.W.takesIn K (.builtin "object.__class__")=some true)
  (hm:XY K C (.type "object")=some true):jq K H (.ref a) (.ref C)
def yD(I:WR X XG σ H s)(rx:WX x u)(ty:jq X.K H x t)(e:Yt X.K t c=some b)(h:∀tk,Q (.bool b) { s with toks:=tk }) :
 WH (WG X.prog X.w) A (call (.builtin "isinstance") [u,c]) Q E s:=by
 cases ty with
 |non=>cases (show u=ZS from rx);exact ZL PySem.W.kitx_none I.kIn ZF e (fun z=>nomatch z) h
 |bl y=>cases (show u=Value.bool y from rx);exact ZL PySem.W.kitx_bool I.kIn ZF e (fun z=>nomatch z) h
 |int i=>obtain⟨t,q⟩:=(show ∃t,u=Value.int i t from rx);cases q;exact ZL PySem.W.kitx_int I.kIn ZF e (fun z=>nomatch z) h
 |str y=>obtain⟨t,q⟩:=(show ∃t,u=YO y t from rx);cases q;exact ZL PySem.W.kitx_str I.kIn ZF e (fun z=>nomatch z) h
 |flt y=>obtain⟨t,q⟩:=(show ∃t,u=Value.float y t from rx);cases q;exact ZL PySem.W.kitx_float I.kIn ZF e (fun z=>nomatch z) h
 | @lst a xs ea=>
  cases (show u=vv a from rx);obtain⟨_,_,n,_,h1⟩:=(show WV X.prog X.w H s.heap a (.lst xs) from I.hok a _ ea);exact ZL PySem.W.kitx_list I.kIn ⟨_,h1,rfl⟩ e (fun z=>nomatch z) h
 | @frz a ob xs ea=>
  cases (show u=vv a from rx);obtain⟨_,_,_,n,_,h1⟩:=(show WV X.prog X.w H s.heap a (.frz ob (.lst xs)) from I.hok a _ ea);exact ZL PySem.W.kitx_list I.kIn ⟨_,h1,rfl⟩ e (fun z=>nomatch z) h
 | @tup a xs ea=>
  cases (show u=vv a from rx);obtain⟨_,_,_,p⟩:=(show WV X.prog X.w H s.heap a (.tup xs) from I.hok a _ ea);obtain⟨o,h1,h2,_⟩:=p;exact ZL PySem.W.kitx_tuple I.kIn ⟨o,h1,h2⟩ e (fun z=>nomatch z) h
 | @dK a XB ea=>
  cases (show u=vv a from rx);obtain⟨_,_,vs,_,p⟩:=(show WV X.prog X.w H s.heap a (.dK XB) from I.hok a _ ea);obtain⟨o,es,ep,h1,h2,_⟩:=p;exact ZL PySem.W.kitx_dict I.kIn ⟨o,h1,h2.1⟩ e (fun z=>nomatch z) h
 | @dT a XB ea=>
  cases (show u=vv a from rx);obtain⟨_,_,xs,_,o,es,ep,h1,h2,_⟩:=(show WV X.prog X.w H s.heap a (.dT XB) from I.hok a _ ea);exact ZL PySem.W.kitx_dict I.kIn ⟨o,h1,h2.1⟩ e (fun z=>nomatch z) h
 | @ins a C dx fs ea cl ha hn htk hm=>
  cases (show u=vv a from rx);obtain⟨mA,O,_⟩:=mY I.hok ea;obtain⟨od,J,_⟩:=O.look;exact ZL (PySem.W.kitx_own (cl.get _) cl.hd ha hn htk hm) I.kIn J e (fun z=>nomatch z) h
end
structure Room(k:Nat)(A:WJ):Prop where
 hd:A.handled=none
 dp:A.depth+3*k+5<recursionLimit
 un:A.units+16*k+200<cLine
def Room.mono(r:Room k A)(h:j<=k:=by decide):Room j A:=⟨r.hd,by have:=r.dp;lia,by have:=r.un;lia⟩
def Room.deeper{A:WJ}(r:Room (k+1) A)(env:Env):Room k (A.deeper env):=
 ⟨r.hd,by have:=r.dp;show A.depth+1+3*k+5<_;lia,by have:=r.un;show A.units+3+16*k+200<_;lia⟩
def vT{A:WJ}:(A.under (.builtin "type.__call__" ⟨.ref C::us,kw⟩)).depth=A.depth+1:=by
 first|rfl|simp[Around.under,Code.weight,Code.isCreation,Code.isGuard,Code.isCaller,Code.frames,Code.isFrame,guardIds]
def uZ{A:WJ}:(A.under (.builtin "type.__call__" ⟨.ref C::us,kw⟩)).units=A.units+1:=by
 first|rfl|simp[Around.under,Code.cUnits,Code.frames,Code.isFrame]
def Room.make{A:WJ}(r:Room (k+1) A)(C:WN)(us:List WO)(kw:List (Str × WO)):Room k (A.under (.builtin "type.__call__" ⟨.ref C::us,kw⟩)):=
 ⟨r.hd,by have:=r.dp;rw[vT];lia,by have:=r.un;rw[uZ];lia⟩
def Room.depth{A:WJ}(r:Room k A):A.depth<recursionLimit:=by have:=r.dp;lia
def gU:TA:=fun _ H Q=>Q [] H
def b_(ta:TE)(tr:TA):TA:=fun σ H Q=>ta σ H fun x H1=>tr σ H1 fun xs H2=>Q (x::xs) H2
section
variable{X:Cx}{e:Expr}{es:List Expr}{te:TE}{t:TA}{pos:Pos}
def Fe:PA X [] gU:=fun _ _ _ _ H Q I h=>Calls.spliced_nil ⟨[],H,I,.nil,h⟩
def Ds(ha:PE X e te)(hr:PA X es t)(hs:WE (e::es) X.env=(false,eval e X.env)::WE es X.env:=by rfl):PA X (e::es) (b_ te t):=by
 intro pos XG s σ H Q I h;rw[hs];show WH _ _ (spliced ((false,eval e X.env)::WD pos (WE es X.env))) _ _ s;refine YU (thn (ha XG s σ H _ I h) fun u s1 hq_=>?_);obtain⟨x,H1,I1,r1,q1⟩:=hq_;exact thn (hr pos XG s1 σ H1 _ I1 q1) fun us s2 hq_=>(by obtain⟨xs,H2,I2,r2,q2⟩:=hq_;exact⟨x::xs,H2,I2,.cons r1 r2,q2⟩)
def CI(t:TA):TE:=fun σ H Q=>t σ H fun xs H1=>xs.length<=WI/\∀p,H1 p=none->Q (.ref p) (upd H1 p (.tup xs))
def Jc(t:TA):TE:=fun σ H Q=>t σ H fun xs H1=>xs.length<=WI/\∀p,H1 p=none->Q (.ref p) (upd H1 p (.lst xs))
def bU{x1}(h:PA X es t):PE X (.Tuple es x1 pos) (CI t):=by
 intro XG s σ H Q I hq;refine wpAny_Tuple_spliced (thn (h pos XG s σ H _ I hq) fun us s1 ⟨xs,H1,I1,r,z,q⟩=>⟨by rw[<- r.length];exact z,?_⟩);have hf:H1 s1.heap.objs.size=none:=I1.hok.fresh (ym _);refine⟨.ref s1.heap.objs.size,upd H1 s1.heap.objs.size (.tup xs),I1.laid (t':=s1.toks) (fun b u e=>Wy _ e) (ym _) ?_,rfl,q _ hf⟩;exact⟨z,us,r,⟨_,Wx _ rfl,rfl,_,rfl⟩⟩
def cw(h:PA X es t):PE X (.List es pos) (Jc t):=by
 intro XG s σ H Q I hq;refine wpAny_List_spliced (thn (h pos XG s σ H _ I hq) fun us s1 ⟨xs,H1,I1,r,z,q⟩=>⟨by rw[<- r.length];exact z,?_⟩);have hf:H1 s1.heap.objs.size=none:=I1.hok.fresh (ym _);refine⟨.ref s1.heap.objs.size,upd H1 s1.heap.objs.size (.lst xs),I1.laid (t':=s1.toks) (fun b u e=>Wy _ e) (ym _) ?_,rfl,q _ hf⟩;exact⟨z,us,0,r,Wx _ rfl⟩
end
abbrev Sp:=List V->Hp->VK->XK->Prop
abbrev CXT:=List Env->Hp->WM->XK->WO->WM->Prop
structure Env0(P:WL)(w:WK)(K:Wz)(mg:Str->Option WO)(base:WF)(A:WJ)(XF:List Env)(s:WM)(H:Hp):Prop where
 frames:A.frames=some XF
 mod:Mod K mg base
 bs:∀b o,base.get? b=some o->s.heap.get? b=some o/\H b=none
 bsz:base.objs.size<=s.heap.objs.size
 funs:s.heap.FunFrames base XF
 frf:∀b∈frs XF,H b=none
 hok:HOk P w H s.heap
 bare:AllBare s.gens
def CE(XF:List Env)(P:WL)(w:WK)(H:Hp)(s:WM)(Q:VK)(u:WO)(s':WM):Prop:=
 ∃v H',s'.os=s.os/\AllBare s'.gens/\Un (frs XF) [] H H' s.heap s'.heap/\HOk P w H' s'.heap/\WX v u/\Q v H'
def CR(CX:CXT)(XF:List Env)(P:WL)(w:WK)(H:Hp)(s:WM)(Q:VK)(E:XK)(r:Result)(s':WM):Prop:=
 match r with
 | .ok (.ret u)=>CE XF P w H s Q u s'
 | .ok _=>False
 | .error e=>CX XF H s E e s'
structure hZ(P:WL)(w:WK)(K:Wz)(mg:Str->Option WO)(base:WF)(CX:CXT)(k:Nat)(f:WN)(fd:FuncData)(ps:List Str)(sp:Sp):Prop where
 len:∀vs H Q E,sp vs H Q E->vs.length=ps.length
 run:∀(A:WJ) (XF:List Env) (s:WM) (H:Hp) (args:Args) (us:List WO) (vs:List V) (Q:VK) (E:XK),Room k A->Env0 P w K mg base A XF s H->BindsTo s fd args (ps.zip us)->WW vs us->sp vs H Q E ->
  codeAny (WG P w) A (.call (.ref f) args) (CR CX XF P w H s Q E) s
def Env0.make{P:WL}{w:WK}{K:Wz}{mg:Str->Option WO}{base:WF}{A:WJ}{XF:List Env}{s:WM}{H:Hp}(e:Env0 P w K mg base A XF s H)(C:WN)(us:List WO)(kw:List (Str × WO)) :
 Env0 P w K mg base (A.under (.builtin "type.__call__" ⟨.ref C::us,kw⟩)) XF s H:=⟨by first|exact e.frames|(simpa [Around.under,Code.envs,Code.isFrame,pushEnvs] using e.frames),e.mod,e.bs,e.bsz,e.funs,e.frf,e.hok,e.bare⟩
section
variable{X:Cx}{XG:List (WN × Obj)}{σ:St}{H:Hp}{s s':WM}
def WR.env0(I:WR X XG σ H s):Env0 X.prog X.w X.K X.mg X.base X.A X.stack s H:=
 ⟨I.ok.frames,I.ok.mod,I.bs,r9 I.ok.bsz I.sz,I.stack,I.stkFree,I.hok,I.bare⟩
def WR.after(I:WR X XG σ H s)(h:CE X.stack X.prog X.w H s Q u s'):EP X XG σ Q u s':=by
 obtain⟨v,H',os,bare,un,hok,r,q⟩:=h;obtain⟨hh,g,d,t,os'⟩:=s';obtain rfl:os'=s.os:=os;exact⟨v,H',I.call (h':=hh) (g':=g) (d':=d) (t':=t) (ch:=[]) un hok bare (fun b z=>Wa z (by simp)),r,q⟩
end
def Binds(K:Wz)(fd:FuncData)(ps:List Str)(ds:List WO):Prop:=
 ∀(s:WM) (us:List WO),K.In s.heap->(us++ds).length=ps.length->BindsTo s fd ⟨us,[]⟩ (ps.zip (us++ds))
def Binds.all{K:Wz}{fd:FuncData}{ps:List Str}(h:∀us:List WO,us.length=ps.length->bindArgs fd ⟨us,[]⟩=pure (ps.zip us)):Binds K fd ps []:=fun s us _ hl=>by
 rw[Zs]at hl |-
 exact .of_eq (h us hl)
section
variable{X:Cx}{CX:CXT}{k:Nat}{f C:WN}{fd:FuncData}{ps:List Str}{sp:Sp}{dvs:List V}{ds:List WO}{E:XK}{x m:Str}{p pos apos:Pos}{e o:Expr}{es:List Expr}{ta:TE}{t:TA}
structure Mk(K:Wz)(C f:WN):Prop where
 makes:PySem.W.makesIn K C=true
 init:ZX K (.ref C) "__init__" = some (some (.ref f))
 fn:PySem.W.isFn K (.ref f)=true
 kp:Ys K (.ref C)=true
end
structure df(N P:List Str)(sc:Scope):Prop where
 kind:sc.kind = .function
 co:sc.isCoroutine=false
 gen:sc.isGenerator=false
 nd:N.Nodup
 pre:N.take P.length=P
 par:∀x∈P,sc.names.lookup x=some .local\/sc.names.lookup x=some .cell
 nofree:∀y∈sc.names,y.2 ≠ .free
theorem qg{kindOf:Str->Option NameKind}{x:Str}:∀ {binds:List (Str × WO)} {m:Str->Option WO},(∀v,(x,v)∉binds)->bindL kindOf binds m x=m x
 | [],_,_=>rfl
 |(n,v)::r,m,h=>by
  unfold bindL;rw[qg fun w hw=>h w (tH _ hw)];split
  .have:x≠n:=by rintro rfl;exact h v ZO
   simp[this]
  .rfl
theorem qe{kindOf:Str->Option NameKind}{x:Str}:∀ {binds:List (Str × WO)} {m:Str->Option WO},(∀v,(x,v)∉binds)->bindC kindOf binds m x=m x
 | [],_,_=>rfl
 |(n,v)::r,m,h=>by
  unfold bindC;rw[qe fun w hw=>h w (tH _ hw)];split
  .rfl
  .have:x≠n:=by rintro rfl;exact h v ZO
   simp[this]
theorem pL{kindOf:Str->Option NameKind}{x:Str}{v:WO}:∀ {P:List Str} {vs:List WO} {i:Nat} {m:Str->Option WO},P.Nodup->P[i]? = some x->vs[i]? = some v->kindOf x=some .local ->
 bindL kindOf (P.zip vs) m x=some v
 | [],_,_,_,_,h,_,_=>by simp at h
 |_::_,[],_,_,_,_,h,_=>by simp at h
 |p::P,w::vs,0,m,nd,h1,h2,hk=>by
  simp at h1 h2;subst h1;subst h2;show bindL kindOf ((p,w)::P.zip vs) m p=_;unfold bindL;rw[qg fun v hv=>(yE.mp nd).1 (List.of_mem_zip hv).1,Wf hk];simp
 |p::P,w::vs,i+1,m,nd,h1,h2,hk=>by
  show bindL kindOf ((p,w)::P.zip vs) m x=_;unfold bindL;exact pL (i:=i) (yE.mp nd).2 (by simpa using h1) (by simpa using h2) hk
theorem p_{kindOf:Str->Option NameKind}{x:Str}{v:WO}:∀ {P:List Str} {vs:List WO} {i:Nat} {m:Str->Option WO},P.Nodup->P[i]? = some x->vs[i]? = some v->kindOf x≠some .local ->
 bindC kindOf (P.zip vs) m x=some v
 | [],_,_,_,_,h,_,_=>by simp at h
 |_::_,[],_,_,_,_,h,_=>by simp at h
 |p::P,w::vs,0,m,nd,h1,h2,hk=>by
  simp at h1 h2;subst h1;subst h2;show bindC kindOf ((p,w)::P.zip vs) m p=_;unfold bindC;rw[qe fun v hv=>(yE.mp nd).1 (List.of_mem_zip hv).1,Wg hk];simp
 |p::P,w::vs,i+1,m,nd,h1,h2,hk=>by
  show bindC kindOf ((p,w)::P.zip vs) m x=_;unfold bindC;exact p_ (i:=i) (yE.mp nd).2 (by simpa using h1) (by simpa using h2) hk
noncomputable def fg(N:List Str)(vs:List V):St:=vs.map some++List.replicate (N.length-vs.length) none
noncomputable def c6(CX:CXT)(P:WL)(w:WK)(K:Wz)(mg:Str->Option WO)(base:WF)(N:List Str)(WQ:Str)(WP:Scope)(f:WN)(cd:WO)(A:WJ)(XF:List Env)(s:WM)(H:Hp)(E:XK):Cx where
 prog:=P
 w:=w
 K:=K
 mg:=mg
 base:=base
 A:=A.deeper (envOfC WQ WP s.heap.objs.size f cd)
 N:=N
 s₀:=s
 H₀:=H
 env:=envOfC WQ WP s.heap.objs.size f cd
 XF:=XF
 stack:=envOfC WQ WP s.heap.objs.size f cd::XF
 ex:=[]
 calm:=true
 fn:=fun _=>true
 pn:=[]
 xe:=fun e s'=>WH (WG P w) (A.deeper (envOfC WQ WP s.heap.objs.size f cd)) (leaving (envOfC WQ WP s.heap.objs.size f cd) e) (fun _ s''=>CX XF H s E e s'') (fun e' s''=>CX XF H s E e' s'') s'
def ui{sc:Scope}(h:sc.names.lookup x=some .cell):∃c,(cellsFrom n sc.names []).lookup x=some c:=by
 have q:=PySem.W.cellsFrom_some sc.names n [] (.inl h);exact Option.isSome_iff_exists.mp q
def yg{CX:CXT}{P:WL}{w:WK}{K:Wz}{mg:Str->Option WO}{base:WF}{N ps:List Str}{WQ:Str}{WP:Scope}{f:WN}{cd:WO}{A:WJ}{XF:List Env}{s s1:WM}{H:Hp}{E:XK}{us:List WO}{vs:List V}
 (S:df N ps WP) (hd:A.handled=none) (e0:Env0 P w K mg base A XF s H) (hl:vs.length=ps.length) (r:WW vs us)
 (x:InCallC s s.heap.objs.size (bindL (envOfC WQ WP s.heap.objs.size f cd).kindOf (ps.zip us) fun _=>none) (cellsFrom (s.heap.objs.size+1) WP.names []) (bindC (envOfC WQ WP s.heap.objs.size f cd).kindOf (ps.zip us) fun _=>none) s1) :
 WR (c6 CX P w K mg base N WQ WP f cd A XF s H E) [] (fg N vs) H s1:=by
 have hpl:ps.length<=N.length:=by have:=Wb ZT S.pre;rw[qF]at this;lia
 obtain⟨h1,tk,rfl,hk⟩:=x.done;have noA:∀b:WN,b∉(c6 CX P w K mg base N WQ WP f cd A XF s H E).ex:=fun b z=>Wa (show b∈([]:List WN) from z) (by simp);refine⟨⟨e0.mod,S.kind,rfl,rfl,ym _,fun y z c h1 h2=>?_,fun y hy=>?_,fun y c _ h=>?_,fun _=>hd,Around.frames_deeper e0.frames,.inr ⟨rfl,rfl⟩,fun b z=>Wa z (noA b),e0.bs,e0.bsz,fun b _ _=>noA b,fun b z=>Wa z (noA b),e0.funs,e0.frf⟩,
  rfl,e0.bare,Un.kept hk,⟨_,x.toInCall.ns,fun i y v h1 h2 h3=>?_⟩,fun y c h=>⟨_,x.cell y c h⟩,e0.hok.fresh (ym _),fun y c h=>?_,fun p hp=>Wa (show p∈([]:List (WN × Obj)) from hp) (by simp),e0.hok.kept hk,?_⟩
 .exact name_of_addr x.apart (Z6 h1) (Z6 h2)
 .have hy:WP.names.lookup y=some .cell\/WP.names.lookup y=some .free:=hy
  obtain hy|hy:=hy
  .exact ui hy
  .exact Wa rfl (S.nofree _ (Z6 hy))
 .exact ZK (x.above y c (Z6 h))
 .have hi:i<vs.length:=by
   unfold fg at h2;by_cases hi:i<vs.length
   .exact hi
   .rw[List.getElem?_append_right (by simpa using hi)]at h2
    rw[List.getElem?_replicate]at h2;split at h2 <;> cases h2
  have ha:vs[i]? = some v:=by
   unfold fg at h2;rw[Wq (by simpa using hi),Ws]at h2;cases e:vs[i]? with
   |none=>rw[e]at h2;cases h2
   |some a=>rw[e]at h2;cases h2;rfl
  obtain⟨u,hu,rv⟩:=r.get ha;have hp:ps[i]? = some y:=by
   rw[<- S.pre,List.getElem?_take_of_lt (by lia)];exact h1
  have ndP:ps.Nodup:=by rw[<- S.pre];exact S.nd.sublist (List.take_sublist _ _)
  refine⟨u,rv,?_⟩;obtain k|k:=S.par y (wt hp)
  .exact .inl ⟨k,pL ndP hp hu k⟩
  .obtain⟨c,e⟩:=ui (n:=s.heap.objs.size+1) k
   refine .inr ⟨.inl k,c,e,?_⟩;have q:=x.cell y c e;rw[p_ ndP hp hu (by show WP.names.lookup y≠_;rw[k];decide)]at q;exact q
 .exact e0.hok.fresh (ZK (x.above y c (Z6 h)))
 .unfold fg
  show _=N.length;rw[zc,zm,List.length_replicate];lia
def JD{CX:CXT}{P:WL}{w:WK}{K:Wz}{mg:Str->Option WO}{base:WF}{k:Nat}{f:WN}{name WQ:Str}{params:Arguments}{body:List Stmt}{WP:Scope}{dV kV doc pm XD ct oc:WO}{an od:Option WN}
 {osl:Array (Option WO)} {N ps:List Str} {sp:Sp} (lk:K.lookup f=some ⟨oc,od,.func (YJ name WQ params body WP dV kV doc pm an XD ct),osl⟩) (hcd:PySem.W.codeIn K XD WQ=true) (S:df N ps WP)
 (len:∀vs H Q E,sp vs H Q E->vs.length=ps.length)
 (hbody:∀(A:WJ) (XF:List Env) (s:WM) (H:Hp) (vs:List V) (Q:VK) (E:XK),Room k (A.deeper (envOfC WQ WP s.heap.objs.size f XD))->sp vs H Q E ->
  ∃t,PSs (c6 CX P w K mg base N WQ WP f XD A XF s H E) body t/\t { nx:=fun _ H'=>Q .non H',rt:=Q } (fg N vs) H) :
 hZ P w K mg base CX (k+1) f (YJ name WQ params body WP dV kV doc pm an XD ct) ps sp:=by
 refine⟨len,fun A XF s H args us vs Q E hr e0 hb r hsp=>?_⟩;have hl:=len _ _ _ _ hsp;have KX:K.In s.heap:=e0.mod.kin.keeps fun b o e=>(e0.bs b o e).1;have lim:s.heap.NoLimit:=e0.mod.nolimit.keeps fun b o e=>(e0.bs b o e).1;have hkind:∀y∈ps.zip us,WP.names.lookup y.1=some .local\/(WP.names.lookup y.1=some .cell/\((cellsFrom (s.heap.objs.size+1) WP.names []).lookup y.1).isSome=true):=fun hq_ hy=>by
  obtain⟨n,v⟩:=hq_;obtain q|q:=S.par n (List.of_mem_zip hy).1
  .exact .inl q
  .exact .inr ⟨q,PySem.W.cellsFrom_some _ _ _ (.inl q)⟩
 refine codeAny_call_function hr.depth (KX _ _ lk) rfl S.co S.gen rfl (PySem.W.codeRec_of KX hcd) (hb _ _ _ _ ?_);refine wpAny_newFunctionEnv_cells S.kind hkind fun env he s1 x=>?_;subst he;refine⟨lim.keeps x.toInCall.keep,codeAny_func ?_⟩;obtain⟨t,ht,hq⟩:=hbody A XF s H vs Q E (hr.deeper _) hsp;have I:WR (c6 CX P w K mg base N WQ WP f XD A XF s H E) [] (fg N vs) H s1:=yg S hr.hd e0 hl r x;refine Zi (ht [] s1 (fg N vs) H _ I hq) (fun fl s' hs=>?_) fun e s' hs=>hs;have fin:∀ {σ':St} {H':Hp} {v:V} {u:WO},WR (c6 CX P w K mg base N WQ WP f XD A XF s H E) [] σ' H' s'->WX v u->Q v H'->CE XF P w H s Q u s':=
  fun {σ' H' v u} J rv q=>⟨v,H',J.os,J.bare,J.base,J.hok,rv,q⟩
 cases fl with
 |ret u=>
  obtain⟨v,σ',H',J,rv,q⟩:=hs;exact fin J rv q
 |next=>
  obtain⟨σ',H',J,q⟩:=hs;exact fin (v:=V.non) (u:=ZS) J rfl q
 |brk=>
  obtain⟨_,_,_,q⟩:=hs;exact YX q
 |cont=>
  obtain⟨_,_,_,q⟩:=hs;exact YX q
section
variable{X:Cx}{x:Str}{p pos:Pos}{e:Expr}{es:List Expr}{t:TA}{id T:String}{r:List V->Hp->VK->Prop}
def tCB(r:List V->Hp->VK->Prop)(t:TA):TE:=fun σ H Q=>t σ H fun vs H1=>r vs H1 Q
def aB(hc:WT X (.builtin id) r)(hg:Gl X x)(hm:X.mg x=none)(hv:Zc x=some (.builtin id))(ha:PA X (e::es) t)(hn:x ≠ "__name__":=by decide)(hdb:(x==("__debug__":Str))=false:=by decide)
 (he:WE (e::es) X.env=(false,eval e X.env)::WE es X.env:=by rfl) (hpl:(WD pos (WE es X.env)).any (·.1)=false:=by rfl):PE X (.Call (.Name x p) (e::es) [] pos) (tCB r t):=by
 intro XG s σ H Q I h;refine Y4 (ku I hg hm hv ?_ hn hdb);exact PyProof.Rows.callWith_builtin1 (thn (ha pos XG s σ H _ I h) fun us s1 hq_=>(by obtain⟨vs,H1,I1,r1,q1⟩:=hq_;exact hc XG s1 σ H1 vs us Q I1 r1 q1)) he hpl
def de(hc:WT X (.type T) r)(hg:Gl X x)(hm:X.mg x=none)(hv:Zc x=some (.type T))(ha:PA X (e::es) t)(hn:x ≠ "__name__":=by decide)(hdb:(x==("__debug__":Str))=false:=by decide)
 (he:WE (e::es) X.env=(false,eval e X.env)::WE es X.env:=by rfl) (hpl:(WD pos (WE es X.env)).any (·.1)=false:=by rfl):PE X (.Call (.Name x p) (e::es) [] pos) (tCB r t):=by
 intro XG s σ H Q I h;refine Y4 (ku I hg hm hv ?_ hn hdb);exact Yh (thn (ha pos XG s σ H _ I h) fun us s1 hq_=>(by obtain⟨vs,H1,I1,r1,q1⟩:=hq_;exact hc XG s1 σ H1 vs us Q I1 r1 q1)) he hpl
end
end L2
namespace HT
open PySem PyProof.Rows
section
variable{prog:WL}{w:WK}{A:WJ}{E:WO->WM->Prop}{s:WM}
noncomputable def sIx(n d:Nat):Option Int->Nat
 |none=>d
 |some v=>if v<0 then (v+(n:Int)).toNat else min v.toNat n
def sIx_none(n d:Nat):sIx n d none=d:=rfl
def sIx_nat(n d k:Nat):sIx n d (some (k:Int))=min k n:=by
 show(if (k:Int)<0 then ((k:Int)+(n:Int)).toNat else min (k:Int).toNat n)=min k n;rw[Wg (by lia),ZV]
def sIx_le(n d:Nat)(hd:d<=n)(o:Option Int):sIx n d o<=n:=by
 cases o with
 |none=>exact hd
 |some v=>
  show(if v<0 then (v+(n:Int)).toNat else min v.toNat n)<=n;by_cases hv:v<0
  .rw[Wf hv];lia
  .rw[Wg hv];exact Nat.min_le_right _ _
def wZ(v:Int)(n d:Nat):(if v<0 then max (v+(n:Int)) 0 else min v (n:Int))=((sIx n d (some v):Nat):Int):=by
 show(if v<0 then max (v+(n:Int)) 0 else min v (n:Int))=(((if v<0 then (v+(n:Int)).toNat else min v.toNat n):Nat):Int);by_cases hv:v<0
 .simp only[Wf hv];lia
 .simp only[Wg hv];lia
def vo(lo hi:Option Int)(n:Nat):Xa lo hi 1 (n:Int)=(((sIx n 0 lo:Nat):Int),((sIx n n hi:Nat):Int)):=by
 have h1:¬ ((1:Int)<0):=by lia
 unfold Xa;simp only[h1,if_false];refine Prod.ext ?_ ?_
 .cases lo with
  |none=>rfl
  |some v=>exact wZ v n 0
 .cases hi with
  |none=>rfl
  |some v=>exact wZ v n n
def vg(i j:Nat):YQ (i:Int) (j:Int) 1=j-i:=by
 unfold YQ;have h1:(1:Int) > 0:=by lia
 simp only[h1,if_true,Int.ediv_one];split <;> lia
def m6{Q:Option Int->WM->Prop}(p:IsPart v o)(h:Q o s):WH (WG prog w) A (Builtin.Slice.slicePartIndex v) Q E s:=by
 cases p with
 |none=>exact slicePart_none h
 |int i t=>exact slicePart_int h
def kl{sl:WN}{vl vu:WO}{lo hi:Option Int}{n:Nat}{Q:Int × Int × Nat->WM->Prop}(hs:s.heap.IsSliceOf sl vl vu .none)(pl:IsPart vl lo)(pu:IsPart vu hi)
 (h:Q (((sIx n 0 lo:Nat):Int),1,sIx n n hi-sIx n 0 lo) s):WH (WG prog w) A (Builtin.Slice.sliceApplied (.ref sl) (pure (n:Int))) Q E s:=by
 obtain⟨os,hos,hcs,hds⟩:=id hs;unfold Builtin.Slice.sliceApplied Builtin.Slice.sliceFields;refine zv (zv (XJ hos hds (x:=vl) rfl (zv (XJ hos hds (x:=vu) rfl (zv (XJ hos hds (x:=.none) rfl (yy ?_)))))));refine zv (slicePart_none ?_);show WH _ _ (if ((1:Int)==0)=true then _ else _) _ _ s;rw[Wg (by decide)];refine zv (m6 pl (zv (m6 pu (zv (yy ?_)))));show WH _ _ (match Xa lo hi 1 (n:Int) with|(lo,hi)=>pure (lo,(1:Int),YQ lo hi 1)) _ _ s;rw[vo lo hi n];show WH _ _ (pure (((sIx n 0 lo:Nat):Int),(1:Int),YQ ((sIx n 0 lo:Nat):Int) ((sIx n n hi:Nat):Int) 1)) _ _ s;rw[vg];exact yy h
def Bc(xs:Array WO)(i k:Nat):((lq k).filterMap fun(m:Nat)=>xs[((i:Int)+(m:Int)*1).toNat]?).toArray=((xs.toList.drop i).take k).toArray:=by
 have e:(fun(m:Nat)=>xs[((i:Int)+(m:Int)*1).toNat]?)=fun m=>xs[i+m]?:=by
  funext m;have:((i:Int)+(m:Int)*1).toNat=i+m:=by lia
  rw[this]
 rw[e];have:=pick_run xs i k;rw[List.filterMap_map]at this;have e2:((fun x=>xs[x]?) ∘ fun x=>i+x)=fun m=>xs[i+m]?:=rfl;rw[e2]at this;rw[this]
def getItem_tuple_cut{t sl:WN}{items:Array WO}{vl vu:WO}{lo hi:Option Int}{Q:WO->WM->Prop}(ht:IsTup s.heap t items)(hs:s.heap.IsSliceOf sl vl vu .none)(pl:IsPart vl lo)(pu:IsPart vu hi)
 (hw:¬ (sIx items.size 0 lo=0/\sIx items.size items.size hi=items.size))
 (h:Q (.ref s.heap.objs.size) { s with heap:=s.heap.push { cls:=.type "tuple",data:=.seq ((items.toList.drop (sIx items.size 0 lo)).take (sIx items.size items.size hi-sIx items.size 0 lo)).toArray } })
 (hsz:items.size<=WI):WH (WG prog w) A (getItem (.ref t) (.ref sl)) Q E s:=by
 have htake:sizeOk (.seq ((items.toList.drop (sIx items.size 0 lo)).take (sIx items.size items.size hi-sIx items.size 0 lo)).toArray):=by
  show((items.toList.drop (sIx items.size 0 lo)).take (sIx items.size items.size hi-sIx items.size 0 lo)).toArray.size<=WI;rw[yN,qF,Xc,ZY];exact r9 (Nat.min_le_right _ _) (r9 (Nat.sub_le _ _) hsz)
 have hj:sIx items.size items.size hi<=items.size:=sIx_le _ _ (ym _) hi;obtain⟨os,hos,hcs,hds⟩:=id hs;have hTs:s.TypeIs (.ref sl) "slice":=⟨os,hos,hcs⟩;unfold getItem
 try with_reducible refine Z2 ?_
 first|refine zv (yy ?_)|skip
 refine zv (wpAny_sequenceKey ht.typeIs (by decide) ?_);refine zv (wpAny_callSpecial?_slot (name:=zS "__getitem__") ht.typeIs PyProof.Rows.slot_tuple_getitem
  (Zb PyProof.Rows.slot_tuple_getitem ht.typeIs entry_tuple_getitem ?_ (args_tuple_getitem _ _)))
 show WH _ _ (Builtin.Tuple.tupleItemsOf (.ref t) >>= _) _ _ s;refine zv (tupleItemsOf_ ht ?_);refine zv (wpAny_typeOf hTs ?_);rw[Wf (by decide)];refine zv (kl hs pl pu ?_);have hno:¬ ((((sIx items.size 0 lo:Nat):Int)==0&&(1:Int)==1&&(sIx items.size items.size hi-sIx items.size 0 lo)==items.size)=true):=by
  intro q;rw[Za,Za]at q;have q1:((sIx items.size 0 lo:Nat):Int)=0:=eq_of_beq q.1.1;have q2:sIx items.size items.size hi-sIx items.size 0 lo=items.size:=eq_of_beq q.2;exact hw ⟨by lia,by lia⟩
 show WH _ _ (if (((sIx items.size 0 lo:Nat):Int)==0&&(1:Int)==1&&(sIx items.size items.size hi-sIx items.size 0 lo)==items.size)=true then _ else _) _ _ s;rw[Wg hno,Bc]
 first
  |exact zv (m:=YC _) (ZZ (yy ⟨_,rfl,yy h⟩) htake)
  |exact zv (m:=YC _) (ZZ (zv (yy (yy ⟨_,rfl,yy h⟩))) htake)
  |exact zv (zv (m:=YC _) (ZZ (yy (yy ⟨_,rfl,yy h⟩)) htake))
  |exact zv (zv (m:=YC _) (ZZ (yy ⟨_,rfl,yy h⟩) htake))
end
end HT
namespace L2
open PySem PySem.Spec PyProof.Rows
abbrev TO:=St->Hp->(Option Int->Hp->Prop)->Prop
def PO(X:Cx)(e:Option Expr)(t:TO):Prop:=
 ∀(XG:List (WN × Obj)) (s:WM) (σ:St) (H:Hp) (Q:Option Int->Hp->Prop),WR X XG σ H s->t σ H Q ->
  WH (WG X.prog X.w) X.A (evalPart e X.env) (fun u s'=>∃o H',WR X XG σ H' s'/\IsPart u o/\Q o H') X.xe s
def xh:TO:=fun _ H Q=>Q none H
def E9(t:TE):TO:=fun σ H Q=>t σ H fun x H1=>∃i,x = .int i/\Q (some i) H1
def nR{ns:List Int}:∀ {us:List WO},WW (ns.map V.int) us->IntsAre us ns:=by
 induction ns with
 |nil=>intro us r;rw[ZR]at r;cases r;exact .nil
 |cons n ns ih=>
  intro us r;rw[xY]at r;cases r with
  |cons r1 r2=>
   obtain⟨t,e⟩:=r1;subst e;exact .cons n t (ih r2)
section
variable{X:Cx}{e:Expr}{te:TE}{lo hi:Option Expr}{tl th:TO}{pos p2:Pos}
def gR:PO X none xh:=by
 intro XG s σ H Q I h;rw[evalPart_none];exact yy ⟨none,H,I,.none,h⟩
def gS(h:PE X e te):PO X (some e) (E9 te):=by
 intro XG s σ H Q I hw;rw[evalPart_some];refine thn (h XG s σ H _ I hw) fun u s1 hq_=>?_;obtain⟨x,H1,I1,r1,q1⟩:=hq_;obtain⟨i,rfl,q⟩:=q1;obtain⟨t,rfl⟩:=r1;exact⟨some i,H1,I1,.int i t,q⟩
def SlR(X:Cx)(r:V->Option Int->Option Int->Hp->VK->Prop):Prop:=
 ∀(XG:List (WN × Obj)) (s:WM) (σ:St) (H:Hp) (x:V) (v vl vu:WO) (lo hi:Option Int) (sl:WN) (Q:VK),WR X XG σ H s->WX x v->s.heap.IsSliceOf sl vl vu .none->IsPart vl lo->IsPart vu hi->r x lo hi H Q ->
  ∃T id,typeLookup (.type T) "__getitem__" = pure (some (.builtin id))/\s.TypeIs v T/\WH (WG X.prog X.w) X.A (getItem v (.ref sl)) (EP X XG σ Q) X.xe s
def tSl(r:V->Option Int->Option Int->Hp->VK->Prop)(te:TE)(tl th:TO):TE:=fun σ H Q=>te σ H fun x H1=>tl σ H1 fun l H2=>th σ H2 fun u H3=>r x l u H3 Q
def fL{r:V->Option Int->Option Int->Hp->VK->Prop}(hr:SlR X r)(he:PE X e te)(hl:PO X lo tl)(hu:PO X hi th):PE X (.Subscript e (.Slice lo hi none p2) pos) (tSl r te tl th):=by
 intro XG s σ H Q I h;refine Subscript_ (thn (he XG s σ H _ I h) fun v s1 hq_=>?_);obtain⟨x,H1,I1,r1,q1⟩:=hq_;refine wpAny_Slice (thn (hl XG s1 σ H1 _ I1 q1) fun vl s2 ⟨l,H2,I2,pl,q2⟩=>thn (hu XG s2 σ H2 _ I2 q2) fun vu s3 hq_=>?_);obtain⟨u,H3,I3,pu,q3⟩:=hq_;rw[evalPart_none];refine yy ?_;have I4:WR X XG σ H3 { s3 with heap:=s3.heap.push { cls:=.type "slice",data:=.fields #[vl,vu,.none] } }:=I3.kept (t':=s3.toks) fun b ob q=>Wy _ q;obtain⟨T,id,hT,ht,hg⟩:=hr XG { s3 with heap:=s3.heap.push { cls:=.type "slice",data:=.fields #[vl,vu,.none] } } σ H3 x v vl vu l u s3.heap.objs.size Q I4 r1 (Heap.IsSliceOf.new ..) pl pu q3;show WH (WG X.prog X.w) X.A (subscriptTail e (.Slice lo hi none p2) v (.ref s3.heap.objs.size)) (EP X XG σ Q) X.xe { s3 with heap:=s3.heap.push { cls:=.type "slice",data:=.fields #[vl,vu,.none] } };exact tail_any (ops:=[.ref s3.heap.objs.size,v]) ht hT hg (by with_unfolding_all rfl)
noncomputable def ko(xs:List V)(lo hi:Option Int):List V:=(xs.drop (HT.sIx xs.length 0 lo)).take (HT.sIx xs.length xs.length hi-HT.sIx xs.length 0 lo)
def mq(xs:List V)(lo hi:Option Int):(ko xs lo hi).length<=xs.length:=by
 unfold ko;rw[qF,Xc];exact r9 (Nat.min_le_right _ _) (Nat.sub_le _ _)
def IQ(K:Wz):V->Option Int->Option Int->Hp->VK->Prop:=fun x lo hi H Q=>∃a xs,x = .ref a/\SqT K H a xs /\
 ¬ (HT.sIx xs.length 0 lo=0/\HT.sIx xs.length xs.length hi=xs.length)/\∀p,H p=none->Q (.ref p) (upd H p (.tup (ko xs lo hi)))
def FI:SlR X (IQ X.K):=by
 intro XG s σ H x v vl vu lo hi sl Q I rx hs pl pu h;obtain⟨a,xs,rfl,hx,hw,q⟩:=h;cases rx;obtain⟨XC,r,ht,hz⟩:=I.tuple hx;have hlen:XC.toArray.size=xs.length:=by rw[yN];exact r.length.symm
 refine⟨"tuple",_,PyProof.Rows.slot_tuple_getitem.lookup,ht.typeIs,?_⟩;refine HT.getItem_tuple_cut ht hs pl pu (by rw[hlen];exact hw) ?_ (by rw[hlen];exact hz);rw[hlen];refine⟨.ref s.heap.objs.size,_,I.laid (t':=s.toks) (o:=.tup (ko xs lo hi)) (fun b ob q=>Wy _ q) (ym _) ?_,rfl,q _ (I.hok.fresh (ym _))⟩;exact⟨r9 (mq xs lo hi) hz,_,(r.drop (HT.sIx xs.length 0 lo)).take (HT.sIx xs.length xs.length hi-HT.sIx xs.length 0 lo),IsTup.new _ _⟩
end
noncomputable def ixN(n:Nat)(i:Int):Option Nat:=if 0<=i then (if i<n then some i.toNat else none) else if -(n:Int)<=i then some (i+n).toNat else none
noncomputable def atI{α:Type}(xs:List α)(i:Int):Option α:=(ixN xs.length i).bind fun j=>xs[j]?
def xy{i:Int}(h:ixN n i=some j):seqIndex? i n=some j/\j<n /\ -(n:Int)<=i/\i<n:=by
 unfold ixN at h;by_cases h0:0<=i
 .rw[Wf h0]at h
  by_cases h1:i<n
  .rw[Wf h1]at h
   have e:i.toNat=j:=Zt h;exact⟨by rw[seqIndex_of h0 h1,e],by lia,by lia,h1⟩
  .rw[Wg h1]at h;cases h
 .rw[Wg h0]at h
  by_cases h1:-(n:Int)<=i
  .rw[Wf h1]at h
   have e:(i+n).toNat=j:=Zt h;exact⟨by rw[seqIndex_neg (by lia) h1,e],by lia,h1,by lia⟩
  .rw[Wg h1]at h;cases h
def sh{α:Type}{xs:List α}{i:Int}{v:α}(h:atI xs i=some v):∃j,seqIndex? i xs.length=some j/\xs[j]? = some v/\j<xs.length /\ -(xs.length:Int)<=i/\i<xs.length:=by
 unfold atI at h;cases e:ixN xs.length i with
 |none=>rw[e]at h;cases h
 |some j=>
  rw[e]at h;obtain⟨h1,h2,h3,h4⟩:=xy e;exact⟨j,h1,h,h2,h3,h4⟩
def aI{α:Type}{xs:List α}{j:Nat}{v:α}(h:xs[j]? = some v):atI xs (j:Int)=some v:=by
 have hj:j<xs.length:=(Wu.mp h).1;have e:ixN xs.length (j:Int)=some j:=by
  unfold ixN;rw[Wf (by lia),Wf (by lia)];simp
 unfold atI;rw[e];exact h
def sD{α:Type}(xs:List α)(v:α):atI (xs++[v]) (-1)=some v:=by
 have hl:(xs++[v]).length=xs.length+1:=by simp
 have e:ixN (xs++[v]).length (-1)=some xs.length:=by
  unfold ixN;rw[hl,Wg (by decide),Wf (by lia)]
  congr 1
  lia
 unfold atI;rw[e];show(xs++[v])[xs.length]? = some v;simp
def rJ(b:Expr):Prop:=∀o i,subscripted b false o i=operate [o,i] (getItem o i)
def IxR(X:Cx)(r:R2):Prop:=
 ∀(value slice:Expr) (XG:List (WN × Obj)) (s:WM) (σ:St) (H:Hp) (x y:V) (v u:WO) (Q:VK),WR X XG σ H s->WX x v->WX y u->r x y H Q ->
  subscripted slice false v u=operate [v,u] (getItem v u)->WH (WG X.prog X.w) X.A (subscriptTail value slice v u) (EP X XG σ Q) X.xe s
def MtR(X:Cx)(id:String)(r:V->List V->Hp->VK->Prop):Prop:=
 ∀(XG:List (WN × Obj)) (s:WM) (σ:St) (H:Hp) (x:V) (xs:List V) (v:WO) (us:List WO) (Q:VK),WR X XG σ H s->WX x v->WW xs us->r x xs H Q ->
  WH (WG X.prog X.w) X.A (call (.builtin id) (v::us)) (EP X XG σ Q) X.xe s
section
variable{X:Cx}{a b:Expr}{ta tb:TE}{pos:Pos}
def IxR.or{r r':R2}(h:IxR X r)(h':IxR X r'):IxR X (fun x y H Q=>r x y H Q\/r' x y H Q):=by
 intro value slice XG s σ H x y v u Q I rx ry q hs;obtain q|q:=q
 .exact h value slice XG s σ H x y v u Q I rx ry q hs
 .exact h' value slice XG s σ H x y v u Q I rx ry q hs
def JN{r:R2}(hr:IxR X r)(ha:PE X a ta)(hb:PE X b tb)(hs:rJ b):PE X (.Subscript a b pos) (tOp r ta tb):=by
 intro XG s σ H Q I h;exact Subscript_ (He ha hb I h fun v u s2 x y H2 I2 rx ry q=>hr a b XG s2 σ H2 x y v u Q I2 rx ry q (hs _ _))
def Ib(K:Wz):R2:=fun x y H Q=>∃p xs i v,x = .ref p/\y = .int i/\SqL K H p xs/\atI xs i=some v/\Q v H
def Ie(K:Wz):R2:=fun x y H Q=>∃p xs i v,x = .ref p/\y = .int i/\SqT K H p xs/\atI xs i=some v/\Q v H
def Jh:R2:=fun x y H Q=>∃z i c,x = .str z/\y = .int i/\z.length<=WI/\atI z.cps.toList i=some c/\Q (.str ⟨#[c]⟩) H
def xn:IxR X (Ib X.K):=by
 intro value slice XG s σ H x y v u Q I rx ry h hs;obtain⟨p,xs,i,z,rfl,rfl,hq,he,q⟩:=h;cases rx;obtain⟨t,rfl⟩:=ry;obtain⟨XC,r,pl,hz⟩:=I.list hq;obtain⟨j,h1,h2,h3,h4,h5⟩:=sh he;obtain⟨w,ew,rw'⟩:=r.get h2;have hl:=r.length;have hn:=kx;have fin:EP X XG σ Q w s:=⟨z,H,I,rw',q⟩;by_cases h0:0<=i
 .have hj:i.toNat=j:=by
   rw[seqIndex_of h0 h5]at h1;exact Zt h1
  exact item_listR pl.isList h0 (by lia) (by rw[hj];simpa using ew) fin hs
 .have hj:(i+(XC.toArray.size:Int)).toNat=j:=by
   rw[seqIndex_neg (by lia) h4]at h1;rw[yN,<- hl];exact Zt h1
  exact subscriptTail_builtinR (x:=w) pl.isList.typeIs slot_list_getitem.lookup
   (wpAny_getItem_list_neg (Q:=fun r s'=>r=w/\EP X XG σ Q r s') pl.isList (by lia) (by rw[yN] <;> lia) (by lia) (by rw[hj];simpa using ew) ⟨rfl,fin⟩) hs
def FP:IxR X (Ie X.K):=by
 intro value slice XG s σ H x y v u Q I rx ry h hs;obtain⟨p,xs,i,z,rfl,rfl,hq,he,q⟩:=h;cases rx;obtain⟨t,rfl⟩:=ry;obtain⟨XC,r,pl,hz⟩:=I.tuple hq;obtain⟨j,h1,h2,h3,h4,h5⟩:=sh he;obtain⟨w,ew,rw'⟩:=r.get h2;have hl:=r.length;have hn:=kx;have fin:EP X XG σ Q w s:=⟨z,H,I,rw',q⟩;exact subscriptTail_builtinR (x:=w) pl.typeIs slot_tuple_getitem.lookup
  (getItem_tuple (j:=j) (Q:=fun r s'=>r=w/\EP X XG σ Q r s') pl (by lia) (by lia) (by rw[yN,<- hl];exact h1) (by simpa using ew) ⟨rfl,fin⟩) hs
def Fp:IxR X Jh:=by
 intro value slice XG s σ H x y v u Q I rx ry h hs;obtain⟨z,i,c,rfl,rfl,hz,he,q⟩:=h;obtain⟨t,rfl⟩:=rx;obtain⟨t',rfl⟩:=ry;obtain⟨j,h1,h2,h3,h4,h5⟩:=sh he;have hl:z.cps.toList.length=z.length:=by simp[Yo]
 rw[hl]at h1 h4 h5;have hn:=kx;exact tail_any (XQ s z t) slot_str_getitem.lookup (getItem_str (c:=c) (by
  have e1:decide (i < -(2 ^ 63:Int))=false:=Wc (by lia);have e2:decide (i ≥ 2 ^ 63)=false:=Wc (by lia);rw[e1,e2,Bool.or_false]) (by rw[h1];simpa using h2) ⟨.str ⟨#[c]⟩,H,I.tok _,⟨_,rfl⟩,q⟩) hs
def rIx(K:Wz):R2:=fun x y H Q=>Ib K x y H Q\/Ie K x y H Q\/Jh x y H Q
def Fx:IxR X (rIx X.K):=xn.or (FP.or Fp)
def vK(XC:List WO)(n j:Nat)(u:WO):Yz (·.setIfInBounds j u) { cls:=.type "list",data:=.seq XC.toArray n } = { cls:=.type "list",data:=.seq (XC.set j u).toArray n }:=by
 simp[Yz]
def WR.lst{XG:List (WN × Obj)}{σ:St}{H:Hp}{s:WM}{p:WN}{xs:List V}(I:WR X XG σ H s)(h:H p=some (.lst xs)) :
 ∃(XC:List WO) (n:Nat),WW xs XC/\s.heap.get? p=some { cls:=.type "list",data:=.seq XC.toArray n }/\xs.length<=WI:=by
 obtain⟨z,XC,n,r,e⟩:=I.hok p _ h;exact⟨XC,n,r,e,z⟩
def WR.lstUpd{s:WM}{xs ys:List V}{XC its':List WO}(I:WR X XG σ H s)(h:H p=some (.lst xs))
 (ho:s.heap.get? p=some { cls:=.type "list",data:=.seq XC.toArray n }) (hf:f { cls:=.type "list",data:=.seq XC.toArray n } = { cls:=.type "list",data:=.seq its'.toArray n' }) (r:WW ys its') (hz:ys.length<=WI) (t:Nat) :
 WR X XG σ (upd H p (.lst ys)) { s with heap:=s.heap.update p f,toks:=t }:=by
 have e:(s.heap.update p f).get? p=some { cls:=.type "list",data:=.seq its'.toArray n' }:=by
  rw[Wv f ho (by rw[hf] <;> rfl),hf]
 refine I.write (x:=p) (e:=p) (by rw[h];trivial) (.inl rfl) (fun b u hb q=>(Ww _ _ (Wj hb)).trans q) ⟨_,e⟩ ?_;exact⟨hz,its',n',r,e⟩
def E2:V->V->V->Hp->(Hp->Prop)->Prop:=fun o i v H Q=>∃p xs k j,o = .ref p/\i = .int k/\H p=some (.lst xs)/\ixN xs.length k=some j/\Q (upd H p (.lst (xs.set j v)))
def uk:JW X E2:=by
 intro XG s σ H o i v ov iv u Q I ro ri rv h;obtain⟨p,xs,k,j,rfl,rfl,hp,hj,q⟩:=h;cases ro;obtain⟨t,rfl⟩:=ri;obtain⟨XC,n,r,ho,hz⟩:=I.lst hp;obtain⟨h1,h2,h3,h4⟩:=xy hj;have hl:=r.length;have hn:=kx;have I':WR X XG σ (upd H p (.lst (xs.set j v))) { s with heap:=s.heap.update p (Yz (·.setIfInBounds j u)) }:=
  I.lstUpd hp ho (vK XC n j u) (r.set rv j) (by rw[Xy];exact hz) s.toks
 by_cases h0:0<=k
 .have hk:k.toNat=j:=by
   rw[seqIndex_of h0 h4]at h1;exact Zt h1
  exact PySem.W.ki_setAt ho h0 (by lia) (by rw[yN,<- hl];exact h4) (by rw[hk];exact⟨_,I',q⟩)
 .have hk:(k+(XC.toArray.size:Int)).toNat=j:=by
   rw[seqIndex_neg (by lia) h3]at h1;rw[yN,<- hl];exact Zt h1
  exact PySem.W.ki_setBack ho (by lia) (by rw[yN,<- hl];exact h3) (by lia) (by rw[hk];exact⟨_,I',q⟩)
def jL(lo hi:Option Int)(n:Nat):(YK lo hi none n).1=((HT.sIx n 0 lo:Nat):Int)/\(YK lo hi none n).2.1=((HT.sIx n n hi:Nat):Int)/\(YK lo hi none n).2.2=1:=by
 refine⟨?_,?_,rfl⟩
 .cases lo with
  |none=>simp[YK,HT.sIx]
  |some i=>
   simp only[YK,HT.sIx,Option.getD_none,show(1:Int) > 0 by decide,if_true];by_cases h:i<0
   .simp only[h,if_true] <;> lia
   .simp only[h,if_false] <;> lia
 .cases hi with
  |none=>simp[YK,HT.sIx]
  |some i=>
   simp only[YK,HT.sIx,Option.getD_none,show(1:Int) > 0 by decide,if_true];by_cases h:i<0
   .simp only[h,if_true] <;> lia
   .simp only[h,if_false] <;> lia
def pj(XC:List WO)(lo hi:Option Int):slicePick XC.toArray lo hi none=((XC.drop (HT.sIx XC.length 0 lo)).take (HT.sIx XC.length XC.length hi-HT.sIx XC.length 0 lo)).toArray:=by
 obtain⟨h1,h2,h3⟩:=jL lo hi XC.toArray.size;unfold slicePick;rw[h1,h2,h3];simp only[sliceRange_one,pick_run,yN] <;> rfl
def Jg(K:Wz):V->Option Int->Option Int->Hp->VK->Prop:=fun x lo hi H Q=>∃a xs,x = .ref a/\SqL K H a xs/\∀p,H p=none->Q (.ref p) (upd H p (.lst (ko xs lo hi)))
def DZ:SlR X (Jg X.K):=by
 intro XG s σ H x v vl vu lo hi sl Q I rx hs pl pu h;obtain⟨a,xs,rfl,hx,q⟩:=h;cases rx;obtain⟨XC,r,ht,hz⟩:=I.list hx;have hlen:=r.length;refine⟨"list",_,slot_list_getitem.lookup,ht.isList.typeIs,?_⟩;refine wpAny_getItem_list_slice ht.isList hs pl pu .none (by simp) ?_ (by rw[yN] <;> lia);rw[pj,<- hlen];refine⟨.ref s.heap.objs.size,_,I.laid (t':=s.toks) (o:=.lst (ko xs lo hi)) (fun b ob q=>Wy _ q) (ym _) ?_,rfl,q _ (I.hok.fresh (ym _))⟩;exact⟨r9 (mq xs lo hi) hz,_,0,(r.drop (HT.sIx xs.length 0 lo)).take (HT.sIx xs.length xs.length hi-HT.sIx xs.length 0 lo),Wx _ rfl⟩
noncomputable def dB:V->Bool
 | .non=>true
 | .bl _=>true
 | .int _=>true
 | .str _=>true
 |_=>false
noncomputable def eqV:V->V->Bool
 | .non,.non=>true
 | .bl a,.bl b=>a==b
 | .bl a,.int b=>(if a then 1 else 0)==b
 | .int a,.bl b=>a==(if b then 1 else 0)
 | .int a,.int b=>a==b
 | .str a,.str b=>a==b
 |_,_=>false
def vA(ry:WX y u)(rx:WX x v)(fy:dB y=true)(fx:dB x=true):SeqAt.EqAt A s u v (eqV y x):=by
 cases y with
 |non=>
  cases ry;cases x with
  |non=>cases rx;exact SeqAt.EqAt.same _
  |bl b=>cases rx;exact SeqAt.EqAt.none_bool b
  |int b=>obtain⟨t,rfl⟩:=rx;exact SeqAt.EqAt.none_int b t
  |str b=>obtain⟨t,rfl⟩:=rx;exact SeqAt.EqAt.none_str b t
  |_=>exact Wa (show false=true from fx) vV
 |bl a=>
  cases ry;cases x with
  |non=>cases rx;exact SeqAt.EqAt.bool_none a
  |bl b=>cases rx;exact SeqAt.EqAt.bool_bool a b
  |int b=>obtain⟨t,rfl⟩:=rx;exact SeqAt.EqAt.bool_int a b t
  |str b=>obtain⟨t,rfl⟩:=rx;exact SeqAt.EqAt.bool_str a b t
  |_=>exact Wa (show false=true from fx) vV
 |int a=>
  obtain⟨t',rfl⟩:=ry;cases x with
  |non=>cases rx;exact SeqAt.EqAt.int_none a t'
  |bl b=>cases rx;exact SeqAt.EqAt.int_bool a t' b
  |int b=>obtain⟨t,rfl⟩:=rx;exact SeqAt.EqAt.int_int a t' b t
  |str b=>obtain⟨t,rfl⟩:=rx;exact SeqAt.EqAt.int_str a t' b t
  |_=>exact Wa (show false=true from fx) vV
 |str a=>
  obtain⟨t',rfl⟩:=ry;cases x with
  |non=>cases rx;exact SeqAt.EqAt.str_none a t'
  |bl b=>cases rx;exact SeqAt.EqAt.str_bool a t' b
  |int b=>obtain⟨t,rfl⟩:=rx;exact SeqAt.EqAt.str_int a t' b t
  |str b=>obtain⟨t,rfl⟩:=rx;exact SeqAt.EqAt.str_str a t' b t
  |_=>exact Wa (show false=true from fx) vV
 |_=>exact Wa (show false=true from fy) vV
noncomputable def eqU(x:V)(u:WO):Bool:=match u with
 | .none=>eqV .non x
 | .bool b=>eqV (.bl b) x
 | .int i _=>eqV (.int i) x
 | .str z _=>eqV (.str z) x
 |_=>false
def BD(r:WX y u)(f:dB y=true):eqU x u=eqV y x:=by
 cases y with
 |non=>cases r;rfl
 |bl b=>cases r;rfl
 |int i=>obtain⟨t,rfl⟩:=r;rfl
 |str z=>obtain⟨t,rfl⟩:=r;rfl
 |_=>exact Wa (show false=true from f) vV
theorem rq:∀ {xs:List V} {us:List WO},WW xs us->xs.all dB=true->us.any (eqU x)=xs.any fun y=>eqV y x
 |_,_,.nil,_=>rfl
 |y::xs,u::us,.cons r t,f=>by
  rw[List.all_cons,Za]at f;rw[List.any_cons,List.any_cons,BD r f.1,rq t f.2]
theorem oP(rx:WX x v)(fx:dB x=true):∀ {xs:List V} {us:List WO},WW xs us->xs.all dB=true->∀u∈us,SeqAt.EqAt A s u v (eqU x u)
 |_,_,.nil,_=>fun u hu=>by cases hu
 |y::xs,u::us,.cons r t,f=>fun u' hu=>by
  rw[List.all_cons,Za]at f;obtain rfl|hu:=zk.mp hu
  .rw[BD r f.1];exact vA r rx f.1 fx
  .exact oP rx fx t f.2 u' hu
noncomputable def inV(x:V)(xs:List V):Bool:=xs.any fun y=>eqV y x
def rIn(K:Wz)(neg:Bool):R2:=fun x y H Q=>∃p xs,y = .ref p/\(SqL K H p xs\/SqT K H p xs)/\dB x=true/\xs.all dB=true/\Q (.bl (if neg then !inV x xs else inV x xs)) H
def rm:OpR X (Zl .NotIn) (rIn X.K true):=by
 intro XG s σ H x y v u Q I rx ry h;obtain⟨p,xs,rfl,hq,fx,fs,q⟩:=h;cases ry;obtain hq|hq:=hq
 .obtain⟨XC,r,pl,hz⟩:=I.list hq
  refine SeqAt.notIn_listAt (eqU x) pl.isList (fun w hw=>oP rx fx r fs w (by simpa using hw)) ⟨.bl _,H,I,rfl,?_⟩;rw[show XC.toArray.any (eqU x)=XC.any (eqU x) by simp,rq r fs];exact q
 .obtain⟨XC,r,pl,hz⟩:=I.tuple hq
  refine SeqAt.notIn_tupleAt (eqU x) pl (fun w hw=>oP rx fx r fs w (by simpa using hw)) ⟨.bl _,H,I,rfl,?_⟩;rw[show XC.toArray.any (eqU x)=XC.any (eqU x) by simp,rq r fs];exact q
def WT.or{f:WO}{r r':List V->Hp->VK->Prop}(h:WT X f r)(h':WT X f r'):WT X f (fun xs H Q=>r xs H Q\/r' xs H Q):=by
 intro XG s σ H xs us Q I rs q;obtain q|q:=q
 .exact h XG s σ H xs us Q I rs q
 .exact h' XG s σ H xs us Q I rs q
def rf:WT X (.type "list") (fun xs H Q=>∃p ys,xs=[.ref p]/\(SqL X.K H p ys\/SqT X.K H p ys)/\∀l,H l=none->Q (.ref l) (upd H l (.lst ys))):=by
 intro XG s σ H xs us Q I r h;obtain⟨p,ys,rfl,hq,q⟩:=h;obtain⟨u,rfl,rx⟩:=dI r;cases rx;have fin:∀(XC:List WO),WW ys XC->ys.length<=WI->∀(h':WF) (c':Nat),(∀b o',s.heap.get? b=some o'->h'.get? b=some o') ->
  h'.get? s.heap.objs.size=some { cls:=.type "list",dict:=none,data:=.seq XC.toArray c',slots:=#[] }->EP X XG σ Q (.ref s.heap.objs.size) { s with heap:=h' }:=fun XC r' hz h' c' kp e=>
  ⟨.ref s.heap.objs.size,_,I.laid (t':=s.toks) kp (ym _) (show WV X.prog X.w _ h' _ (.lst ys) from⟨hz,XC,c',r',e⟩),rfl,q _ (I.hok.fresh (ym _))⟩
 obtain hq|hq:=hq
 .obtain⟨XC,r',pl,hz⟩:=I.list hq
  have hlen:=r'.length;obtain⟨o,ho,hc,n,hd⟩:=pl.isList;exact call_list_seq p (.inl rfl) ho hc hd (fun h' c' kp e=>fin XC r' hz h' c' kp e) (by simp only[yN] <;> lia)
 .obtain⟨XC,r',pl,hz⟩:=I.tuple hq
  have hlen:=r'.length;obtain⟨o,ho,hc,n,hd⟩:=pl;exact call_list_seq p (.inr rfl) ho hc hd (fun h' c' kp e=>fin XC r' hz h' c' kp e) (by simp only[yN] <;> lia)
def pE:WT X (.type "tuple") (fun xs H Q=>∃p ys,xs=[.ref p]/\((SqL X.K H p ys/\∀l,H l=none->Q (.ref l) (upd H l (.tup ys)))\/(SqT X.K H p ys/\Q (.ref p) H))):=by
 intro XG s σ H xs us Q I r h;obtain⟨p,ys,rfl,h⟩:=h;obtain⟨u,rfl,rx⟩:=dI r;cases rx;obtain⟨hq,q⟩|⟨hq,q⟩:=h
 .obtain⟨XC,r',pl,hz⟩:=I.list hq
  have hlen:=r'.length;refine call_tuple_list pl.isList (fun h' kp=>?_) (by simp only[yN] <;> lia);have I1:WR X XG σ H { s with heap:=h' }:=I.kept (t':=s.toks) kp;have I2:WR X XG σ (upd H h'.objs.size (.tup ys)) { s with heap:=h'.push { cls:=.type "tuple",data:=.seq XC.toArray } }:=
   I1.laid (t':=s.toks) (fun b o e=>Wy _ e) (ym _) (show WV X.prog X.w _ _ _ (.tup ys) from⟨hz,XC,r',IsTup.new _ _⟩)
  exact⟨.ref h'.objs.size,_,I2,rfl,q _ (I1.hok.fresh (ym _))⟩
 .obtain⟨XC,r',pl,hz⟩:=I.tuple hq
  exact call_tuple_same pl ⟨.ref p,H,I,rfl,q⟩
def tyV(K:Wz)(T:String)(x:V)(H:Hp):Prop:=match x with
 | .str _=>T = "str"
 | .int _=>T = "int"
 | .ref p=>(T = "list" /\ ∃xs,SqL K H p xs)\/(T = "tuple" /\ ∃o,K.lookup p=some o/\o.cls = .type "tuple" /\ o.dict=none) \/
  (T = "dict" /\ ((∃XB,H p=some (.dK XB))\/∃XB,H p=some (.dT XB)))\/(T = "set" /\ ∃S n,H p=some (.set S n))
 |_=>False
def z5{XG:List (WN × Obj)}{σ:St}{H:Hp}{s:WM}{T:String}{x:V}{v:WO}(I:WR X XG σ H s)(r:WX x v)(ty:tyV X.K T x H) :
 s.TypeIs v T/\∀a,v = .ref a->∃ob,s.heap.get? a=some ob/\ob.dict=none:=by
 cases x with
 |str z=>
  obtain⟨t,rfl⟩:=r;cases (show T = "str" from ty);exact⟨XQ s z t,fun _ e=>nomatch e⟩
 |int i=>
  obtain⟨t,rfl⟩:=r;cases (show T = "int" from ty);exact⟨typeIs_int s i t,fun _ e=>nomatch e⟩
 |ref p=>
  cases r;obtain⟨rfl,xs,hq⟩|⟨rfl,o,hk,hc,hd⟩|⟨rfl,hk⟩|⟨rfl,S,n,hk⟩:=ty
  .obtain⟨XC,_,pl,_⟩:=I.list hq
   refine⟨pl.isList.typeIs,fun a e=>?_⟩;cases e;obtain⟨o,n,e,c,hd,_⟩:=pl;exact⟨o,e,hd⟩
  .refine⟨⟨o,I.kIn p o hk,hc⟩,fun a e=>?_⟩
   cases e;exact⟨o,I.kIn _ o hk,hd⟩
  .have z:∃o,s.heap.get? p=some o/\o.ExactDict:=by
    obtain⟨XB,hk⟩|⟨XB,hk⟩:=hk
    .obtain⟨_,_,_,_,o,_,_,e,ex,_⟩:=I.hok p _ hk
     exact⟨o,e,ex⟩
    .obtain⟨_,_,_,_,o,_,_,e,ex,_⟩:=I.hok p _ hk
     exact⟨o,e,ex⟩
   obtain⟨o,e,ex⟩:=z;refine⟨⟨o,e,ex.1⟩,fun a e2=>?_⟩;cases e2;exact⟨o,e,ex.2.1⟩
  .obtain⟨o,_,_,_,e,ex,_⟩:=I.hok p _ hk
   refine⟨⟨o,e,ex.1⟩,fun a e2=>?_⟩;cases e2;exact⟨o,e,ex.2.1⟩
 |_=>exact YX ty
def DT(K:Wz)(T:String)(r:V->List V->Hp->VK->Prop)(to:TE):TE:=fun σ H Q=>to σ H fun x H1=>tyV K T x H1/\r x [] H1 Q
def tBM(K:Wz)(T:String)(r:V->List V->Hp->VK->Prop)(to:TE)(t:TA):TE:=fun σ H Q=>to σ H fun x H1=>tyV K T x H1/\t σ H1 fun xs H2=>r x xs H2 Q
variable{o e:Expr}{es:List Expr}{to:TE}{t:TA}{name:Str}{apos cpos:Pos}{T id:String}{r:V->List V->Hp->VK->Prop}
def HC(pa:PlainAttrs T)(slot:Slot T name id)(hty:typeOf (.builtin id)=pure (.type "method_descriptor"))(hm:MtR X id r)(ho:PE X o to)
 (hbase:Yc o name X.env (eval o X.env)=eval o X.env:=by rfl) (hline:(apos.endLine==cpos.line)=true:=by rfl):PE X (.Call (.Attribute o name apos) [] [] cpos) (DT X.K T r to):=by
 intro XG s σ H Q I h;refine wpAny_Call_method0_late hbase hline (thn (ho XG s σ H _ I h) fun v s1 hq_=>?_);obtain⟨x,H1,I1,r1,ty,q1⟩:=hq_;obtain⟨h1,h2⟩:=z5 I1 r1 ty;exact⟨T,id,pa,slot,hty,h1,h2,Z5 rfl (PySem.evalArgs_none (hm XG s1 σ H1 x [] v [] Q I1 r1 .nil q1))⟩
def IX(pa:PlainAttrs T)(slot:Slot T name id)(hty:typeOf (.builtin id)=pure (.type "method_descriptor"))(hm:MtR X id r)(ho:PE X o to)(ha:PA X (e::es) t)
 (hbase:Yc o name X.env (eval o X.env)=eval o X.env:=by rfl)
 (hfew:((WD cpos (WE (e::es) X.env)).all (fun x=>!x.1)&&(backToKw cpos (Xn [] X.env)).all (fun x=>x.1.isSome)
  && decide ((e::es).length+([]:List Keyword).length+(if ([]:List Keyword).isEmpty then 0 else 1)<30))=true:=by rfl)
 (hline:(apos.endLine==cpos.line)=true:=by rfl) (hs:WE (e::es) X.env=(false,eval e X.env)::WE es X.env:=by rfl) (hplain:(WD cpos (WE es X.env)).any (·.1)=false:=by rfl) :
 PE X (.Call (.Attribute o name apos) (e::es) [] cpos) (tBM X.K T r to t):=by
 intro XG s σ H Q I h;refine wpAny_Call_method_late hbase hfew hline rfl (thn (ho XG s σ H _ I h) fun v s1 hq_=>?_);obtain⟨x,H1,I1,r1,ty,q1⟩:=hq_;obtain⟨h1,h2⟩:=z5 I1 r1 ty;refine⟨T,id,pa,slot,hty,h1,h2,?_⟩;have hA:=ha cpos XG s1 σ H1 _ I1 q1;rw[hs]at hA |-
 refine Z5 (by show(false || (WD cpos (WE es X.env)).any (·.1))=false;rw[hplain] <;> rfl) (YG ?_);exact thn hA fun us s2 hq_=>(by obtain⟨vs,H2,I2,r2,q2⟩:=hq_;exact hm XG s2 σ H2 x vs v us Q I2 r1 r2 q2)
end
def MtM(X:Cx)(id:String)(r:V->List V->Hp->VK->Prop):Prop:=
 ∀(XG:List (WN × Obj)) (s:WM) (σ:St) (H:Hp) (x:V) (xs:List V) (v:WO) (us:List WO) (Q:VK),WR X XG σ H s->WX x v->WW xs us->r x xs H Q ->
  WH (WG X.prog X.w) X.A (call (.builtin id) (v::us)) (EP X XG σ Q) X.xe s
def WW.one{x:V}{us:List WO}(h:WW [x] us):∃u,us=[u]/\WX x u:=by
 cases h with
 |cons r t=>cases t;exact⟨_,rfl,r⟩
def WW.two{x y:V}{us:List WO}(h:WW [x,y] us):∃u v,us=[u,v]/\WX x u/\WX y v:=by
 cases h with
 |cons r t=>obtain⟨_,rfl,q⟩:=WW.one t;exact⟨_,_,rfl,r,q⟩
theorem WW.zero:∀ {us:List WO},WW [] us->us=[]
 |_,.nil=>rfl
def WW.dropLast{xs:List V}{us:List WO}(h:WW xs us):WW xs.dropLast us.dropLast:=by
 induction h with
 |nil=>exact .nil
 |cons r t ih=>
  cases t with
  |nil=>exact .nil
  |cons q t'=>exact .cons r ih
def vh{α:Type}(l:List α):l.eraseIdx (l.length-1)=l.dropLast:=by
 induction l with
 |nil=>rfl
 |cons a r ih=>
  cases r with
  |nil=>rfl
  |cons b r=>
   have e:(a::b::r).length-1=((b::r).length-1)+1:=by
    have h1:(a::b::r).length=r.length+2:=rfl;have h2:(b::r).length=r.length+1:=rfl;lia
   rw[e,List.eraseIdx_cons_succ,ih]
   all_goals rfl
section
variable{X:Cx}{XG:List (WN × Obj)}{σ:St}{H:Hp}{s:WM}{l b:WN}{xs ys zs:List V}
def WR.lset{XC its':List WO}{f:Array WO->Array WO}(I:WR X XG σ H s)(hH:H l=some (.lst xs))
 (e:s.heap.get? l=some { cls:=.type "list",data:=.seq XC.toArray n }) (hf:f XC.toArray=its'.toArray) (hv:WW ys its') (hz:ys.length<=WI) :
 WR X XG σ (upd H l (.lst ys)) { s with heap:=s.heap.update l (Yz f),toks:=t' }:=by
 have q:=PySem.IsL.update e f;rw[hf]at q;refine I.write (x:=l) (e:=l) (by rw[hH];exact trivial) (.inl rfl) (fun b' u hb hu=>(Ww s.heap (Yz f) (Wj hb)).trans hu) ⟨_,q⟩ ?_;exact⟨hz,its',_,hv,q⟩
def WR.lnew{XC:List WO}(I:WR X XG σ H s)(hv:WW ys XC)(hz:ys.length<=WI) :
 WR X XG σ (upd H s.heap.objs.size (.lst ys)) { s with heap:=s.heap.push { cls:=.type "list",data:=.seq XC.toArray },toks:=t' }:=
 I.laid (fun _ _ q=>Wy _ q) (ym _) ⟨hz,XC,0,hv,Wx _ rfl⟩
def WR.fresh(I:WR X XG σ H s):H s.heap.objs.size=none:=I.hok.fresh (ym _)
def WR.lstM(I:WR X XG σ H s)(hH:H l=some (.lst xs)):xs.length<=WI/\∃(XC:List WO) (n:Nat),WW xs XC/\xs.length=XC.length/\s.heap.get? l=some { cls:=.type "list",data:=.seq XC.toArray n }:=by
 obtain⟨z,XC,n,r,e⟩:=I.hok l _ hH;exact⟨z,XC,n,r,r.length,e⟩
def nP(h:n<=WI):XU n=false:=by
 unfold XU;exact Wc (by lia)
end
section
variable{X:Cx}
def rW:V->List V->Hp->VK->Prop:=fun x vs H Q=>∃l xs y,x = .ref l/\vs=[y]/\H l=some (.lst xs)/\xs.length<WI/\Q .non (upd H l (.lst (xs++[y])))
def cA:MtM X "list.append" rW:=by
 intro XG s σ H x vs v us Q I rx rv h;obtain⟨l,xs,y,rfl,rfl,hH,hz,q⟩:=h;cases rx;obtain⟨u,rfl,ru⟩:=rv.one;obtain⟨z,XC,n,r,hl,e⟩:=I.lstM hH;refine YF F.slot_list_append ⟨_,e,rfl⟩ F.entry_list_append (F.args_list_append_2 _ _) (PySem.list_append l XC.toArray n u (by rw[yN];lia)) ⟨e,?_⟩;refine⟨.non,_,I.lset (its':=XC++[u]) hH e (by simp) (r.append (.cons ru .nil)) ?_,rfl,q⟩;rw[zc,wa];lia
def Dw:V->List V->Hp->VK->Prop:=fun x vs H Q=>∃l b xs zs,x = .ref l/\vs=[.ref b]/\H l=some (.lst xs)/\H b=some (.lst zs)/\xs.length+zs.length<=WI/\Q .non (upd H l (.lst (xs++zs)))
def HV:MtM X "list.extend" Dw:=by
 intro XG s σ H x vs v us Q I rx rv h;obtain⟨l,b,xs,zs,rfl,rfl,hH,hB,hz,q⟩:=h;cases rx;obtain⟨u,rfl,ru⟩:=rv.one;cases ru;obtain⟨z,XC,n,r,hl,e⟩:=I.lstM hH;obtain⟨z2,its2,n2,r2,hl2,e2⟩:=I.lstM hB;have hsz:XC.toArray.size+its2.toArray.size<=WI:=by rw[yN,yN];lia
 have hlong:¬ (!XC.toArray.isEmpty&&XU (XC.toArray.size+its2.toArray.size))=true:=by
  rw[nP hsz,Bool.and_false];exact vV
 refine YF F.slot_list_extend ⟨_,e,rfl⟩ F.entry_list_extend (F.args_list_extend_2 _ _)
  (AutoSeq1.list_extend_list_list_0 l XC.toArray n b its2.toArray n2 hlong (by rw[yN];lia) (by lia)) ⟨e,e2,?_⟩
 refine⟨.non,_,I.lset (its':=XC++its2) hH e (by simp) (r.append r2) ?_,rfl,q⟩;rw[zc];lia
def KI:V->List V->Hp->VK->Prop:=fun x vs H Q=>∃l xs y,x = .ref l/\vs=[]/\H l=some (.lst xs)/\xs[xs.length-1]? = some y/\Q y (upd H l (.lst xs.dropLast))
def Kw:MtM X "list.pop" KI:=by
 intro XG s σ H x vs v us Q I rx rv h;obtain⟨l,xs,y,rfl,rfl,hH,hy,q⟩:=h;cases rx;have hus:=rv.zero;subst hus;obtain⟨z,XC,n,r,hl,e⟩:=I.lstM hH;obtain⟨u,hu,ru⟩:=r.get hy;have hy':XC.toArray[XC.toArray.size-1]? = some u:=by
  show XC.toArray[XC.length-1]? = some u;rw[<- Wl,<- hl];exact hu
 refine YF F.slot_list_pop ⟨_,e,rfl⟩ F.entry_list_pop (F.args_list_pop_1 _) (MeetsSeq.list_pop_last l XC.toArray n u hy' (by rw[yN];lia)) ⟨e,?_⟩;refine⟨y,_,I.lset (its':=XC.dropLast) hH e ?_ r.dropLast ?_,ru,q⟩
 .show XC.toArray.eraseIdxIfInBounds (XC.toArray.size-1)=XC.dropLast.toArray
  rw[yN,List.eraseIdxIfInBounds_toArray,vh]
 .rw[List.length_dropLast]
  lia
def vc:V->List V->Hp->VK->Prop:=fun x vs H Q=>∃l xs,x = .ref l/\vs=[]/\H l=some (.lst xs)/\Q .non (upd H l (.lst []))
def B5:MtM X "list.clear" vc:=by
 intro XG s σ H x vs v us Q I rx rv h;obtain⟨l,xs,rfl,rfl,hH,q⟩:=h;cases rx;have hus:=rv.zero;subst hus;obtain⟨z,XC,n,r,hl,e⟩:=I.lstM hH;refine YF F.slot_list_clear ⟨_,e,rfl⟩ F.entry_list_clear (F.args_list_clear_1 _) (AutoSeq1.list_clear_list_0 l XC.toArray n (by rw[yN];lia)) ⟨e,?_⟩;exact⟨.non,_,I.lset (its':=[]) (ys:=[]) hH e rfl .nil (rp _),rfl,q⟩
def Kr:R2:=fun x y H Q=>∃l b xs zs,x = .ref l/\y = .ref b/\H l=some (.lst xs)/\H b=some (.lst zs)/\xs.length+zs.length<=WI/\∀p,H p=none->Q (.ref p) (upd H p (.lst (xs++zs)))
def Gf:OpR X (binaryOp .Add) Kr:=by
 intro XG s σ H x y v u Q I rx ry h;obtain⟨l,b,xs,zs,rfl,rfl,hH,hB,hz,q⟩:=h;cases rx;cases ry;obtain⟨z,XC,n,r,hl,e⟩:=I.lstM hH;obtain⟨z2,its2,n2,r2,hl2,e2⟩:=I.lstM hB;refine PySem.P.add_list e e2 ?_ (by rw[yN,yN];lia);have ea:XC.toArray++its2.toArray=(XC++its2).toArray:=by simp
 rw[ea];exact⟨.ref _,_,I.lnew (t':=s.toks) (r.append r2) (by rw[zc];lia),rfl,q _ I.fresh⟩
end
end L2
namespace Att
open PySem PySem.W PySem.Calls PyProof.Rows
def mF:∀(ns:List Int) (vs:List WO),WellAll P h vs (ns.map WData.int)->IntsAre vs ns:=by
 intro ns
 induction ns with
 |nil=>
  intro vs w;rw[ZR]at w;cases w;exact .nil
 |cons n ns ih=>
  intro vs w;rw[xY]at w;cases w with
  |cons a b=>
   cases a;exact .cons _ _ (ih _ b)
def ya{l:OpenLaw}(hn:l.most=some n){h:WF}
 (hpre:l.row.toRowW.claim.pre args=true) (hwl:WellAll P h vals args) :
 ∃a vs ns,vals=[vv a]/\args=[WData.list (ns.map WData.int)]/\h.get? a=some { cls:=.type "list",data:=.seq vs.toArray }/\IntsAre vs ns/\ns.length<=n:=by
 have hsh:WShape.hasAll [] args [.list .int]=true:=(pre_splitW hpre).1;have hc:l.pre.holds [] { args:=args }=true:=(pre_splitW hpre).2;obtain⟨d,r,rfl,h1,h2⟩:=hasAllW_cons hsh;obtain rfl:=hasAllW_nil h2;obtain⟨xs,rfl,h3⟩:=hasW_list h1;obtain⟨ns,rfl⟩:=items_int h3;have hlen:ns.length<=n:=by
  unfold OpenLaw.pre at hc;have h4:(WTm.not (.lt (.lit (.int (n:Int))) (.len (.arg 0)))).holds [] { args:=[.list (ns.map .int)] }=true:=by
   have h4:=(holds_andW hc).1;rw[hn]at h4;exact h4
  have h5:=condW_of h4 (w_not (w_lt w_lit (w_len_list (w_arg rfl))));rw[zm]at h5;refine Nat.le_of_not_lt fun q=>?_;have q':(n:Int)<((ns.length:Nat):Int):=by lia
  first
   |(rw[We q']at h5;exact Wa h5 (by decide))
   |(simp at h5;lia)
 cases hwl with
 |cons w1 w2=>
  cases w2;cases w1 with
  |list ho hall=>exact⟨_,_,ns,rfl,rfl,ho,mF ns _ hall,hlen⟩
def zl(l:OpenLaw)(args:List WData):l.row.toRowW.claim.post args (.bool true) args=true:=
 postW_of (r:=l.row.toRowW) (X:=(true==true))
  (show WShape.has [] (.bool true) .bool=true by first|rfl|decide|simp[WShape.has,WShape.arms,WShape.armsAll])
  (show(WTm.eq .res (.lit (.bool true))).value [] { args:=args,res:=some (.bool true),after:=args }=some (.bool (true==true)) from w_eq_bool (w_res rfl) w_lit) rfl
def attach_call{l:OpenLaw}{XP:(Str->Option WO)->WF->Prop}{d:DefRec}
 (hn:l.most=some n) (hdf:d.params.defaults=[])
 (call:∀(w:WK) (s₀ s₁:WM) (mg mb:Str->Option WO) (fa:WN) (o:Obj) (pm cd doc:WO) (a:WN) (vs:List WO) (ns:List Int),
  Ground q loose [] XP w s₀ mg mb s₁.heap->YP w s₁.heap ->
  s₁.heap.get? fa=some o->o.data = .func (docDef d.name d.params d.body d.scope pm cd doc)->s₁.heap.CodeRec cd d.name->mg d.name=some (.ref fa) ->
  s₁.heap.get? a=some { cls:=.type "list",data:=.seq vs.toArray }->IntsAre vs ns->ns.length<=n->s₁.gens = #[] ->
  codeAny (WG l.prog w) callerA (.call (.ref fa) ⟨[.ref a],[]⟩) (fun r s'=>r = .ok (.ret (.bool true))/\OldK s₁.heap s'.heap/\s'.os=s₁.os/\AllBare s'.gens) s₁) :
 WalkO q loose XP YP l.row.toRowW d [] (fun f vs=>PySem.call f vs):=by
 intro w s₀ s₁ mg mb G Y fa o pm cd doc dV kV ho hd hcd hD hmg hg args vals as hpre hlay hrd hwl hlo;obtain rfl:dV = .none:=Dflts.none hD hdf;obtain rfl:kV = .none:=Dflts.noKw hD;obtain⟨a,vs,ns,rfl,rfl,hobj,hints,hlen⟩:=ya hn hpre hwl;refine enter_call (codeAny_mono (call w s₀ s₁ mg mb fa o pm cd doc a vs ns G Y ho (fd_plain hd) hcd hmg hobj hints hlen hg) fun r s' hq=>?_);obtain⟨rfl,h2,h3,h4⟩:=hq;exact⟨.inl ⟨.bool true,.bool true,[],rfl,fun _=>rfl,.bool true,zl l _,fun _=>⟨List.Pairwise.nil,fun _ hm=>(nomatch hm)⟩⟩,h2,h3,h4⟩
end Att
namespace L2
open PySem PySem.Spec PyProof.Rows
theorem qf:∀ {vs:List WO} {ns:List Int},IntsAre vs ns->WW (ns.map V.int) vs
 |_,_,.nil=>.nil
 |_,_,.cons n t h=>.cons ⟨t,rfl⟩ (qf h)
def wg(H:Hp):Prop:=∀b,H b=none\/∃o xs,H b=some (.frz o (.lst xs))
def Bt{K:Wz}{s₁:WM}{vs:List WO}{ns:List Int}
 (KX:K.In s₁.heap) (hns:s₁.heap.Ns ZP mg) (hb:s₁.heap.Ns builtinsNs mb) (hbb:∀x:Str,x ≠ "__name__" -> mb x=Zc x) (hlim:s₁.heap.NoLimit) (hg:s₁.gens = #[])
 (ha:s₁.heap.get? a=some { cls:=.type "list",data:=.seq vs.toArray }) (hi:IntsAre vs ns) (hl:ns.length<=WI) (hr:Room k callerA)
 (F:∀base:WF,K.In base->base.Ns ZP mg->hZ P w K mg base CX k fa fd [x] sp) (hbind:∀(s:WM) (u:WO),BindsTo s fd ⟨[u],[]⟩ [(x,u)])
 (hsp:∀H:Hp,wg H->SqL K H a (ns.map V.int)->sp [.ref a] H (fun v _=>v = .bl true) fun _ _ _=>False)
 (hCX:∀H e s',CX [] H s₁ (fun _ _ _=>False) e s'->False) :
 codeAny (WG P w) callerA (.call (.ref fa) ⟨[.ref a],[]⟩) (fun r s'=>r = .ok (.ret (.bool true))/\OldK s₁.heap s'.heap/\s'.os=s₁.os/\AllBare s'.gens) s₁:=by
 have rv:=qf hi;have lenV:=hi.length;have core:∀H:Hp,wg H->SqL K H a (ns.map V.int)->HOk P w H s₁.heap->(∀b,H b≠none->b=a)->(H a≠none->K.lookup a=none) ->
  codeAny (WG P w) callerA (.call (.ref fa) ⟨[.ref a],[]⟩) (fun r s'=>r = .ok (.ret (.bool true))/\OldK s₁.heap s'.heap/\s'.os=s₁.os/\AllBare s'.gens) s₁:=by
  intro H hO hS hok hA hK;have base_of:∀ {b:WN} {o:Obj},s₁.heap.get? b=some o->H b=none->(qC s₁.heap H).get? b=some o:=fun e n=>z6 e n;have noA:∀ {b:WN} {o:Obj} {es:Array YA} {ep:Nat},s₁.heap.get? b=some o->o.data = .dict es ep->H b=none:=fun {b o es ep} e d=>by
   cases q:H b with
   |none=>rfl
   |some u=>
    have e':b=a:=hA b (by rw[q];simp);subst e';rw[ha]at e;cases e;have d':Data.seq vs.toArray _=Xx es ep:=d;cases d'
  have nsK:∀ {b:WN} {m:Str->Option WO},s₁.heap.Ns b m->(qC s₁.heap H).Ns b m:=fun {b m} ⟨o,es,ep,e,d,r⟩=>⟨o,es,ep,base_of e (noA e d),d,r⟩;have hKb:K.In (qC s₁.heap H):=fun b o e=>base_of (KX b o e) (by
   cases q:H b with
   |none=>rfl
   |some u=>
    have e':b=a:=hA b (by rw[q];simp);subst e';rw[hK (by rw[q];simp)]at e;cases e)
  have hM:Mod K mg (qC s₁.heap H):=⟨hKb,nsK hns,⟨mb,nsK hb,hbb⟩,let ⟨mc,h1,h2⟩:=hlim;⟨mc,nsK h1,h2⟩⟩;have e0:Env0 P w K mg (qC s₁.heap H) callerA [] s₁ H:=⟨rfl,hM,fun b o e=>DH e,Nat.le_of_eq (yr _ _),trivial,fun b hb=>Wa (show b∈([]:List WN) from hb) (by simp),hok,.of_eq hg⟩;refine codeAny_mono ((F _ hKb (nsK hns)).run callerA [] s₁ H ⟨[.ref a],[]⟩ [.ref a] [.ref a] _ _ hr e0 (hbind s₁ (.ref a)) (.cons rfl .nil) (hsp H hO hS)) fun r s' h=>?_;cases r with
  |error e=>exact(hCX H e s' h).elim
  |ok fl=>
   cases fl with
   |next=>exact YX h
   |brk=>exact YX h
   |cont=>exact YX h
   |ret u=>
    obtain⟨v,H',os,bare,un,hok',r',q⟩:=h;have q':v = .bl true:=q;subst q';obtain rfl:u=Value.bool true:=r';refine⟨rfl,OldK.of_keep fun b o e=>?_,os,bare⟩;cases q:H b with
    |none=>exact un.keep b o e q (by intro z;exact Wa (show b∈([]:List WN) from z) (by simp)) (by simp)
    |some u=>
     obtain z|⟨ob,xs,z⟩:=hO b
     .rw[q]at z;cases z
     .have z2:=un.frzs b ob _ z
      obtain⟨e1,_⟩:=hok b _ z;obtain⟨e2,_⟩:=hok' b _ z2;rw[e]at e1;cases e1;exact e2
 cases hk:K.lookup a with
 |some o=>
  have e:=KX a o hk;rw[ha]at e;cases e;refine core (fun _=>none) (fun _=>.inl rfl) (.inr ⟨_,vs.toArray,_,hk,rfl,rfl,rfl,by rw[yN,lenV];exact hl,by simpa using rv⟩) (fun b u z=>by have z':(none:Option HO)=some u:=z;cases z') (fun b z=>Wa rfl z) fun z=>Wa rfl z
 |none=>
  refine core (fun b=>if b=a then some (.frz { cls:=.type "list",data:=.seq vs.toArray } (.lst (ns.map V.int))) else none) (fun b=>?_) (.inl (.inr ⟨{ cls:=.type "list",data:=.seq vs.toArray },Wf rfl⟩)) (fun b u z=>?_) (fun b z=>?_) fun _=>hk
  .by_cases hb:b=a
   .exact .inr ⟨_,_,Wf hb⟩
   .exact .inl (Wg hb)
  .by_cases hb:b=a
   .have z':=(Wf hb).symm.trans z
    cases z';subst hb;exact⟨ha,by rw[zm];exact hl,vs,_,rv,ha⟩
   .have z':=(Wg hb).symm.trans z
    cases z'
  .by_cases hb:b=a
   .exact hb
   .exact Wa (Wg hb) z
def C9{l:PySem.W.OpenLaw}{n k:Nat}{q:WL}{loose:List Str}{XP:(Str->Option WO)->WF->Prop}{YP:WK->WF->Prop}{d:DefRec}{K:Params->Wz}{CX:WK->CXT}{sp:WK->Sp}{x:Str}
 (hn:l.most=some n) (hn2:n<=WI) (hdf:d.params.defaults=[]) (hr:Room k callerA)
 (hY:∀(w:WK) (h:WF),YP w h->(K w.params).In h)
 (F:∀(w:WK) (mg:Str->Option WO) (fa:WN) (h:WF),(K w.params).In h->h.Ns ZP mg->mg d.name=some (.ref fa) ->
  ∃fd:FuncData,(∀(s:WM) (u:WO),BindsTo s fd ⟨[u],[]⟩ [(x,u)]) /\
   ∀base:WF,(K w.params).In base->base.Ns ZP mg->hZ l.prog w (K w.params) mg base (CX w) k fa fd [x] (sp w))
 (hsp:∀(w:WK) (H:Hp) (a:WN) (ns:List Int),ns.length<=n->wg H->SqL (K w.params) H a (ns.map V.int)->sp w [.ref a] H (fun v _=>v = .bl true) fun _ _ _=>False)
 (hCX:∀(w:WK) (H:Hp) (s:WM) (e:WO) (s':WM),CX w [] H s (fun _ _ _=>False) e s'->False) :
 PySem.W.WalkO q loose XP YP l.row.toRowW d [] (fun f vs=>PySem.call f vs):=by
 refine Att.attach_call hn hdf fun w s₀ s₁ mg mb fa o pm cd doc a vs ns G Y ho hd hcd hmg hobj hints hlen hg=>?_;have KX:=hY w _ Y;obtain⟨fd,hb,hF⟩:=F w mg fa _ KX G.T.g hmg;exact Bt KX G.T.g G.T.b G.T.builtins G.T.nolimit hg hobj hints (r9 hlen hn2) hr hF hb (fun H hO hS=>hsp w H a ns hlen hO hS) fun H e s'=>hCX w H s₁ e s'
abbrev CX0:CXT:=fun _ _ _ _ _ _=>False
structure Fun(K:Wz)(x WQ:Str)(st:Stmt)(f:WN)(fd:FuncData):Prop where
 ex:∃(oc:WO) (od:Option WN) (kV doc pm:WO) (an:Option WN) (XD ct:WO) (osl:Array (Option WO)),
  fd=YJ x WQ (gC st) (bB st) (ay st) .none kV doc pm an XD ct/\K.lookup f=some ⟨oc,od,.func fd,osl⟩/\PySem.W.codeIn K XD WQ=true
 kp:Ys K (.ref f)=true
section
variable{P:WL}{w:WK}{K:Wz}{mg:Str->Option WO}{base:WF}
def Fun.binds{x WQ:Str}{st:Stmt}{f:WN}{fd:FuncData}{ps:List Str}(F:Fun K x WQ st f fd)
 (h:∀(kV doc pm:WO) (an:Option WN) (XD ct:WO) (us:List WO),us.length=ps.length->bindArgs (YJ x WQ (gC st) (bB st) (ay st) .none kV doc pm an XD ct) ⟨us,[]⟩=pure (ps.zip us)):Binds K fd ps []:=by
 obtain⟨oc,od,kV,doc,pm,an,XD,ct,osl,rfl,lk,hcd⟩:=F.ex;exact .all (h kV doc pm an XD ct)
def wm{x WQ:Str}{st:Stmt}{f:WN}{oc:WO}{od an:Option WN}{osl:Array (Option WO)}{kV doc pm XD ct:WO}(l:K.lookup f=some ⟨oc,od,.func (YJ x WQ (gC st) (bB st) (ay st) .none kV doc pm an XD ct),osl⟩)
 (c:PySem.W.codeIn K XD WQ=true) (k:Ys K (.ref f)=true):Fun K x WQ st f (YJ x WQ (gC st) (bB st) (ay st) .none kV doc pm an XD ct):=⟨⟨oc,od,kV,doc,pm,an,XD,ct,osl,rfl,l,c⟩,k⟩
end
def XA(H H':Hp):Prop:=∀b o,H b=some o->H' b=some o
def XA.refl(H:Hp):XA H H:=fun _ _ h=>h
def XA.trans(a:XA H H1)(b:XA H1 H2):XA H H2:=fun c o h=>b c o (a c o h)
def XA.free{H H':Hp}(e:XA H H'){l:WN}(h:H' l=Option.none):H l=Option.none:=by
 cases q:H l with
 |none=>rfl
 |some o=>
  rw[e l o q]at h;cases h
noncomputable def cV:HO->Bool
 | .dT _=>false
 |_=>true
def WS(H:Hp):Prop:=∀a o,H a=some o->cV o=true
noncomputable def jx:HO->Bool
 | .lst _=>true
 | .tup _=>true
 | .dK _=>true
 | .rng _ _=>true
 |_=>false
structure Gc(H G H':Hp):Prop where
 a:XA H G
 b:XA G H'
 c:∀p o,G p=some o->H p=some o\/jx o=true
section
variable{P:WL}{w:WK}{H G H':Hp}{h h':WF}{a:WN}{o:HO}
def WV.gcF{ob:Obj}(e0:h.get? a=some ob)(e1:h'.get? a=some ob)(x0:WV P w H h a o)(x:WV P w H' h' a o):WV P w H h' a o:=by
 induction o with
 |ins C dx fs=>exact⟨x0.1,x.2⟩
 |dT XB=>
  obtain⟨z,y,xs,r,o,es,ep,g,c⟩:=x0;exact⟨z,y,xs,r,o,es,ep,(e1.trans e0.symm).trans g,c⟩
 |frz ob' u ih=>exact⟨x.1,ih x0.2 x.2⟩
 |_=>exact x
def WV.gc(n:cV o=true)(x0:WV P w H h a o)(x:WV P w H' h' a o):WV P w H h' a o:=by
 cases o with
 |ins C dx fs=>exact⟨x0.1,x.2⟩
 |dT XB=>cases n
 |frz ob u=>exact⟨x.1,x0.2.gcF x0.1 x.1 x.2⟩
 |_=>exact x
def WV.plain(n:jx o=true)(x:WV P w H' h' a o):WV P w H h' a o:=by
 cases o with
 |lst xs=>exact x
 |tup xs=>exact x
 |dK XB=>exact x
 |rng lo hi=>exact x
 |_=>cases n
def HOk.gc(n:WS H)(x0:HOk P w H h)(x:HOk P w H' h')(g:Gc H G H'):HOk P w G h':=fun a o e=>by
 obtain q|q:=g.c a o e
 .refine(((x0 a o q).gc (n a o q) (x a o (g.b a o e)))).stay (fun _ _ _ z=>z) (fun b z=>g.a _ _ z) fun b xs z=>g.a _ _ z
 .exact(x a o (g.b a o e)).plain q
def Un.gc(u:Un fs ex H H' h h')(g:Gc H G H'):Un fs ex H G h h':=
 ⟨u.keep,u.slot,fun b o q n hx=>g.b.free (u.free b o q n hx),u.there,fun b xs q=>g.a _ _ q,fun b o x q=>g.a _ _ q,fun b ps q=>⟨#[],by rw[Array.append_empty];exact g.a _ _ q⟩⟩
def Gc.refl:Gc H H H:=⟨XA.refl H,XA.refl H,fun _ _ e=>.inl e⟩
def Gc.none(s:XA H H'):Gc H H H':=⟨XA.refl H,s,fun _ _ e=>.inl e⟩
def aj(o:HO)(hp:H p=Option.none):XA H (upd H p o):=fun b u e=>by rw[ag (aM e hp)];exact e
def Gc.one(s:XA H H')(hp:H p=Option.none)(e:H' p=some o)(n:jx o=true):Gc H (upd H p o) H':=
 ⟨aj o hp,fun b u z=>by
  by_cases hb:b=p
  .subst hb;rw[aa]at z;cases z;exact e
  .rw[ag hb]at z;exact s b u z,fun b u z=>by
  by_cases hb:b=p
  .subst hb;rw[aa]at z;cases z;exact .inr n
  .rw[ag hb]at z;exact .inl z⟩
def WS.upd(n:WS H)(d:cV o=true):WS (upd H p o):=fun b u z=>by
 by_cases hb:b=p
 .subst hb;rw[aa]at z;cases z;exact d
 .rw[ag hb]at z;exact n b u z
end
def WR.gc(n:WS H)(I:WR X XG σ H s)(J:WR X pins' σ' H' s')(g:Gc H G H'):WR X pins' σ' G s':=
 ⟨J.ok,J.os,J.bare,⟨J.base.keep,J.base.slot,fun b o q z hx=>g.b.free (J.base.free b o q z hx),J.base.there,fun b xs q=>g.a _ _ (I.base.tups b xs q),fun b o x q=>g.a _ _ (I.base.frzs b o x q),fun b ps q=>let ⟨m,e⟩:=I.base.tbls b ps q;⟨m,g.a _ _ e⟩⟩,
  J.loc,J.cell,g.b.free J.free,fun x c e=>g.b.free (J.freeC x c e),fun p hp=>let ⟨e,z,r⟩:=J.pin p hp;⟨e,g.b.free z,r⟩,HOk.gc n I.hok J.hok g,J.len⟩
def tGc(t:TE):TE:=fun σ H Q=>WS H/\t σ H fun v H'=>∃G,Gc H G H'/\Q v G
def E1(h:PE X e t):PE X e (tGc t):=fun XG s σ H Q I ⟨n,q⟩=>
 thn (h XG s σ H _ I q) fun u s1 ⟨v,H1,I1,r,G,g,q1⟩=>⟨v,G,I.gc n I1 g,r,q1⟩
def JF(t:TT):TT:=fun σ H Q=>WS H/\t σ H fun v H'=>∃G,Gc H G H'/\Q v G
def A8(h:PT X e t):PT X e (JF t):=fun XG s σ H Q I ⟨n,q⟩=>
 thn (h XG s σ H _ I q) fun u s1 ⟨H1,I1,G,g,q1⟩=>⟨G,I.gc n I1 g,q1⟩
def K2{α:Type}:Sem α->Prop
 | .rule _ k=>K2 (k ())
 | .at _ k=>K2 (k ())
 | .load _ _ k=>∀o,K2 (k o)
 | .update _ _ f k=>(∀(o:Obj) vs,o.data = .fields vs->∃ws,(f o).data = .fields ws/\ws[2]? = vs[2]?)/\K2 (k ())
 | .loadIfAlive _ k=>∀o,K2 (k o)
 | .point _ k=>K2 (k ())
 | .alloc _ k=>∀a,K2 (k a)
 | .fresh k=>∀n,K2 (k n)
 | .ask k=>∀x,K2 (k x)
 | .choose _ _ k=>∀n,K2 (k n)
 | .os _ _ k=>∀x,K2 (k x)
 | .call ..=>False
 | .handled _ k=>∀x,K2 (k x)
 | .genState _ k=>∀x,K2 (k x)
 | .newGen _ k=>∀n,K2 (k n)
 | .resume ..=>False
 | .stack k=>∀x,K2 (k x)
 | .thread k=>∀n,K2 (k n)
 |_=>True
def F2(h:WF)(e:WN):Prop:=∃o vs,h.get? e=some o/\o.data = .fields vs/\vs[2]? = some .none
def K2.bind{α β:Type}{t:Sem α}{f:α->Sem β}(h:K2 t)(g:∀a,K2 (f a)):K2 (t >>= f):=by
 show K2 (t.bind f)
 induction t with
 |pure a=>exact g a
 |rule _ k ih=>exact ih () h
 | «at» _ k ih=>exact ih () h
 |load _ _ k ih=>exact fun o=>ih o (h o)
 |update _ _ _ k ih=>exact⟨h.1,ih () h.2⟩
 |loadIfAlive _ k ih=>exact fun o=>ih o (h o)
 |point _ k ih=>exact ih () h
 |alloc _ k ih=>exact fun o=>ih o (h o)
 |fresh k ih=>exact fun o=>ih o (h o)
 |ask k ih=>exact fun o=>ih o (h o)
 |choose _ _ k ih=>exact fun o=>ih o (h o)
 |os _ _ k ih=>exact fun o=>ih o (h o)
 |call=>exact h.elim
 |handled _ k ih=>exact fun o=>ih o (h o)
 |genState _ k ih=>exact fun o=>ih o (h o)
 |newGen _ k ih=>exact fun o=>ih o (h o)
 |resume=>exact h.elim
 |stack k ih=>exact fun o=>ih o (h o)
 |thread k ih=>exact fun o=>ih o (h o)
 |_=>trivial
def F2.push{h:WF}{e:WN}(x:F2 h e)(o:Obj):F2 (h.push o) e:=by
 obtain⟨oe,vs,e1,e2⟩:=x;exact⟨oe,vs,Wy _ e1,e2⟩
def F2.update{h:WF}{e:WN}(x:F2 h e)(a:WN){f:Obj->Obj}(hf:∀(o:Obj) vs,o.data = .fields vs->∃ws,(f o).data = .fields ws/\ws[2]? = vs[2]?):F2 (h.update a f) e:=by
 obtain⟨oe,vs,e1,e2,e3⟩:=x;by_cases ea:a=e
 .subst ea
  obtain⟨ws,w1,w2⟩:=hf oe vs e2;exact⟨_,ws,Wv _ e1 (Obj.isFreed_of_fields w1),w1,w2.trans e3⟩
 .exact⟨oe,vs,(Ww _ _ ea).trans e1,e2,e3⟩
def Ig{α:Type}{M:Model}{Γ:PySem.Ctx}{e:WN}{t:Sem α}:∀ {Q:α->Pos->WM->Prop} {E:WO->Pos->WM->Prop} {p:Pos} {s:WM},K2 t->Sem.wp M Γ t Q E p s->F2 s.heap e->Sem.wp M Γ t (fun a p s'=>Q a p s'/\F2 s'.heap e) (fun x p s'=>E x p s'/\F2 s'.heap e) p s:=by
 induction t with
 |pure a=>intro Q E p s _ h f;rw[Sem.wp]at h |-; exact⟨h,f⟩
 |raise x=>intro Q E p s _ h f;rw[Sem.wp]at h |-; exact⟨h,f⟩
 |unsupported=>intro Q E p s _ h f;rw[Sem.wp]at h;exact h.elim
 |finish=>intro Q E p s _ h f;rw[Sem.wp]at h;exact h.elim
 |rule _ k ih=>intro Q E p s g h f;rw[Sem.wp]at h |-; exact ih () g h f
 | «at» _ k ih=>intro Q E p s g h f;rw[Sem.wp]at h |-; exact ih () g h f
 |load _ _ k ih=>intro Q E p s g h f;rw[Sem.wp]at h |-; obtain⟨o,h1,h2⟩:=h;exact⟨o,h1,ih o (g o) h2 f⟩
 |update a _ _ k ih=>intro Q E p s g h f;rw[Sem.wp]at h |-; exact⟨h.1,ih () g.2 h.2 (f.update a g.1)⟩
 |loadIfAlive _ k ih=>intro Q E p s g h f;rw[Sem.wp]at h |-; exact ih _ (g _) h f
 |point _ k ih=>intro Q E p s g h f;rw[Sem.wp]at h |-; exact ih () g h f
 |register=>intro Q E p s _ h f;rw[Sem.wp]at h;exact h.elim
 |alloc o k ih=>intro Q E p s g h f;rw[Sem.wp]at h |-; exact ih _ (g _) h (f.push o)
 |fresh k ih=>intro Q E p s g h f;rw[Sem.wp]at h |-; exact ih _ (g _) h f
 |ask k ih=>intro Q E p s g h f;rw[Sem.wp]at h |-; exact ih _ (g _) h f
 |choose _ _ k ih=>intro Q E p s g h f;rw[Sem.wp]at h |-; exact⟨h.1,ih _ (g _) h.2 f⟩
 |os _ _ k ih=>intro Q E p s g h f;rw[Sem.wp]at h |-; exact ih _ (g _) h f
 |call=>intro Q E p s g;exact g.elim
 |handled _ k ih=>intro Q E p s g h f;rw[Sem.wp]at h |-; exact ih _ (g _) h f
 |genState _ k ih=>intro Q E p s g h f;rw[Sem.wp]at h |-; obtain⟨st,h1,h2⟩:=h;exact⟨st,h1,ih _ (g _) h2 f⟩
 |newGen _ k ih=>intro Q E p s g h f;rw[Sem.wp]at h |-; exact ih _ (g _) h f
 |resume=>intro Q E p s g;exact g.elim
 |yield=>intro Q E p s _ h f;rw[Sem.wp]at h;exact h.elim
 |stack k ih=>intro Q E p s g h f;rw[Sem.wp]at h |-; exact ih _ (g _) h f
 |fork=>intro Q E p s _ h f;rw[Sem.wp]at h;exact h.elim
 |thread k ih=>intro Q E p s g h f;rw[Sem.wp]at h |-; exact ih _ (g _) h f
 |await=>intro Q E p s _ h f;rw[Sem.wp]at h;exact h.elim
def An{α:Type}{M:Model}{A:WJ}{e:WN}{t:Sem α}{Q:α->WM->Prop}{E:WO->WM->Prop}{s:WM}(k:K2 t)(f:F2 s.heap e)(h:WH M A t Q E s):WH M A t (fun a s'=>Q a s'/\F2 s'.heap e) (fun x s'=>E x s'/\F2 s'.heap e) s:=fun Γ p hg=>Ig k (h Γ p hg) f
def j6(v:WO)(i:Nat):K2 (field v i):=by
 refine K2.bind ?_ fun vs=>?_
 .unfold fieldsOf
  split
  .refine K2.bind (fun o=>trivial) fun o=>?_
   split <;> trivial
  .trivial
 .split <;> trivial
def iu(v:WO){i:Nat}(h:i≠2)(x:WO):K2 (setField v i x):=by
 unfold setField;split
 .unfold updateField
  refine K2.bind (fun o=>trivial) fun o=>?_;split
  .split
   .refine⟨fun o vs e=>⟨_,Obj.data_mapFields e _,?_⟩,trivial⟩
    rw[Array.getElem?_setIfInBounds_ne h]
   .trivial
  .trivial
 .trivial
theorem tm:∀l:List Env,K2 (readyFrames l)
 | []=>trivial
 |env::XF=>by
  unfold readyFrames;split
  .refine K2.bind (fun o=>trivial) fun o=>?_
   split
   .trivial
   .refine K2.bind ?_ fun im=>K2.bind ?_ fun bk=>K2.bind ?_ fun _=>tm XF
    .unfold behindIsImport
     split
     .trivial
     .split
      .trivial
      .exact K2.bind (j6 _ _) fun _=>trivial
    .unfold keptBack
     split
     .split
      .trivial
      .refine K2.bind ?_ fun _=>trivial
       exact K2.bind (fun st=>trivial) fun _=>trivial
     .trivial
    .exact⟨fun o vs e=>⟨vs,e,rfl⟩,trivial⟩
  .trivial
def v7(env:Env):K2 (PySem.frameOf env):=by
 unfold PySem.frameOf frameEnvs;refine K2.bind (fun st=>trivial) fun es=>K2.bind ?_ fun o=>?_
 .unfold frameObject
  split
  .trivial
  .exact K2.bind (tm _) fun _=>trivial
 .split <;> trivial
def CB(a b c d f:WO)(p:List WO):K2 (EntryCells.newEntry a b c d f p):=by
 unfold EntryCells.newEntry newFields newObj;dsimp only;have nw:∀d:Data,K2 (newObjAsIs (YE "traceback") d):=fun d=>by
  unfold newObjAsIs;exact K2.bind (fun a=>trivial) fun a=>trivial
 generalize ([a,b,c,d,f]++if p.isEmpty=true then List.replicate 6 ZS else p).toArray=l;split
 .exact K2.bind trivial fun _=>nw _
 .exact nw _
def Ap(f:WN)(b:Bool):K2 (entryPlaceOf f b):=by
 unfold entryPlaceOf;refine K2.bind (fun st=>trivial) fun st=>?_;split <;> trivial
def wV(e:WO)(env:Env):K2 (noteFrame e env):=by
 unfold noteFrame;split
 .refine K2.bind (j6 _ _) fun hd=>?_
  have jp:∀f:WN,K2 (do let a <- PySem.frameOf env;let b <- entryPlaceOf f (hd != ZS);let c <- EntryCells.newEntry hd a ZS (rawInt f) ZS b;setField e 1 c):=fun f=>K2.bind (v7 _) fun a=>K2.bind (Ap _ _) fun b=>K2.bind (CB ..) fun c=>iu _ (by decide) _;dsimp only;split
  .refine K2.bind (j6 _ _) fun x=>?_
   split
   .trivial
   .exact K2.bind (iu _ (by decide) _) fun _=>jp _
  .exact jp _
 .trivial
def kM(e:WO)(fr:Option WN):K2 (setFlight e fr):=by
 unfold setFlight;refine K2.bind (j6 _ _) fun tb=>?_;split
 .exact iu _ (by decide) _
 .trivial
def nC(env:Env)(e:WO):K2 (leaving env e):=by
 unfold leaving;exact K2.bind (wV _ _) fun _=>kM _ _
def eL{α:Type}{M:Model}{A:WJ}{e:WN}{t:Sem α}{Q:α->WM->Prop}{E:WO->WM->Prop}{s:WM}(k:K2 t)(f:F2 s.heap e)(h:WH M A t (fun a s'=>F2 s'.heap e->Q a s') E s):WH M A t Q E s:=
 Zi (An k f h) (fun _ _ q=>q.1 q.2) (fun _ _ q=>q.1)
def WV.at_(x:WV P w H h a o):∃ob,h.get? a=some ob:=by
 cases o with
 |lst xs=>obtain⟨_,_,_,_,e⟩:=x;exact⟨_,e⟩
 |tup xs=>obtain⟨_,_,_,ob,e,_⟩:=x;exact⟨_,e⟩
 |dK XB=>obtain⟨_,_,_,_,o,_,_,e,_⟩:=x;exact⟨_,e⟩
 |dT XB=>obtain⟨_,_,_,_,o,_,_,e,_⟩:=x;exact⟨_,e⟩
 |set S n=>obtain⟨o,_,_,_,e,_⟩:=x;exact⟨_,e⟩
 |ins C dx fs=>obtain⟨_,_,_,e,_⟩:=x;exact⟨_,e⟩
 |own y=>obtain⟨_,e⟩:=x;exact⟨_,e⟩
 |xd fs=>obtain⟨_,⟨_,_,_,e,_⟩,_⟩:=x;exact⟨_,e⟩
 |rng lo hi=>obtain⟨_,_,_,e⟩:=x;exact⟨_,e⟩
 |frz ob u=>obtain⟨e,_⟩:=x;exact⟨_,e⟩
 |tbl ps=>exact⟨_,(show h.get? a=some _ from x)⟩
 |met f y=>exact⟨_,(show h.get? a=some _ from x)⟩
 |ext φ=>obtain⟨_,⟨_,e⟩,_⟩:=x;exact⟨_,e⟩
def HOk.none_of(x:HOk P w H h)(e:h.get? a=none):H a=none:=by
 cases q:H a with
 |none=>rfl
 |some u=>
  obtain⟨ob,z⟩:=(x a u q).at_;rw[e]at z;cases z
noncomputable def hid(h:WF)(l:List Env)(rs:List WN):WF:=PySem.W.hideAll h (frs l++rs)
def jI(e:h.get? b=some o)(h1:b∉frs l)(h2:b∉rs):(hid h l rs).get? b=some o:=
 PySem.W.hideAll_get _ e fun z=>(yf.mp z).elim h1 h2
def wA(e:(hid h l rs).get? b=some o):h.get? b=some o:=PySem.W.of_hideAll _ e
def qq(e:b∈rs):(hid h l rs).get? b=none:=PySem.W.hideAll_none _ (uD _ e)
def jj{h base:WF}(e:h.FunFrames base l):h.FunFrames (hid h l rs) l:=
 PySem.W.funFrames_hide e fun _ he _ ha=>uj _ (List.mem_filterMap.mpr ⟨_,he,ha⟩)
def Fly(l:List Env)(rs:List WN)(e:WN)(cls:WO)(h:WF):Prop:=e∈rs/\∃a0,Heap.FlyingW (hid h l rs) l e cls a0 h/\F2 h e
def XE(P:WL)(w:WK):CXT:=fun XF H s E ev s'=>∃(e:WN) (C:WO) (rs:List WN) (H':Hp),ev = .ref e/\s'.os=s.os/\AllBare s'.gens/\Un (frs XF) [] H H' s.heap s'.heap /\
 HOk P w H' s'.heap/\(∀b∈rs,s.heap.get? b=none/\H' b=none)/\Fly XF rs e C s'.heap/\E C none H'
section
variable{X:Cx}{XG:List (WN × Obj)}{σ:St}{H:Hp}{s:WM}{h':WF}{rs:List WN}
def WR.s0_none(I:WR X XG σ H s)(hex:X.ex=[])(e:s.heap.get? b=none):X.s₀.heap.get? b=none:=by
 cases q:X.s₀.heap.get? b with
 |none=>rfl
 |some o=>
  obtain⟨o',z⟩:=I.base.there b o q (by rw[hex];simp);rw[e]at z;cases z
def WR.noteUn(I:WR X XG σ H s)(hex:X.ex=[])(hrs:∀b∈rs,X.s₀.heap.get? b=none)
 (stay:∀b o,s.heap.get? b=some o->b∉frs X.stack->b∉rs->h'.get? b=some o) (up:s.heap.UpToSlots h'):Un X.fs [] X.H₀ H X.s₀.heap h':=by
 have B:=I.base;rw[hex]at B;have nrs:∀b o,X.s₀.heap.get? b=some o->b∉rs:=fun b o e z=>by rw[hrs b z]at e;cases e
 have nst:∀b o,X.s₀.heap.get? b=some o->b∉X.fs->b∉frs X.stack:=fun b o e hb z=>by
  obtain q|q:=zk.mp (I.stkSub b z)
  .exact Wa (Zw (vN e) I.ok.above) (by rw[q];exact ZM _)
  .exact hb q
 refine⟨fun b o q n hb hx=>stay b o (B.keep b o q n hb hx) (nst b o q hb) (nrs b o q),fun b o q n hb hx=>?_,fun b o q n hx=>B.free b o q n hx,fun b o q hx=>?_,B.tups,B.frzs,B.tbls⟩
 .obtain⟨sl,e1⟩:=B.slot b o q n hb hx
  obtain⟨_,o',ho',hd⟩:=I.funs.mem hb;rw[e1]at ho';cases ho';obtain⟨sl',e2⟩:=up b _ e1 hd;exact⟨sl',e2⟩
 .obtain⟨o',e1⟩:=B.there b o q hx
  by_cases hb:b∈frs X.stack
  .obtain⟨_,o2,ho2,hd⟩:=I.stack.mem hb
   obtain⟨sl',e2⟩:=up b _ ho2 hd;exact⟨_,e2⟩
  .exact⟨o',stay b o' e1 hb (nrs b o q)⟩
def WR.noteOk(I:WR X XG σ H s)(hrs:∀b∈rs,H b=none)(stay:∀b o,s.heap.get? b=some o->b∉frs X.stack->b∉rs->h'.get? b=some o):HOk X.prog X.w H h':=fun a o e=>
 (I.hok a o e).stay (fun b u hb q=>stay b u q (fun z=>by
  have n:=I.stkFree b z;obtain r|r:=hb
  .rw[r,e]at n;cases n
  .rw[r]at n;cases n) fun z=>by
  have n:=hrs b z;obtain r|r:=hb
  .rw[r,e]at n;cases n
  .rw[r]at n;cases n) (fun _ q=>q) fun _ _ q=>q
def xC(hl:h.FunFrames base l)(up:h.UpToSlots h1)(e:(hid h l rs).get? T=none)(hT:h1.get? T=some oT)(hd:oT.data = .fields ts):h.get? T=none\/T∈rs:=by
 by_cases hr:T∈rs
 .exact .inr hr
 .refine .inl ?_
  cases q:h.get? T with
  |none=>rfl
  |some o=>
   by_cases hf:T∈frs l
   .obtain⟨_,o2,ho2,hnf⟩:=hl.mem hf
    rw[q]at ho2;cases ho2;obtain⟨sl,e2⟩:=up T o q hnf;rw[hT]at e2;cases e2;exact Wa hd (hnf ts)
   .rw[jI q hf hr]at e;cases e
end
section
variable{P:WL}{w:WK}{K:Wz}{mg:Str->Option WO}{base:WF}{N:List Str}{WQ:Str}{WP:Scope}{f:WN}{cd:WO}{A:WJ}{XF:List Env}{s₀:WM}{H₀:Hp}{E:XK}
def vx{s:WM}
 (I:WR (c6 (XE P w) P w K mg base N WQ WP f cd A XF s₀ H₀ E) XG σ H s) (hx:Heap.MadeExcOf s.heap h' e cls args) (q:E cls none H) :
 (c6 (XE P w) P w K mg base N WQ WP f cd A XF s₀ H₀ E).xe (.ref e) { s with heap:=h' }:=by
 show WH (WG P w) (A.deeper (envOfC WQ WP s₀.heap.objs.size f cd)) (leaving (envOfC WQ WP s₀.heap.objs.size f cd) (.ref e)) (fun _ s''=>XE P w XF H₀ s₀ E (.ref e) s'') (fun e' s''=>XE P w XF H₀ s₀ E e' s'') { s with heap:=h' };have hst:s.heap.FunFrames base (envOfC WQ WP s₀.heap.objs.size f cd::XF):=I.stack;have g0:F2 h' e:=by
  obtain⟨t,he,_,_⟩:=hx.there;exact⟨_,_,he,rfl,rfl⟩
 refine eL (e:=e) (nC _ _) g0 (wpAny_leaves_madeW (base:=hid s.heap (envOfC WQ WP s₀.heap.objs.size f cd::XF) []) (h:=s.heap) I.ok.frames rfl (fun b o z=>wA z) (jj hst) hx fun h'' t fl tup tn up g2=>?_);obtain⟨f1,f2,f3,oe,vs,T,oT,ts,he,hc,hd,h1,hnT,hTe,hT,hdT,h3⟩:=fl;have up':s.heap.UpToSlots h'':=(Heap.UpToSlots.of_keeps hx.keeps).trans up;have nT:s.heap.get? T=none:=(xC hst up' hnT hT hdT).elim id fun z=>nomatch z;have stay:∀b o,s.heap.get? b=some o->b∉frs (envOfC WQ WP s₀.heap.objs.size f cd::XF)->b∉[e,T]->h''.get? b=some o:=fun b o z hb _=>f1 b o (jI z hb fun y=>nomatch y);have n0:∀b∈[e,T],s.heap.get? b=none:=fun b hb=>by
  obtain r|r:=zk.mp hb
  .rw[r];exact hx.new
  .rw[zw.mp r];exact nT
 have n1:∀b∈[e,T],s₀.heap.get? b=none:=fun b hb=>I.s0_none rfl (n0 b hb);have n2:∀b∈[e,T],H b=none:=fun b hb=>I.hok.none_of (n0 b hb);refine⟨e,cls,[e,T],H,rfl,I.os,I.bare,I.noteUn rfl n1 stay up',I.noteOk n2 stay,fun b hb=>⟨n1 b hb,n2 b hb⟩,⟨.head _,.ref t,?_,g2⟩,q⟩;exact⟨fun b o z=>wA z,qq (.head _),jj f3,oe,vs,T,oT,ts,he,hc,hd,h1,qq (.tail _ (.head _)),hTe,hT,hdT,h3⟩
abbrev XKs:=St->XK
def cM(CX:CXT)(X:Cx)(E:XKs):Prop:=∀(XG:List (WN × Obj)) (σ:St) (H:Hp) (s:WM) (e:WO) (s':WM),WR X XG σ H s->CX X.stack H s (E σ) e s'->X.xe e s'
def vQ(X:Cx)(E:XKs):Prop:=∀(XG:List (WN × Obj)) (σ:St) (H:Hp) (s:WM) (h':WF) (e:WN) (cls:WO) (args:List WO),WR X XG σ H s->Heap.MadeExcOf s.heap h' e cls args->E σ cls none H->X.xe (.ref e) { s with heap:=h' }
def Dg:vQ (c6 (XE P w) P w K mg base N WQ WP f cd A XF s₀ H₀ E) (fun _=>E):=fun _ _ _ _ _ _ _ _ I hx q=>vx I hx q
def aq:cM (XE P w) (c6 (XE P w) P w K mg base N WQ WP f cd A XF s₀ H₀ E) (fun _=>E):=by
 intro XG σ H s ev s' I hq;obtain⟨e,C,rs,H',rfl,os,bare,un,hok,hrs,⟨her,a0,fl,g0⟩,q⟩:=hq;have J:WR (c6 (XE P w) P w K mg base N WQ WP f cd A XF s₀ H₀ E) XG σ H' s':=I.call' os un hok bare (fun b z=>nomatch z);show WH (WG P w) (A.deeper (envOfC WQ WP s₀.heap.objs.size f cd)) (leaving (envOfC WQ WP s₀.heap.objs.size f cd) (.ref e)) (fun _ s''=>XE P w XF H₀ s₀ E (.ref e) s'') (fun e' s''=>XE P w XF H₀ s₀ E e' s'') s';have hst:s'.heap.FunFrames base (envOfC WQ WP s₀.heap.objs.size f cd::XF):=J.stack;refine eL (e:=e) (nC _ _) g0 (wpAny_leaves_onW (base:=hid s'.heap (envOfC WQ WP s₀.heap.objs.size f cd::XF) rs) I.ok.frames rfl fl fun h'' fl' up g2=>?_);obtain⟨f1,f2,f3,oe,vs,T,oT,ts,he,hc,hd,h1,hnT,hTe,hT,hdT,h3⟩:=fl';have nT:=xC hst up hnT hT hdT;have stay:∀b o,s'.heap.get? b=some o->b∉frs (envOfC WQ WP s₀.heap.objs.size f cd::XF)->b∉T::rs->h''.get? b=some o:=fun b o z hb hr=>f1 b o (jI z hb fun y=>hr (.tail _ y));have n1:∀b∈T::rs,s₀.heap.get? b=none:=fun b hb=>by
  obtain r|r:=zk.mp hb
  .rw[r]
   obtain z|z:=nT
   .exact J.s0_none rfl z
   .exact I.s0_none rfl (hrs T z).1
  .exact I.s0_none rfl (hrs b r).1
 have n2:∀b∈T::rs,H' b=none:=fun b hb=>by
  obtain r|r:=zk.mp hb
  .rw[r]
   obtain z|z:=nT
   .exact hok.none_of z
   .exact(hrs T z).2
  .exact(hrs b r).2
 refine⟨e,C,T::rs,H',rfl,J.os,J.bare,J.noteUn rfl n1 stay up,J.noteOk n2 stay,fun b hb=>⟨n1 b hb,n2 b hb⟩,⟨.tail _ her,a0,?_,g2⟩,q⟩;exact⟨fun b o z=>wA z,qq (.tail _ her),jj f3,oe,vs,T,oT,ts,he,hc,hd,h1,qq (.head _),hTe,hT,hdT,h3⟩
end
def rV(sp:Sp)(dvs:List V)(E:XKs)(t:TA):TE:=fun σ H Q=>t σ H fun vs H1=>sp (vs++dvs) H1 Q (E σ)
section
variable{X:Cx}{CX:CXT}{k:Nat}{f C:WN}{fd:FuncData}{ps:List Str}{sp:Sp}{dvs:List V}{ds:List WO}{E:XKs}{x m:Str}{p pos apos:Pos}{e o:Expr}{es:List Expr}{ta:TE}{t:TA}
def rB(F:hZ X.prog X.w X.K X.mg X.base CX k f fd ps sp)(hr:Room k X.A)(hb:Binds X.K fd ps ds)(hd:WW dvs ds)(hx:cM CX X E)
 (I:WR X XG σ H s) (r:WW vs us) (h:sp (vs++dvs) H Q (E σ)):WH (WG X.prog X.w) X.A (call (.ref f) us) (EP X XG σ Q) X.xe s:=by
 have r2:WW (vs++dvs) (us++ds):=r.append hd;have hl:(us++ds).length=ps.length:=by rw[<- r2.length];exact F.len _ _ _ _ h
 refine wpAny_call (codeAny_mono (F.run X.A X.stack s H ⟨us,[]⟩ (us++ds) (vs++dvs) Q (E σ) hr I.env0 (hb s us I.kIn hl) r2 h) fun r s' hq=>?_);cases r with
 |error e=>exact hx XG σ H s e s' I hq
 |ok fl=>
  cases fl with
  |ret u=>exact I.after hq
  |next=>exact YX hq
  |brk=>exact YX hq
  |cont=>exact YX hq
def BL(F:hZ X.prog X.w X.K X.mg X.base CX k f fd ps sp)(hr:Room k X.A)(hg:Gl X x)(hm:X.mg x=some (.ref f))(hk:Ys X.K (.ref f)=true)(hb:Binds X.K fd ps ds)(hd:WW dvs ds)(hx:cM CX X E)
 (ha:PA X (e::es) t) (hdb:(x==("__debug__":Str))=false:=by decide) (he:WE (e::es) X.env=(false,eval e X.env)::WE es X.env:=by rfl) (hpl:(WD pos (WE es X.env)).any (·.1)=false:=by rfl) :
 PE X (.Call (.Name x p) (e::es) [] pos) (rV sp dvs E t):=by
 intro XG s σ H Q I h;refine Y4 (iQ I hg hm ?_ hdb);refine PySem.W.callWith_K (h₀:=X.base) I.ok.mod.kin hk (thn (ha pos XG s σ H _ I h) fun us s1 ⟨vs,H1,I1,r,q⟩=>⟨I1.kIn,?_⟩) he hpl;exact rB F hr hb hd hx I1 r q
end
section
variable{P:WL}{w:WK}{K:Wz}{mg:Str->Option WO}{base:WF}
def Fun.okX{x WQ:Str}{st:Stmt}{f:WN}{fd:FuncData}{N ps:List Str}{k:Nat}{sp:Sp}(F:Fun K x WQ st f fd)(S:df N ps (ay st))(len:∀vs H Q E,sp vs H Q E->vs.length=ps.length)
 (hbody:∀(XD:WO) (A:WJ) (XF:List Env) (s:WM) (H:Hp) (vs:List V) (Q:VK) (E:XK),Room k (A.deeper (envOfC WQ (ay st) s.heap.objs.size f XD))->sp vs H Q E ->
  ∃t,PSs (c6 (XE P w) P w K mg base N WQ (ay st) f XD A XF s H E) (bB st) t/\t { nx:=fun _ H'=>Q .non H',rt:=Q } (fg N vs) H):hZ P w K mg base (XE P w) (k+1) f fd ps sp:=by
 obtain⟨oc,od,kV,doc,pm,an,XD,ct,osl,rfl,lk,hcd⟩:=F.ex;exact JD lk hcd S len fun A XF s H vs Q E hr hsp=>hbody XD A XF s H vs Q E hr hsp
end
def Dq{K:Wz}{h:WF}(X:K.In h)(q:PySem.W.excIn K C bmB newId=true) :
 ∃bm N nm qn bs hdct sn sub ab col dd k0 k1 k2 k3 k5 mN,h.get? C=some (excClassObj nm qn C N bs bm hdct sn sub ab col dd k0 k1 k2 k3 k5 newId)/\h.Ns N mN/\mN "__init__" = none/\OwnTail h bmB bm:=by
 unfold PySem.W.excIn at q;split at q
 .rename_i dd cd sl ho
  split at q
  .rename_i C' bm k0 k1 k2 k3 n k5 hm hs
   simp only[Za,beq_iff_eq,Bool.not_eq_true']at q;obtain⟨⟨⟨⟨⟨rfl,rfl⟩,hdel⟩,ht⟩,hok⟩,hni⟩:=q;obtain⟨nm,bs,mro,ns,qn,hd,sn,sub,ab,col,del⟩:=cd;dsimp only at hm hdel hok hni;subst hm hdel;have hsl:sl = #[k0,k1,k2,k3,some (.builtin n),k5]:=by
    obtain⟨l⟩:=sl;simp only at hs;rw[hs]
   subst hsl;exact⟨bm,ns,nm,qn,bs,hd,sn,sub,ab,col,dd,k0,k1,k2,k3,k5,_,X _ _ ho,.of_isNs (PySem.W.isNs_of_in X hok),PySem.W.nsMap_none_of_in X hok hni,PySem.W.tail_of_in X ht⟩
  .cases q
 .cases q
def vt(C:WN)(E:XKs)(t:TA):TS:=fun _ σ H=>t σ H fun vs H1=>vs.length<=WI/\E σ (.ref C) none H1
def BO{X:Cx}(O:PySem.W.excIn X.K C bmB newId=true)(FB:ExcBaseFacts B newId initId bmB)
 (hc:X.calm=true) (hg:Gl X x) (hm:X.mg x=some (.ref C)) (hx:vQ X E) (ha:PA X (e::es) t) (hdb:(x==("__debug__":Str))=false:=by decide)
 (he:WE (e::es) X.env=(false,eval e X.env)::WE es X.env:=by rfl) (hpl:(WD cpos (WE es X.env)).any (·.1)=false:=by rfl) :
 PS X (.Raise (some (.Call (.Name x np) (e::es) [] cpos)) none pos) (vt C E t):=by
 intro XG s σ H D I h;obtain⟨tl,N,nm,q,bs,hdct,sn,sub,ab,col,dd,k0,k1,k2,k3,k5,mN,hC,hN,hni,T⟩:=Dq I.mod.kin O;refine wpAny_Raise_call_subT (C:=C) (nm:=nm) (q:=q) (N:=N) (bs:=bs) (bm:=tl) (hdct:=hdct) (sn:=sn) (sub:=sub) (ab:=ab) (col:=col) (dd:=dd) (k0:=k0) (k1:=k1) (k2:=k2) (k3:=k3) (k5:=k5)
  FB (mN:=mN) (T.hasType FB.hasBase) (I.ok.hd hc) (by rw[he];show(false || (WD cpos (WE es X.env)).any (·.1))=false;rw[hpl];rfl) hni (iQ I hg hm ⟨rfl,?_⟩ hdb)
 have hA:=ha cpos XG s σ H _ I h;rw[he]at hA |-
 refine YG (thn hA fun us s1 ⟨vs,H1,I1,r,hz,q1⟩=>⟨rfl,by rw[<- r.length];exact hz,I1.bk _ _ hC,hN.keeps I1.bk,T.keeps I1.bk,fun h' e' hm'=>?_⟩);exact hx XG σ H1 s1 h' e' (.ref C) us I1 hm' q1
section
variable{X:Cx}{XG:List (WN × Obj)}{σ:St}{H:Hp}{s:WM}{h':WF}{rs:List WN}
def WR.noted(I:WR X XG σ H s)(hrs:∀b∈rs,X.s₀.heap.get? b=none/\H b=none)(hpin:∀p∈X.pn++XG,p.1∉rs)
 (stay:∀b o,s.heap.get? b=some o->b∉frs X.stack->b∉rs->h'.get? b=some o) (up:s.heap.UpToSlots h'):WR X XG σ H { s with heap:=h',toks:=t' }:=by
 have B:=I.base;have cellK:∀c v,s.heap.IsCell c v->h'.IsCell c v:=fun c v hq_=>by
  obtain⟨o,ho,hd⟩:=hq_;obtain⟨sl,e⟩:=up c o ho fun vs q=>by rw[hd]at q;cases q
  exact⟨_,e,hd⟩
 have nrs:∀b o,X.s₀.heap.get? b=some o->b∉rs:=fun b o e z=>by rw[(hrs b z).1]at e;cases e
 have nst:∀b o,X.s₀.heap.get? b=some o->b∉X.fs->b∉frs X.stack:=fun b o e hb z=>by
  obtain q|q:=zk.mp (I.stkSub b z)
  .exact Wa (Zw (vN e) I.ok.above) (by rw[q];exact ZM _)
  .exact hb q
 refine⟨I.ok,I.os,I.bare,⟨fun b o q n hb hx=>stay b o (B.keep b o q n hb hx) (nst b o q hb) (nrs b o q),fun b o q n hb hx=>?_,fun b o q n hx=>B.free b o q n hx,fun b o q hx=>?_,B.tups,B.frzs,B.tbls⟩,?_,fun x c e=>?_,I.free,I.freeC,fun p hp=>?_,I.noteOk (fun b hb=>(hrs b hb).2) stay,I.len⟩
 .obtain⟨sl,e1⟩:=B.slot b o q n hb hx
  obtain⟨_,o',ho',hd⟩:=I.funs.mem hb;rw[e1]at ho';cases ho';obtain⟨sl',e2⟩:=up b _ e1 hd;exact⟨sl',e2⟩
 .obtain⟨o',e1⟩:=B.there b o q hx
  by_cases hb:b∈frs X.stack
  .obtain⟨_,o2,ho2,hd⟩:=I.stack.mem hb
   obtain⟨sl',e2⟩:=up b _ ho2 hd;exact⟨_,e2⟩
  .exact⟨o',stay b o' e1 hb (nrs b o q)⟩
 .obtain⟨m,hn,hl⟩:=I.loc
  refine⟨m,up.ns hn,fun i x v e1 e2 e3=>?_⟩;obtain⟨u,r,l⟩:=hl i x v e1 e2 e3;refine⟨u,r,?_⟩;obtain l|⟨k,c,e,z⟩:=l
  .exact .inl l
  .exact .inr ⟨k,c,e,cellK c _ z⟩
 .obtain⟨v,z⟩:=I.cell x c e
  exact⟨v,cellK c v z⟩
 .obtain⟨e,n,ne,nf,d⟩:=I.pin p hp
  exact⟨stay p.1 p.2 e (fun z=>(zk.mp (I.stkSub _ z)).elim ne nf) (hpin p hp),n,ne,nf,d⟩
def Cx.Ok.re(ok:X.Ok)(A':WJ)(hf:A'.frames=X.A.frames)(cm:Bool)(hh:cm=true->A'.handled=none)(pn:List (WN × Obj))(xe:WO->WM->Prop):({ X with A:=A',calm:=cm,pn:=pn,xe:=xe }:Cx).Ok:=
 ⟨ok.mod,ok.kind,ok.glob,ok.blt,ok.above,ok.inj,ok.has,ok.cab,hh,hf.trans ok.frames,ok.stk,ok.exf,ok.bs,ok.bsz,ok.noex,ok.exfs,ok.funs,ok.frf⟩
def WR.toPn(I:WR X XG σ H s)(xe:WO->WM->Prop):WR { X with pn:=X.pn++XG,xe:=xe } [] σ H s:=
 ⟨I.ok.re X.A rfl X.calm I.ok.hd _ _,I.os,I.bare,I.base,I.loc,I.cell,I.free,I.freeC,fun p hp=>I.pin p (by rw[Zs]at hp;exact hp),I.hok,I.len⟩
def WR.ofPn(ok:X.Ok)(I:WR { X with pn:=X.pn++XG,xe:=xe } pins' σ H s):WR X XG σ H s:=
 ⟨ok,I.os,I.bare,I.base,I.loc,I.cell,I.free,I.freeC,fun p hp=>I.pin p (uj _ hp),I.hok,I.len⟩
noncomputable abbrev Cx.caught(X:Cx)(e:WN):Cx:={ X with A:=X.A.mark (some (.ref e)),calm:=false,pn:=X.pn,xe:=fun _ _=>False }
def WR.toCaught(I:WR X XG σ H s)(e:WN):WR (X.caught e) XG σ H s:=
 ⟨I.ok.re (X.A.mark (some (.ref e))) rfl false (fun z=>nomatch z) _ _,I.os,I.bare,I.base,I.loc,I.cell,I.free,I.freeC,I.pin,I.hok,I.len⟩
def WR.ofCaught(ok:X.Ok)(I:WR (X.caught e) XG σ H s):WR X XG σ H s:=
 ⟨ok,I.os,I.bare,I.base,I.loc,I.cell,I.free,I.freeC,I.pin,I.hok,I.len⟩
end
def qK{s:WM}{K:Wz}{e C D:WN}{oe:Obj}(X:K.In s.heap)(he:s.heap.get? e=some oe)(hcls:oe.cls = .ref C)
 (hx:PySem.W.exmOne K (.ref C) (.ref D)=some true) (h:Q true s):WH M A (excMatches (.ref e) (.ref D)) Q E s:=
 (PySem.W.exm_one (M:=M) X (hcls ▸ (PySem.W.Looks.ld he).andThen .now) hx).here h
noncomputable def ug(C:WO)(e:WN):HO:=HO.ext fun h=>∃o vs,h.get? e=some o/\o.cls=C/\o.data = .fields vs/\vs[2]? = some .none
end L2
namespace L2
open PySem PySem.Spec PyProof.Rows PySem.W
inductive yt:V->WO->Prop where
 |ty (n:String):yt (.ty n) (.type n)
 |own (a:WN):yt (.ref a) (.ref a)
section
variable{X:Cx}
def uH:WT X (.builtin "isinstance") (fun xs H Q=>∃x c t u b,xs=[x,c]/\yt c u/\jq X.K H x t/\Yt X.K t u=some b/\Q (.bl b) H):=by
 intro XG s σ H xs us Q I r h;obtain⟨x,c,t,u,b,rfl,rc,ty,e,q⟩:=h;obtain⟨ux,uc,rfl,rx,rc'⟩:=xJ r;have ec:uc=u:=by
  cases rc with
  |ty n=>exact rc'
  |own a=>exact rc'
 subst ec;exact yD I rx ty e fun tk=>⟨.bl b,H,I.tok _,rfl,q⟩
end
structure fm(K:Frag)(C:WN):Prop where
 l1:findIn K (.ref C) "__getattribute__" = some (some (.builtin "BaseException.__getattribute__"))
 l2:findIn K (.ref C) "__getattr__" = some none
 l3:findIn K (.ref C) "__class__" = some (some (.builtin "object.__class__"))
 c1:(clsIn K C).isSome=true
 m1:mroIn K C (.type "object")=some true
 m2:mroIn K C (.type "BaseException")=some true
section
variable{prog:WL}{w:WK}{A:WJ}{E:WO->WM->Prop}{K:Frag}{e C:WN}{o:Obj}{s:WM}
open Builtin Builtin.ObjectAttr Builtin.Getset_descriptor PySem.Calls in
def o6(X:K.In s.heap)(Z:fm K C)(hx:s.heap.get? e=some o)(hc:o.cls = .ref C)
 (h:R (.ok (.ret (.ref C))) s):codeAny (WG prog w) A (.call (.builtin "getset_descriptor.__get__") ⟨[.builtin "object.__class__",.ref e,tp],[]⟩) R s:=by
 obtain⟨hh,g,dr,t,os⟩:=s;have L0:Looks (WG prog w) hh (typeOf (.ref e)) (.ref C):=hc ▸ (Looks.ld hx).andThen .now;have L1:=looks_mroIn (M:=WG prog w) X Z.m1;refine codeAny_call_builtin KF.slot_gs.plain KF.entry_gs (KF.slot_gs.check _ _ _ _ _ _ _ _ KF.type_class (KF.args_gs _ _ _) ?_);unfold Builtin.«getset_descriptor.__get__» descrGet;rw[dga_obj];refine zv (yy ?_);unfold descrGetter descrCheckInstance descrNameAndClass isInstance;simp only[KF.owner_class]
 repeat lk
 refine⟨Code.quiet_builtin _ (by decide +kernel),codeAny_builtin KF.entry_class ?_⟩;unfold Builtin.«object.__class__» shownTypeOf
 repeat lk
 exact h
def rQ(X:K.In s.heap)(Z:fm K C)(hx:s.heap.get? e=some o)(hc:o.cls = .ref C)(hq:Q () s) :
 WH M A (checkBuiltinCall "BaseException.__getattribute__" ⟨[.ref e,nameV],[]⟩) Q E s:=by
 have hk:builtinKind "BaseException.__getattribute__" = some .slot:=by decide +kernel
 have hsplit:splitId "BaseException.__getattribute__" = some ("BaseException","__getattribute__"):=by decide +kernel
 have ha:=F.args_bexc_ga (.ref e) nameV;obtain⟨hh,g,dr,t,os⟩:=s;have L0:Looks M hh (typeOf (.ref e)) (.ref C):=hc ▸ (Looks.ld hx).andThen .now;have L1:=looks_mroIn (M:=M) X Z.m2;have LI:Looks M hh (isInstance (.ref e) (.type "BaseException")) true:=L0.andThen L1;simp only[checkBuiltinCall,hk,hsplit];refine zv (LI.at ?_)
 repeat (first|assumption|wp_step)
def rX(X:K.In s.heap)(Z:fm K C)(hx:s.heap.get? e=some o)(hc:o.cls = .ref C)(hq:Q (.done (.ret (.ref C))) s) :
 WH (WG prog w) A (Builtin.«object.__getattribute__» ⟨[.ref e,.str "__class__" tk],[]⟩) Q E s:=by
 obtain⟨hh,g,dr,t,os⟩:=s;have L0:Looks (WG prog w) hh (typeOf (.ref e)) (.ref C):=hc ▸ (Looks.ld hx).andThen .now;have L3:=looks_findIn (M:=WG prog w) X Z.l3;have f5:=KF.type_class;have f6:=F.slot_gs_get.lookup;have f7:=F.slot_gs_set.lookup
 repeat (any_goals (first|assumption|with_reducible refine L0.at ?_|with_reducible refine L3.at ?_|wp_step))
 refine o6 X Z hx hc ?_
 repeat (any_goals (first|assumption|wp_step))
def n_(X:K.In s.heap)(Z:fm K C)(hx:s.heap.get? e=some o)(hc:o.cls = .ref C)(h:Q (some (.ref C)) { s with toks:=s.toks+1 }) :
 WH (WG prog w) A (getAttr? (.ref e) "__class__") Q E s:=by
 obtain⟨hh,g,dr,t,os⟩:=s;have L0:Looks (WG prog w) hh (typeOf (.ref e)) (.ref C):=hc ▸ (Looks.ld hx).andThen .now;have L1:=looks_findIn (M:=WG prog w) X Z.l1;have L2:=looks_findIn (M:=WG prog w) X Z.l2;have f3:=F.excAttr_ValueError.ga.bind (.ref e);have hx2:(Value.builtin "BaseException.__getattribute__" == Value.builtin "object.__getattribute__")=false:=by decide +kernel
 have hx0:∀ex:Bool,(ex&&onTheHeap (Value.builtin "BaseException.__getattribute__"))=false:=fun ex=>by cases ex <;> rfl
 have hx1:(onTheHeap (vv C)&&Value.builtin "BaseException.__getattribute__" == Value.builtin "object.__getattribute__")=false:=by rw[hx2];rfl
 unfold getAttr?
 repeat (any_goals (first|assumption|with_reducible refine L0.at ?_|with_reducible refine L1.at ?_|with_reducible refine L2.at ?_|wp_step))
 refine codeAny_call_builtin F.excAttr_ValueError.ga.plain F.entry_bexc_ga (rQ X Z hx hc (rX X Z hx hc ?_))
 repeat (any_goals (first|assumption|wp_step))
def Au(Z:fm K C):KitX K (.ref e) (.ref C) (fun h=>∃o,h.get? e=some o/\o.cls = .ref C) where
 ty:=fun M h _ hq_=>(by obtain⟨o,h1,h2⟩:=hq_;exact h2 ▸ (Looks.ld h1).andThen .now)
 it:=fun M h X _=>by
  have c1:=Z.c1;unfold clsIn at c1;split at c1
  .rename_i c' d' cd' sl' ho
   intro A' Q' E' s' k q;unfold isType loadHead;exact zv (wpAny_loadPart (k _ _ (X _ _ ho)) (yy q))
  .cases c1
 ne:=fun h tp dd XC n sl X htp=>by
  refine Bool.eq_false_iff.mpr fun q=>?_;have e':C=tp:=vv.inj (beq_iff_eq.mp q);subst e';have c1:=Z.c1;unfold clsIn at c1;split at c1
  .rename_i c' d' cd' sl' ho
   have z:=(X _ _ ho).symm.trans htp;cases z
  .cases c1
 ca:=fun X hq_ k=>(by obtain⟨o,h1,h2⟩:=hq_;exact n_ X Z h1 h2 k)
end
section
variable{X:Cx}
def qH:WT X (.builtin "isinstance") (fun xs H Q=>∃e c C u b,xs=[.ref e,c]/\yt c u/\H e=some (ug (.ref C) e)/\fm X.K C/\Yt X.K (.ref C) u=some b/\Q (.bl b) H):=by
 intro XG s σ H xs us Q I r h;obtain⟨e,c,C,u,b,rfl,rc,he,Z,k,q⟩:=h;obtain⟨ux,uc,rfl,rx,rc'⟩:=xJ r;have ec:uc=u:=by
  cases rc with
  |ty n=>exact rc'
  |own a=>exact rc'
 subst ec;cases (show ux=vv e from rx);obtain⟨⟨o,vs,h1,h2,_⟩,_,_⟩:=(show WV X.prog X.w H s.heap e (ug (.ref C) e) from I.hok e _ he);exact kia_one (Au Z) I.kIn ⟨o,h1,h2⟩ k (fun z=>nomatch z) fun tk=>⟨.bl b,H,I.tok _,rfl,q⟩
def qQ(hc:X.calm=true):WT X (.builtin "sum") (fun xs H Q=>∃(p:WN) (ns:List Int),xs=[.ref p]/\SqT X.K H p (ns.map V.int)/\Q (.int ns.sum) H):=by
 intro XG s σ H xs us Q I r h;obtain⟨p,ns,rfl,hq,q⟩:=h;obtain⟨u,rfl,rx⟩:=dI r;cases (show u=vv p from rx);obtain⟨XC,r',pl,hz⟩:=I.tuple hq;have hi:=nR r';obtain⟨ys,hy⟩:=hi.allInts.items;have hn:numsOf XC.toArray.toList=ns:=by rw[show XC.toArray.toList=XC from rfl,hi.numsOf]
 rw[hy]at pl hn;rw[nums_intItems]at hn;refine ktm_sumG (I.ok.hd hc) pl fun h' tk t' hk=>?_;rw[preSum_eq,Zm (by simp),hn];exact⟨.int ns.sum,H,I.kept hk,⟨_,rfl⟩,q⟩
end
end L2
namespace L2
open PySem PySem.Spec PyProof.Rows
section
variable{X:Cx}{a b:Expr}{ta:TE}
noncomputable def Gn(xs ys:List V):Bool:=(lq (min xs.length ys.length)).all (fun j=>eqV (xs.getD j .non) (ys.getD j .non))&&xs.length==ys.length
def C1(K:Wz)(neg:Bool):R2:=fun x y H Q=>∃p p' xs ys,x = .ref p/\y = .ref p'/\SqT K H p xs/\SqT K H p' ys/\xs.all dB=true/\ys.all dB=true/\Q (.bl (neg ^^ Gn xs ys)) H
def oa(r:WW xs us)(r':WW ys vs)(fx:xs.all dB=true)(fy:ys.all dB=true)(j:Nat)(h1:j<us.toArray.size)(h2:j<vs.toArray.size) :
 SeqAt.EqAt A s us.toArray[j] vs.toArray[j] (eqV (xs.getD j .non) (ys.getD j .non)):=by
 have e1:us[j]? = some us.toArray[j]:=by simp at h1;simp[h1]
 have e2:vs[j]? = some vs.toArray[j]:=by simp at h2;simp[h2]
 have l1:j<xs.length:=by rw[r.length];simpa using h1
 have l2:j<ys.length:=by rw[r'.length];simpa using h2
 have g1:xs[j]? = some (xs.getD j .non):=by simp[List.getD,l1]
 have g2:ys[j]? = some (ys.getD j .non):=by simp[List.getD,l2]
 obtain⟨u,hu,ru⟩:=r.get g1;obtain⟨v,hv,rv⟩:=r'.get g2;rw[e1]at hu;rw[e2]at hv;rw[Zt hu,Zt hv];exact vA ru rv (Zv.mp fx _ (wt g1)) (Zv.mp fy _ (wt g2))
def Hm(hu:X.A.units<cLine):OpR X (Zl .Eq) (C1 X.K false):=by
 intro XG s σ H x y v u Q I rx ry h;obtain⟨p,p',xs,ys,rfl,rfl,hx,hy,fx,fy,q⟩:=h;cases (show v=vv p from rx);cases (show u=vv p' from ry);obtain⟨XC,r,pl,hz⟩:=I.tuple hx;obtain⟨its',r',pl',hz'⟩:=I.tuple hy;refine SeqAt.eq_tupleAt pl pl' hu (fun j h1 h2=>oa r r' fx fy j h1 h2) ⟨.bl _,H,I,rfl,?_⟩;rw[yN,yN,<- r.length,<- r'.length]
 simpa [Gn] using q
def F_(hu:X.A.units<cLine):OpR X (Zl .NotEq) (C1 X.K true):=by
 intro XG s σ H x y v u Q I rx ry h;obtain⟨p,p',xs,ys,rfl,rfl,hx,hy,fx,fy,q⟩:=h;cases (show v=vv p from rx);cases (show u=vv p' from ry);obtain⟨XC,r,pl,hz⟩:=I.tuple hx;obtain⟨its',r',pl',hz'⟩:=I.tuple hy;refine SeqAt.RcNeAt.tuples pl pl' hu (fun j h1 h2=>oa r r' fx fy j h1 h2) X.prog X.w X.xe _ ⟨.bl _,H,I,rfl,?_⟩;rw[yN,yN,<- r.length,<- r'.length]
 simpa [Gn] using q
def FT(hu:X.A.units<cLine):OpR X (Zl .Eq) (fun x y H Q=>rEq x y H Q\/C1 X.K false x y H Q):=JV.or (Hm hu)
def HI(hu:X.A.units<cLine):OpR X (Zl .NotEq) (fun x y H Q=>rNe x y H Q\/C1 X.K true x y H Q):=Jw.or (F_ hu)
def zr:WT X (.builtin "isinstance") (fun xs H Q=>(∃x c t u b,xs=[x,c]/\yt c u/\jq X.K H x t/\Yt X.K t u=some b/\Q (.bl b) H) \/
 ∃e c C u b,xs=[.ref e,c]/\yt c u/\H e=some (ug (.ref C) e)/\fm X.K C/\Yt X.K (.ref C) u=some b/\Q (.bl b) H):=uH.or qH
end
noncomputable abbrev T(l:List Nat):V:=.str ⟨⟨l⟩⟩
noncomputable def cs(x:Str):List Nat:=x.cps.toList
def J_(x:Str):V.str x=T (cs x):=rfl
section
variable{X:Cx}{e a b c:Expr}{pos:Pos}
def PE.imp(h:PE X e t)(i:∀σ H Q,t' σ H Q->t σ H Q):PE X e t':=fun XG s σ H Q I q=>h XG s σ H Q I (i σ H Q q)
def OpR.imp(h:OpR X f r)(i:∀x y H Q,r' x y H Q->r x y H Q):OpR X f r':=fun XG s σ H x y v u Q I rx ry q=>h XG s σ H x y v u Q I rx ry (i _ _ _ _ q)
def UnR.imp(h:UnR X f r)(i:∀x H Q,r' x H Q->r x H Q):UnR X f r':=fun XG s σ H x v Q I rx q=>h XG s σ H x v Q I rx (i _ _ _ q)
def WT.imp(h:WT X f r)(i:∀x H Q,r' x H Q->r x H Q):WT X f r':=fun XG s σ H x v Q I rx q=>h XG s σ H x v Q I rx (i _ _ _ q)
def IxR.imp(h:IxR X r)(i:∀x y H Q,r' x y H Q->r x y H Q):IxR X r':=fun va sl XG s σ H x y v u Q I rx ry q hs=>h va sl XG s σ H x y v u Q I rx ry (i _ _ _ _ q) hs
def tY(i:Nat):TE:=fun σ H Q=>match σ[i]? with
 |some (some v)=>Q v H
 |_=>False
def fv(i:Nat)(hN:X.N[i]? = some x:=by rfl)(hv:Vis X.env.scope x:=by first|exact Wi rfl|exact Wh (Wi rfl)|exact Wh (Wh rfl))(hd:(x==("__debug__":Str))=false:=by decide)
 (hcd:(x==("__classdict__":Str))=false:=by decide):PE X (.Name x pos) (tY i):=(Gm hN hv hd hcd).imp fun σ H Q h=>by
 unfold tY at h;split at h
 .exact⟨_,by assumption,h⟩
 .exact h.elim
def ak{j}(l:List Nat)(h:x=⟨⟨l⟩⟩:=by decide +kernel):PE X (.Constant (.str x) j pos) (tC (T l)):=h ▸ Cs
def Ir:R2
 | .int i,.int j,H,Q=>Q (.int (i+j)) H
 | .str i,.str j,H,Q=>(cs i).length+(cs j).length<=WI/\Q (T (cs i++cs j)) H
 |_,_,_,_=>False
def Hw(i j:Str):V.str (i++j)=T (cs i++cs j):=by
 show V.str ⟨i.cps++j.cps⟩=V.str ⟨⟨i.cps.toList++j.cps.toList⟩⟩
 congr 1
 congr 1
 exact(Array.ext' (by simp))
def aT:OpR X (binaryOp .Add) Ir:=(FJ.or vU).imp fun x y H Q h=>by
 cases x with
 |int _=>
  cases y with
  |int _=>exact .inl ⟨_,_,rfl,rfl,h⟩
  |_=>exact XH h
 |str _=>
  cases y with
  |str _=>
   refine .inr ⟨_,_,rfl,rfl,by simpa [cs,Yo] using h.1,?_⟩;rw[Hw];exact h.2
  |_=>exact XH h
 |_=>exact XH h
def gI(g:Int->Int->V):R2
 | .int i,.int j,H,Q=>Q (g i j) H
 |_,_,_,_=>False
def gIC(C:Int->Int->Prop)(g:Int->Int->V):R2
 | .int i,.int j,H,Q=>C i j/\Q (g i j) H
 |_,_,_,_=>False
def EN:∀x y H Q,gI g x y H Q->rI0 g x y H Q:=fun x y H Q h=>by
 cases x with
 |int _=>
  cases y with
  |int _=>exact⟨_,_,rfl,rfl,h⟩
  |_=>exact XH h
 |_=>exact XH h
def qx:∀x y H Q,gIC C g x y H Q->rI C g x y H Q:=fun x y H Q h=>by
 cases x with
 |int _=>
  cases y with
  |int _=>exact⟨_,_,rfl,rfl,h.1,h.2⟩
  |_=>exact XH h
 |_=>exact XH h
def fh:OpR X (binaryOp .Sub) (gI fun i j=>.int (i-j)):=Ga.imp EN
def dt:OpR X (binaryOp .Mult) (gIC CMul fun i j=>.int (i*j)):=HE.imp qx
def ba:OpR X (binaryOp .Mod) (gIC (fun _ j=>0<j) fun i j=>.int (i % j)):=Hn.imp qx
def a8:OpR X (binaryOp .FloorDiv) (gIC HQ fun i j=>.int (i / j)):=DP.imp qx
def rA:OpR X (binaryOp .Pow) (gIC FQ fun i j=>.int (i ^ j.toNat)):=Fj.imp qx
def Gs:V->Hp->VK->Prop
 | .int i,H,Q=>Q (.int (-i)) H
 |_,_,_=>False
def jk:UnR X (unaryOp .USub) Gs:=Hc.imp fun x H Q h=>by
 cases x with
 |int _=>exact⟨_,rfl,h⟩
 |_=>exact XH h
noncomputable def leN(a b:List Nat):Bool:=!decide (b<a)
def yl:OpR X (Zl .LtE) (fun x y H Q=>∃i j,x = .str i/\y = .str j/\Q (.bl (leN (cs i) (cs j))) H):=by
 intro XG s σ H x y v u Q I rx ry h;obtain⟨i,j,rfl,rfl,q⟩:=h;obtain⟨t,rfl⟩:=rx;obtain⟨t',rfl⟩:=ry;exact PySem.P.le_str ⟨.bl _,H,I,rfl,q⟩
def gLe:R2
 | .int i,.int j,H,Q=>Q (.bl (decide (i<=j))) H
 | .str i,.str j,H,Q=>Q (.bl (leN (cs i) (cs j))) H
 |_,_,_,_=>False
def dX:OpR X (Zl .LtE) gLe:=(JL.or yl).imp fun x y H Q h=>by
 cases x with
 |int _=>
  cases y with
  |int _=>exact .inl ⟨_,_,rfl,rfl,h⟩
  |_=>exact XH h
 |str _=>
  cases y with
  |str _=>exact .inr ⟨_,_,rfl,rfl,h⟩
  |_=>exact XH h
 |_=>exact XH h
def gLt:R2
 | .int i,.int j,H,Q=>Q (.bl (decide (i<j))) H
 | .str i,.str j,H,Q=>Q (.bl (decide (cs i<cs j))) H
 |_,_,_,_=>False
def pU:OpR X (Zl .Lt) gLt:=(J5.or yj).imp fun x y H Q h=>by
 cases x with
 |int _=>
  cases y with
  |int _=>exact .inl ⟨_,_,rfl,rfl,h⟩
  |_=>exact XH h
 |str _=>
  cases y with
  |str _=>exact .inr ⟨_,_,rfl,rfl,h⟩
  |_=>exact XH h
 |_=>exact XH h
def uy:OpR X (Zl .Gt) (gI fun i j=>.bl (decide (j<i))):=Im.imp EN
noncomputable def eqS:V->V->Option Bool
 | .int i,.int j=>some (decide (i=j))
 | .bl i,.bl j=>some (decide (i=j))
 | .str i,.str j=>some (decide (cs i=cs j))
 | .non,.non=>some true
 | .non,.int _=>some false | .int _,.non=>some false | .non,.bl _=>some false | .bl _,.non=>some false | .non,.str _=>some false | .str _,.non=>some false
 | .int _,.str _=>some false | .str _,.int _=>some false | .bl _,.str _=>some false | .str _,.bl _=>some false
 |_,_=>none
def wx(i j:Str):V.str i=V.str j↔cs i=cs j:=by
 constructor
 .intro h;injection h with h;rw[h]
 .intro h
  congr 1
  obtain⟨⟨a⟩⟩:=i;obtain⟨⟨b⟩⟩:=j;have h':a=b:=h;rw[h']
def uK(h:eqS x y=some k):Ft x y=true/\decide (x=y)=k:=by
 cases x with
 |int i=>
  cases y with
  |int j=>cases h;exact⟨rfl,decide_eq_decide.mpr (by simp)⟩
  |non=>cases h;exact⟨rfl,rfl⟩
  |str j=>cases h;exact⟨rfl,rfl⟩
  |_=>cases h
 |bl i=>
  cases y with
  |bl j=>cases h;exact⟨rfl,decide_eq_decide.mpr (by simp)⟩
  |non=>cases h;exact⟨rfl,rfl⟩
  |str j=>cases h;exact⟨rfl,rfl⟩
  |_=>cases h
 |str i=>
  cases y with
  |str j=>cases h;exact⟨rfl,decide_eq_decide.mpr (wx i j)⟩
  |non=>cases h;exact⟨rfl,rfl⟩
  |int j=>cases h;exact⟨rfl,rfl⟩
  |bl j=>cases h;exact⟨rfl,rfl⟩
  |_=>cases h
 |non=>
  cases y with
  |non=>cases h;exact⟨rfl,rfl⟩
  |int j=>cases h;exact⟨rfl,rfl⟩
  |bl j=>cases h;exact⟨rfl,rfl⟩
  |str j=>cases h;exact⟨rfl,rfl⟩
  |_=>cases h
 |_=>cases h
variable{ta tb tc:TE}{rest:List Expr}
def kB(Q:Bool->Hp->Prop):VK:=fun x H=>match x with
 | .bl k=>Q k H
 |_=>False
def qh(t:TE):TT:=fun σ H Q=>t σ H (kB Q)
def j8(h:kB Q x H):∃k,x = .bl k/\Q k H:=by
 cases x with
 |bl _=>exact⟨_,rfl,h⟩
 |_=>exact XH h
def oU(ho:OpR X (Zl op) r)(ha:PE X a ta)(hb:PE X b tb)(hm:Yd op b=false):PT X (.Compare a [op] [b] pos) (qh (tOp r ta tb)):=by
 intro XG s σ H Q I h;refine wpAny_isTrue_Compare1 (thn (ha XG s σ H _ I h) fun v s1 ⟨x,H1,I1,r1,q1⟩=>thn (hb XG s1 σ H1 _ I1 q1) fun u s2 ⟨y,H2,I2,r2,q2⟩=>
  thn (ho XG s2 σ H2 x y v u _ I2 r1 r2 q2) fun c s3 ⟨z,H3,I3,r3,q3⟩=>?_) hm
 obtain⟨k,e,q3⟩:=j8 q3;subst e;cases r3;exact Ze ⟨H3,I3,q3⟩
def jd(h:PC X op a b t)(h1:Yd op b=false:=by first|exact sQ _ (by decide) (by decide)|rfl):PT X (.Compare a [op] [b] pos) (qh t):=by
 intro XG s σ H Q I hw;refine wpAny_isTrue_Compare1 (thn (h XG s σ H _ I hw) fun v s1 h1=>thn h1 fun u s2 h2=>thn h2 fun c s3 hq_=>?_) h1;obtain⟨x,H1,I1,r1,q1⟩:=hq_;obtain⟨d,rfl,q⟩:=j8 q1;cases r1;exact Ze ⟨H1,I1,q⟩
def bz(h:PE X e t)(he:∀whole,isTrue e X.env whole=(do let v <- whole;standAt e.pos;holding [v] (truthy v)):=by intro _;rfl):PT X e (qh t):=by
 intro XG s σ H Q I hw;refine isTrue_plain (thn (h XG s σ H _ I hw) fun v s1 hq_=>?_) (he _);obtain⟨x,H1,I1,r1,q1⟩:=hq_;obtain⟨d,rfl,q⟩:=j8 q1;cases r1;exact Ze ⟨H1,I1,q⟩
def v4(r r':R2)(ta tb tc:TE):TE:=fun σ H Q=>ta σ H fun x H1=>tb σ H1 fun y H2=>r x y H2 (kB fun k H3=>if k=true then tc σ H3 fun w' H4=>r' y w' H4 Q else Q (.bl false) H3)
def jC(ho:OpR X (Zl op) r)(ho':OpR X (Zl op') r')(ha:PE X a ta)(hb:PE X b tb)(hc:PE X c tc)
 (hm:lastMarks [op,op'] [b,c]=false:=by with_unfolding_all rfl):PE X (.Compare a [op,op'] [b,c] pos) (v4 r r' ta tb tc):=by
 intro XG s σ H Q I h;refine Compare_chain (thn (ha XG s σ H _ I h) fun v s1 ⟨x,H1,I1,r1,q1⟩=>chain_link (thn (hb XG s1 σ H1 _ I1 q1) fun u s2 ⟨y,H2,I2,r2,q2⟩=>
  thn (ho XG s2 σ H2 x y v u _ I2 r1 r2 q2) fun d s3 ⟨z,H3,I3,r3,q3⟩=>?_)) hm
 obtain⟨k,e,q3⟩:=j8 q3;subst e;cases r3;refine Ze ?_;cases k with
 |false=>exact ite_ff ⟨.bl false,H3,I3,rfl,q3⟩
 |true=>exact ite_tt (chain_last (thn (hc XG s3 σ H3 _ I3 q3) fun w' s4 hq_=>(by obtain⟨z',H4,I4,r4,q4⟩:=hq_;exact ho' XG s4 σ H4 y z' u w' Q I4 r2 r4 q4)))
def nK(ho:OpR X (Zl op) r)(ho':OpR X (Zl op') r')(ha:PE X a ta)(hb:PE X b tb)(hc:PE X c tc)
 (hm:lastMarks [op,op'] [b,c]=false:=by with_unfolding_all rfl):PT X (.Compare a [op,op'] [b,c] pos) (qh (v4 r r' ta tb tc)):=by
 intro XG s σ H Q I h;refine isTrue_chain (thn (ha XG s σ H _ I h) fun v s1 ⟨x,H1,I1,r1,q1⟩=>test_link (thn (hb XG s1 σ H1 _ I1 q1) fun u s2 ⟨y,H2,I2,r2,q2⟩=>
  thn (ho XG s2 σ H2 x y v u _ I2 r1 r2 q2) fun d s3 ⟨z,H3,I3,r3,q3⟩=>?_)) hm
 obtain⟨k,e,q3⟩:=j8 q3;subst e;cases r3;refine Ze ?_;cases k with
 |false=>exact ite_ff ⟨H3,I3,q3⟩
 |true=>
  refine ite_tt (test_last (thn (hc XG s3 σ H3 _ I3 q3) fun w' s4 ⟨z',H4,I4,r4,q4⟩=>thn (ho' XG s4 σ H4 y z' u w' _ I4 r2 r4 q4) fun d' s5 hq_=>?_));obtain⟨z2,H5,I5,r5,q5⟩:=hq_;obtain⟨k2,e2,q5⟩:=j8 q5;subst e2;cases r5;exact Ze ⟨H5,I5,q5⟩
def Jz(ta tb:TE):TE:=fun σ H Q=>ta σ H (kB fun c H1=>if c=true then tb σ H1 Q else Q (.bl false) H1)
def fOr(ta tb:TE):TE:=fun σ H Q=>ta σ H (kB fun c H1=>if c=true then Q (.bl true) H1 else tb σ H1 Q)
def IO(ta:TE):TE:=fun σ H Q=>ta σ H (kB fun c H1=>Q (.bl (!c)) H1)
def cZ(ha:PE X a ta)(hb:PE X (.BoolOp .And (b::rest) pos) tb):PE X (.BoolOp .And (a::b::rest) pos) (Jz ta tb):=by
 intro XG s σ H Q I h;refine BoolOp_and (thn (ha XG s σ H _ I h) fun v s1 hq_=>?_);obtain⟨x,H1,I1,r1,q1⟩:=hq_;obtain⟨c,rfl,q1⟩:=j8 q1;cases r1;refine Ze ?_;cases c with
 |true=>exact hb XG s1 σ H1 Q I1 q1
 |false=>exact⟨.bl false,H1,I1,rfl,q1⟩
def Cf(ha:PE X a ta)(hb:PE X (.BoolOp .Or (b::rest) pos) tb):PE X (.BoolOp .Or (a::b::rest) pos) (fOr ta tb):=by
 intro XG s σ H Q I h;refine BoolOp_or (thn (ha XG s σ H _ I h) fun v s1 hq_=>?_);obtain⟨x,H1,I1,r1,q1⟩:=hq_;obtain⟨c,rfl,q1⟩:=j8 q1;cases r1;refine Ze ?_;cases c with
 |false=>exact hb XG s1 σ H1 Q I1 q1
 |true=>exact⟨.bl true,H1,I1,rfl,q1⟩
def zT(ha:PE X a ta):PE X (.UnaryOp .Not a pos) (IO ta):=by
 intro XG s σ H Q I h;refine UnaryOp_ (thn (ha XG s σ H _ I h) fun v s1 hq_=>?_);obtain⟨x,H1,I1,r1,q1⟩:=hq_;obtain⟨c,rfl,q1⟩:=j8 q1;cases r1;exact not_of (Ze ⟨.bl (!c),H1,I1,rfl,q1⟩)
def KB:List V->Hp->VK->Prop
 | [.int i],H,Q=>Q (.int (if i<0 then -i else i)) H
 |_,_,_=>False
def Jq:List V->Hp->VK->Prop
 | [.int i,.int j],H,Q=>Q (.int (if j<i then j else i)) H
 |_,_,_=>False
def GC(hc:X.calm=true):WT X (.builtin "min") Jq:=(xX hc).imp fun x H Q h=>by
 obtain _|⟨i,x⟩:=x
 .exact XH h
 cases i with
 |int i=>
  obtain _|⟨j,x⟩:=x
  .exact XH h
  cases j with
  |int j=>
   cases x with
   |nil=>exact⟨_,_,rfl,h⟩
   |cons=>exact XH h
  |_=>exact XH h
 |_=>exact XH h
def IW:List V->Hp->VK->Prop
 | [.int i,.int j],H,Q=>Q (.int (if j > i then j else i)) H
 |_,_,_=>False
def F6(hc:X.calm=true):WT X (.builtin "max") IW:=(yh hc).imp fun x H Q h=>by
 obtain _|⟨i,x⟩:=x
 .exact XH h
 cases i with
 |int i=>
  obtain _|⟨j,x⟩:=x
  .exact XH h
  cases j with
  |int j=>
   cases x with
   |nil=>exact⟨_,_,rfl,h⟩
   |cons=>exact XH h
  |_=>exact XH h
 |_=>exact XH h
def Fm(K:Wz):List V->Hp->VK->Prop
 | [.str y],H,Q=>(cs y).length<=WI/\Q (.int (cs y).length) H
 | [.ref p],H,Q=>∃xs,(SqL K H p xs\/SqT K H p xs)/\Q (.int xs.length) H
 |_,_,_=>False
def GI:WT X (.builtin "len") (Fm X.K):=Ck.imp fun x H Q h=>by
 obtain _|⟨i,x⟩:=x
 .exact XH h
 cases i with
 |str y=>
  cases x with
  |nil=>exact⟨_,_,rfl,⟨by simpa [cs,Yo] using h.1,rfl⟩,by simpa [cs,Yo] using h.2⟩
  |cons=>exact XH h
 |ref p=>
  cases x with
  |nil=>
   obtain⟨xs,hx,q⟩:=h;obtain hx|hx:=hx
   .exact⟨_,_,rfl,.inl ⟨xs,hx,rfl⟩,q⟩
   .exact⟨_,_,rfl,.inr ⟨xs,hx,rfl⟩,q⟩
  |cons=>exact XH h
 |_=>exact XH h
noncomputable def c_(H:Hp):V->Option String
 | .non=>some "NoneType"
 | .bl _=>some "bool"
 | .int _=>some "int"
 | .str _=>some "str"
 | .ref p=>match H p with
  |some (.lst _)=>some "list"
  |some (.frz _ (.lst _))=>some "list"
  |some (.tup _)=>some "tuple"
  |some (.dK _)=>some "dict"
  |_=>none
 |_=>none
noncomputable def cD(t n:String):Bool:=t==n || (t == "bool" && n == "int")
def ik(t:String):Prop:=t = "NoneType" \/ t = "bool" \/ t = "int" \/ t = "str" \/ t = "list" \/ t = "tuple" \/ t = "dict"
def Ju{K:Wz}{t n:String}(h:ik t)(hn:n = "int" \/ n = "bool" \/ n = "str" \/ n = "list" \/ n = "tuple" \/ n = "dict"):Yt K (.type t) (.type n)=some (cD t n):=by
 obtain rfl|rfl|rfl|rfl|rfl|rfl|rfl:=h <;> obtain rfl|rfl|rfl|rfl|rfl|rfl:=hn <;> kernel_rfl
def sK{K:Wz}{H:Hp}{x:V}{t:String}(h:c_ H x=some t):jq K H x (.type t)/\ik t:=by
 unfold c_ at h;split at h
 .cases h;exact⟨.non,by simp[ik]⟩
 .cases h;exact⟨.bl _,by simp[ik]⟩
 .cases h;exact⟨.int _,by simp[ik]⟩
 .cases h;exact⟨.str _,by simp[ik]⟩
 .split at h
  .rename_i e;cases h;exact⟨.lst e,by simp[ik]⟩
  .rename_i e;cases h;exact⟨.frz e,by simp[ik]⟩
  .rename_i e;cases h;exact⟨.tup e,by simp[ik]⟩
  .rename_i e;cases h;exact⟨.dK e,by simp[ik]⟩
  .cases h
 .cases h
noncomputable def uM(n:String):Bool:=n == "int" || n == "bool" || n == "str" || n == "list" || n == "tuple" || n == "dict"
def DB(K:Wz):List V->Hp->VK->Prop
 | [x,.ty n],H,Q=>(match c_ H x with
  |some t=>uM n=true/\Q (.bl (cD t n)) H
  |none=>∃e C b,x = .ref e/\H e=some (ug (.ref C) e)/\fm K C/\Yt K (.ref C) (.type n)=some b/\Q (.bl b) H)
 | [.ref e,.ref D],H,Q=>∃C b,H e=some (ug (.ref C) e)/\fm K C/\Yt K (.ref C) (.ref D)=some b/\Q (.bl b) H
 |_,_,_=>False
def FX:WT X (.builtin "isinstance") (DB X.K):=zr.imp fun xs H Q h=>by
 unfold DB at h;split at h
 .rename_i x n
  split at h
  .rename_i t ht
   obtain⟨ty,hb⟩:=sK (K:=X.K) ht;obtain⟨hn,q⟩:=h;refine .inl ⟨x,_,_,_,_,rfl,.ty n,ty,Ju hb ?_,q⟩
   simpa [uM,or_assoc] using hn
  .obtain⟨e,C,b,rfl,he,Z,k,q⟩:=h
   exact .inr ⟨e,_,C,_,b,rfl,.ty n,he,Z,k,q⟩
 .rename_i e D
  obtain⟨C,b,he,Z,k,q⟩:=h;exact .inr ⟨e,_,C,_,b,rfl,.own D,he,Z,k,q⟩
 .exact h.elim
end
section
variable{X:Cx}{a b:Expr}{ta tb:TE}{pos pos':Pos}
def gIx(K:Wz):R2
 | .str z,.int i,H,Q=>(cs z).length<=WI/\(match atI (cs z) i with
  |some c=>Q (T [c]) H
  |none=>False)
 | .ref p,.int i,H,Q=>∃xs v,(SqL K H p xs\/SqT K H p xs)/\atI xs i=some v/\Q v H
 |_,_,_,_=>False
def Gk:IxR X (gIx X.K):=Fx.imp fun x y H Q h=>by
 unfold gIx at h;split at h
 .obtain⟨hz,h⟩:=h
  split at h
  .rename_i c hc
   exact .inr (.inr ⟨_,_,c,rfl,rfl,by simpa [cs,Yo] using hz,hc,h⟩)
  .exact h.elim
 .obtain⟨xs,v,hs|hs,hv,q⟩:=h
  .exact .inl ⟨_,xs,_,v,rfl,rfl,hs,hv,q⟩
  .exact .inr (.inl ⟨_,xs,_,v,rfl,rfl,hs,hv,q⟩)
 .exact h.elim
def oF(xs:List V)(H H1:Hp)(Q:VK):V->Prop
 | .int i=>(match atI xs i with
  |some (.ref q)=>H q=none/\(match H1 q with
   |some o=>jx o=true/\Q (.ref q) (upd H q o)
   |none=>False)
  |some v=>Q v H
  |none=>False)
 |_=>False
def zX(ta:TA)(ti:TE):TE:=fun σ H Q=>WS H/\ta σ H fun xs H1=>XA H H1/\xs.length<=WI/\∀p,H1 p=none->ti σ (upd H1 p (.lst xs)) fun y H2=>H2=upd H1 p (.lst xs)/\oF xs H H1 Q y
def A3(s:XA H H1)(hp:H1 p=none)(h:oF xs H H1 Q y):∃i v G,y = .int i/\atI xs i=some v/\Gc H G (upd H1 p o)/\Q v G:=by
 unfold oF at h;have s2:XA H (upd H1 p o):=s.trans (aj o hp);split at h
 .rename_i i
  split at h
  .rename_i q hq
   obtain⟨hn,h⟩:=h;split at h
   .rename_i o' ho'
    exact⟨i,_,_,rfl,hq,Gc.one s2 hn (by rw[ag (aM ho' hp)];exact ho') h.1,h.2⟩
   .exact h.elim
  .rename_i v _ hv
   exact⟨i,v,H,rfl,hv,Gc.none s2,h⟩
  .exact h.elim
 .exact h.elim
def tB(ha:PA X es t)(hb:PE X b tb)(hs:rJ b):PE X (.Subscript (.List es pos') b pos) (zX t tb):=by
 intro XG s σ H Q I h;obtain⟨n,h⟩:=h;refine Subscript_ (wpAny_List_spliced (thn (ha pos' XG s σ H _ I h) fun us s1 ⟨xs,H1,I1,r,sm,z,q⟩=>⟨by rw[<- r.length];exact z,?_⟩));have hf:H1 s1.heap.objs.size=none:=I1.hok.fresh (ym _);refine thn (hb XG _ σ (upd H1 s1.heap.objs.size (.lst xs)) _ (I1.laid (t':=s1.toks) (fun b u e=>Wy _ e) (ym _) ⟨z,us,0,r,Wx _ rfl⟩) (q _ hf)) fun u s3 ⟨y,H3,I3,ry,e,k⟩=>?_;subst e;obtain⟨i,v,G,rfl,hv,g,hq⟩:=A3 (o:=.lst xs) sm hf k;exact thn (xn (.List es pos') b XG s3 σ _ (.ref _) (.int i) _ u (fun v' H'=>v'=v/\H'=upd H1 s1.heap.objs.size (.lst xs)) I3 rfl ry ⟨_,xs,i,v,rfl,rfl,al aa,hv,rfl,rfl⟩ (hs _ _))
  fun u' s4 hq_=>(by obtain⟨v',H4,I4,r4,e1,e2⟩:=hq_;exact⟨v,G,I.gc n (e2 ▸ I4) g,e1 ▸ r4,hq⟩)
end
def sp0(f:Hp->VK->XK->Prop):Sp:=fun vs H Q E=>match vs with
 | []=>f H Q E
 |_=>False
def sp1(f:V->Hp->VK->XK->Prop):Sp:=fun vs H Q E=>match vs with
 | [x]=>f x H Q E
 |_=>False
def sp2(f:V->V->Hp->VK->XK->Prop):Sp:=fun vs H Q E=>match vs with
 | [x,y]=>f x y H Q E
 |_=>False
def sp3(f:V->V->V->Hp->VK->XK->Prop):Sp:=fun vs H Q E=>match vs with
 | [x,y,z]=>f x y z H Q E
 |_=>False
def sp4(f:V->V->V->V->Hp->VK->XK->Prop):Sp:=fun vs H Q E=>match vs with
 | [x,y,z,u]=>f x y z u H Q E
 |_=>False
section
variable{vs:List V}{H:Hp}{Q:VK}{E:XK}
def sp1.inv{f}(h:sp1 f vs H Q E):∃x,vs=[x]/\f x H Q E:=by
 obtain _|⟨x,_|⟨w,r⟩⟩:=vs
 rotate_left 1
 .exact⟨_,rfl,h⟩
 all_goals exact XH h
def sp2.inv{f}(h:sp2 f vs H Q E):∃x y,vs=[x,y]/\f x y H Q E:=by
 obtain _|⟨x,_|⟨y,_|⟨w,r⟩⟩⟩:=vs
 rotate_left 2
 .exact⟨_,_,rfl,h⟩
 all_goals exact XH h
def sp3.inv{f}(h:sp3 f vs H Q E):∃x y z,vs=[x,y,z]/\f x y z H Q E:=by
 obtain _|⟨x,_|⟨y,_|⟨z,_|⟨w,r⟩⟩⟩⟩:=vs
 rotate_left 3
 .exact⟨_,_,_,rfl,h⟩
 all_goals exact XH h
def sp4.inv{f}(h:sp4 f vs H Q E):∃x y z u,vs=[x,y,z,u]/\f x y z u H Q E:=by
 obtain _|⟨x,_|⟨y,_|⟨z,_|⟨u,_|⟨w,r⟩⟩⟩⟩⟩:=vs
 rotate_left 4
 .exact⟨_,_,_,_,rfl,h⟩
 all_goals exact XH h
def sp1.len{f}(h:sp1 f vs H Q E):vs.length=1:=by obtain⟨_,rfl,_⟩:=sp1.inv h;rfl
def sp2.len{f}(h:sp2 f vs H Q E):vs.length=2:=by obtain⟨_,_,rfl,_⟩:=sp2.inv h;rfl
def sp3.len{f}(h:sp3 f vs H Q E):vs.length=3:=by obtain⟨_,_,_,rfl,_⟩:=sp3.inv h;rfl
def sp4.len{f}(h:sp4 f vs H Q E):vs.length=4:=by obtain⟨_,_,_,_,rfl,_⟩:=sp4.inv h;rfl
end
def asI(x:V)(f:Int->Prop):Prop:=match x with
 | .int i=>f i
 |_=>False
def asT(x:V)(f:List Nat->Prop):Prop:=match x with
 | .str y=>f (cs y)
 |_=>False
def asB(x:V)(f:Bool->Prop):Prop:=match x with
 | .bl y=>f y
 |_=>False
def asR(x:V)(f:WN->Prop):Prop:=match x with
 | .ref y=>f y
 |_=>False
def a9(h:asI x f):∃i,x = .int i/\f i:=by
 cases x with
 |int _=>exact⟨_,rfl,h⟩
 |_=>exact XH h
def bX(h:asT x f):∃l,x=T l/\f l:=by
 unfold asT at h;split at h
 .exact⟨_,rfl,h⟩
 .exact h.elim
def Ki(h:asB x f):∃i,x = .bl i/\f i:=by
 cases x with
 |bl _=>exact⟨_,rfl,h⟩
 |_=>exact XH h
def aQ(h:asR x f):∃i,x = .ref i/\f i:=by
 cases x with
 |ref _=>exact⟨_,rfl,h⟩
 |_=>exact XH h
def asK(H:Hp)(x:V)(f:String->Prop):Prop:=match c_ H x with
 |some t=>f t
 |none=>False
def Ko{H:Hp}{x:V}{f:String->Prop}(h:asK H x f):∃t,c_ H x=some t/\ik t/\f t:=by
 unfold asK at h;split at h
 .rename_i t ht
  exact⟨t,ht,(sK (K:=default) ht).2,h⟩
 .exact h.elim
def Cg{ns:List Int}{k:Int}(h0:0<=k)(h1:k<ns.length):atI (ns.map V.int) k=some (.int (ns.getD k.toNat 0)):=by
 obtain⟨j,rfl⟩:∃j:Nat,k=j:=⟨k.toNat,by lia⟩;refine aI ?_;have l:j<ns.length:=by lia
 simp[List.getD,l]
def yK{ns:List Int}{i:Int}(h0:0<=i)(h1:i<ns.length)(q:Q (.int (ns.getD i.toNat 0)) H):oF (ns.map V.int) H H1 Q (.int i):=by
 unfold oF;simp only[Cg h0 h1];exact q
section
variable{X:Cx}(K:Wz)
def cI(h:X.K=K:=by rfl):WT X (.builtin "isinstance") (DB K):=h ▸ FX
def bV(h:X.K=K:=by rfl):WT X (.builtin "len") (Fm K):=h ▸ GI
def CQ(h:X.K=K:=by rfl):IxR X (gIx K):=h ▸ Gk
def D_(h:X.K=K:=by rfl):SlR X (IQ K):=h ▸ FI
def mU(hl:PE X l tl)(h:X.K=K:=by rfl):PI X tg l (Ea K tl):=h ▸ Gj hl
def a7(hl:PE X l tl)(h:X.K=K:=by rfl):PI X tg l (oK K tl):=h ▸ CP hl
end
def Jv:c_ H (.bl b)=some "bool":=rfl
def GM:c_ H (.int i)=some "int":=rfl
def FN:c_ H (.str s)=some "str":=rfl
def Fz:c_ H .non=some "NoneType":=rfl
def FO:uM "int" = true:=by decide
def mG:cD "NoneType" "int" = false:=by decide
def ur:cD "bool" "int" = true:=by decide
def vi:cD "int" "int" = true:=by decide
def wv:cD "str" "int" = false:=by decide
def uV:cD "list" "int" = false:=by decide
def qJ:cD "tuple" "int" = false:=by decide
def ut:cD "dict" "int" = false:=by decide
def Do:uM "bool" = true:=by decide
def lA:cD "NoneType" "bool" = false:=by decide
def rY:cD "bool" "bool" = true:=by decide
def sX:cD "int" "bool" = false:=by decide
def uo:cD "str" "bool" = false:=by decide
def qM:cD "list" "bool" = false:=by decide
def o_:cD "tuple" "bool" = false:=by decide
def rZ:cD "dict" "bool" = false:=by decide
def Hq:uM "str" = true:=by decide
def mH:cD "NoneType" "str" = false:=by decide
def tI:cD "bool" "str" = false:=by decide
def vH:cD "int" "str" = false:=by decide
def u9:cD "str" "str" = true:=by decide
def t7:cD "list" "str" = false:=by decide
def sd:cD "tuple" "str" = false:=by decide
def sw:cD "dict" "str" = false:=by decide
def Dx:uM "list" = true:=by decide
def k6:cD "NoneType" "list" = false:=by decide
def rL:cD "bool" "list" = false:=by decide
def tw:cD "int" "list" = false:=by decide
def uS:cD "str" "list" = false:=by decide
def r6:cD "list" "list" = true:=by decide
def ph:cD "tuple" "list" = false:=by decide
def se:cD "dict" "list" = false:=by decide
def z9:uM "tuple" = true:=by decide
def j_:cD "NoneType" "tuple" = false:=by decide
def pe:cD "bool" "tuple" = false:=by decide
def sf:cD "int" "tuple" = false:=by decide
def rK:cD "str" "tuple" = false:=by decide
def pC:cD "list" "tuple" = false:=by decide
def nO:cD "tuple" "tuple" = true:=by decide
def pD:cD "dict" "tuple" = false:=by decide
def DC:uM "dict" = true:=by decide
def kq:cD "NoneType" "dict" = false:=by decide
def ql:cD "bool" "dict" = false:=by decide
def tD:cD "int" "dict" = false:=by decide
def tT:cD "str" "dict" = false:=by decide
def sj:cD "list" "dict" = false:=by decide
def pf:cD "tuple" "dict" = false:=by decide
def rG:cD "dict" "dict" = true:=by decide
def Ik:asK H (.bl b) f=f "bool":=rfl
def Gq:asK H (.int i) f=f "int":=rfl
def Ht:asK H (.str i) f=f "str":=rfl
def FS:asK H .non f=f "NoneType":=rfl
noncomputable def cv:Expr->Bool
 | .Starred _ _=>false
 |_=>true
def zg(h:cv e=true):WE (e::es) env=(false,eval e env)::WE es env:=by
 cases e <;> first|rfl|cases h
structure FA(X:Cx)(es:List Expr)(t:TA):Prop where
 pa:PA X es t
def cr:FA X [] gU:=⟨Fe⟩
def bj(ha:PE X e te)(hr:FA X es t)(h:cv e=true:=by rfl):FA X (e::es) (b_ te t):=⟨Ds ha hr.pa (zg h)⟩
def DF{H:Hp}{P:Hp->Prop}:(∃G,Gc H G H/\P G)↔P H:=by
 constructor
 .rintro⟨G,g,p⟩
  have e:G=H:=by
   funext b;cases h:H b with
   |none=>exact g.b.free h
   |some o=>exact g.a b o h
  rw[<- e];exact p
 .exact fun p=>⟨H,Gc.refl,p⟩
def KH{CX:CXT}{P:WL}{w:WK}{K:Wz}{mg:Str->Option WO}{base:WF}{N:List Str}{WQ:Str}{WP:Scope}{f:WN}{cd:WO}{A:WJ}{XF:List Env}{s:WM}{H:Hp}{E:XK} :
 (c6 CX P w K mg base N WQ WP f cd A XF s H E).K=K:=rfl
noncomputable def isI:V->Bool
 | .int _=>true
 |_=>false
noncomputable def isS:V->Bool
 | .str _=>true
 |_=>false
def yV:XA H H↔True:=⟨fun _=>trivial,fun _=>XA.refl H⟩
def aE(hN:WS H)(d:cV o=true):WS (upd H p o):=hN.upd d
def DX:isI (.int i)=true:=rfl
def HB:isI (.bl i)=false:=rfl
def DJ:isI (.str i)=false:=rfl
def CY:isI (.ref i)=false:=rfl
def C4  : isI (.non)=false:=rfl
def CV:isS (.int i)=false:=rfl
def Gd:isS (.bl i)=false:=rfl
def D8:isS (.str i)=true:=rfl
def Dh:isS (.ref i)=false:=rfl
def DS  : isS (.non)=false:=rfl
def Az(h:wg H):WS H:=fun b o e=>by
 obtain z|⟨ob,xs,z⟩:=h b
 .rw[e]at z;cases z
 .rw[e]at z;cases z;rfl
def gcE(H:Hp)(E:XK):XK:=fun C d H'=>∃G,Gc H G H'/\E C d G
def Fun.okG{P:WL}{w:WK}{K:Wz}{mg:Str->Option WO}{base:WF}{x WQ:Str}{st:Stmt}{f:WN}{fd:FuncData}{N ps:List Str}{k:Nat}{sp:Sp}(F:Fun K x WQ st f fd)(S:df N ps (ay st))
 (len:∀vs H Q E,sp vs H Q E->vs.length=ps.length)
 (hbody:∀(XD:WO) (A:WJ) (XF:List Env) (s:WM) (H:Hp) (vs:List V) (Q:VK) (E:XK),Room k (A.deeper (envOfC WQ (ay st) s.heap.objs.size f XD))->sp vs H Q E ->
  WS H/\∃t,PSs (c6 (XE P w) P w K mg base N WQ (ay st) f XD A XF s H (gcE H E)) (bB st) t/\t { nx:=fun _ H'=>∃G,Gc H G H'/\Q .non G,rt:=fun v H'=>∃G,Gc H G H'/\Q v G } (fg N vs) H):hZ P w K mg base (XE P w) (k+1) f fd ps sp:=by
 have F':hZ P w K mg base (XE P w) (k+1) f fd ps (fun vs H Q' E'=>∃Q E,sp vs H Q E/\Q'=(fun v H'=>∃G,Gc H G H'/\Q v G)/\E'=gcE H E):=by
  refine F.okX S (fun vs H Q' E' hq_=>(by obtain⟨Q,E,h,_⟩:=hq_;exact len vs H Q E h)) (fun XD A XF s H vs Q' E' hr h=>?_);obtain⟨Q,E,h,rfl,rfl⟩:=h;exact(hbody XD A XF s H vs Q E hr h).2
 refine⟨len,fun A XF s H args us vs Q E hr e0 hb r hsp=>?_⟩;have nT:WS H:=by
  obtain⟨oc,od,kV,doc,pm,an,XD,ct,osl,rfl,lk,hcd⟩:=F.ex;exact(hbody XD A XF s H vs Q E (hr.deeper _) hsp).1
 refine codeAny_mono (F'.run A XF s H args us vs _ _ hr e0 hb r ⟨Q,E,hsp,rfl,rfl⟩) fun res s' h=>?_;cases res with
 |error e=>
  obtain⟨ea,C,rs,H',h1,h2,h3,un,hok,hrs,fly,G,g,q⟩:=h;exact⟨ea,C,rs,G,h1,h2,h3,un.gc g,HOk.gc nT e0.hok hok g,fun b hb=>⟨(hrs b hb).1,g.b.free (hrs b hb).2⟩,fly,q⟩
 |ok fl=>
  cases fl with
  |ret u=>
   obtain⟨v,H',h1,h2,un,hok,rv,G,g,q⟩:=h;exact⟨v,G,h1,h2,un.gc g,HOk.gc nT e0.hok hok g,rv,q⟩
  |next=>exact h
  |brk=>exact h
  |cont=>exact h
section
variable{K:Wz}{C D:WN}{b:Bool}{cl:ClassData}
def yb(o:PySem.W.clsIn K D=some cl)(t:PySem.W.typeIn K (.ref D)=some (.type "type"))(m:XY K C (.ref D)=some b):PySem.W.kitCls K (.ref C) (.ref D)=some b:=by
 unfold PySem.W.kitCls;simp only[o,t,Option.isSome_some,beq_self_eq_true,Bool.and_self,if_true];exact m
def yG(o:PySem.W.clsIn K D=some cl)(t:PySem.W.typeIn K (.ref D)=some (.type "type"))(s:XY K D (.type "BaseException")=some true)(m:XY K C (.ref D)=some b):PySem.W.exmOne K (.ref C) (.ref D)=some b:=by
 unfold PySem.W.exmOne;have e:PySem.W.subIn K (.ref D) (.type "BaseException")=some true:=s;rw[e,Wf (by rfl)];exact yb o t m
end
def Ak{l:PySem.W.OpenLaw}{n k:Nat}{q:WL}{loose:List Str}{XP:(Str->Option WO)->WF->Prop}{YP:WK->WF->Prop}{d:DefRec}{K:Params->Wz}{sp:Wz->Sp}{x:Str}
 (hn:l.most=some n) (hn2:n<=WI) (hdf:d.params.defaults=[]) (hr:Room k callerA)
 (hY:∀(w:WK) (h:WF),YP w h->(K w.params).In h)
 (F:∀(w:WK) (mg:Str->Option WO) (fa:WN) (h:WF),(K w.params).In h->h.Ns ZP mg->mg d.name=some (.ref fa) ->
  ∃fd:FuncData,(∀(s:WM) (u:WO),BindsTo s fd ⟨[u],[]⟩ [(x,u)]) /\
   ∀base:WF,(K w.params).In base->base.Ns ZP mg->hZ l.prog w (K w.params) mg base (XE l.prog w) k fa fd [x] (sp (K w.params)))
 (hsp:∀(K:Wz) (H:Hp) (a:WN) (ns:List Int),ns.length<=n->wg H->SqL K H a (ns.map V.int)->sp K [.ref a] H (fun v _=>v = .bl true) fun _ _ _=>False) :
 PySem.W.WalkO q loose XP YP l.row.toRowW d [] (fun f vs=>PySem.call f vs):=
 C9 (K:=K) (CX:=fun w=>XE l.prog w) (sp:=fun w=>sp (K w.params)) hn hn2 hdf hr hY F (fun w H a ns h1 h2 h3=>hsp (K w.params) H a ns h1 h2 h3) fun w H s e s' hq_=>(by obtain⟨_,_,_,_,_,_,_,_,_,_,_,z⟩:=hq_;exact z)
section
variable{prog:WL}{w:WK}{A:WJ}{R:Result->WM->Prop}{s:WM}
theorem r_(I:Nat->WM->Prop)
 (turn:∀n s,I n s->WH (WG prog w) A (pyNext it) (fun r s₁=>match r with
  |none=>R (.ok .next) s₁
  |some v=>WH (WG prog w) A (XS target it v) (fun _ s₁'=>WH (WG prog w) A (assign target env v) (fun _ s₂=>
   WH (WG prog w) A (forIn ifs true fun c r=>if r=true then do let ok <- isTrue c env (eval c env);pure (ForInStep.yield ok) else pure (ForInStep.yield r)) (fun ok s₃=>
    if ok=true then WH (WG prog w) A (eval elt env) (fun x s₄=>
     WH (WG prog w) A (call (.builtin "list.append") [acc,x]) (fun _ s₅=>∃m,m<n/\I m s₅) (notedBy (WG prog w) A env fun e s'=>R (.error e) s') s₄) (notedBy (WG prog w) A env fun e s'=>R (.error e) s') s₃
    else ∃m,m<n/\I m s₃) (notedBy (WG prog w) A env fun e s'=>R (.error e) s') s₂) (notedBy (WG prog w) A env fun e s'=>R (.error e) s') s₁') (notedBy (WG prog w) A env fun e s'=>R (.error e) s') s₁) (notedBy (WG prog w) A env fun e s'=>R (.error e) s') s)
 (n:Nat) (h:I n s) :
 codeAny (WG prog w) A (.compLoop (.ListComp elt [⟨target,iter,ifs,0⟩] WP pos) 0 it acc env) R s:=by
 refine codeAny_loop rfl I (fun n s hI=>?_) n h;show WH _ A ((compTurn (.ListComp elt [⟨target,iter,ifs,0⟩] WP pos) 0 it acc env).onRaise (fun x=>do noteFrame x env;theTreesLotGoes x)) _ _ s;refine wpAny_noted ?_;rw[compTurn_list];refine zv (wpAny_standAt (zv (Zi (turn n s hI) (fun r s₁ h₁=>?_) fun _ _ h'=>h')));cases r with
 |none=>exact yy h₁
 |some v=>
  refine zv (Zi h₁ (fun _ s₁' h₁'=>?_) fun _ _ h'=>h');refine zv (Zi h₁' (fun _ s₂ h₂=>zv (Zi h₂ (fun ok s₃ h₃=>?_) fun _ _ h'=>h')) fun _ _ h'=>h');cases ok with
  |false=>exact yy ⟨rfl,h₃⟩
  |true=>
   exact zv (zv (Zi h₃ (fun x s₄ h₄=>zv (Zi h₄ (fun _ s₅ h₅=>yy (yy ⟨rfl,h₅⟩)) fun _ _ h'=>h')) fun _ _ h'=>h'))
end
noncomputable def gK(X:Cx)(N:List Str)(WP:Scope)(cl:List (Str × WN))(C:WN)(s₂:WM)(H₂:Hp)(ex:List WN)(pn:List (WN × Obj)):Cx:=
 { X with N:=N,s₀:=s₂,H₀:=H₂,env:=compEnvC WP cl C X.env,XF:=X.stack,stack:=X.stack,ex:=ex,fn:=fun _=>false,pn:=pn,xe:=fun _ _=>False }
structure CompScope(X:Cx)(WP:Scope)(cl:List (Str × WN))(x:Str)(fr:List Str):Prop where
 clos:closureFor WP X.env=pure cl
 nocell:∀y∈WP.names,y.2 ≠ .cell
 kind:WP.kind = .function
 names:∀y∈WP.names,y.2 = .local->WP.names.lookup y.1=some .local
 own:WP.names.lookup x=some .local
 keys:∀y∈cl,y.1∈fr
 cells:fr.map (fun y=>cl.lookup y)=fr.map (fun y=>X.env.cells.lookup y)
 kinds:∀y∈fr,X.env.kindOf y=some .cell\/X.env.kindOf y=some .free
 kin:∀y∈fr,(relabel WP X.env).names.lookup y=some .cell\/(relabel WP X.env).names.lookup y=some .free
 only:∀y,((relabel WP X.env).names.lookup y=some .cell\/(relabel WP X.env).names.lookup y=some .free)->y∈fr
def vW{α:Type}{l:List (Str × α)}{y:Str}{c:α}(h:l.lookup y=some c):(y,c)∈l:=Z6 h
def CompScope.cell(S:CompScope X WP cl x fr)(h:y∈fr):cl.lookup y=X.env.cells.lookup y:=by
 have e:=S.cells;obtain⟨i,hi,rfl⟩:=List.getElem_of_mem h;have:=Wb (fun l=>l[i]?) e
 simpa [hi] using this
def CompScope.sub{X:Cx}{WP:Scope}{cl:List (Str × WN)}{x:Str}{fr:List Str}(S:CompScope X WP cl x fr){y:Str}{c:WN}(h:cl.lookup y=some c):X.env.cells.lookup y=some c:=by
 rw[<- S.cell (S.keys _ (vW h))];exact h
def PTs(X:Cx)(ifs:List Expr)(t:TT):Prop:=
 ∀(XG:List (WN × Obj)) (s:WM) (σ:St) (H:Hp) (Q:Bool->Hp->Prop),WR X XG σ H s->t σ H Q ->
  WH (WG X.prog X.w) X.A (forIn ifs true fun c r=>if r=true then do let ok <- isTrue c X.env (eval c X.env);pure (ForInStep.yield ok) else pure (ForInStep.yield r)) (TP X XG σ Q) X.xe s
def cO:PTs X [] (fun _ H Q=>Q true H):=fun XG s σ H Q I h=>wpAny_tests_nil ⟨H,I,h⟩
def gB(h:PT X c t):PTs X [c] t:=fun XG s σ H Q I hw=>wpAny_tests_one (h XG s σ H Q I hw)
end L2
namespace MT
noncomputable def dg(n:Nat):List Nat:=(Nat.toDigits 10 n).map Char.toNat
noncomputable def isD(c:Nat):Bool:=decide (48<=c)&&decide (c<=57)
noncomputable def vl(t:List Nat):Nat:=t.foldl (fun n c=>10*n+(c-48)) 0
noncomputable def nin(t:List Nat):Nat:=t.foldl (fun n c=>if isD c then 10*n+(c-48) else n) 0
end MT
namespace L2
open PySem PySem.Spec PyProof.Rows Builtin Builtin.Str
section
variable{X:Cx}{e a b c:Expr}{pos:Pos}
def gIn(neg:Bool):R2
 | .str i,.str j,H,Q=>(match cs i with
  | [c]=>Q (.bl (neg ^^ decide (c∈cs j))) H
  |_=>False)
 |_,_,_,_=>False
def qZ{i:Str}{c:Nat}(h:cs i=[c]):i=⟨#[c]⟩:=by
 obtain⟨⟨l⟩⟩:=i;have h':l=[c]:=h;rw[h']
def EM:OpR X (Zl .In) (gIn false):=x_.imp fun x y H Q h=>by
 cases x with
 |str v_1=>
  cases y with
  |str v_2=>
   delta gIn at h
   dsimp only at h;split at h
   .rename_i c hc
    refine⟨_,_,rfl,rfl,?_⟩;rw[qZ hc,PySem.StrLaws.found_one]
    simpa [cs] using h
   .exact h.elim
  |_=>exact XH h
 |_=>exact XH h
noncomputable def hX(l:List Nat)(lo hi:Option Int):List Nat:=(l.drop (HT.sIx l.length 0 lo)).take (HT.sIx l.length l.length hi-HT.sIx l.length 0 lo)
def gSl:V->Option Int->Option Int->Hp->VK->Prop
 | .str y,lo,hi,H,Q=>(cs y).length<=WI/\Q (T (hX (cs y) lo hi)) H
 |_,_,_,_,_=>False
def GW(lo hi:Option Int)(n:Nat):Xo lo hi 1 n=(lq (HT.sIx n n hi-HT.sIx n 0 lo)).map (HT.sIx n 0 lo + ·):=by
 obtain⟨h1,h2,h3⟩:=jL lo hi n;have e:Xo lo hi 1 n=sliceRange (YK lo hi none n).1 (YK lo hi none n).2.1 1:=by
  unfold Xo YK;cases lo <;> cases hi <;> rfl
 rw[e,h1,h2,sliceRange_one]
def yP(y:Str)(lo hi:Option Int):V.str (Txt.slice y lo hi)=T (hX (cs y) lo hi):=by
 have hl:y.length=(cs y).length:=by simp[cs,Yo]
 have ha:HT.sIx y.length 0 lo<=y.length:=HT.sIx_le _ _ (rp _) lo;have hb:HT.sIx y.length y.length hi<=y.length:=HT.sIx_le _ _ (ym _) hi;unfold Txt.slice;rw[GW];split
 .rename_i h
  simp only[beq_self_eq_true,Bool.true_and,zm,List.length_range,beq_iff_eq]at h;have e1:HT.sIx y.length 0 lo=0:=by lia
  have e2:HT.sIx y.length y.length hi=y.length:=by lia
  rw[J_]
  congr 3
  unfold hX;rw[<- hl,e1,e2,List.drop_zero,Nat.sub_zero,hl,Zx]
 .rw[pick_run]
  show V.str ⟨_⟩=V.str ⟨⟨_⟩⟩;unfold hX cs;rw[ZY]
  rfl
def qU:SlR X gSl:=by
 intro XG s σ H x v vl vu lo hi sl Q I rx hs pl pu h;cases x with
 |str y=>
  obtain⟨hz,q⟩:=h;obtain⟨t,rfl⟩:=rx;have hz':y.length<=WI:=by simpa [cs,Yo] using hz
  refine⟨"str",_,F.slot_str_getitem.lookup,XQ _ _ _,?_⟩;have fin:∀t' k,EP X XG σ Q (.str (Txt.slice y lo hi) t') { s with toks:=k }:=fun t' k=>⟨.str (Txt.slice y lo hi),H,I.tok _,⟨_,rfl⟩,by rw[yP];exact q⟩;cases pl with
  |none=>cases pu with
   |none=>exact Y0 (l:=none) (u:=none) (st:=none) hs rfl (post_val_or_str ⟨r9 (Txt.slice_le y _ _) hz',fin⟩)
   |int j u=>exact Y0 (l:=none) (u:=some (j,u)) (st:=none) hs rfl (post_val_or_str ⟨r9 (Txt.slice_le y _ _) hz',fin⟩)
  |int i u'=>cases pu with
   |none=>exact Y0 (l:=some (i,u')) (u:=none) (st:=none) hs rfl (post_val_or_str ⟨r9 (Txt.slice_le y _ _) hz',fin⟩)
   |int j u=>exact Y0 (l:=some (i,u')) (u:=some (j,u)) (st:=none) hs rfl (post_val_or_str ⟨r9 (Txt.slice_le y _ _) hz',fin⟩)
 |_=>exact XH h
def gSt:V->List V->Hp->VK->Prop
 | .str x,[.str y],H,Q=>(match cs y with
  | [c]=>Q (.bl (decide ((cs x).head? = some c))) H
  |_=>False)
 |_,_,_,_=>False
def gEn:V->List V->Hp->VK->Prop
 | .str x,[.str y],H,Q=>(match cs y with
  | [c]=>Q (.bl (decide ((cs x).getLast? = some c))) H
  |_=>False)
 |_,_,_,_=>False
def F0(x:Str)(c:Nat):(decide (0+(⟨#[c]⟩:Str).length<=x.length)&&YH x ⟨#[c]⟩ (x.length-(⟨#[c]⟩:Str).length))=decide ((cs x).getLast? = some c):=by
 obtain⟨⟨l⟩⟩:=x;by_cases hl:l=[]
 .subst hl;simp[Yo,cs,YH]
 .obtain⟨i,a,rfl⟩:∃i a,l=i++[a]:=⟨l.dropLast,l.getLast hl,(List.dropLast_concat_getLast hl).symm⟩
  have e:YH ⟨⟨i++[a]⟩⟩ ⟨#[c]⟩ i.length=decide (a=c):=by
   simp[YH,Yo];rw[YL];simp
  have e2:(⟨⟨i++[a]⟩⟩:Str).length-(⟨#[c]⟩:Str).length=i.length:=by simp[Yo]
  rw[e2,e];simp[Yo,cs]
def tz:MtR X "str.endswith" gEn:=by
 intro XG s σ H x xs v us Q I rx rs h;cases x with
 |str v_1=>
  obtain _|⟨e_2,r_2⟩:=xs
  .exact XH h
  cases e_2 with
  |str v_3=>
   cases r_2 with
   |nil=>
    delta gEn at h
    dsimp only at h;split at h
    .rename_i c hc
     obtain⟨t,rfl⟩:=rx;obtain⟨u,rfl,t',rfl⟩:=dI rs;rw[qZ hc];refine YF F.slot_str_endswith (XQ _ _ _) F.entry_str_endswith (F.args_str_endswith_2 _ _) (gives_str_endswith _ ⟨#[c]⟩ t t').meets ?_;exact⟨.bl _,H,I,rfl,by rw[F0];exact h⟩
    .exact h.elim
   |cons=>exact XH h
  |_=>exact XH h
 |_=>exact XH h
def Kp:V->List V->Hp->VK->Prop
 | .str x,[.str y],H,Q=>(match cs y with
  | [c]=>c∈cs x/\∀i:Nat,(cs x)[i]? = some c->Q (.int i) H
  |_=>False)
 |_,_,_,_=>False
def B6:List V->Hp->VK->Prop
 | [.int i],H,Q=>Q (.int i) H
 | [.bl k],H,Q=>Q (.int (if k then 1 else 0)) H
 | [.str x],H,Q=>((cs x)≠[]/\(∀c∈cs x,MT.isD c=true)/\(cs x).length<=640)/\Q (.int (MT.vl (cs x))) H
 |_,_,_=>False
def oZ:WT X (.type "int") (fun xs H Q=>∃x,xs=[.str x]/\((cs x)≠[]/\(∀c∈cs x,MT.isD c=true)/\(cs x).length<=640)/\Q (.int (MT.vl (cs x))) H):=by
 intro XG s σ H xs us Q I r h;obtain⟨x,rfl,⟨h0,hd,hl⟩,q⟩:=h;obtain⟨u,rfl,t,rfl⟩:=dI r;have hl':x.length<=640:=by simpa [cs,Yo] using hl
 have e:PySem.NumText.digitsVal x.cps.toList=MT.vl (cs x):=by
  unfold PySem.NumText.digitsVal MT.vl cs
  congr 1
  funext a c;lia
 have hn:intText? x=some ((MT.vl (cs x):Nat):Int):=by
  rw[PySem.intText_digits (fun c hc=>by have:=hd c hc;simpa [MT.isD] using this) h0 (by lia),e]
 exact PySem.W.KIN.call_text hn hl' ⟨.int _,H,I.tok _,⟨_,rfl⟩,q⟩
def Ej:WT X (.type "int") B6:=(zi.or oZ).imp fun xs H Q h=>by
 unfold B6 at h;split at h
 .exact .inl (.inl ⟨_,rfl,h⟩)
 .exact .inl (.inr ⟨_,rfl,h⟩)
 .exact .inr ⟨_,rfl,h.1,h.2⟩
 .exact h.elim
end
end L2
namespace L2
open PySem PySem.Spec PyProof.Rows
noncomputable def Its(x:Str):It:=⟨fun i _=>i<x.cps.size,fun i H v H'=>H'=H/\∃c,x.cps[i]? = some c/\v = .str ⟨#[c]⟩,fun i _=>x.cps.size<=i⟩
def By{P:WL}{w:WK}{K:Wz}{tg:Expr}(x:Str)(t:Tok)(it:WN):vy P w K tg (Its x) [it] it (fun i h=>h.IsStrIter it "str_ascii_iterator" x t i) where
 mem:=by simp
 obj:=fun i h st b hb=>by
  have e:b=it:=by simpa using hb
  subst e;obtain⟨o,e,c,d⟩:=st;exact⟨o,e,fun v z=>by rw[d]at z;cases z⟩
 keep:=fun i h h' st k=>by
  obtain⟨o,e,c,d⟩:=st;exact⟨o,k it (by simp) o e,c,d⟩
 item:=by
  intro X hP hw hK hc i XG s σ H E I hf st hg;subst hP hw hK;have hg':i<x.cps.size:=hg;obtain⟨f0,f1,f2,f3,f4,f5⟩:=hf it (by simp);have hx:x.cps[i]? = some x.cps[i]:=by simp[hg']
  refine wpAny_pyNext_ascii_item st hx fun h' st' sb=>?_;have I1:WR X XG σ H { s with heap:=h',toks:=s.toks+1 }:=I.turned (fun b o hb e=>(sb.2 b hb).trans e) f0 f1 f3 f4 f5;obtain⟨o,e,c,d⟩:=id st';exact⟨_,rfl,pX (s:={ s with heap:=h',toks:=s.toks+1 }) e c d (by decide) ⟨.str ⟨#[x.cps[i]]⟩,H,I1,⟨_,rfl⟩,⟨rfl,_,hx,rfl⟩,st',fun b hb=>(hf b hb).1⟩⟩
 done:=by
  intro X hP hw hK hc i XG s σ H E I hf st hg;subst hP hw hK;have hg':x.cps.size<=i:=hg;obtain⟨f0,f1,f2,f3,f4,f5⟩:=hf it (by simp);have hx:x.cps[i]? = none:=by simp[hg']
  exact wpAny_pyNext_ascii_end (I.ok.hd hc) st hx fun h' eb=>⟨rfl,I.turned (fun b o hb e=>eb b o hb e) f0 f1 f3 f4 f5⟩
 self:=fun _ _ _ _ _ st h=>wpAny_pyIter_striter_ascii st h
def JT(tl:TE):TI:=fun σ H R=>tl σ H fun v H1=>match v with
 | .str x=>(∀c∈cs x,c<128)/\R (Its x) H1
 |_=>False
def Gu{X:Cx}{tg l:Expr}{tl:TE}(hl:PE X l tl):PI X tg l (JT tl):=by
 intro XG s σ H R I h;refine thn (hl XG s σ H _ I h) fun v s1 ⟨y,H1,I1,r1,q⟩=>?_;dsimp only at q;split at q
 .rename_i x
  obtain⟨ha,q⟩:=q;obtain⟨t,rfl⟩:=r1;have ha':x.cps.all (· < 128)=true:=by
   rw[Array.all_eq_true];intro i hi;exact We (ha _ (by unfold cs;rw[Array.mem_toList_iff];exact Array.getElem_mem hi))
  refine wpAny_pyIter_ascii ha' ?_;refine⟨s1.heap.objs.size,[s1.heap.objs.size],_,_,H1,rfl,I1.kept (t':=s1.toks) fun b o e=>Wy _ e,By x t _,⟨_,Wx _ rfl,rfl,rfl⟩,fun b hb=>?_,q⟩;have e:b=s1.heap.objs.size:=by simpa using hb
  subst e;exact I1.fpOk (ym _) (I1.hok.fresh (ym _))
 .exact q.elim
section
variable{X:Cx}
theorem nN:∀ {bs:List Bool} {us:List WO},WW (bs.map V.bl) us->LSm.BoolsAre us bs
 | [],_,.nil=>.nil
 |b::r,_,.cons e t=>by
  cases (show _=Value.bool b from e);exact .cons b (nN t)
def JM(K:Wz):List V->Hp->VK->Prop
 | [.ref p],H,Q=>∃bs:List Bool,SqL K H p (bs.map V.bl)/\Q (.bl (bs.all id)) H
 |_,_,_=>False
def mS(K:Wz)(hc:X.calm=true)(hK:X.K=K:=by rfl):WT X (.builtin "all") (JM K):=by
 subst hK;intro XG s σ H xs us Q I r h;obtain _|⟨e_1,r_1⟩:=xs
 .exact XH h
 cases e_1 with
 |ref p=>
  cases r_1 with
  |nil=>
   obtain⟨bs,hq,q⟩:=h;obtain⟨u,rfl,rx⟩:=dI r;cases (show u=vv p from rx);obtain⟨XC,rv,pl,hz⟩:=I.list hq;have hne:p≠s.heap.objs.size:=Zy (by obtain⟨_,e,_⟩:=pl.isList;exact vN e);have hb:LSm.BoolsAre XC bs:=nN rv;refine call_all_walk (wpAny_pyIter_list pl.isList ?_);refine⟨s.heap.objs.size,[s.heap.objs.size,p],[s.heap.objs.size],XC.toArray.size,_,_,fun i=>(bs[i]?).getD true,rfl,Walks.list (A:=X.A.in1) (I.ok.hd hc) _ p hne XC.toArray,
    ⟨⟨_,Wx _ rfl,rfl,rfl⟩,pl.isList.push _⟩,fun i v s' Q' E' hP hQ=>?_,fun h' tk hk=>?_⟩
   .obtain⟨b,e,rfl⟩:=hb.get i v (by simpa using hP)
    simp only[e,Option.getD_some]at hQ;exact Ze hQ
   .have e:((lq XC.toArray.size).all fun i=>(bs[i]?).getD true)=bs.all id:=by
     rw[yN,hb.length];exact LSm.range_all bs
    rw[e];exact⟨.bl (bs.all id),H,I.kept (LSm.kept_iter hk),rfl,q⟩
  |cons=>exact XH h
 |_=>exact XH h
end
end L2
namespace L2
open PySem PySem.Spec PyProof.Rows Builtin Builtin.Str
noncomputable def cf(sep:List Nat):List (List Nat)->List Nat
 | []=>[]
 | [x]=>x
 |x::y::r=>x++sep++cf sep (y::r)
theorem pJ:∀ls:List (List Nat),cf [] ls=ls.flatten
 | []=>rfl
 | [x]=>by simp[cf]
 |x::y::r=>by rw[cf,pJ (y::r)];simp
noncomputable def S(l:List Nat):Str:=⟨⟨l⟩⟩
theorem pO(sep:List Nat):∀(r:List (List Nat)) (x:List Nat),((r.map S).foldl (fun acc p=>acc++(S sep).cps++p.cps) (S x).cps)=(S (cf sep (x::r))).cps
 | [],x=>rfl
 |y::r,x=>by
  rw[xY,List.foldl_cons];have e:(S x).cps++(S sep).cps++(S y).cps=(S (x++sep++y)).cps:=by
   apply Array.ext';simp[S]
  rw[e,pO sep r]
  congr 1
  cases r with
  |nil=>rfl
  |cons z r'=>unfold cf;simp[cf,YI]
def xH(sep:List Nat)(ls:List (List Nat)):Txt.join (S sep) (ls.map S)=S (cf sep ls):=by
 unfold Txt.join glued;cases ls with
 |nil=>rfl
 |cons x r=>
  show(⟨((x::r).map S).drop 1 |>.foldl _ _⟩:Str)=_;rw[xY,List.drop_one,List.tail_cons,List.headD_cons,pO]
theorem wM:∀ {ls:List (List Nat)} {us:List WO},WW (ls.map T) us->StrsAre us (ls.map S)
 | [],_,.nil=>.nil
 |l::r,_,.cons e t=>by
  obtain⟨k,rfl⟩:=e;exact .cons _ k (wM t)
def Ba(sep:List Nat)(ls:List (List Nat)):Prop:=(ls.map ZT).sum+ls.length*sep.length<=16777216
def Dj(h:Ba sep ls):(((ls.map S).map (·.length)).sum+(ls.map S).length*(S sep).length<=16777216):=by
 have e:(ls.map S).map (·.length)=ls.map ZT:=by rw[uR];apply lW;intro l _;rfl
 rw[e,zm];exact h
section
variable{X:Cx}
def EV(K:Wz):V->List V->Hp->VK->Prop
 | .str x,[.ref p],H,Q=>∃ls:List (List Nat),SqL K H p (ls.map T)/\Ba (cs x) ls/\Q (T (cf (cs x) ls)) H
 |_,_,_,_=>False
def oq(K:Wz)(hK:X.K=K:=by rfl):MtR X "str.join" (EV K):=by
 subst hK;intro XG s σ H x xs v us Q I rx rs h;cases x with
 |str y=>
  obtain _|⟨e_1,r_1⟩:=xs
  .exact XH h
  cases e_1 with
  |ref p=>
   cases r_1 with
   |nil=>
    obtain⟨ls,hq,hf,q⟩:=h;obtain⟨t,rfl⟩:=rx;obtain⟨u,rfl,ru⟩:=dI rs;cases (show u=vv p from ru);obtain⟨XC,rv,pl,hz⟩:=I.list hq;refine join_list pl.isList (wM rv) (Dj hf) fun t' k=>?_;exact⟨.str (Txt.join y (ls.map S)),H,I.tok _,⟨_,rfl⟩,by rw[show y=S (cs y) from rfl,xH];exact q⟩
   |cons=>exact XH h
  |_=>exact XH h
 |_=>exact XH h
end
end L2
namespace PySem
open Sem (wp)
open Builtin Builtin.Str Builtin.Int
namespace F
end F
end PySem
namespace L2
open PySem PySem.Spec PyProof.Rows Builtin Builtin.Str
section
variable{X:Cx}
structure Enum(J:It)(vs:List V):Prop where
 go:∀i H,i<vs.length->J.go i H
 yld:∀i H x H',i<vs.length->J.yld i H x H'->H'=H/\vs[i]? = some x
 stop:∀H,J.stop vs.length H
def AU(l:List Nat):Enum (Its ⟨⟨l⟩⟩) (l.map fun c=>T [c]):=by
 refine⟨fun i H h=>by simpa [Its] using h,fun i H x H' _ y=>?_,fun H=>by simp[Its]⟩;obtain⟨e,c,hc,rfl⟩:=y;refine⟨e,?_⟩;have:l[i]? = some c:=by simpa using hc
 rw[Ws,this];rfl
def AY(n:Nat):Enum (Itr 0 n) ((lq n).map fun k=>.int (k:Nat)):=by
 refine⟨fun i H h=>by simpa [Itr] using h,fun i H x H' hi y=>?_,fun H=>by simp[Itr]⟩;obtain⟨e,rfl⟩:=y;refine⟨e,?_⟩;have hi':i<n:=by simpa using hi
 simp[hi']
structure zE(C:Hp->Prop)(J:It)(vs:List V):Prop where
 go:∀i H,C H->i<vs.length->J.go i H
 yld:∀i H x H',C H->i<vs.length->J.yld i H x H'->H'=H/\vs[i]? = some x
 stop:∀H,C H->J.stop vs.length H
def gT{J:It}{vs:List V}{σ':St}{H1:Hp}{Q:VK}{tt:TT}{te:TE}(C:Hp->Prop)(E:zE C J vs)(p:V->Bool)(f:V->V)(hlen:vs.length<=WI)
 (hp:∀x∈vs,∀H (R:Bool->Hp->Prop),C H->R (p x) H->tt (some x::σ') H R) (hf:∀x∈vs,p x=true->∀H (R:VK),C H->R (f x) H->te (some x::σ') H R)
 (D:WN) (hD:H1 D=none) (hC:∀ys,C (upd H1 D (.lst ys))) (q:Q (.ref D) (upd H1 D (.lst ((vs.filter p).map f)))) :
 ∃W:Nat->Nat->List V->Hp->Prop,(∃m,W 0 m [] (upd H1 D (.lst []))) /\
  ∀i m ys H2,W i m ys H2->H2 D=some (.lst ys)/\((J.stop i H2/\Q (.ref D) H2)\/(J.go i H2/\∀x H3,J.yld i H2 x H3 ->
   tt (some x::σ') H3 fun b H4=>if b=true then te (some x::σ') H4 fun y H5=>H5 D=some (.lst ys)/\ys.length<WI/\∃m',m'<m/\W (i+1) m' (ys++[y]) (upd H5 D (.lst (ys++[y])))
    else ∃m',m'<m/\W (i+1) m' ys H4)):=by
 refine⟨fun i m ys H2=>m=vs.length-i/\i<=vs.length/\ys=((vs.take i).filter p).map f/\H2=upd H1 D (.lst ys),⟨vs.length,by simp,rp _,by simp,rfl⟩,?_⟩;rintro i m ys H2 ⟨rfl,hi,hys,rfl⟩;refine⟨aa,?_⟩;by_cases hlt:i<vs.length
 .refine .inr ⟨E.go i _ (hC _) hlt,fun x H3 y=>?_⟩
  obtain⟨e,hx⟩:=E.yld i _ x H3 (hC _) hlt y;subst e;have hm:x∈vs:=wt hx;have htk:vs.take (i+1)=vs.take i++[x]:=by
   rw[Xj,hx];rfl
  have hyl:ys.length<=i:=by
   rw[hys,zm];exact r9 (Zj _ _) (by simp[qF];lia)
  refine hp x hm _ _ (hC _) ?_;cases hb:p x with
  |true=>
   rw[Wf rfl];refine hf x hm hb _ _ (hC _) ⟨aa,by lia,vs.length-(i+1),by lia,rfl,hlt,?_,?_⟩
   .rw[htk,Zp,yB,<- hys]
    simp[hb]
   .funext z
    by_cases hz:z=D
    .subst hz;rw[aa,aa]
    .rw[ag hz,ag hz,ag hz]
  |false=>
   rw[Wg vV];refine⟨vs.length-(i+1),by lia,rfl,hlt,?_,rfl⟩;rw[htk,Zp,yB,<- hys];simp[hb]
 .have e:i=vs.length:=by lia
  subst e;refine .inl ⟨E.stop _ (hC _),?_⟩;rw[Zx]at hys;rw[hys];exact q
def Enum.c{J:It}{vs:List V}(E:Enum J vs)(C:Hp->Prop):zE C J vs:=⟨fun i H _=>E.go i H,fun i H x H1 _=>E.yld i H x H1,fun H _=>E.stop H⟩
end
def SqL.same{K:Wz}{H H':Hp}{a:WN}{xs:List V}(s:XA H H')(h:SqL K H a xs):SqL K H' a xs:=by
 obtain(h|⟨o,h⟩)|h:=h
 .exact .inl (.inl (s _ _ h))
 .exact .inl (.inr ⟨o,s _ _ h⟩)
 .exact .inr h
theorem uP(g:Nat->Nat):∀l:List Nat,(l.map fun k=>[g k]).flatten=l.map g
 | []=>rfl
 |a::r=>by rw[xY,List.flatten_cons,uP g r];rfl
theorem j9(g:Nat->Nat):∀l:List Nat,((l.map fun k=>[g k]).map ZT).sum=l.length
 | []=>rfl
 |a::r=>by have:=j9 g r;simp only[xY,Yb,sP,YM,this];lia
def AW{K:Wz}{H1:Hp}{D:WN}{Q:VK}(l:List Nat)(g:Nat->Nat)(hs:H1 D=some (.lst (l.map fun k=>T [g k])))(hl:l.length<=1000)(q:Q (T (l.map g)) H1):EV K (T []) [.ref D] H1 Q:=by
 refine⟨l.map fun k=>[g k],al (by rw[hs,uR];rfl),?_,?_⟩
 .unfold Ba;rw[j9];simp[cs];lia
 .show Q (T (cf [] _)) H1
  rw[pJ,uP];exact q
def wS:cM (XE P w) X (fun _ _ _ _=>False):=fun _ _ _ _ _ _ _ hq_=>(by obtain⟨_,_,_,_,_,_,_,_,_,_,_,q⟩:=hq_;exact q.elim)
noncomputable def Cj:Option NameKind->Bool
 |some .cell=>true
 |some .free=>true
 |_=>false
def uF:Cj k=true↔(k=some .cell\/k=some .free):=by
 cases k with
 |none=>simp[Cj]
 |some k=>cases k <;> simp[Cj]
def bP{cl:List (Str × WN)}{fr:List Str}(h:(cl.map (·.1)).all (fun y=>fr.elem y)=true):∀y∈cl,y.1∈fr:=fun y hy=>by
 have:=Zv.mp h y.1 (xW hy)
 simpa using this
def aN{fr:List Str}{k:Str->Option NameKind}(h:fr.all (fun y=>Cj (k y))=true):∀y∈fr,k y=some .cell\/k y=some .free:=fun y hy=>uF.mp (Zv.mp h y hy)
def bO{names:List (Str × NameKind)}{fr:List Str}(h:names.all (fun p=>!Cj (some p.2) || fr.elem p.1)=true):∀y,(names.lookup y=some .cell\/names.lookup y=some .free)->y∈fr:=fun y hy=>by
 have hy':=uF.mpr hy;cases e:names.lookup y with
 |none=>rw[e]at hy';cases hy'
 |some k=>
  rw[e]at hy';have:=Zv.mp h (y,k) (Z6 e)
  simpa [hy'] using this
section
variable{X:Cx}{pos:Pos}
def Gy(I:WR X XG σ H s):ZU<s.heap.objs.size:=
 Nat.lt_trans (by decide) (show ZP<s.heap.objs.size from(I.mod.glob.keeps I.bk).lt)
def E7:TE:=fun _ H Q=>∀p,H p=none->Q (.ref p) (upd H p (.dK []))
def gH:PE X (.Dict [] [] pos) E7:=by
 intro XG s σ H Q I h;have new:WV X.prog X.w (upd H s.heap.objs.size (.dK [])) (s.heap.push { cls:=.type "dict",data:=.dict #[] }) s.heap.objs.size (.dK []):=
  ⟨rp _,beq_eq_false_iff_ne.mpr (Wj (Zy (Gy I))),[],.nil,Heap.DictOf.new s.heap⟩
 exact wpAny_Dict_empty ⟨.ref s.heap.objs.size,_,I.laid (t':=s.toks) (fun _ _ q=>Wy _ q) (ym _) new,rfl,h _ (I.hok.fresh (ym _))⟩
end
section
variable{X:Cx}
def AH{K:Wz}{C:Hp->Prop}{a:WN}{vs:List V}(h:∀H,C H->SqL K H a vs):zE C (Itl K a) vs:=
 ⟨fun i H c hi=>⟨vs,vs[i],h H c,Wr hi⟩,fun i H x H' c _ y=>⟨y.1,y.2 vs (h H c)⟩,fun H c=>⟨vs,h H c,ym _⟩⟩
end
end L2
namespace L2
open PySem PySem.Spec PyProof.Rows
section
variable{X:Cx}{K:Wz}{pos:Pos}
def cN(K:Wz)(hc:X.calm=true)(h:PGs X es t)(hK:X.K=K:=by rfl)
 (hn:(XO es X.env).length=n:=by rfl) (hst:(XO es X.env).findIdx? (·.1)=none:=by rfl):PG X (.Tuple es k pos) (DQ K n t):=by
 subst hK;exact Ho hc h hn hst
end
section
variable{X:Cx}{T name id:String}{r:V->List V->Hp->VK->Prop}{o e:Expr}{es:List Expr}{to:TE}{t:TA}{apos cpos:Pos}
def bY(K:Wz)(pa:PlainAttrs T)(slot:Slot T name id)(hty:typeOf (.builtin id)=pure (.type "method_descriptor"))(hm:MtR X id r)(ho:PE X o to)(ha:PA X (e::es) t)(hK:X.K=K:=by rfl)
 (hbase:Yc o name X.env (eval o X.env)=eval o X.env:=by rfl)
 (hfew:((WD cpos (WE (e::es) X.env)).all (fun x=>!x.1)&&(backToKw cpos (Xn [] X.env)).all (fun x=>x.1.isSome)
  && decide ((e::es).length+([]:List Keyword).length+(if ([]:List Keyword).isEmpty then 0 else 1)<30))=true:=by rfl)
 (hline:(apos.endLine==cpos.line)=true:=by rfl) (hs:WE (e::es) X.env=(false,eval e X.env)::WE es X.env:=by rfl) (hplain:(WD cpos (WE es X.env)).any (·.1)=false:=by rfl) :
 PE X (.Call (.Attribute o name apos) (e::es) [] cpos) (tBM K T r to t):=by
 subst hK;exact IX pa slot hty hm ho ha hbase hfew hline hs hplain
end
end L2
namespace L2
open PySem PySem.Spec PyProof.Rows Builtin Builtin.Str
noncomputable def spN(c:Nat):List Nat->List (List Nat)
 | []=>[[]]
 |a::r=>if a=c then []::spN c r else match spN c r with
  |h::t=>(a::h)::t
  | []=>[[a]]
theorem iE(c:Nat):∀l,spN c l≠[]
 | []=>by simp[spN]
 |a::r=>by
  unfold spN;split
  .simp
  .split <;> simp
theorem f_(c:Nat):∀l:List Nat,c∉l->spN c l=[l]
 | [],_=>rfl
 |a::r,h=>by
  have h1:¬ a=c:=fun z=>h (by rw[z];simp);have h2:c∉r:=fun z=>h (tH _ z);unfold spN;rw[Wg h1,f_ c r h2]
theorem wN(c:Nat):∀(l r:List Nat),c∉l->spN c (l++c::r)=l::spN c r
 | [],r,_=>by simp[spN]
 |a::l,r,h=>by
  have h1:¬ a=c:=fun z=>h (by rw[z];simp);have h2:c∉l:=fun z=>h (tH _ z);rw[Yy];show(if a=c then _ else _)=_;rw[Wg h1,wN c l r h2]
theorem m_(c:Nat):∀ps:List (List Nat),ps≠[]->(∀p∈ps,c∉p)->spN c (cf [c] ps)=ps
 | [],h,_=>Wa rfl h
 | [p],_,h=>f_ c p (h p (by simp))
 |p::q::r,_,h=>by
  rw[cf,YI,List.singleton_append,wN c p _ (h p (by simp)),m_ c (q::r) (by simp) fun x hx=>h x (tH _ hx)]
theorem fX(c:Nat):∀l:List Nat,cf [c] (spN c l)=l
 | []=>rfl
 |a::r=>by
  have ih:=fX c r;unfold spN;split
  .rename_i e
   cases es:spN c r with
   |nil=>exact Wa es (iE c r)
   |cons h t=>rw[es]at ih;rw[cf,ih,e];rfl
  .cases es:spN c r with
   |nil=>exact Wa es (iE c r)
   |cons h t=>
    rw[es]at ih;cases t with
    |nil=>simp[cf]at ih |-; exact ih
    |cons h2 t=>rw[cf]at ih |-; rw[<- ih];simp
theorem iN(c:Nat):∀(l:List Nat),∀p∈spN c l,c∉p
 | [],p,hp=>by simp[spN]at hp;rw[hp];simp
 |a::r,p,hp=>by
  unfold spN at hp;split at hp
  .obtain h|h:=zk.mp hp
   .rw[h];simp
   .exact iN c r p h
  .rename_i hne
   split at hp
   .rename_i h t es
    obtain e|e:=zk.mp hp
    .rw[e]
     have:=iN c r h (by rw[es];simp);simp only[zk,not_or];exact⟨fun z=>hne z.symm,this⟩
    .exact iN c r p (by rw[es];exact tH _ e)
   .rename_i es;exact Wa es (iE c r)
theorem jG(c:Nat):∀l:List Nat,(spN c l).length<=l.length+1
 | []=>by simp[spN]
 |a::r=>by
  have ih:=jG c r;unfold spN;split
  .simp;lia
  .split
   .rename_i es;rw[es]at ih;simp at ih |-; lia
   .simp
theorem iT(c:Nat):∀l:List Nat,∀p∈spN c l,p.length<=l.length/\∀d∈p,d∈l
 | [],p,hp=>by simp[spN]at hp;rw[hp];simp
 |a::r,p,hp=>by
  unfold spN at hp;split at hp
  .obtain h|h:=zk.mp hp
   .rw[h];simp
   .obtain⟨h1,h2⟩:=iT c r p h
    exact⟨by rw[sP];lia,fun d hd=>tH _ (h2 d hd)⟩
  .split at hp
   .rename_i h t es
    obtain e|e:=zk.mp hp
    .obtain⟨h1,h2⟩:=iT c r h (by rw[es];simp)
     rw[e];refine⟨by rw[sP,sP];lia,fun d hd=>?_⟩;obtain z|z:=zk.mp hd
     .rw[z];simp
     .exact tH _ (h2 d z)
    .obtain⟨h1,h2⟩:=iT c r p (by rw[es];exact tH _ e)
     exact⟨by rw[sP];lia,fun d hd=>tH _ (h2 d hd)⟩
   .rename_i es;exact Wa es (iE c r)
def Ax(x y:Str):Txt.split x y≠[]:=by
 unfold Txt.split;split
 .simp
 .split
  .simp
  .rw[StrLaws.partsBetween_eq]
   obtain⟨p,r,e⟩:=StrLaws.partsFrom_ne x y.length 0 (occurrences x y 0 x.length (x.length+1));rw[e];simp
def uI(l:List Nat)(c:Nat):(Txt.split ⟨⟨l⟩⟩ ⟨#[c]⟩).map (fun x=>cs x)=spN c l:=by
 have h1:=StrLaws.join_split ⟨⟨l⟩⟩ ⟨#[c]⟩;have h2:=StrLaws.split_free ⟨⟨l⟩⟩ c;have h0:=Ax ⟨⟨l⟩⟩ ⟨#[c]⟩;generalize Txt.split ⟨⟨l⟩⟩ ⟨#[c]⟩=ps at h0 h1 h2;have hj:cf [c] (ps.map fun x=>cs x)=l:=by
  have e:ps=(ps.map fun x=>cs x).map S:=by
   rw[uR]
   conv=>lhs;rw[<- Ye ps]
   apply lW;intro x _;rfl
  rw[e]at h1;have h3:Str.join (S [c]) ((ps.map fun x=>cs x).map S)=S (cf [c] (ps.map fun x=>cs x)):=by
   have:=xH [c] (ps.map fun x=>cs x);exact(StrLaws.glued_eq_join _ _).symm.trans this
  have h4:S (cf [c] (ps.map fun x=>cs x))=⟨⟨l⟩⟩:=h3.symm.trans h1;have h5:=Wb cs h4;exact h5
 have hne:(ps.map fun x=>cs x)≠[]:=by
  intro z;exact h0 (List.map_eq_nil_iff.mp z)
 rw[<- hj,m_ c _ hne];intro p hp;obtain⟨x,hx,rfl⟩:=yI.mp hp;exact h2 x hx
section
variable{X:Cx}{e a b c:Expr}{pos:Pos}
def IB:V->List V->Hp->VK->Prop
 | .str x,[.str y],H,Q=>(∃c,cs y=[c]/\(cs x).length+2<=WI/\∀p,H p=none->Q (.ref p) (upd H p (.lst ((spN c (cs x)).map T))))
 |_,_,_,_=>False
theorem qa:∀(l:List (Str × Tok)),WW (l.map fun p=>V.str p.1) (strValues l)
 | []=>.nil
 |p::r=>.cons ⟨p.2,rfl⟩ (qa r)
def j3:MtR X "str.split" IB:=by
 intro XG s σ H x xs v us Q I rx rs h;cases x with
 |str x=>
  obtain _|⟨e_1,r_1⟩:=xs
  .exact XH h
  cases e_1 with
  |str y=>
   cases r_1 with
   |nil=>
    obtain⟨c,hc,hz,q⟩:=h;obtain⟨t,rfl⟩:=rx;obtain⟨u,rfl,t',rfl⟩:=dI rs;have hy:=qZ hc;subst hy;obtain⟨⟨l⟩⟩:=x;have hx:(⟨⟨l⟩⟩:Str).length+2<=WI:=hz;have fin:∀(l':List (Str × Tok)) (k:Nat),l'.map (·.1)=Txt.split ⟨⟨l⟩⟩ ⟨#[c]⟩->EP X XG σ Q (.ref s.heap.objs.size) { s with toks:=k,heap:=s.heap.push { cls:=.type "list",data:=.seq (strValues l').toArray } }:=fun l' k hl=>by
     have e:(spN c l).map T=l'.map fun p=>V.str p.1:=by
      rw[<- uI,<- hl,uR,uR];apply lW;intro p _;rfl
     have hlen:((spN c l).map T).length<=WI:=by
      rw[zm];have:=jG c l;have hz':l.length+2<=WI:=hz;lia
     have hv:WW ((spN c l).map T) (strValues l'):=by rw[e];exact qa l'
     exact⟨.ref s.heap.objs.size,_,I.lnew (t':=k) hv hlen,rfl,q _ I.fresh⟩
    have hn:(partsBetween ⟨⟨l⟩⟩ (occurrences ⟨⟨l⟩⟩ ⟨#[c]⟩ 0 (⟨⟨l⟩⟩:Str).length ((⟨⟨l⟩⟩:Str).length+1)) (⟨#[c]⟩:Str).length).length<=WI:=by
     have e1:=StrLaws.occ_length_le ⟨⟨l⟩⟩ ⟨#[c]⟩ 0 (⟨⟨l⟩⟩:Str).length ((⟨⟨l⟩⟩:Str).length+1);rw[length_partsBetween];lia
    have hy:((⟨#[c]⟩:Str).length==0)=false:=rfl;cases h1:(decide ((⟨⟨l⟩⟩:Str).length<(⟨#[c]⟩:Str).length) || decide (strKind ⟨⟨l⟩⟩<strKind ⟨#[c]⟩))
    .cases hf:(occurrences ⟨⟨l⟩⟩ ⟨#[c]⟩ 0 (⟨⟨l⟩⟩:Str).length ((⟨⟨l⟩⟩:Str).length+1)).isEmpty
     .refine YF F.slot_str_split (XQ _ _ _) F.entry_str_split (F.args_str_split_2 _ _) (meets_str_split_sep ⟨⟨l⟩⟩ ⟨#[c]⟩ t t' h1 hy hf (by lia) hn) ?_
      show wants _ _ _ { s with toks:=_,heap:=s.heap.push { cls:=.type "list",data:=.seq (strsFrom s.toks (partsBetween ⟨⟨l⟩⟩ (occurrences ⟨⟨l⟩⟩ ⟨#[c]⟩ 0 (⟨⟨l⟩⟩:Str).length ((⟨⟨l⟩⟩:Str).length+1)) (⟨#[c]⟩:Str).length)).toArray } };rw[strsFrom_eq];exact fin (numbered s.toks _) _ ((numbered_texts _ _).trans ((Wg (ne_true_of_eq_false h1)).trans (Wg (ne_true_of_eq_false hf))).symm)
     .refine YF F.slot_str_split (XQ _ _ _) F.entry_str_split (F.args_str_split_2 _ _) (meets_str_split_not_found ⟨⟨l⟩⟩ ⟨#[c]⟩ t t' h1 hy hf) ?_
      exact fin [(⟨⟨l⟩⟩,t)] s.toks ((Wg (ne_true_of_eq_false h1)).trans (Wf hf)).symm
    .refine YF F.slot_str_split (XQ _ _ _) F.entry_str_split (F.args_str_split_2 _ _) (meets_str_split_cannot_occur ⟨⟨l⟩⟩ ⟨#[c]⟩ t t' h1) ?_
     exact fin [(⟨⟨l⟩⟩,t)] s.toks (Wf h1).symm
   |cons=>exact XH h
  |_=>exact XH h
 |_=>exact XH h
noncomputable def qB:List Nat->List Nat->Bool
 |_,[]=>true
 | [],_::_=>false
 |a::l,b::r=>decide (a=b)&&qB l r
theorem uG:∀(x y:List Nat),qB x y=true↔x.take y.length=y
 |x,[]=>by simp[qB]
 | [],b::r=>by simp[qB]
 |a::l,b::r=>by simp[qB,uG l r]
def Il:V->List V->Hp->VK->Prop
 | .str x,[.str y],H,Q=>Q (.bl (qB (cs x) (cs y))) H
 |_,_,_,_=>False
def CN(x y:Str):(decide (0+y.length<=x.length)&&YH x y 0)=qB (cs x) (cs y):=by
 obtain⟨⟨l⟩⟩:=x;obtain⟨⟨r⟩⟩:=y;rw[YL,uG,Za];unfold YH;simp only[Yo,cs,Nat.zero_add,decide_eq_true_eq,yN,beq_iff_eq];have e:(⟨l⟩:Array Nat).extract 0 r.length=⟨r⟩↔l.take r.length=r:=by
  constructor
  .intro h
   have:=Wb Array.toList h
   simpa using this
  .intro h
   apply Array.toList_inj.mp
   simpa using h
 constructor
 .rintro⟨_,h⟩;exact e.mp h
 .intro h
  refine⟨?_,e.mpr h⟩;have:=Wb ZT h;rw[qF]at this;lia
def m8:MtR X "str.startswith" Il:=by
 intro XG s σ H x xs v us Q I rx rs h;cases x with
 |str x=>
  obtain _|⟨e_1,r_1⟩:=xs
  .exact XH h
  cases e_1 with
  |str y=>
   cases r_1 with
   |nil=>
    obtain⟨t,rfl⟩:=rx;obtain⟨u,rfl,t',rfl⟩:=dI rs;refine YF F.slot_str_startswith (XQ _ _ _) F.entry_str_startswith (F.args_str_startswith_2 _ _) (gives_str_startswith _ y t t').meets ?_;exact⟨.bl _,H,I,rfl,by rw[CN];exact h⟩
   |cons=>exact XH h
  |_=>exact XH h
 |_=>exact XH h
def Jd:R2
 | .ref l,.ref b,H,Q=>∃xs zs,H l=some (.lst xs)/\H b=some (.lst zs)/\xs.length+zs.length<=WI/\∀p,H p=none->Q (.ref p) (upd H p (.lst (xs++zs)))
 |_,_,_,_=>False
def lg:OpR X (binaryOp .Add) Jd:=Gf.imp fun x y H Q h=>by
 cases x with
 |ref v_1=>
  cases y with
  |ref v_2=>
   obtain⟨xs,zs,h1,h2,h3,q⟩:=h;exact⟨_,_,xs,zs,rfl,rfl,h1,h2,h3,q⟩
  |_=>exact XH h
 |_=>exact XH h
def uL(K:Wz)(h:X.K=K:=by rfl):SlR X (Jg K):=h ▸ DZ
def wP(K:Wz):List V->Hp->VK->Prop
 | [.ref p],H,Q=>∃ys,(SqL K H p ys\/SqT K H p ys)/\∀l,H l=none->Q (.ref l) (upd H l (.lst ys))
 |_,_,_=>False
def iU(K:Wz)(hK:X.K=K:=by rfl):WT X (.type "list") (wP K):=by
 subst hK;refine rf.imp fun xs H Q h=>?_;obtain _|⟨e_1,r_1⟩:=xs
 .exact XH h
 cases e_1 with
 |ref v_2=>
  cases r_1 with
  |nil=>
   obtain⟨ys,h1,q⟩:=h;exact⟨_,ys,rfl,h1,q⟩
  |cons=>exact XH h
 |_=>exact XH h
def AQ(K:Wz):List V->Hp->VK->Prop
 | [.ref p],H,Q=>∃ys,(SqL K H p ys/\∀l,H l=none->Q (.ref l) (upd H l (.tup ys)))\/(SqT K H p ys/\Q (.ref p) H)
 |_,_,_=>False
def tL(K:Wz)(hK:X.K=K:=by rfl):WT X (.type "tuple") (AQ K):=by
 subst hK;refine pE.imp fun xs H Q h=>?_;obtain _|⟨e_1,r_1⟩:=xs
 .exact XH h
 cases e_1 with
 |ref v_2=>
  cases r_1 with
  |nil=>
   obtain⟨ys,h1⟩:=h;exact⟨_,ys,rfl,h1⟩
  |cons=>exact XH h
 |_=>exact XH h
inductive EqH (K:Wz) (H:Hp):Nat->V->V->Bool->Prop
 |flat {n x y}:dB x=true->dB y=true->EqH K H n x y (eqV x y)
 |same {n p}:EqH K H n (.ref p) (.ref p) true
 |lst {n p q xs ys} {e:Nat->Bool}:p≠q->SqL K H p xs->SqL K H q ys->xs.length=ys.length->(∀j x y,xs[j]? = some x->ys[j]? = some y->EqH K H n x y (e j))->EqH K H (n+1) (.ref p) (.ref q) ((lq xs.length).all e)
 |len {n p q xs ys}:p≠q->SqL K H p xs->SqL K H q ys->xs.length≠ys.length->EqH K H (n+1) (.ref p) (.ref q) false
 |tup {n p q xs ys} {e:Nat->Bool}:p≠q->SqT K H p xs->SqT K H q ys->(∀j x y,xs[j]? = some x->ys[j]? = some y->EqH K H n x y (e j))->EqH K H (n+1) (.ref p) (.ref q) ((lq (min xs.length ys.length)).all e&&xs.length==ys.length)
 |lt {n p q xs ys}:SqL K H p xs->SqT K H q ys->EqH K H (n+1) (.ref p) (.ref q) false
 |tl {n p q xs ys}:SqT K H p xs->SqL K H q ys->EqH K H (n+1) (.ref p) (.ref q) false
def gu{P:WO->WO->Bool->Prop}{xs ys:List V}{XC its':List WO}{e:Nat->Bool}(r:WW xs XC)(r':WW ys its')(h:∀j x y u v,xs[j]? = some x->ys[j]? = some y->WX x u->WX y v->P u v (e j)) :
 ∀j (h1:j<XC.toArray.size) (h2:j<its'.toArray.size),P XC.toArray[j] its'.toArray[j] (e j):=fun j g1 g2=>by
 have h1:xs.length=XC.length:=r.length;have h2:ys.length=its'.length:=r'.length;have g1':j<XC.length:=by simpa using g1
 have g2':j<its'.length:=by simpa using g2
 have l1:j<xs.length:=by lia
 have l2:j<ys.length:=by lia
 obtain⟨w1,e1,r1⟩:=r.get (Wr l1);obtain⟨w2,e2,r2⟩:=r'.get (Wr l2);have z1:XC.toArray[j]=w1:=by
  have:XC[j]? = some XC[j]:=Wr g1';rw[this]at e1;simpa using Zt e1
 have z2:its'.toArray[j]=w2:=by
  have:its'[j]? = some its'[j]:=Wr g2';rw[this]at e2;simpa using Zt e2
 rw[z1,z2];exact h j _ _ _ _ (Wr l1) (Wr l2) r1 r2
def EqH.at{K:Wz}{H:Hp}{n:Nat}{x y:V}{b:Bool}(h:EqH K H n x y b):∀ {X:Cx} {XG:List (WN × Obj)} {σ:St} {s:WM} {A:WJ} {u v:WO},X.K=K->WR X XG σ H s->A.units+n<cLine->WX x u->WX y v->SeqAt.EqAt A s u v b:=by
 induction h with
 |flat fx fy=>
  intro X XG σ s A u v hK I hu rx ry;exact vA rx ry fx fy
 |same=>
  intro X XG σ s A u v hK I hu rx ry;cases rx;cases ry;exact SeqAt.EqAt.same _
 | @lst n p q xs ys e hpq hx hy hl _ ih=>
  intro X XG σ s A u v hK I hu rx ry;cases rx;cases ry;subst hK;obtain⟨XC,r,pl,hz⟩:=I.list hx;obtain⟨its',r',pl',hz'⟩:=I.list hy;have h1:xs.length=XC.length:=r.length;have h2:ys.length=its'.length:=r'.length;have:=SeqAt.RcAt.lists (A:=A) (e:=e) pl.isList pl'.isList (by simp;lia) (by lia) (gu r r' fun j x y u v g1 g2 r1 r2=>ih j x y g1 g2 rfl I (by show A.units+1+n<cLine;lia) r1 r2);rw[yN,<- h1]at this;exact .of_refs hpq this
 | @len n p q xs ys hpq hx hy hl=>
  intro X XG σ s A u v hK I hu rx ry;cases rx;cases ry;subst hK;obtain⟨XC,r,pl,hz⟩:=I.list hx;obtain⟨its',r',pl',hz'⟩:=I.list hy;have h1:xs.length=XC.length:=r.length;have h2:ys.length=its'.length:=r'.length;exact .of_refs hpq (SeqAt.RcAt.lists_lengths pl.isList pl'.isList (by simp;lia) (by lia))
 | @tup n p q xs ys e hpq hx hy _ ih=>
  intro X XG σ s A u v hK I hu rx ry;cases rx;cases ry;subst hK;obtain⟨XC,r,pl,hz⟩:=I.tuple hx;obtain⟨its',r',pl',hz'⟩:=I.tuple hy;have h1:xs.length=XC.length:=r.length;have h2:ys.length=its'.length:=r'.length;have:=SeqAt.RcAt.tuples (A:=A) (e:=e) pl pl' (by lia) (gu r r' fun j x y u v g1 g2 r1 r2=>ih j x y g1 g2 rfl I (by show A.units+1+n<cLine;lia) r1 r2);rw[yN,yN,<- h1,<- h2]at this;exact .of_refs hpq this
 |lt hx hy=>
  intro X XG σ s A u v hK I hu rx ry;cases rx;cases ry;subst hK;obtain⟨XC,r,pl,hz⟩:=I.list hx;obtain⟨its',r',pl',hz'⟩:=I.tuple hy;exact SeqAt.EqAt.list_tuple pl.isList pl' (by lia)
 |tl hx hy=>
  intro X XG σ s A u v hK I hu rx ry;cases rx;cases ry;subst hK;obtain⟨XC,r,pl,hz⟩:=I.tuple hx;obtain⟨its',r',pl',hz'⟩:=I.list hy;exact SeqAt.EqAt.tuple_list pl pl'.isList (by lia)
inductive EqR (K:Wz) (H:Hp) (p q:WN):Bool->Prop
 |lst {xs ys} {e:Nat->Bool}:SqL K H p xs->SqL K H q ys->xs.length=ys.length->(∀j x y,xs[j]? = some x->ys[j]? = some y->EqH K H 50 x y (e j))->EqR K H p q ((lq xs.length).all e)
 |len {xs ys}:SqL K H p xs->SqL K H q ys->xs.length≠ys.length->EqR K H p q false
 |tup {xs ys} {e:Nat->Bool}:SqT K H p xs->SqT K H q ys->(∀j x y,xs[j]? = some x->ys[j]? = some y->EqH K H 50 x y (e j))->EqR K H p q ((lq (min xs.length ys.length)).all e&&xs.length==ys.length)
def GU(K:Wz)(neg:Bool):R2
 | .ref p,.ref q,H,Q=>∃b,EqR K H p q b/\Q (.bl (neg ^^ b)) H
 |_,_,_,_=>False
def Hk(K:Wz)(hu:X.A.units+100<cLine)(hK:X.K=K:=by rfl):OpR X (Zl .Eq) (GU K false):=by
 subst hK;intro XG s σ H x y v u Q I rx ry h;cases x with
 |ref p=>
  cases y with
  |ref q=>
   obtain⟨b,hb,q⟩:=h;cases rx;cases ry;cases hb with
   | @lst xs ys e hx hy hl he=>
    obtain⟨XC,r,pl,hz⟩:=I.list hx;obtain⟨its',r',pl',hz'⟩:=I.list hy;have h1:xs.length=XC.length:=r.length;have h2:ys.length=its'.length:=r'.length;refine SeqAt.eq_listAt (e:=e) pl.isList pl'.isList (by simp;lia) (by lia) (gu r r' fun j x y u v g1 g2 r1 r2=>(he j x y g1 g2).at rfl I (by show X.A.units+1+50<cLine;lia) r1 r2) ⟨.bl _,H,I,rfl,?_⟩;rw[yN,<- h1];simpa using q
   | @len xs ys hx hy hl=>
    obtain⟨XC,r,pl,hz⟩:=I.list hx;obtain⟨its',r',pl',hz'⟩:=I.list hy;have h1:xs.length=XC.length:=r.length;have h2:ys.length=its'.length:=r'.length;exact SeqAt.eq_list_lengthsAt pl.isList pl'.isList (by simp;lia) (by lia) ⟨.bl false,H,I,rfl,by simpa using q⟩
   | @tup xs ys e hx hy he=>
    obtain⟨XC,r,pl,hz⟩:=I.tuple hx;obtain⟨its',r',pl',hz'⟩:=I.tuple hy;have h1:xs.length=XC.length:=r.length;have h2:ys.length=its'.length:=r'.length;refine SeqAt.eq_tupleAt (e:=e) pl pl' (by lia) (gu r r' fun j x y u v g1 g2 r1 r2=>(he j x y g1 g2).at rfl I (by show X.A.units+1+50<cLine;lia) r1 r2) ⟨.bl _,H,I,rfl,?_⟩;rw[yN,yN,<- h1,<- h2];simpa using q
  |_=>exact XH h
 |_=>exact XH h
def GZ(K:Wz)(hu:X.A.units+100<cLine)(hK:X.K=K:=by rfl):OpR X (Zl .NotEq) (GU K true):=by
 subst hK;intro XG s σ H x y v u Q I rx ry h;cases x with
 |ref p=>
  cases y with
  |ref q=>
   obtain⟨b,hb,q⟩:=h;cases rx;cases ry;cases hb with
   | @lst xs ys e hx hy hl he=>
    obtain⟨XC,r,pl,hz⟩:=I.list hx;obtain⟨its',r',pl',hz'⟩:=I.list hy;have h1:xs.length=XC.length:=r.length;have h2:ys.length=its'.length:=r'.length;refine SeqAt.RcNeAt.lists (e:=e) pl.isList pl'.isList (by simp;lia) (by lia) (gu r r' fun j x y u v g1 g2 r1 r2=>(he j x y g1 g2).at rfl I (by show X.A.units+1+50<cLine;lia) r1 r2) X.prog X.w X.xe _ ⟨.bl _,H,I,rfl,?_⟩;rw[yN,<- h1];simpa using q
   | @len xs ys hx hy hl=>
    obtain⟨XC,r,pl,hz⟩:=I.list hx;obtain⟨its',r',pl',hz'⟩:=I.list hy;have h1:xs.length=XC.length:=r.length;have h2:ys.length=its'.length:=r'.length;exact SeqAt.RcNeAt.lists_lengths pl.isList pl'.isList (by simp;lia) (by lia) X.prog X.w X.xe _ ⟨.bl true,H,I,rfl,by simpa using q⟩
   | @tup xs ys e hx hy he=>
    obtain⟨XC,r,pl,hz⟩:=I.tuple hx;obtain⟨its',r',pl',hz'⟩:=I.tuple hy;have h1:xs.length=XC.length:=r.length;have h2:ys.length=its'.length:=r'.length;refine SeqAt.RcNeAt.tuples (e:=e) pl pl' (by lia) (gu r r' fun j x y u v g1 g2 r1 r2=>(he j x y g1 g2).at rfl I (by show X.A.units+1+50<cLine;lia) r1 r2) X.prog X.w X.xe _ ⟨.bl _,H,I,rfl,?_⟩;rw[yN,yN,<- h1,<- h2];simpa using q
  |_=>exact XH h
 |_=>exact XH h
def EqR.flatL{K:Wz}{H:Hp}{p q:WN}{xs:List V}(hx:SqL K H p xs)(hy:SqL K H q xs)(f:xs.all dB=true):EqR K H p q true:=by
 have h:=EqR.lst (K:=K) (H:=H) (e:=fun j=>eqV (xs.getD j .non) (xs.getD j .non)) hx hy rfl fun j x y gx gy=>by
  have e1:xs.getD j .non=x:=by simp[List.getD,gx]
  rw[e1];rw[gx]at gy;cases gy;exact .flat (Zv.mp f _ (wt gx)) (Zv.mp f _ (wt gx))
 have e:(lq xs.length).all (fun j=>eqV (xs.getD j .non) (xs.getD j .non))=true:=by
  rw[Zv];intro j hj;have hf:dB (xs.getD j .non)=true:=by
   have hj':j<xs.length:=by simpa using hj
   have:xs.getD j .non∈xs:=by
    have e1:xs.getD j .non=xs[j]:=by simp[List.getD,hj']
    rw[e1];exact List.getElem_mem hj'
   exact Zv.mp f _ this
  generalize xs.getD j .non=z at hf;cases z <;> simp[eqV]at hf |- <;> simp[dB]at hf
 rw[e]at h;exact h
end
end L2
namespace PySem
open Sem (wp)
open Builtin
end PySem
namespace L2
open PySem PySem.Spec PyProof.Rows Builtin Builtin.Str
section
variable{X:Cx}{e a b c:Expr}{pos:Pos}
def jw(K:Wz)(neg:Bool):R2:=fun x y H Q=>match eqS x y with
 |some k=>Q (.bl (neg ^^ k)) H
 |none=>GU K neg x y H Q
def cY(K:Wz)(hu:X.A.units+100<cLine)(hK:X.K=K:=by rfl):OpR X (Zl .Eq) (jw K false):=((FT (by lia)).or (Hk K hu hK)).imp fun x y H Q h=>by
 unfold jw at h;split at h
 .rename_i k hk
  obtain⟨h1,h2⟩:=uK hk;exact .inl (.inl ⟨h1,by rw[h2];simpa using h⟩)
 .exact .inr h
def dw(K:Wz)(hu:X.A.units+100<cLine)(hK:X.K=K:=by rfl):OpR X (Zl .NotEq) (jw K true):=((HI (by lia)).or (GZ K hu hK)).imp fun x y H Q h=>by
 unfold jw at h;split at h
 .rename_i k hk
  obtain⟨h1,h2⟩:=uK hk;exact .inl (.inl ⟨h1,by rw[h2];simpa using h⟩)
 .exact .inr h
variable{K:Wz}{neg:Bool}{H:Hp}{Q:VK}
def DO:jw K neg (.int i) (.int j) H Q=Q (.bl (neg ^^ decide (i=j))) H:=rfl
def Hb:jw K neg (.bl i) (.bl j) H Q=Q (.bl (neg ^^ decide (i=j))) H:=rfl
def CU:jw K neg (.str i) (.str j) H Q=Q (.bl (neg ^^ decide (i.cps.toList=j.cps.toList))) H:=rfl
def Du:jw K neg (.ref p) (.ref q) H Q = ∃b,EqR K H p q b/\Q (.bl (neg ^^ b)) H:=rfl
def GL:jw K neg .non .non H Q=Q (.bl (neg ^^ true)) H:=rfl
def Hu:jw K neg .non (.int i) H Q=Q (.bl (neg ^^ false)) H:=rfl
def Hz:jw K neg (.int i) .non H Q=Q (.bl (neg ^^ false)) H:=rfl
def Gg:jw K neg (.int i) (.str s) H Q=Q (.bl (neg ^^ false)) H:=rfl
def Fi:jw K neg (.str s) (.int i) H Q=Q (.bl (neg ^^ false)) H:=rfl
end
def b9{K:Wz}{tl:TE}{g:TG}{tb:TS}{D:gl}{σ:St}{H:Hp}(h:tl σ H fun v H1=>sS (oK K (tC v)) g tb D σ H1):sS (oK K tl) g tb D σ H:=h
def cn{K:Wz}{a:WN}{xs:List V}{g:TG}{tb:TS}{D:gl}{σ:St}{H:Hp}(hq:SqL K H a xs)(h:∃W:Nat->Nat->St->Hp->Prop,(∃m,W 0 m σ H)/\∀i m σ H,W i m σ H ->
 ((Itl K a).stop i H/\D.nx σ H)\/((Itl K a).go i H/\∃N:St->Hp->Prop,(∀σ' H',N σ' H'->∃m',m'<m/\W (i+1) m' σ' H')/\∀x H',(Itl K a).yld i H x H'->g x σ H' fun σ2 H2=>tb { D with nx:=N,ct:=N,bk:=D.nx } σ2 H2)):sS (oK K (tC (.ref a))) g tb D σ H:=⟨a,rfl,⟨xs,hq⟩,h⟩
def zn{ls:List (List Nat)}{i:Int}(h0:0<=i)(h1:i<ls.length)(q:∀l∈ls,Q (T l) H):oF (ls.map T) H H1 Q (.int i):=by
 obtain⟨j,rfl⟩:∃j:Nat,i=j:=⟨i.toNat,by lia⟩;have hj:j<ls.length:=by lia
 have e:atI (ls.map T) (j:Int)=some (T ls[j]):=aI (by simp[hj]);simp only[oF,e];exact q _ (List.getElem_mem hj)
def yT(lo:Int)(n:Nat):Enum (Itr lo n) ((lq n).map fun k=>V.int (lo+(k:Nat))):=by
 refine⟨fun i H h=>by simpa [Itr] using h,fun i H x H' hi y=>?_,fun H=>by simp[Itr]⟩;obtain⟨e,rfl⟩:=y;refine⟨e,?_⟩;have hi':i<n:=by simpa using hi
 simp[hi']
end L2
namespace L2
def cP(r:Room k A):A.units+100<PySem.cLine:=by have:=r.un;lia
end L2
namespace L2
open PySem PySem.Spec PyProof.Rows
section
variable{κ:Type}[DecidableEq κ]
noncomputable def bw(XB:List (κ × V))(k:κ):Option V:=(XB.find? fun kv=>decide (kv.1=k)).map (·.2)
noncomputable def bi(XB:List (κ × V))(k:κ)(v:V):List (κ × V):=
 if (XB.any fun kv=>decide (kv.1=k))=true then XB.map (fun kv=>if kv.1=k then (kv.1,v) else kv) else XB++[(k,v)]
noncomputable def KU(XB:List (κ × V))(k:κ):List (κ × V):=XB.filter fun kv=>decide (kv.1≠k)
def b8{p:κ × V}{r:List (κ × V)}{k:κ}(e:p.1=k):bw (p::r) k=some p.2:=by simp[bw,List.find?_cons,e]
def bZ{p:κ × V}{r:List (κ × V)}{k:κ}(e:¬ p.1=k):bw (p::r) k=bw r k:=by simp[bw,List.find?_cons,e]
theorem fF(k:κ):∀XB:List (κ × V),(XB.any fun kv=>decide (kv.1=k))=(bw XB k).isSome
 | []=>rfl
 |p::r=>by
  rw[List.any_cons];by_cases e:p.1=k
  .simp only[b8 e,We e,Bool.true_or,Option.isSome_some]
  .rw[bZ e,Wc e,Bool.false_or];exact fF k r
theorem ue(k j:κ)(y:V):∀XB:List (κ × V),bw (XB.map fun kv=>if kv.1=k then (kv.1,y) else kv) j=(bw XB j).map fun x=>if j=k then y else x
 | []=>rfl
 |p::r=>by
  have ih:=ue k j y r;rw[xY];by_cases h:p.1=k
  .rw[Wf h]
   by_cases e:p.1=j
   .rw[b8 (p:=(p.1,y)) e,b8 e,Option.map_some,Wf (e.symm.trans h)]
   .rw[bZ (p:=(p.1,y)) e,bZ e,ih]
  .rw[Wg h]
   by_cases e:p.1=j
   .rw[b8 (p:=p) e,b8 e,Option.map_some,Wg (fun z=>h (e.trans z))]
   .rw[bZ (p:=p) e,bZ e,ih]
theorem pM(k j:κ)(y:V):∀XB:List (κ × V),bw XB k=none->bw (XB++[(k,y)]) j=if j=k then some y else bw XB j
 | [],_=>by
  by_cases e:k=j
  .rw[Wf e.symm];exact b8 (p:=(k,y)) e
  .rw[Wg (fun z=>e z.symm)];exact bZ (p:=(k,y)) e
 |p::r,hn=>by
  rw[Yy];have hk:¬ p.1=k:=fun z=>by rw[b8 z]at hn;cases hn
  rw[bZ hk]at hn;have ih:=pM k j y r hn;by_cases e:p.1=j
  .rw[b8 e,b8 e,Wg (fun z=>hk (e.trans z))]
  .rw[bZ e,bZ e,ih]
def oz(XB:List (κ × V))(k j:κ)(y:V):bw (bi XB k y) j=if j=k then some y else bw XB j:=by
 unfold bi;by_cases a:(XB.any fun kv=>decide (kv.1=k))=true
 .rw[Wf a,ue]
  rw[fF]at a;by_cases e:j=k
  .obtain⟨x,hx⟩:=Option.isSome_iff_exists.mp a
   rw[Wf e,e,hx,Option.map_some,Wf rfl]
  .rw[Wg e]
   cases bw XB j with
   |none=>rfl
   |some x=>rw[Option.map_some,Wg e]
 .rw[Wg a]
  refine pM k j y XB ?_;rw[fF]at a;cases q:bw XB k with
  |none=>rfl
  |some x=>rw[q]at a;exact(a rfl).elim
def eJ(XB:List (κ × V))(k:κ)(v:V):(bi XB k v).length<=XB.length+1:=by
 unfold bi;split
 .rw[zm];lia
 .rw[zc,sP,YM];lia
def iB{XB:List (κ × V)}{k:κ}(v:V)(h:bw XB k=none):bi XB k v=XB++[(k,v)]:=by
 unfold bi;rw[fF,h];exact Wg (by decide)
def RelO.isSome_eq{o:Option V}{u:Option WO}(r:RelO o u):o.isSome=u.isSome:=by
 cases o with
 |none=>cases u with
  |none=>rfl
  |some _=>exact(show False from r).elim
 |some _=>cases u with
  |none=>exact(show False from r).elim
  |some _=>rfl
def RelO.getD{o:Option V}{u:Option WO}{d:V}{d':WO}(r:RelO o u)(rd:WX d d'):WX (o.getD d) (u.getD d'):=by
 cases o with
 |none=>cases u with
  |none=>exact rd
  |some _=>exact(show False from r).elim
 |some _=>cases u with
  |none=>exact(show False from r).elim
  |some _=>exact r
def KV.val{XB:List (κ × V)}{vs:List (κ × WO)}(r:KV XB vs)(k:κ):RelO (bw XB k) (valueAt vs k):=by
 unfold KV at r
 induction r with
 |nil=>exact ZF
 | @cons p q ps qs h t ih=>
  obtain⟨h1,h2⟩:=h;by_cases e:p.1=k
  .have e':q.1=k:=h1.symm.trans e
   have b:valueAt (q::qs) k=some q.2:=by simp[valueAt,List.find?_cons,e']
   rw[b8 e,b];exact h2
  .have e':¬ q.1=k:=fun z=>e (h1.trans z)
   have b:valueAt (q::qs) k=valueAt qs k:=by simp[valueAt,List.find?_cons,e']
   rw[bZ e,b];exact ih
def KV.any{XB:List (κ × V)}{vs:List (κ × WO)}(r:KV XB vs)(k:κ):(XB.any fun kv=>decide (kv.1=k))=vs.any fun kv=>decide (kv.1=k):=by
 unfold KV at r
 induction r with
 |nil=>rfl
 |cons h t ih=>rw[List.any_cons,List.any_cons,ih,h.1]
def KV.repl{XB:List (κ × V)}{vs:List (κ × WO)}(r:KV XB vs)(k:κ){y:V}{u:WO}(ry:WX y u) :
 KV (XB.map fun kv=>if kv.1=k then (kv.1,y) else kv) (vs.map fun kv=>if kv.1=k then (kv.1,u) else kv):=by
 unfold KV at r |-
 induction r with
 |nil=>exact .nil
 | @cons p q ps qs h t ih=>
  rw[xY,xY];refine .cons ?_ ih;obtain⟨h1,h2⟩:=h;by_cases e:p.1=k
  .rw[Wf e,Wf (h1.symm.trans e)];exact⟨h1,ry⟩
  .rw[Wg e,Wg (fun z=>e (h1.trans z))];exact⟨h1,h2⟩
def KV.put{XB:List (κ × V)}{vs:List (κ × WO)}(r:KV XB vs)(k:κ){y:V}{u:WO}(ry:WX y u):KV (bi XB k y) (stored vs k u):=by
 unfold bi stored;rw[r.any k];by_cases e:(vs.any fun kv=>decide (kv.1=k))=true
 .rw[Wf e,Wf e];exact r.repl k ry
 .rw[Wg e,Wg e];exact Paired.snoc r ⟨rfl,ry⟩
def KV.keys{XB:List (κ × V)}{vs:List (κ × WO)}(r:KV XB vs):XB.map (·.1)=vs.map (·.1):=by
 unfold KV at r
 induction r with
 |nil=>rfl
 |cons h t ih=>rw[xY,xY,ih,h.1]
def KV.length{XB:List (κ × V)}{vs:List (κ × WO)}(r:KV XB vs):XB.length=vs.length:=Xv r
end
def kc{P:WL}{w:WK}{k:Key}{u:WO}(r:WX (kV k) u):(bL P w).is k u=true:=by
 cases k with
 |inl i=>obtain⟨t,e⟩:=(show ∃t,u=Value.int i t from r);subst e;exact t_ P w i t
 |inr x=>obtain⟨t,e⟩:=(show ∃t,u=YO x t from r);subst e;exact sI P w x t
def Bj{a b:Key}(e:kV a=kV b):a=b:=by
 cases a with
 |inl i=>cases b with
  |inl j=>have e':V.int i=V.int j:=e;injection e' with e';rw[e']
  |inr y=>exact nomatch (show V.int i=V.str y from e)
 |inr x=>cases b with
  |inl j=>exact nomatch (show V.str x=V.int j from e)
  |inr y=>have e':V.str x=V.str y:=e;injection e' with e';rw[e']
theorem r8:∀ {a b:List Key},a.map kV=b.map kV->a=b
 | [],[],_=>rfl
 | [],_::_,e=>by simp at e
 |_::_,[],e=>by simp at e
 |x::xs,y::ys,e=>by
  rw[xY,xY]at e;injection e with e1 e2
  rw[Bj e1,r8 e2]
theorem pZ{P:WL}{w:WK}:∀ {ks:List Key} {us:List WO},WW (ks.map kV) us->ItemsAre (bL P w) ks us
 | [],_,r=>by rw[ZR]at r;cases r;exact .nil
 |k::ks,_,r=>by
  rw[xY]at r;cases r with
  |cons h t=>exact .cons (kc h) (pZ t)
abbrev KT(H:Hp):List (List Key × V)->List (List Key × WN × WO)->Prop:=Paired fun p q=>p.1=q.1/\H q.2.1=some (.tup (p.1.map kV))/\WX p.2 q.2.2
def KT.val{H:Hp}{XB:List (List Key × V)}{xs:List (List Key × WN × WO)}(r:KT H XB xs)(k:List Key):RelO (bw XB k) ((atKey xs k).map (·.2)):=by
 induction r with
 |nil=>exact ZF
 | @cons p q ps qs h t ih=>
  obtain⟨h1,_,h2⟩:=h;by_cases e:p.1=k
  .have e':q.1=k:=h1.symm.trans e
   have b:atKey (q::qs) k=some q.2:=by simp[atKey,List.find?_cons,e']
   rw[b8 e,b];exact h2
  .have e':¬ q.1=k:=fun z=>e (h1.trans z)
   have b:atKey (q::qs) k=atKey qs k:=by simp[atKey,List.find?_cons,e']
   rw[bZ e,b];exact ih
def KT.repl{H:Hp}{XB:List (List Key × V)}{xs:List (List Key × WN × WO)}(r:KT H XB xs)(k:List Key){y:V}{u:WO}(ry:WX y u) :
 KT H (XB.map fun kv=>if kv.1=k then (kv.1,y) else kv) (xs.map (putAt k u)):=by
 induction r with
 |nil=>exact .nil
 | @cons p q ps qs h t ih=>
  rw[xY,xY];refine .cons ?_ ih;obtain⟨h1,h2,h3⟩:=h;unfold putAt;by_cases e:p.1=k
  .rw[Wf e,Wf (h1.symm.trans e)];exact⟨h1,h2,ry⟩
  .rw[Wg e,Wg (fun z=>e (h1.trans z))];exact⟨h1,h2,h3⟩
def KT.put{H:Hp}{XB:List (List Key × V)}{xs:List (List Key × WN × WO)}(r:KT H XB xs)(k:List Key){b:WN}{y:V}{u:WO}(hb:H b=some (.tup (k.map kV)))(ry:WX y u) :
 KT H (bi XB k y) (storedH xs k b u):=by
 have e:(XB.any fun kv=>decide (kv.1=k))=(atKey xs k).isSome:=by
  rw[fF,(r.val k).isSome_eq,Xq]
 unfold bi storedH;rw[e];by_cases q:(atKey xs k).isSome=true
 .rw[Wf q,Wf q];exact r.repl k ry
 .rw[Wg q,Wg q];exact Paired.snoc r ⟨rfl,hb,ry⟩
def KT.keeps{H H':Hp}{XB:List (List Key × V)}{xs:List (List Key × WN × WO)}(r:KT H XB xs)(ht:∀b ys,H b=some (.tup ys)->H' b=some (.tup ys)):KT H' XB xs:=
 Paired.mapP r fun _ _ z=>⟨z.1,ht _ _ z.2.1,z.2.2⟩
section
variable{P:WL}{w:WK}{H:Hp}{h:WF}{a:WN}
def Al{u:HO}(ok:HOk P w H h)(e:Rd H a u):WV P w H h a u:=e.ok ok
def lJ{XB:List (Key × V)}(ok:HOk P w H h)(e:Rd H a (.dK XB)):XB.length<=WI/\(a==ZU)=false/\∃vs,KV XB vs/\h.DictOf (bL P w) a vs:=
 show WV P w H h a (.dK XB) from Al ok e
def t8{XB:List (Key × V)}(ok:HOk P w H h)(e:H a=some (.dK XB)):XB.length<=WI/\(a==ZU)=false/\∃vs,KV XB vs/\h.DictOf (bL P w) a vs:=lJ ok (.inl e)
def ic{ks:List Key}(ok:HOk P w H h)(e:H a=some (.tup (ks.map kV))):(tupleKind (bL P w)).is h ks a:=by
 obtain⟨_,XC,r,o,h1,h2,n,h3⟩:=(show WV P w H h a (.tup (ks.map kV)) from ok a _ e);exact⟨o,XC.toArray,n,h1,h2,h3,by simpa using pZ r⟩
def lO{XB:List (List Key × V)}(ok:HOk P w H h)(e:Rd H a (.dT XB)):XB.length<=WI/\(a==ZU)=false /\
 ∃xs,KT H XB xs/\h.DictOfH (tupleKind (bL P w)) a xs:=by
 obtain⟨z,y,xs,r,o,es,ep,h1,h2,h3,h4,h5⟩:=(show WV P w H h a (.dT XB) from Al ok e);refine⟨z,y,xs,r,o,es,ep,h1,h2,h3,h4,fun x hx=>?_,h5⟩;have all:∀ {l:List (List Key × V)} {m:List (List Key × WN × WO)},KT H l m->∀x∈m,(tupleKind (bL P w)).is h x.1 x.2.1:=by
  intro l m q
  induction q with
  |nil=>intro x hx;exact nomatch hx
  | @cons p q ps qs hq t ih=>
   intro x hx;obtain e|hx:=zk.mp hx
   .subst e
    exact ic ok (by rw[<- hq.1];exact hq.2.1)
   .exact ih x hx
 exact all r x hx
def BS{XB:List (List Key × V)}(ok:HOk P w H h)(e:H a=some (.dT XB)):XB.length<=WI/\(a==ZU)=false /\
 ∃xs,KT H XB xs/\h.DictOfH (tupleKind (bL P w)) a xs:=lO ok (.inl e)
end
def DGet(H:Hp)(a:WN)(y:V)(r:Option V):Prop:=
 (∃XB k,Rd H a (.dK XB)/\y=kV k/\r=bw XB k)\/∃XB k b,Rd H a (.dT XB)/\y = .ref b/\H b=some (.tup (k.map kV))/\r=bw XB k
def DPut(H:Hp)(a:WN)(y v:V)(H':Hp):Prop:=
 (∃XB k,H a=some (.dK XB)/\y=kV k/\XB.length<WI/\H'=upd H a (.dK (bi XB k v))) \/
 ∃XB k b,H a=some (.dT XB)/\y = .ref b/\H b=some (.tup (k.map kV))/\XB.length<WI/\H'=upd H a (.dT (bi XB k v))
def DGet.k{H:Hp}{a:WN}{XB:List (Key × V)}{k:Key}(e:H a=some (.dK XB)):DGet H a (kV k) (bw XB k):=.inl ⟨XB,k,.inl e,rfl,rfl⟩
def DGet.t{H:Hp}{a b:WN}{XB:List (List Key × V)}{k:List Key}(e:H a=some (.dT XB))(eb:H b=some (.tup (k.map kV))):DGet H a (.ref b) (bw XB k):=.inr ⟨XB,k,b,.inl e,rfl,eb,rfl⟩
def DPut.k{H:Hp}{a:WN}{XB:List (Key × V)}{k:Key}{v:V}(e:H a=some (.dK XB))(hl:XB.length<WI):DPut H a (kV k) v (upd H a (.dK (bi XB k v))):=.inl ⟨XB,k,e,rfl,hl,rfl⟩
def DPut.t{H:Hp}{a b:WN}{XB:List (List Key × V)}{k:List Key}{v:V}(e:H a=some (.dT XB))(eb:H b=some (.tup (k.map kV)))(hl:XB.length<WI) :
 DPut H a (.ref b) v (upd H a (.dT (bi XB k v))):=.inr ⟨XB,k,b,e,rfl,eb,hl,rfl⟩
section
variable{X:Cx}{XG:List (WN × Obj)}{σ:St}{H:Hp}{s:WM}{a:WN}{y v:V}{u r:WO}{o:Option V}{A:WJ}{E:WO->WM->Prop}
def WR.big(I:WR X XG σ H s):ZU<s.heap.objs.size:=by
 have h:ZP<s.heap.objs.size:=(I.mod.glob.keeps I.bk).lt;exact Nat.lt_trans (by decide) h
def xV{Q:WO->WM->Prop}(hu:A.units+1<cLine)(I:WR X XG σ H s)(g:DGet H a y (some v))(ry:WX y u)(h:∀w' s',WR X XG σ H s'->WX v w'->Q w' s') :
 WH (WG X.prog X.w) A (getItem (.ref a) u) Q E s:=by
 obtain⟨XB,k,e,ey,l⟩|⟨XB,k,b,e,ey,eb,l⟩:=g
 .subst ey
  obtain⟨z,hd,vs,rel,dd⟩:=lJ I.hok e;obtain⟨w',hw,rw'⟩:=RelO.some_of (v:=v) (o:=valueAt vs k) (by rw[l];exact rel.val k);exact wpAny_getItem_of (kc ry) dd.mapOf hw (h w' _ (I.tok _) rw')
 .subst ey
  cases (show u=vv b from ry);obtain⟨z,hd,xs,rel,dd⟩:=lO I.hok e;obtain⟨w',hw,rw'⟩:=RelO.some_of (v:=v) (o:=(atKey xs k).map (·.2)) (by rw[l];exact rel.val k);obtain⟨p,hp,hp2⟩:=Zn.mp hw;refine wpAny_getItem_heap (Yx hu) (ic I.hok eb) dd hp ?_;rw[hp2];exact h w' _ (I.tok _) rw'
def Kx{Q:WO->WM->Prop}(hu:A.units+1<cLine)(I:WR X XG σ H s)(g:DGet H a y o)(ry:WX y u)(h:∀s',WR X XG σ H s'->Q (.bool o.isSome) s') :
 WH (WG X.prog X.w) A (Zl .In u (.ref a)) Q E s:=by
 obtain⟨XB,k,e,ey,l⟩|⟨XB,k,b,e,ey,eb,l⟩:=g
 .subst ey
  obtain⟨z,hd,vs,rel,dd⟩:=lJ I.hok e;refine wpAny_in_of (kc ry) hd dd.mapOf ?_;rw[<- (rel.val k).isSome_eq,<- l];exact h _ (I.tok _)
 .subst ey
  cases (show u=vv b from ry);obtain⟨z,hd,xs,rel,dd⟩:=lO I.hok e;refine wpAny_in_heap (Yx hu) (ic I.hok eb) hd dd ?_;have q:=(rel.val k).isSome_eq;rw[Xq]at q;rw[<- q,<- l];exact h _ (I.tok _)
def jZ{h':WF}{t':Nat}{ob:HO}(I:WR X XG σ H s)(mu:Mut (H a))(hs:Z4 a s.heap h')(he:∃q,h'.get? a=some q)(new:WV X.prog X.w (upd H a ob) h' a ob) :
 WR X XG σ (upd H a ob) { s with heap:=h',toks:=t' }:=
 I.write (x:=a) (e:=a) mu (.inl rfl) (fun b q hb z=>(hs.2 b hb).trans z) he new
def v6{P:WL}{w:WK}{H':Hp}{h':WF}{XB:List (Key × V)}{vs:List (Key × WO)}(z:XB.length<=WI)(hd:(a==ZU)=false)(rel:KV XB vs)(dd:h'.DictOf (bL P w) a vs) :
 WV P w H' h' a (.dK XB):=⟨z,hd,vs,rel,dd⟩
def yW{H':Hp}{Q:Unit->WM->Prop}(hu:A.units+1<cLine)(I:WR X XG σ H s)(g:DPut H a y v H')(ry:WX y u)(rv:WX v r)(h:∀s',WR X XG σ H' s'->Q () s') :
 WH (WG X.prog X.w) A (setItem (.ref a) u r) Q E s:=by
 obtain⟨XB,k,e,ey,l,eH⟩|⟨XB,k,b,e,ey,eb,l,eH⟩:=g
 .subst ey eH
  obtain⟨z,hd,vs,rel,dd⟩:=t8 I.hok e;have hz:vs.length<=WI:=by rw[<- rel.length];exact z
  have hl:(bi XB k v).length<=WI:=by have:=eJ XB k v;lia
  refine wpAny_setItem_pairs (hsz:=hz) (kc ry) dd fun h' dd' hs=>h _ ?_;have he:∃q,h'.get? a=some q:=let ⟨q,_,_,hq,_⟩:=dd';⟨q,hq⟩;exact jZ I (by rw[e];exact ZF) hs he (v6 hl hd (rel.put k rv) dd')
 .subst ey eH
  cases (show u=vv b from ry);obtain⟨z,hd,xs,rel,dd⟩:=BS I.hok e;have hz:xs.length<=WI:=by rw[<- Xv rel];exact z
  have hl:(bi XB k v).length<=WI:=by have:=eJ XB k v;lia
  refine wpAny_setItem_heap (hsz:=hz) (Yx hu) (ic I.hok eb) dd fun h' dd' hs=>h _ ?_;obtain⟨q,es,ep,hq,h2,h3,h4,_,h5⟩:=dd';refine jZ I (by rw[e];exact ZF) hs ⟨q,hq⟩ ⟨hl,hd,_,(rel.put k eb rv).keeps fun c ys ec=>?_,q,es,ep,hq,h2,h3,h4,h5⟩;rw[ag (Eu ec e (fun z=>nomatch z))];exact ec
end
def Iz(i:Expr):Prop:=∀ov iv,subscripted i false ov iv=operate [ov,iv] (getItem ov iv)
def DE{prog:WL}{w:WK}{A:WJ}{E:WO->WM->Prop}{s:WM}{env:Env}{value slice:Expr}{pos:Pos}{T id:String}{Q:WO->WM->Prop}
 (hl:typeLookup (.type T) "__getitem__" = pure (some (.builtin id))) (hs:Iz slice)
 (h:WH (WG prog w) A (eval value env) (fun o s₁=>WH (WG prog w) A (eval slice env) (fun i s₂=>s₂.TypeIs o T/\WH (WG prog w) A (getItem o i) Q E s₂) E s₁) E s) :
 WH (WG prog w) A (eval (.Subscript value slice pos) env) Q E s:=by
 refine Subscript_ (Zi h (fun o s₁ h₁=>Zi h₁ (fun i s₂ h₂=>?_) fun _ _ x=>x) fun _ _ x=>x);obtain⟨hT,h₂⟩:=h₂;unfold subscriptTail;refine zv ?_;rw[getitemInPython_of_ne hT.not_modules];refine zv (wpAny_specialOf hT hl ?_);have fin:WH (WG prog w) A (subscripted slice false o i) (fun r s₃=>WH (WG prog w) A (letTemporaryGo value o r >>= fun _=>pure r) Q E s₃) E s₂:=by
  rw[hs o i];exact wpAny_operating (Zi h₂ (fun r s₃ h₃=>zv (wpAny_letTemporaryGo (yy h₃))) fun _ _ x=>x)
 first
  |exact yy (zv fin)
  |exact zv (yy (zv fin))
  |exact zv fin
def sL{X:Cx}{XG:List (WN × Obj)}{σ:St}{H:Hp}{s:WM}{a:WN}{y:V}{o:Option V}(I:WR X XG σ H s)(g:DGet H a y o):s.TypeIs (.ref a) "dict":=by
 obtain⟨XB,k,e,_,_⟩|⟨XB,k,b,e,_,_,_⟩:=g
 .obtain⟨_,_,vs,_,dd⟩:=lJ I.hok e
  exact dd.typeIs
 .obtain⟨_,_,xs,_,dd⟩:=lO I.hok e
  exact dd.typeIs
def Et(td ty:TE):TE:=fun σ H Q=>td σ H fun x H1=>ty σ H1 fun y H2=>∃a v,x = .ref a/\DGet H2 a y (some v)/\Q v H2
def JS(ty td:TE):TE:=fun σ H Q=>ty σ H fun y H1=>td σ H1 fun x H2=>∃a o,x = .ref a/\DGet H2 a y o/\Q (.bl o.isSome) H2
def Es(td ty tv:TE):TS:=fun D σ H=>tv σ H fun v H1=>td σ H1 fun x H2=>ty σ H2 fun y H3=>∃a H4,x = .ref a/\DPut H3 a y v H4/\D.nx σ H4
section
variable{X:Cx}{o i e value:Expr}{pos pos' tpos:Pos}{td ty tv:TE}
def aP(hu:X.A.units+1<cLine)(ho:PE X o td)(hi:PE X i ty)(hs:Iz i):PE X (.Subscript o i pos) (Et td ty):=by
 intro XG s σ H Q I h;refine DE PySem.F.slot_dict_getitem.lookup hs (thn (ho XG s σ H _ I h) fun u s1 ⟨x,H1,I1,rx,q1⟩=>thn (hi XG s1 σ H1 _ I1 q1) fun iv s2 hq_=>?_);obtain⟨y,H2,I2,ry,a,v,ex,g,q2⟩:=hq_;subst ex;obtain rfl:u=vv a:=rx;exact⟨sL I2 g,xV hu I2 g ry fun w' s3 I3 rw'=>⟨v,H2,I3,rw',q2⟩⟩
def u6(hu:X.A.units+1<cLine)(hi:PE X i ty)(ho:PE X o td):PC X .In i o (JS ty td):=by
 intro XG s σ H Q I h;refine thn (hi XG s σ H _ I h) fun iv s1 ⟨y,H1,I1,ry,q1⟩=>thn (ho XG s1 σ H1 _ I1 q1) fun u s2 hq_=>?_;obtain⟨x,H2,I2,rx,a,ov,ex,g,q2⟩:=hq_;subst ex;obtain rfl:u=vv a:=rx;exact Kx hu I2 g ry fun s3 I3=>⟨.bl ov.isSome,H2,I3,rfl,q2⟩
def cE(hu:X.A.units+1<cLine)(ho:PE X o td)(hi:PE X i ty)(hv:PE X value tv)(hs:swapsWith value (some (.Subscript o i pos')) pos.line X.env=pure false) :
 PS X (.Assign [.Subscript o i pos'] value pos) (Es td ty tv):=by
 intro XG s σ H D I h;refine wpAny_Assign_Subscript (thn (hv XG s σ H _ I h) fun r s1 ⟨v,H1,I1,rv,q1⟩=>thn (ho XG s1 σ H1 _ I1 q1) fun u s2 ⟨x,H2,I2,rx,q2⟩=>thn (hi XG s2 σ H2 _ I2 q2) fun iv s3 hq_=>?_) hs;obtain⟨y,H3,I3,ry,a,H4,ex,g,q3⟩:=hq_;subst ex;obtain rfl:u=vv a:=rx;exact yW hu I3 g ry rv fun s4 I4=>⟨σ,H4,I4,q3⟩
end
def Cp{P:WL}{w:WK}{H:Hp}(h:WF)(hb:ZU<h.objs.size):WV P w H (h.push { cls:=.type "dict",data:=.dict #[] }) h.objs.size (.dK []):=
 ⟨rp _,beq_eq_false_iff_ne.mpr (Wj (Zy hb)),[],.nil,Heap.DictOf.new h⟩
def zM{P:WL}{w:WK}{H:Hp}(h:WF)(hb:ZU<h.objs.size):WV P w H (h.push { cls:=.type "dict",data:=.dict #[] }) h.objs.size (.dT []):=
 ⟨rp _,beq_eq_false_iff_ne.mpr (Wj (Zy hb)),[],.nil,_,#[],0,Wx _ rfl,⟨rfl,rfl,rfl⟩,rfl,rfl,Zu⟩
def zG:TE:=fun _ H Q=>∀p,H p=none->Q (.ref p) (upd H p (.dT []))
section
variable{X:Cx}{pos:Pos}
def sW:PE X (.Dict [] [] pos) zG:=fun XG s σ H Q I h=>
 wpAny_Dict_empty ⟨.ref s.heap.objs.size,_,I.laid (a:=s.heap.objs.size) (o:=.dT []) (t':=s.toks) (fun _ _ q=>Wy _ q) (ym _) (zM s.heap I.big),rfl,h _ (I.hok.fresh (ym _))⟩
end
def qW:List (TE × TE)->St->Hp->(List (V × V)->Hp->Prop)->Prop
 | [],_,H,Q=>Q [] H
 |(tk,tv)::r,σ,H,Q=>tk σ H fun x H1=>tv σ H1 fun y H2=>qW r σ H2 fun ps H3=>Q ((x,y)::ps) H3
abbrev VV:List (V × V)->List (WO × WO)->Prop:=Paired fun p q=>WX p.1 q.1/\WX p.2 q.2
def PPs(X:Cx)(pos:Pos)(keys:List (Option Expr))(values:List Expr)(trs:List (TE × TE)):Prop:=
 ∀(XG:List (WN × Obj)) (s:WM) (σ:St) (H:Hp) (Q:List (V × V)->Hp->Prop),WR X XG σ H s->qW trs σ H Q ->
  WH (WG X.prog X.w) X.A (evalPairs (pairTrees keys values X.env pos)) (fun vs s'=>∃ps H',WR X XG σ H' s'/\VV ps vs/\Q ps H') X.xe s
def wB{X:Cx}{pos:Pos}:PPs X pos [] [] []:=fun XG s σ H Q I h=>pairTrees_nil_walk ⟨[],H,I,.nil,h⟩
def fZ{X:Cx}{pos:Pos}{k v:Expr}{ks:List (Option Expr)}{vs:List Expr}{tk tv:TE}{trs:List (TE × TE)}(hk:PE X k tk)(hv:PE X v tv)(hr:PPs X pos ks vs trs) :
 PPs X pos (some k::ks) (v::vs) ((tk,tv)::trs):=fun XG s σ H Q I h=>
 pairTrees_cons_walk (thn (hk XG s σ H _ I h) fun u s1 ⟨x,H1,I1,rx,q1⟩=>thn (hv XG s1 σ H1 _ I1 q1) fun w2 s2 ⟨y,H2,I2,ry,q2⟩=>
  thn (hr XG s2 σ H2 _ I2 q2) fun ws s3 hq_=>(by obtain⟨ps,H3,I3,rel,q3⟩:=hq_;exact⟨(x,y)::ps,H3,I3,.cons ⟨rx,ry⟩ rel,q3⟩))
noncomputable def dZ(XB more:List (Key × V)):List (Key × V):=more.foldl (fun acc kv=>bi acc kv.1 kv.2) XB
def KV.merge:∀ {more:List (Key × V)} {rs:List (Key × WO)} {XB:List (Key × V)} {vs:List (Key × WO)},KV more rs->KV XB vs->KV (dZ XB more) (merged vs rs):=by
 intro more rs XB vs r;unfold KV at r
 induction r generalizing XB vs with
 |nil=>intro q;exact q
 | @cons p q ps qs h t ih=>
  intro r0;have e:KV (bi XB p.1 p.2) (stored vs q.1 q.2):=by
   have:=r0.put p.1 h.2;rw[<- h.1];exact this
  exact ih e
theorem i9:∀(more XB:List (Key × V)),(dZ XB more).length<=XB.length+more.length
 | [],XB=>by show XB.length<=XB.length+0;lia
 |p::r,XB=>by
  have h1:=i9 r (bi XB p.1 p.2);have h2:=eJ XB p.1 p.2;show(dZ (bi XB p.1 p.2) r).length<=_;rw[sP];lia
theorem oV{P:WL}{w:WK}:∀ {XB:List (Key × V)} {ws:List (WO × WO)},VV (XB.map fun kv=>(kV kv.1,kv.2)) ws->∃rs,Carries (bL P w) ws rs/\KV XB rs
 | [],_,r=>by rw[ZR]at r;cases r;exact⟨[],ZF,.nil⟩
 |p::XB,_,r=>by
  rw[xY]at r;cases r with
  | @cons a b as bs h t=>
   obtain⟨rs,c,q⟩:=oV (P:=P) (w:=w) t;obtain⟨b1,b2⟩:=b;exact⟨(p.1,b2)::rs,⟨kc h.1,rfl,c⟩,.cons ⟨rfl,h.2⟩ q⟩
def Ez(trs:List (TE × TE)):TE:=fun σ H Q=>∀p,H p=none->qW trs σ (upd H p (.dK [])) fun ps H2=>H2 p=some (.dK [])/\∃XB:List (Key × V),ps=XB.map (fun kv=>(kV kv.1,kv.2))/\XB.length<=15/\Q (.ref p) (upd H2 p (.dK (dZ [] XB)))
def wT{X:Cx}{pos:Pos}{keys:List (Option Expr)}{values:List Expr}{trs:List (TE × TE)}(h:PPs X pos keys values trs)(hall:keys.all (·.isSome)=true)(hl:keys.length=values.length)(h0:keys≠[])
 (h15:keys.length<=15):PE X (.Dict keys values pos) (Ez trs):=by
 intro XG s σ H Q I q;have hn:=I.hok.fresh (ym s.heap.objs.size);have I1:=I.laid (a:=s.heap.objs.size) (o:=.dK []) (h':=s.heap.push { cls:=.type "dict",data:=.dict #[] }) (t':=s.toks) (fun _ _ q=>Wy _ q) (ym _) (Cp s.heap I.big);refine wpAny_Dict_walk (knd:=bL X.prog X.w) hall hl h0 h15 (thn (h XG _ σ _ _ I1 (q _ hn)) fun ws s2 hq_=>?_);obtain⟨ps,H2,I2,rel,e,XB,ep,lk,q2⟩:=hq_;subst ep;obtain⟨rs,c,rk⟩:=oV (P:=X.prog) (w:=X.w) rel;obtain⟨z,hd,vs0,r0,dd⟩:=t8 I2.hok e;cases r0;refine⟨rs,c,dd,fun h' dd' hs=>⟨.ref s.heap.objs.size,_,?_,rfl,q2⟩⟩;have hz:(dZ [] XB).length<=WI:=by
  have h1:=i9 XB [];rw[YM]at h1;rw[tV];lia
 have he:∃q,h'.get? s.heap.objs.size=some q:=let ⟨q,_,_,hq,_⟩:=dd';⟨q,hq⟩;exact jZ I2 (by rw[e];exact ZF) hs he (v6 hz hd (rk.merge .nil) dd')
structure M1(X:Cx)(o:Expr)(m:Str)(apos:Pos)(e:Expr)(cpos:Pos):Prop where
 base:Yc o m X.env (eval o X.env)=eval o X.env
 few:((WD cpos (WE [e] X.env)).all (fun x=>!x.1)&&(backToKw cpos (Xn [] X.env)).all (fun x=>x.1.isSome)
  && decide (([e]:List Expr).length+([]:List Keyword).length+(if ([]:List Keyword).isEmpty then 0 else 1)<30))=true
 line:(apos.endLine==cpos.line)=true
 trees:WD cpos (WE [e] X.env)=[(false,eval e X.env)]
structure M2(X:Cx)(o:Expr)(m:Str)(apos:Pos)(e f:Expr)(cpos:Pos):Prop where
 base:Yc o m X.env (eval o X.env)=eval o X.env
 few:((WD cpos (WE [e,f] X.env)).all (fun x=>!x.1)&&(backToKw cpos (Xn [] X.env)).all (fun x=>x.1.isSome)
  && decide (([e,f]:List Expr).length+([]:List Keyword).length+(if ([]:List Keyword).isEmpty then 0 else 1)<30))=true
 line:(apos.endLine==cpos.line)=true
 trees:WD cpos (WE [e,f] X.env)=[(false,eval e X.env),(false,eval f X.env)]
def IsD(H:Hp)(a:WN):Prop:=(∃XB,Rd H a (.dK XB))\/∃XB,Rd H a (.dT XB)
def vj{X:Cx}{XG:List (WN × Obj)}{σ:St}{H:Hp}{s:WM}{a:WN}(I:WR X XG σ H s)(d:IsD H a) :
 s.TypeIs (.ref a) "dict" /\ (∀b,vv a = .ref b->∃ob,s.heap.get? b=some ob/\ob.dict=none)/\(a==ZU)=false:=by
 obtain⟨XB,e⟩|⟨XB,e⟩:=d
 .obtain⟨_,hd,vs,_,dd⟩:=lJ I.hok e
  refine⟨dd.typeIs,fun b q=>?_,hd⟩;cases q;obtain⟨ob,_,_,h1,h2,_⟩:=dd;exact⟨ob,h1,h2.2.1⟩
 .obtain⟨_,hd,xs,_,dd⟩:=lO I.hok e
  refine⟨dd.typeIs,fun b q=>?_,hd⟩;cases q;obtain⟨ob,_,_,h1,h2,_⟩:=dd;exact⟨ob,h1,h2.2.1⟩
section
variable{X:Cx}{XG:List (WN × Obj)}{σ:St}{H:Hp}{s:WM}{a:WN}{y d:V}{u r:WO}{o:Option V}{A:WJ}{E:WO->WM->Prop}
def Gi{Q:WO->WM->Prop}(hu:A.units+1<cLine)(I:WR X XG σ H s)(g:DGet H a y o)(ry:WX y u)(h:∀w' s',WR X XG σ H s'->WX (o.getD .non) w'->Q w' s') :
 WH (WG X.prog X.w) A (call (.builtin "dict.get") [.ref a,u]) Q E s:=by
 obtain⟨XB,k,e,ey,l⟩|⟨XB,k,b,e,ey,eb,l⟩:=g
 .subst ey
  obtain⟨z,hd,vs,rel,dd⟩:=lJ I.hok e;refine call_meetsIn Z9 dd.typeIs Y8 (PySem.F.args_dict_get_2 _ _) (meets_dict_get (bL X.prog X.w) a (kc ry) hd) ⟨_,dd.mapOf,h _ _ (I.tok _) ?_⟩;rw[l];exact(rel.val k).getD rfl
 .subst ey
  cases (show u=vv b from ry);obtain⟨z,hd,xs,rel,dd⟩:=lO I.hok e;refine call_meetsIn Z9 dd.typeIs Y8 (PySem.F.args_dict_get_2 _ _) (meetsH_dict_get (tupleKind (bL X.prog X.w)) a b hd) ⟨Yx hu,k,xs,ic I.hok eb,dd,h _ _ (I.tok _) ?_⟩;rw[l];exact(rel.val k).getD rfl
def Go{Q:WO->WM->Prop}(hu:A.units+1<cLine)(I:WR X XG σ H s)(g:DGet H a y o)(ry:WX y u)(rd:WX d r)(h:∀w' s',WR X XG σ H s'->WX (o.getD d) w'->Q w' s') :
 WH (WG X.prog X.w) A (call (.builtin "dict.get") [.ref a,u,r]) Q E s:=by
 obtain⟨XB,k,e,ey,l⟩|⟨XB,k,b,e,ey,eb,l⟩:=g
 .subst ey
  obtain⟨z,hd,vs,rel,dd⟩:=lJ I.hok e;refine call_meetsIn Z9 dd.typeIs Y8 (PySem.F.args_dict_get_3 _ _ _) (meets_dict_get_default (bL X.prog X.w) a (kc ry) hd r) ⟨_,dd.mapOf,h _ _ (I.tok _) ?_⟩;rw[l];exact(rel.val k).getD rd
 .subst ey
  cases (show u=vv b from ry);obtain⟨z,hd,xs,rel,dd⟩:=lO I.hok e;refine call_meetsIn Z9 dd.typeIs Y8 (PySem.F.args_dict_get_3 _ _ _) (meetsH_dict_get_default (tupleKind (bL X.prog X.w)) a b hd r) ⟨Yx hu,k,xs,ic I.hok eb,dd,h _ _ (I.tok _) ?_⟩;rw[l];exact(rel.val k).getD rd
end
def Be(td ty:TE):TE:=fun σ H Q=>td σ H fun x H1=>∃a,x = .ref a/\IsD H1 a/\ty σ H1 fun y H2=>∃o,DGet H2 a y o/\Q (o.getD .non) H2
def Bv(td ty tx:TE):TE:=fun σ H Q=>td σ H fun x H1=>∃a,x = .ref a/\IsD H1 a/\ty σ H1 fun y H2=>tx σ H2 fun z H3=>∃o,DGet H3 a y o/\Q (o.getD z) H3
section
variable{X:Cx}{o e f:Expr}{apos cpos:Pos}{td ty tx:TE}
def BU(hu:X.A.units+1<cLine)(ho:PE X o td)(he:PE X e ty)(m:M1 X o "get" apos e cpos):PE X (.Call (.Attribute o "get" apos) [e] [] cpos) (Be td ty):=by
 intro XG s σ H Q I h;refine wpAny_Call_method m.base m.few m.line Y1 Z9 PySem.F.type_dict_get (thn (ho XG s σ H _ I h) fun u s1 hq_=>?_);obtain⟨x,H1,I1,rx,a,ex,d,q1⟩:=hq_;subst ex;obtain rfl:u=vv a:=rx;obtain⟨t1,t2,_⟩:=vj I1 d;refine⟨t1,t2,?_⟩;rw[m.trees];refine Z5 rfl (YG (YU (thn (he XG s1 σ H1 _ I1 q1) fun iv s2 ⟨y,H2,I2,ry,ov,g,q2⟩=>Calls.spliced_nil ?_)));exact Gi hu I2 g ry fun w' s3 I3 rw'=>⟨_,H2,I3,rw',q2⟩
def gg(hu:X.A.units+1<cLine)(ho:PE X o td)(he:PE X e ty)(hf:PE X f tx)(m:M2 X o "get" apos e f cpos):PE X (.Call (.Attribute o "get" apos) [e,f] [] cpos) (Bv td ty tx):=by
 intro XG s σ H Q I h;refine wpAny_Call_method m.base m.few m.line Y1 Z9 PySem.F.type_dict_get (thn (ho XG s σ H _ I h) fun u s1 hq_=>?_);obtain⟨x,H1,I1,rx,a,ex,d,q1⟩:=hq_;subst ex;obtain rfl:u=vv a:=rx;obtain⟨t1,t2,_⟩:=vj I1 d;refine⟨t1,t2,?_⟩;rw[m.trees];refine Z5 rfl (YG (YU (thn (he XG s1 σ H1 _ I1 q1) fun iv s2 ⟨y,H2,I2,ry,q2⟩=>
  YU (thn (hf XG s2 σ H2 _ I2 q2) fun fv s3 ⟨z,H3,I3,rz,ov,g,q3⟩=>Calls.spliced_nil ?_))))
 exact Go hu I3 g ry rz fun w' s4 I4 rw'=>⟨_,H3,I4,rw',q3⟩
end
section
variable{X:Cx}{e o value:Expr}{f:Str}{ta tv:TE}{pos pos':Pos}
def Ff(K:Wz)(f:Str):V->Hp->VK->Prop
 | .ref p,H,Q=>∃C dx fs v,H p=some (.ins C dx fs)/\Cls K C/\NoAttr K C f/\fs.lookup f=some v/\Q v H
 |_,_,_=>False
def EF(K:Wz)(ta:TE)(f:Str):TE:=fun σ H Q=>ta σ H fun x H1=>Ff K f x H1 Q
def bx(K:Wz)(he:PE X e ta)(hK:X.K=K:=by rfl)(hb:Yc e f X.env (eval e X.env)=eval e X.env:=by rfl):PE X (.Attribute e f pos) (EF K ta f):=by
 subst hK;intro XG s σ H Q I h;refine Ep hb (thn (he XG s σ H _ I h) fun u s1 ⟨x,H1,I1,rx,q⟩=>?_);dsimp only at q;unfold Ff at q;split at q
 .rename_i a
  obtain⟨C,dx,fs,v,ea,c,n,l,q⟩:=q;obtain rfl:u=vv a:=rx;exact v5 I1 ea c n l fun u' s2 I2 ru=>⟨v,H1,I2,ru,q⟩
 .exact q.elim
def Aq(K:Wz)(f:Str)(y:V):V->Hp->(Hp->Prop)->Prop
 | .ref p,H,Q=>∃C dx fs,H p=some (.ins C dx fs)/\Cls K C/\NoAttr K C f/\fs.length<1000/\Q (upd H p (.ins C dx (dL f y fs)))
 |_,_,_=>False
def Ew(K:Wz)(ta tv:TE)(f:Str):TS:=fun D σ H=>tv σ H fun y H1=>ta σ H1 fun x H2=>Aq K f y x H2 fun H3=>D.nx σ H3
def dQ(K:Wz)(ha:PE X o ta)(hv:PE X value tv)(hK:X.K=K:=by rfl)(hs:swapsWith value (some (.Attribute o f pos')) pos.line X.env=pure false:=by rfl):PS X (.Assign [.Attribute o f pos'] value pos) (Ew K ta tv f):=by
 subst hK;intro XG s σ H D I h;refine plainObj_wpAny_Assign_Attribute (thn (hv XG s σ H _ I h) fun u s1 ⟨y,H1,I1,ry,q⟩=>thn (ha XG s1 σ H1 _ I1 q) fun ov s2 ⟨x,H2,I2,rx,q2⟩=>?_) hs;dsimp only at q2;unfold Aq at q2;split at q2
 .rename_i a
  obtain⟨C,dx,fs,ea,c,n,l,q2⟩:=q2;obtain rfl:ov=vv a:=rx;exact vF I2 ea c n l ry fun s3 I3=>⟨σ,_,I3,q2⟩
 .exact q2.elim
end
section
variable{X:Cx}{CX:CXT}{k:Nat}{f C:WN}{fd:FuncData}{ps:List Str}{sp:Sp}{dvs:List V}{ds:List WO}{E:XKs}{x m:Str}{p pos apos:Pos}{e o:Expr}{es:List Expr}{ta:TE}{t:TA}
def xO(C:WN)(m:Str):V->Hp->(V->Prop)->Prop
 | .ref p,H,Q=>∃dx fs,H p=some (.ins C dx fs)/\fs.lookup m=none/\Q (.ref p)
 |_,_,_=>False
def n9(C:WN)(m:Str)(sp:Sp)(dvs:List V)(E:XKs)(ta:TE)(t:TA):TE:=fun σ H Q=>ta σ H fun x0 H1=>xO C m x0 H1 (fun x=>t σ H1 fun vs H2=>sp (x::(vs++dvs)) H2 Q (E σ))
def AN(he:PE X o ta)(c:Cls X.K C)(hm:BF X.K C m f)(F:hZ X.prog X.w X.K X.mg X.base CX k f fd ps sp)(hr:Room k X.A)(hb:Binds X.K fd ps ds)(hd:WW dvs ds)(hx:cM CX X E)(ha:PA X (e::es) t)
 (hst:WE (e::es) X.env=(false,eval e X.env)::WE es X.env:=by rfl) (hpl:(WD pos (WE es X.env)).any (·.1)=false:=by rfl)
 (ht:eval (.Call (.Attribute o m apos) (e::es) [] pos) X.env=(do
  let ov <- eval o X.env
  standAt apos.atName
  let (f,first) <- holding [ov] (getMethod ov m pl)
  callWith pos f first (WD pos (WE (e::es) X.env)) (backToKw pos (Xn [] X.env))):=by rfl) :
 PE X (.Call (.Attribute o m apos) (e::es) [] pos) (n9 C m sp dvs E ta t):=by
 intro XG s σ H Q I h;refine PySem.W.methodCall_KW (pl:=pl) (thn (he XG s σ H _ I h) fun u s1 ⟨xo,H1,I1,rx,q⟩=>?_) ht;dsimp only at q;unfold xO at q;split at q
 .rename_i a
  obtain⟨dx,fs,ea,l,q⟩:=q;obtain rfl:u=vv a:=rx;refine oG I1 ea c hm l ?_;refine PySem.W.callWith_K (first:=[.ref a]) (h₀:=X.base) I.ok.mod.kin hm.kp (thn (ha pos XG s1 σ _ _ I1 q) fun us s2 ⟨vs,H2,I2,r,q2⟩=>⟨I2.kIn,?_⟩) hst hpl;exact rB (us:=.ref a::us) (vs:=.ref a::vs) F hr hb hd hx I2 (.cons rfl r) q2
 .exact q.elim
def yC(he:PE X o ta)(c:Cls X.K C)(hm:BF X.K C m f)(F:hZ X.prog X.w X.K X.mg X.base CX k f fd ps sp)(hr:Room k X.A)(hb:Binds X.K fd ps ds)(hd:WW dvs ds)(hx:cM CX X E)
 (ht:eval (.Call (.Attribute o m apos) [] [] pos) X.env=(do
  let ov <- eval o X.env
  standAt apos.atName
  let (f,first) <- holding [ov] (getMethod ov m pl)
  callWith pos f first (WD pos (WE [] X.env)) (backToKw pos (Xn [] X.env))):=by rfl) :
 PE X (.Call (.Attribute o m apos) [] [] pos) (n9 C m sp dvs E ta gU):=by
 intro XG s σ H Q I h;refine PySem.W.methodCall_KW (pl:=pl) (thn (he XG s σ H _ I h) fun u s1 ⟨xo,H1,I1,rx,q⟩=>?_) ht;dsimp only at q;unfold xO at q;split at q
 .rename_i a
  obtain⟨dx,fs,ea,l,q⟩:=q;obtain rfl:u=vv a:=rx;refine oG I1 ea c hm l ?_;exact PySem.W.callWith_K0 (first:=[.ref a]) I1.kIn hm.kp (rB (us:=[.ref a]) (vs:=[.ref a]) F hr hb hd hx I1 (.cons rfl .nil) q)
 .exact q.elim
def oS(C:WN)(sp:Sp)(dvs:List V)(E:XKs)(t:TA):TE:=fun σ H Q=>t σ H fun vs H1=>∀x dx,H1 x=none->H1 dx=none->dx≠x ->
 sp (.ref x::(vs++dvs)) (upd (upd H1 dx (.own x)) x (.ins C dx [])) (fun v H2=>v = .non/\Q (.ref x) H2) (E σ)
def pT(M:Mk X.K C f)(F:hZ X.prog X.w X.K X.mg X.base CX k f fd ps sp)(hr:Room (k+1) X.A)(hb:Binds X.K fd ps ds)(hd:WW dvs ds)
 (hx:cM CX X E) (I:WR X XG σ H s) (r:WW vs us)
 (h:∀x dx,H x=none->H dx=none->dx≠x->sp (.ref x::(vs++dvs)) (upd (upd H dx (.own x)) x (.ins C dx [])) (fun v H2=>v = .non/\Q (.ref x) H2) (E σ)) :
 WH (WG X.prog X.w) X.A (call (.ref C) us) (EP X XG σ Q) X.xe s:=by
 have hq:=h (s.heap.objs.size+1) s.heap.objs.size (I.hok.fresh (Xm _)) (I.hok.fresh (ym _)) (Zy (Nat.lt_succ_self _));have I2:=WR.made (C:=C) I;have r2:WW (V.ref (s.heap.objs.size+1)::(vs++dvs)) (vv (s.heap.objs.size+1)::(us++ds)):=.cons rfl (r.append hd);have hl:(vv (s.heap.objs.size+1)::us++ds).length=ps.length:=by
  have e:=r2.length;rw[F.len _ _ _ _ hq]at e;exact e.symm
 refine wpAny_call (AK (f:=f) I.kIn M.makes M.init (beq_iff_eq.mp M.fn) (codeAny_mono (F.run _ X.stack _ _ ⟨vv (s.heap.objs.size+1)::us,[]⟩ (vv (s.heap.objs.size+1)::(us++ds)) _ _ (E σ) (hr.make C us [])
  (I2.env0.make C us []) (hb _ (vv (s.heap.objs.size+1)::us) I2.kIn hl) r2 hq) fun r s' hq'=>?_))
 cases r with
 |error e=>exact hx XG σ _ _ e s' I2 hq'
 |ok fl=>
  cases fl with
  |ret u=>
   obtain⟨v,H',I3,rv,ev,q3⟩:=I2.after hq';subst ev;exact⟨rv,⟨V.ref (s.heap.objs.size+1),H',I3,rfl,q3⟩⟩
  |next=>exact YX hq'
  |brk=>exact YX hq'
  |cont=>exact YX hq'
def A9(M:Mk X.K C f)(F:hZ X.prog X.w X.K X.mg X.base CX k f fd ps sp)(hr:Room (k+1) X.A)(hg:Gl X x)(hm:X.mg x=some (.ref C))(hb:Binds X.K fd ps ds)(hd:WW dvs ds)(hx:cM CX X E)
 (ha:PA X (e::es) t) (hdb:(x==("__debug__":Str))=false:=by decide) (he:WE (e::es) X.env=(false,eval e X.env)::WE es X.env:=by rfl) (hpl:(WD pos (WE es X.env)).any (·.1)=false:=by rfl) :
 PE X (.Call (.Name x p) (e::es) [] pos) (oS C sp dvs E t):=by
 intro XG s σ H Q I h;refine Y4 (iQ I hg hm ?_ hdb);refine PySem.W.callWith_K (h₀:=X.base) I.ok.mod.kin M.kp (thn (ha pos XG s σ H _ I h) fun us s1 ⟨vs,H1,I1,r,q⟩=>⟨I1.kIn,?_⟩) he hpl;exact pT M F hr hb hd hx I1 r q
def yX(M:Mk X.K C f)(F:hZ X.prog X.w X.K X.mg X.base CX k f fd ps sp)(hr:Room (k+1) X.A)(hg:Gl X x)(hm:X.mg x=some (.ref C))(hb:Binds X.K fd ps ds)(hd:WW dvs ds)(hx:cM CX X E)
 (hdb:(x==("__debug__":Str))=false:=by decide):PE X (.Call (.Name x p) [] [] pos) (oS C sp dvs E gU):=by
 intro XG s σ H Q I h;refine Y4 (iQ I hg hm ?_ hdb);exact PySem.W.callWith_K0 I.kIn M.kp (pT (us:=[]) M F hr hb hd hx I .nil h)
end
def fG(wi:TI)(n:Nat)(g:TG)(ks:List Nat)(tt:TT)(te:TE):TE:=fun σ H Q=>wi σ H fun J H1=>∀D,H1 D=none->∃W:Nat->Nat->List V->Hp->Prop,(∃m,W 0 m [] (upd H1 D (.lst []))) /\
 ∀i m ys H2,W i m ys H2->H2 D=some (.lst ys)/\((J.stop i H2/\Q (.ref D) H2)\/(J.go i H2/\∀x H3,J.yld i H2 x H3->∀zs:St,zs.length=n ->
  g x (zs++ks.map fun k=>(σ[k]?).join) H3 fun σ4 H4=>(∃zs4:St,zs4.length=n/\σ4=zs4++ks.map fun k=>(σ[k]?).join) /\
   tt σ4 H4 fun b H5=>if b=true then te σ4 H5 fun y H6=>H6 D=some (.lst ys)/\ys.length<WI/\∃m',m'<m/\W (i+1) m' (ys++[y]) (upd H6 D (.lst (ys++[y])))
    else ∃m',m'<m/\W (i+1) m' ys H5))
structure IC(gd:Cx->Prop)(P:WL)(w:WK)(K:Wz)(tg:Expr)(J:It)(fp:List WN)(it:WN)(tn:Nat->WF->Prop):Prop where
 mem:it∈fp
 obj:∀i h,tn i h->∀b∈fp,∃o,h.get? b=some o/\∀v,o.data ≠ .cell v
 keep:∀i h h',tn i h->(∀b∈fp,∀o,h.get? b=some o->h'.get? b=some o)->tn i h'
 item:∀(X:Cx),X.prog=P->X.w=w->X.K=K->gd X->∀(i:Nat) (XG:List (WN × Obj)) (s:WM) (σ:St) (H:Hp) (E:WO->WM->Prop),WR X XG σ H s->(∀b∈fp,j5 X XG H b)->tn i s.heap->J.go i H ->
  WH (WG P w) X.A (pyNext (.ref it)) (fun r s1=>∃u,r=some u /\
   WH (WG P w) X.A (XS tg (.ref it) u) (fun _ s2=>∃x H',WR X XG σ H' s2/\WX x u/\J.yld i H x H'/\tn (i+1) s2.heap/\∀b∈fp,H' b=none) E s1) E s
 done:∀(X:Cx),X.prog=P->X.w=w->X.K=K->gd X->∀(i:Nat) (XG:List (WN × Obj)) (s:WM) (σ:St) (H:Hp) (E:WO->WM->Prop),WR X XG σ H s->(∀b∈fp,j5 X XG H b)->tn i s.heap->J.stop i H ->
  WH (WG P w) X.A (pyNext (.ref it)) (fun r s1=>r=none/\WR X XG σ H s1) E s
 self:∀(A:WJ) (i:Nat) (s:WM) (Q:WO->WM->Prop) (E:WO->WM->Prop),tn i s.heap->Q (.ref it) s->WH (WG P w) A (pyIter (.ref it)) Q E s
def PIG(gd:Cx->Prop)(X:Cx)(tg iter:Expr)(wi:TI):Prop:=
 ∀(XG:List (WN × Obj)) (s:WM) (σ:St) (H:Hp) (R:It->Hp->Prop),WR X XG σ H s->wi σ H R ->
  WH (WG X.prog X.w) X.A (eval iter X.env) (fun v s1=>WH (WG X.prog X.w) X.A (pyIter v) (fun itv s2=>∃(it:WN) (fp:List WN) (tn:Nat->WF->Prop) (J:It) (H':Hp),itv = .ref it/\WR X XG σ H' s2/\IC gd X.prog X.w X.K tg J fp it tn/\tn 0 s2.heap/\(∀b∈fp,j5 X XG H' b)/\R J H') X.xe s1) X.xe s
def xF(h:PI X tg iter wi):PIG (fun X=>X.calm=true) X tg iter wi:=fun XG s σ H R I q=>
 Zi (h XG s σ H R I q) (fun v s1 h1=>Zi h1 (fun itv s2 hq_=>(by obtain⟨it,fp,tn,J,H',e,I2,T,r⟩:=hq_;exact⟨it,fp,tn,J,H',e,I2,⟨T.mem,T.obj,T.keep,T.item,T.done,T.self⟩,r⟩)) fun _ _ z=>z) fun _ _ z=>z
noncomputable def da(X:Cx)(N:List Str)(WP:Scope)(cl:List (Str × WN))(fnc:Str->Bool)(C:WN)(s₂:WM)(H₂:Hp)(ex:List WN)(pn:List (WN × Obj)):Cx:=
 { gK X N WP cl C s₂ H₂ ex pn with fn:=fnc }
structure kW(X:Cx)(WP:Scope)(cl:List (Str × WN))(cl2:WN->List (Str × WN))(fnc:Str->Bool)(fr:List Str):Prop where
 clos:closureFor WP X.env=pure cl
 kind:WP.kind = .function
 names:∀y∈WP.names,y.2 = .local->WP.names.lookup y.1=some .local
 lay:∀(M:Model) (A:WJ) (E:WO->WM->Prop) (Q:Env->WM->Prop) (s:WM),(∀h₁ t₁ m,h₁.Ns s.heap.objs.size m->(∀b o,s.heap.get? b=some o->h₁.get? b=some o)->(∀y c,fnc y=true->(cl2 s.heap.objs.size).lookup y=some c->s.heap.objs.size<c/\h₁.IsCell c none) ->
  Q { scope:=WP,locals:=s.heap.objs.size,globals:=X.env.globals,cells:=cl2 s.heap.objs.size,qual:=X.env.qual,func:=none,code:=X.env.code,frame:=X.env.frame,builtins:=X.env.builtins } { s with heap:=h₁,toks:=t₁ })->WH M A (newFunctionEnv WP X.env.globals cl [] X.env.qual none .none (some X.env)) Q E s
 only:∀C y,((relabel WP X.env).names.lookup y=some .cell\/(relabel WP X.env).names.lookup y=some .free)->y∈fr\/∃c,(cl2 C).lookup y=some c
 sub:∀C y c,(cl2 C).lookup y=some c->fnc y=false->X.env.cells.lookup y=some c
 cell:∀C,∀y∈fr,(cl2 C).lookup y=X.env.cells.lookup y
 inj:∀C y z c,fnc y=true->fnc z=true->(cl2 C).lookup y=some c->(cl2 C).lookup z=some c->y=z
 kinds:∀y∈fr,X.env.kindOf y=some .cell\/X.env.kindOf y=some .free
 kin:∀y∈fr,(relabel WP X.env).names.lookup y=some .cell\/(relabel WP X.env).names.lookup y=some .free
def pV(hc:∀C s₂ H₂ ex pn,gd (da X (xs++fr) WP (cl2 C) fnc C s₂ H₂ ex pn))(S:kW X WP cl cl2 fnc fr)
 (hks:ks.map (fun k=>X.N[k]?)=fr.map some) (hi:PIG gd X tg iter wi) (hg:∀C s₂ H₂ ex pn,PG (da X (xs++fr) WP (cl2 C) fnc C s₂ H₂ ex pn) tg g)
 (ht:∀C s₂ H₂ ex pn,PTs (da X (xs++fr) WP (cl2 C) fnc C s₂ H₂ ex pn) ifs tt) (he:∀C s₂ H₂ ex pn,PE (da X (xs++fr) WP (cl2 C) fnc C s₂ H₂ ex pn) elt te)
 (hs:∀x,Xr iter X.env x=pure x:=by intro _;rfl)
 (I:WR X XG σ H s) (h:fG wi xs.length g ks tt te σ H Q) (use:Option (WO->Sem Unit)) (Qp:WO->WM->Prop)
 (hend:∀(D C:WN) (H':Hp) (s':WM) (mC:Str->Option WO) (f:Flow),WR X XG σ H' s'->j5 X XG H' C->s'.heap.Ns C mC->Q (.ref D) H'->compPost (WG X.prog X.w) X.A X.xe use Qp (.ref D) C (.ok f) s') :
 WH (WG X.prog X.w) X.A (comprehension (.ListComp elt [⟨tg,iter,ifs,0⟩] WP pos) WP X.env (firstIterPos [⟨tg,iter,ifs,0⟩] pos) (newList []) false (firstIter [⟨tg,iter,ifs,0⟩] X.env) use) Qp X.xe s:=by
 refine wpAny_comprehension_free (use:=use) rfl hs S.clos S.kind S.names (thn (hi XG s σ H _ I h) fun v s1 h1=>thn h1 fun itv s2 h2=>?_);obtain⟨it,fp,tn,J,H2,e,I2,T,st2,f2,hW⟩:=h2;subst e;refine ZZ ?_;have hD0:H2 s2.heap.objs.size=none:=I2.hok.fresh (ym _);obtain⟨W,⟨m0,w0⟩,turn⟩:=hW s2.heap.objs.size hD0;generalize hs3:s2.heap.push { cls:=.type "list",dict:=none,data:=.seq ([]:List WO).toArray }=g3;have hsz3:g3.objs.size=s2.heap.objs.size+1:=by rw[<- hs3,Heap.size_push]
 have up3:∀b o,s2.heap.get? b=some o->g3.get? b=some o:=fun b o e=>by rw[<- hs3];exact Wy _ e
 have gD:g3.get? s2.heap.objs.size=some { cls:=.type "list",dict:=none,data:=.seq ([]:List WO).toArray }:=by rw[<- hs3];exact Wx _ rfl
 have I3:WR X XG σ (upd H2 s2.heap.objs.size (.lst [])) { s2 with heap:=g3 }:=I2.laid (t':=s2.toks) up3 (ym _) ⟨by simp,[],0,.nil,gD⟩;refine S.lay _ _ _ _ _ fun h₁ t₁ m₁ hns₁ keep4 hnew=>?_;dsimp only at hns₁ keep4 hnew |-
 have hsub:∀y c,(cl2 g3.objs.size).lookup y=some c->X.env.cells.lookup y=some c\/(fnc y=true/\g3.objs.size<c/\h₁.IsCell c none):=fun y c e=>by
  cases hf:fnc y with
  |false=>exact .inl (S.sub _ y c e hf)
  |true=>exact .inr ⟨rfl,hnew y c hf e⟩
 have hCn:(upd H2 s2.heap.objs.size (.lst [])) g3.objs.size=none:=I3.hok.fresh (ym _);have fpD:∀b∈fp,b≠s2.heap.objs.size:=fun b hb z=>by
  obtain⟨o,e,_⟩:=T.obj 0 _ st2 b hb;exact Wa (vN e) (by rw[z];exact ZM _)
 have fpC:∀b∈fp,b≠g3.objs.size:=fun b hb z=>by
  obtain⟨o,e,_⟩:=T.obj 0 _ st2 b hb;exact Wa (vN (up3 b o e)) (by rw[z];exact ZM _)
 have fpN:∀b∈fp,(upd H2 s2.heap.objs.size (.lst [])) b=none:=fun b hb=>by rw[ag (fpD b hb)];exact(f2 b hb).1
 have old:∀y c,X.env.cells.lookup y=some c->c<g3.objs.size:=fun y c e=>by
  obtain⟨v,q⟩:=I3.cell y c e;exact q.lt
 have cfp:∀b∈fp,∀y c,(cl2 g3.objs.size).lookup y=some c->c≠b:=fun b hb y c e=>by
  obtain q|⟨_,l,_⟩:=hsub y c e
  .exact(f2 b hb).2.2.2.2.1 y c q
  .obtain⟨o,e,_⟩:=T.obj 0 _ st2 b hb
   exact fun z=>Wa (vN (up3 b o e)) (by rw[<- z];exact Nat.not_lt.mpr (ZK l))
 have Ok:(da X (xs++fr) WP (cl2 g3.objs.size) fnc g3.objs.size { s2 with heap:=g3 } (upd H2 s2.heap.objs.size (.lst [])) fp (X.pn++XG)).Ok:=by
  refine⟨I.ok.mod,S.kind,I.ok.glob,I.ok.blt,ym _,fun y z c e1 e2=>?_,fun y hy=>?_,fun y c z e=>ZK (hnew y c z e).1,I.ok.hd,I.ok.frames,.inl rfl,fun b hb=>⟨fpC b hb,cfp b hb⟩,I3.bs,r9 I.ok.bsz I3.sz,fun b o e hb=>?_,fun b hb z=>?_,I3.stack,I3.stkFree⟩
  .obtain q|⟨q,l,_⟩:=hsub y c e1 <;> obtain q'|⟨q',l',_⟩:=hsub z c e2
   .exact I.ok.inj y z c q q'
   .exact Wa (old y c q) (Nat.not_lt.mpr (ZK l'))
   .exact Wa (old z c q') (Nat.not_lt.mpr (ZK l))
   .exact S.inj _ y z c q q' e1 e2
  .obtain hy|hy:=S.only _ y hy
   .obtain⟨c,e⟩:=I.ok.has y (S.kinds y hy)
    exact⟨c,(S.cell _ y hy).trans e⟩
   .exact hy
  .rcases(f2 b hb).2.2.2.1 with q|q
   .exact I.ok.noex b o e q
   .exact Wa (vN e) (Nat.not_lt.mpr (r9 I.ok.bsz q))
  .obtain q|q:=zk.mp (I3.stkSub b z)
   .exact(f2 b hb).2.1 q
   .exact(f2 b hb).2.2.1 q
 have I4:WR (da X (xs++fr) WP (cl2 g3.objs.size) fnc g3.objs.size { s2 with heap:=g3 } (upd H2 s2.heap.objs.size (.lst [])) fp (X.pn++XG)) [] ((xs.map fun _=>none)++ks.map fun k=>(σ[k]?).join) (upd H2 s2.heap.objs.size (.lst [])) { s2 with heap:=h₁,toks:=t₁ }:=by
  refine⟨Ok,rfl,I3.bare,Un.kept keep4,⟨_,hns₁,fun i y v e1 e2 e3=>?_⟩,fun y c e=>?_,hCn,fun y c e=>?_,fun p hp=>?_,I3.hok.kept keep4,?_⟩
  .have e1':(xs++fr)[i]? = some y:=e1
   by_cases hix:i<xs.length
   .rw[Wq (by simpa using hix)]at e2
    simp[hix]at e2
   .obtain⟨i,rfl⟩:∃i',i=xs.length+i':=⟨i-xs.length,by lia⟩
    rw[List.getElem?_append_right (by lia)]at e1';rw[List.getElem?_append_right (by simp)]at e2;have e1':fr[i]? = some y:=by simpa using e1'
    have e2:(ks.map fun k=>(σ[k]?).join)[i]? = some (some v):=by simpa using e2
    have hy:y∈fr:=wt e1';have ek:(ks.map (fun k=>X.N[k]?))[i]? = (fr.map some)[i]?:=by rw[hks]
    rw[Ws,Ws,e1']at ek;have e2':=e2;rw[Ws]at e2';cases hk:ks[i]? with
    |none=>rw[hk]at ek;cases ek
    |some k=>
     rw[hk]at ek e2';have ek':X.N[k]? = some y:=by simpa using ek
     have e2'':(σ[k]?).join=some v:=by simpa using e2'
     have es:σ[k]? = some (some v):=by
      cases q:σ[k]? with
      |none=>rw[q]at e2'';cases e2''
      |some z=>rw[q]at e2'';rw[show z=some v from e2'']
     obtain⟨m,hn,hl⟩:=I3.loc;have hkd:=S.kinds y hy;obtain⟨u,r,lk⟩:=hl k y v ek' es (by obtain q|q:=hkd;exact .inr (.inl q);exact .inr (.inr q));refine⟨u,r,.inr ⟨S.kin y hy,?_⟩⟩;obtain⟨q,_⟩|⟨_,c,ec,hcell⟩:=lk
     .obtain z|z:=hkd <;> (rw[q]at z;cases z)
     .obtain⟨o,ho,hd⟩:=hcell
      exact⟨c,(S.cell _ y hy).trans ec,o,keep4 _ _ ho,hd⟩
  .obtain q|⟨_,_,q⟩:=hsub y c e
   .obtain⟨v,o,ho,hd⟩:=I3.cell y c q
    exact⟨v,o,keep4 _ _ ho,hd⟩
   .exact⟨_,q⟩
  .obtain q|⟨_,l,_⟩:=hsub y c e
   .exact I3.freeC y c q
   .exact I3.hok.fresh (ZK l)
  .have hp':p∈X.pn++XG:=by simpa [da,gK] using hp
   obtain⟨a1,a2,a3,a4,a5⟩:=I3.pin p hp';refine⟨keep4 _ _ a1,a2,Zy (vN a1),fun z=>?_,a5⟩;obtain q|q:=zk.mp (I3.stkSub p.1 z)
   .exact a3 q
   .exact a4 q
  .show((xs.map fun _=>none)++ks.map _).length=(xs++fr).length
   have:=Wb ZT hks;simp at this;simp[this]
 have st4:tn 0 h₁:=T.keep 0 _ _ st2 fun b hb o e=>keep4 _ _ (up3 _ _ e);have stat:∀ {H':Hp},(∀b∈fp,H' b=none)->∀b∈fp,j5 (da X (xs++fr) WP (cl2 g3.objs.size) fnc g3.objs.size { s2 with heap:=g3 } (upd H2 s2.heap.objs.size (.lst [])) fp (X.pn++XG)) [] H' b:=fun hn b hb=>
  ⟨hn b hb,fpC b hb,Ok.exfs b hb,.inl hb,cfp b hb,fun p hp=>(f2 b hb).2.2.2.2.2 p (by simpa [da,gK] using hp)⟩
 have loop:codeAny (WG X.prog X.w) X.A (.compLoop (.ListComp elt [⟨tg,iter,ifs,0⟩] WP pos) 0 (.ref it) (.ref s2.heap.objs.size) (compEnvC WP (cl2 g3.objs.size) g3.objs.size X.env))
  (compPost (WG X.prog X.w) X.A X.xe use Qp (.ref s2.heap.objs.size) g3.objs.size) { s2 with heap:=h₁,toks:=t₁ }:=by
  refine r_ (fun n s'=>∃i ys σ' H',WR (da X (xs++fr) WP (cl2 g3.objs.size) fnc g3.objs.size { s2 with heap:=g3 } (upd H2 s2.heap.objs.size (.lst [])) fp (X.pn++XG)) [] σ' H' s'/\(∃zs,zs.length=xs.length/\σ'=zs++ks.map fun k=>(σ[k]?).join)/\tn i s'.heap/\(∀b∈fp,H' b=none)/\W i n ys H') ?_ m0
   ⟨0,[],_,_,I4,⟨xs.map fun _=>none,by simp,rfl⟩,st4,fpN,w0⟩
  rintro n s' ⟨i,ys,σ',H',I5,⟨zs,hzs,rfl⟩,st5,fr5,w5⟩;obtain⟨hD,hor⟩:=turn i n ys H' w5;obtain⟨stop,qn⟩|⟨go,step⟩:=hor
  .refine Zi (T.done (da X (xs++fr) WP (cl2 g3.objs.size) fnc g3.objs.size { s2 with heap:=g3 } (upd H2 s2.heap.objs.size (.lst [])) fp (X.pn++XG)) rfl rfl rfl (hc _ _ _ _ _) i [] s' _ H' (fun _ _=>False) I5 (stat fr5) st5 stop) (fun r s6 hq_=>?_) (fun _ _ f=>f.elim)
   obtain⟨hr,I6⟩:=hq_;subst hr;obtain⟨mC,hnC,_⟩:=I6.loc;have tr:∀b o,b≠g3.objs.size->s6.heap.get? b=some o->s6.heap.get? b=some o:=fun b o hb e=>e;have U:=I6.base;have neC:∀b o,g3.get? b=some o->b≠g3.objs.size:=fun b o e=>Zy (vN e);have U':Un (frs X.stack) fp (upd H2 s2.heap.objs.size (.lst [])) H' g3 s6.heap:=⟨fun b o q n hb hx=>tr b o (neC b o q) (U.keep b o q n hb hx),fun b o q n hb hx=>let ⟨sl,e⟩:=U.slot b o q n hb hx;⟨sl,tr _ _ (neC b o q) e⟩,U.free,fun b o q hx=>let ⟨o',e⟩:=U.there b o q hx;⟨o',tr _ _ (neC b o q) e⟩,U.tups,U.frzs,U.tbls⟩;have ok':HOk X.prog X.w H' s6.heap:=fun a o e=>(I6.hok a o e).stay (fun b u hb q=>tr b u (fun z=>by
    have fC:H' g3.objs.size=none:=I6.free;obtain r|r:=hb
    .rw[<- z,r,e]at fC;cases fC
    .rw[<- z,r]at fC;cases fC) q) (fun _ q=>q) fun _ _ q=>q
   have J6:WR X XG σ H' s6:=I3.call' (s':=s6) (ch:=fp) I6.os U' ok' I6.bare fun b hb=>⟨(f2 b hb).2.2.2.1,(f2 b hb).2.1,(f2 b hb).2.2.2.2.1,(f2 b hb).2.2.2.2.2⟩;exact hend s2.heap.objs.size g3.objs.size H' s6 mC _ J6 (I3.fpOk (ym _) I6.free) hnC qn
  .refine Zi (T.item (da X (xs++fr) WP (cl2 g3.objs.size) fnc g3.objs.size { s2 with heap:=g3 } (upd H2 s2.heap.objs.size (.lst [])) fp (X.pn++XG)) rfl rfl rfl (hc _ _ _ _ _) i [] s' _ H' (fun _ _=>False) I5 (stat fr5) st5 go) (fun r s6 hq_=>?_) (fun _ _ f=>f.elim)
   obtain⟨u,hr,h6⟩:=hq_;subst hr;refine Zi h6 (fun _ s7 hq_=>?_) (fun _ _ f=>f.elim);obtain⟨xv,H7,I7,r7,y7,st7,fr7⟩:=hq_;have I7':=I7.pinned (stat fr7) (T.obj _ _ st7);have pinsTo:∀ {σ9:St} {H9:Hp} {s9:WM},WR (da X (xs++fr) WP (cl2 g3.objs.size) fnc g3.objs.size { s2 with heap:=g3 } (upd H2 s2.heap.objs.size (.lst [])) fp (X.pn++XG)) ([]++oQ fp s7.heap) σ9 H9 s9->tn (i+1) s9.heap/\∀b∈fp,H9 b=none:=fun {σ9 H9 s9} I9=>
    ⟨T.keep _ _ _ st7 fun b hb o e=>(I9.pin (b,o) (uD _ (uD _ (gN hb e)))).1,fun b hb=>by
     obtain⟨o,e,d⟩:=T.obj _ _ st7 b hb;exact(I9.pin (b,o) (uD _ (uD _ (gN hb e)))).2.1⟩
   refine Zi (hg _ _ _ _ _ _ s7 _ H7 xv u _ I7' r7 (step xv H7 y7 zs hzs)) (fun _ s8 hq_=>?_) (fun _ _ f=>f.elim);obtain⟨σ8,H8,I8,⟨zs4,hz4,e8⟩,q8⟩:=hq_;subst e8;refine Zi (ht _ _ _ _ _ _ s8 _ H8 _ I8 q8) (fun ok s9 hq_=>?_) (fun _ _ f=>f.elim);obtain⟨H9,I9,q9⟩:=hq_;cases ok with
   |false=>
    rw[Wg vV]at q9 |-
    obtain⟨m',hm,w9⟩:=q9;obtain⟨t9,f9⟩:=pinsTo I9;exact⟨m',hm,i+1,ys,_,H9,I9.unpinned,⟨zs4,hz4,rfl⟩,t9,f9,w9⟩
   |true=>
    rw[Wf rfl]at q9 |-
    refine Zi (he _ _ _ _ _ _ s9 _ H9 _ I9 q9) (fun yv s10 hq_=>?_) (fun _ _ f=>f.elim);obtain⟨y,H10,I10,r10,hD10,hlen,m',hm,w10⟩:=hq_;refine Zi (cA (X:=da X (xs++fr) WP (cl2 g3.objs.size) fnc g3.objs.size { s2 with heap:=g3 } (upd H2 s2.heap.objs.size (.lst [])) fp (X.pn++XG)) _ s10 _ H10 (.ref s2.heap.objs.size) [y] (.ref s2.heap.objs.size) [yv]
     (fun _ H'=>H'=upd H10 s2.heap.objs.size (.lst (ys++[y]))) I10 rfl (.cons r10 .nil) ⟨_,ys,y,rfl,rfl,hD10,hlen,rfl⟩) (fun _ s11 ⟨_,H11,I11,_,e11⟩=>?_) (fun _ _ f=>f.elim)
    subst e11;obtain⟨t11,f11⟩:=pinsTo I11;exact⟨m',hm,i+1,ys++[y],_,_,I11.unpinned,⟨zs4,hz4,rfl⟩,t11,f11,w10⟩
 exact codeAny_compStart_list loop (T.self X.A 0 _ _ _ st4 loop)
def CompScope.cs(S:CompScope X WP cl x fr):kW X WP cl (fun _=>cl) (fun _=>false) fr:=
 ⟨S.clos,S.kind,S.names,fun M A E Q s k=>wpAny_newFunctionEnv S.nocell (by intro y hy;simp at hy) (fun h₁ hn hs=>k h₁ _ _ hn (fun b o e=>(hs.2 b (Zy (vN e))).trans (Wy _ e)) fun _ _ z=>nomatch z) S.kind,
  fun _ y hy=>.inl (S.only y hy),fun _ _ _ e _=>S.sub e,fun _ _ h=>S.cell h,(fun _ _ _ _ z=>nomatch z),S.kinds,S.kin⟩
def bK(hc:X.calm=true)(S:CompScope X WP cl x fr)
 (hks:ks.map (fun k=>X.N[k]?)=fr.map some) (hi:PI X tg iter wi) (hg:∀C s₂ H₂ ex pn,PG (gK X (xs++fr) WP cl C s₂ H₂ ex pn) tg g)
 (ht:∀C s₂ H₂ ex pn,PTs (gK X (xs++fr) WP cl C s₂ H₂ ex pn) ifs tt) (he:∀C s₂ H₂ ex pn,PE (gK X (xs++fr) WP cl C s₂ H₂ ex pn) elt te)
 (hs:∀x,Xr iter X.env x=pure x:=by intro _;rfl):PE X (.ListComp elt [⟨tg,iter,ifs,0⟩] WP pos) (fG wi xs.length g ks tt te):=by
 intro XG s σ H Q I h;rw[eval_ListComp];refine pV (gd:=fun X=>X.calm=true) (cl2:=fun _=>cl) (fnc:=fun _=>false) (fun _ _ _ _ _=>hc) S.cs hks (xF hi) hg ht he hs I h none _ fun D C H' s' mC f J fp hn q=>⟨mC,hn,fun h' sb=>?_⟩;obtain⟨f0,f1,f2,f3,f4,f5⟩:=fp;exact⟨.ref D,H',J.turned (t':=s'.toks) (fun b o hb e=>(sb.2 b hb).trans e) f0 f1 f3 f4 f5,rfl,q⟩
def Bq(hN:X.N.Nodup)(hi0:X.N[i0]? = some x0)(hx0:Loc X.env.scope x0)(hc:X.calm=true)(S:kW X WP cl cl2 fnc fr)
 (hks:ks.map (fun k=>X.N[k]?)=fr.map some) (hi:PI X tg iter wi) (hg:∀C s₂ H₂ ex pn,PG (da X (xs++fr) WP (cl2 C) fnc C s₂ H₂ ex pn) tg g)
 (ht:∀C s₂ H₂ ex pn,PTs (da X (xs++fr) WP (cl2 C) fnc C s₂ H₂ ex pn) ifs tt) (he:∀C s₂ H₂ ex pn,PE (da X (xs++fr) WP (cl2 C) fnc C s₂ H₂ ex pn) elt te)
 (hs:∀x,Xr iter X.env x=pure x:=by intro _;rfl)
 (hsw:swapsWith (.ListComp elt [⟨tg,iter,ifs,0⟩] WP pos) (some (.Name x0 px0)) pos0.line X.env=pure true:=by rfl) (hf:X.fn x0=true\/X.env.scope.names.lookup x0=some .local:=by first|exact .inl rfl|exact .inr rfl|assumption) :
 PS X (.Assign [.Name x0 px0] (.ListComp elt [⟨tg,iter,ifs,0⟩] WP pos) pos0) (yQ (fG wi xs.length g ks tt te) (fS i0)):=by
 intro XG s σ H D I h;rw[exec_Assign_Name_used _ _ _ _ hsw];refine zv (wpAny_standAt (zv (zv ?_)));refine pV (gd:=fun X=>X.calm=true) (fun _ _ _ _ _=>hc) S hks (xF hi) hg ht he hs I h (some (assign (.Name x0 px0) X.env)) _ fun D' C H' s' mC f J fp hn q=>?_;obtain⟨f0,f1,f2,f3,f4,f5⟩:=fp;refine wpAny_assign_Name (p9 J hN hi0 hx0 (v:=.ref D') rfl (fun s7 I7 hq_=>?_) hf);obtain⟨a,sb,ha⟩:=hq_;have hCa:C≠a:=by
  obtain e|e:=ha
  .rw[e];exact f1
  .exact fun z=>f4 _ _ e z.symm
 refine⟨mC,hn.sameBut sb hCa,fun h' sb2=>?_⟩;have J2:=I7.turned (t':=s7.toks) (fun b o hb e=>(sb2.2 b hb).trans e) f0 f1 f3 f4 f5;exact yy (yy ⟨_,H',J2,q⟩)
def oR(hN:X.N.Nodup)(hi0:X.N[i0]? = some x0)(hx0:Loc X.env.scope x0)(hc:X.calm=true)(S:CompScope X WP cl x fr)
 (hks:ks.map (fun k=>X.N[k]?)=fr.map some) (hi:PI X tg iter wi) (hg:∀C s₂ H₂ ex pn,PG (gK X (xs++fr) WP cl C s₂ H₂ ex pn) tg g)
 (ht:∀C s₂ H₂ ex pn,PTs (gK X (xs++fr) WP cl C s₂ H₂ ex pn) ifs tt) (he:∀C s₂ H₂ ex pn,PE (gK X (xs++fr) WP cl C s₂ H₂ ex pn) elt te)
 (hs:∀x,Xr iter X.env x=pure x:=by intro _;rfl)
 (hsw:swapsWith (.ListComp elt [⟨tg,iter,ifs,0⟩] WP pos) (some (.Name x0 px0)) pos0.line X.env=pure true:=by rfl) (hf:X.fn x0=true\/X.env.scope.names.lookup x0=some .local:=by first|exact .inl rfl|exact .inr rfl|assumption) :
 PS X (.Assign [.Name x0 px0] (.ListComp elt [⟨tg,iter,ifs,0⟩] WP pos) pos0) (yQ (fG wi xs.length g ks tt te) (fS i0)):=Bq (cl2:=fun _=>cl) (fnc:=fun _=>false) hN hi0 hx0 hc S.cs hks hi hg ht he hs hsw hf
end L2
namespace L2
open PySem PySem.Spec PyProof.Rows Builtin Builtin.Str
section
variable{prog:WL}{w:WK}{A:WJ}{E:WO->WM->Prop}{s:WM}{t:WN}
def ze(hh:A.handled=none)(ht:s.heap.IsList t (intItems xs))
 (h:∀h' tk t',(∀b o,s.heap.get? b=some o->h'.get? b=some o)->Q (.int (preSum (numAt xs) xs.size) t') { s with heap:=h',toks:=tk }) :
 WH (WG prog w) A (call (.builtin "sum") [.ref t]) Q E s:=by
 obtain⟨o,ho,hc,n,hd⟩:=id ht;have hne:t≠s.heap.objs.size:=Zy (vN ho);have hsz:(intItems xs).size=xs.size:=by simp[intItems]
 have W:=(Walks.list (prog:=prog) (w:=w) (A:=A.in1) hh s.heap.objs.size t hne (intItems xs)).toS;rw[hsz]at W;refine call_sum_walkAnyS (wpAny_pyIter_list ht ?_);refine⟨s.heap.objs.size,_,_,_,_,_,_,numAt xs,rfl,W,⟨⟨_,Wx _ rfl,rfl,rfl⟩,ht.at fun o e=>Wy _ e⟩,fun b hb=>?_,fun i v hP=>intItems_at hP,fun s' t' hm=>?_⟩
 .obtain rfl|hb:=zk.mp hb
  .exact vN (Wx _ rfl)
  .obtain rfl:=zw.mp hb
   exact vN (Wy _ ho)
 .obtain⟨h',g',d',tk',os'⟩:=s'
  have e1:g'=s.gens:=hm.gens;have e2:d'=s.drawn:=hm.drawn;have e3:os'=s.os:=hm.os;subst e1 e2 e3;exact h h' tk' t' fun b o e=>hm.heap b o (fun hb=>Wa (vN e) ((zw.mp hb) ▸ ZM _)) (Wy _ e)
end
section
variable{X:Cx}{e a b c:Expr}{pos:Pos}
def Jn(K:Wz):List V->Hp->VK->Prop
 | [.ref p],H,Q=>∃ns:List Int,(SqL K H p (ns.map V.int)\/SqT K H p (ns.map V.int))/\Q (.int ns.sum) H
 |_,_,_=>False
def xb(K:Wz)(hc:X.calm=true)(hK:X.K=K:=by rfl):WT X (.builtin "sum") (Jn K):=by
 subst hK;intro XG s σ H xs us Q I r h;obtain _|⟨e_1,r_1⟩:=xs
 .exact XH h
 cases e_1 with
 |ref p=>
  cases r_1 with
  |nil=>
   obtain⟨ns,hq,q⟩:=h;obtain hq|hq:=hq
   .obtain⟨u,rfl,rx⟩:=dI r
    cases (show u=vv p from rx);obtain⟨XC,r',pl,hz⟩:=I.list hq;have hi:=nR r';obtain⟨ys,hy⟩:=hi.allInts.items;have hn:numsOf XC.toArray.toList=ns:=by rw[show XC.toArray.toList=XC from rfl,hi.numsOf]
    have pl':=pl.isList;rw[hy]at pl' hn;rw[nums_intItems]at hn;refine ze (I.ok.hd hc) pl' fun h' tk t' hk=>?_;rw[preSum_eq,Zm (by simp),hn];exact⟨.int ns.sum,H,I.kept hk,⟨_,rfl⟩,q⟩
   .exact qQ hc XG s σ H _ us Q I r ⟨p,ns,rfl,hq,q⟩
  |cons=>exact XH h
 |_=>exact XH h
def JY(K:Wz)(neg:Bool):R2
 |x,.ref p,H,Q=>∃xs,(SqL K H p xs\/SqT K H p xs)/\dB x=true/\xs.all dB=true/\Q (.bl (neg ^^ inV x xs)) H
 |_,_,_,_=>False
def p7(K:Wz)(hK:X.K=K:=by rfl):OpR X (Zl .NotIn) (JY K true):=by
 subst hK;refine rm.imp fun x y H Q h=>?_;cases y with
 |ref v_1=>
  obtain⟨xs,h1,h2,h3,q⟩:=h;exact⟨_,xs,rfl,h1,h2,h3,by simpa using q⟩
 |_=>exact XH h
section
variable{T name id:String}{r:V->List V->Hp->VK->Prop}{o:Expr}{to:TE}{apos cpos:Pos}
def DL(K:Wz)(pa:PlainAttrs T)(slot:Slot T name id)(hty:typeOf (.builtin id)=pure (.type "method_descriptor"))(hm:MtR X id r)(ho:PE X o to)(hK:X.K=K:=by rfl)
 (hbase:Yc o name X.env (eval o X.env)=eval o X.env:=by rfl) (hline:(apos.endLine==cpos.line)=true:=by rfl):PE X (.Call (.Attribute o name apos) [] [] cpos) (DT K T r to):=by
 subst hK;exact HC pa slot hty hm ho hbase hline
end
end
end L2
namespace L2
def cQ{l:List PySem.Str}(h:l.Nodup):l.Nodup:=h
def sp5(f:V->V->V->V->V->Hp->VK->XK->Prop):Sp:=fun vs H Q E=>match vs with
 | [x,y,z,u,v]=>f x y z u v H Q E
 |_=>False
def sp5.inv{f}(h:sp5 f vs H Q E):∃x y z u v,vs=[x,y,z,u,v]/\f x y z u v H Q E:=by
 obtain _|⟨x,_|⟨y,_|⟨z,_|⟨u,_|⟨v,_|⟨w,r⟩⟩⟩⟩⟩⟩:=vs
 rotate_left 5
 .exact⟨_,_,_,_,_,rfl,h⟩
 all_goals exact XH h
def sp5.len{f}(h:sp5 f vs H Q E):vs.length=5:=by obtain⟨_,_,_,_,_,rfl,_⟩:=sp5.inv h;rfl
def ig{n:PySem.Str}{v:V}{l:List (PySem.Str × V)}:qI n ((n,v)::l)=some v:=by simp[qI]
def aW{n m:PySem.Str}{v:V}{l:List (PySem.Str × V)}(h:(n==m)=false:=by decide +kernel):qI n ((m,v)::l)=qI n l:=by simp[qI,h]
end L2
namespace L2
open PySem PySem.Spec PyProof.Rows
structure KW(k:Nat)(A:WJ):Prop where
 dp:A.depth+3*k+5<recursionLimit
 un:A.units+16*k+200<cLine
end L2
namespace L2
def ex1(hl:us.length=1):∃a0,us=[a0]:=by
 cases us with
 |nil=>cases hl
 |cons a r=>exact⟨a,by rw[List.eq_nil_of_length_eq_zero (Nat.succ.inj hl)]⟩
def ex2(hl:us.length=2):∃a0 a1,us=[a0,a1]:=by
 cases us with
 |nil=>cases hl
 |cons a r=>
  obtain⟨a1,e⟩:=ex1 (Nat.succ.inj hl);exact⟨a,a1,by rw[e]⟩
def ex3(hl:us.length=3):∃a0 a1 a2,us=[a0,a1,a2]:=by
 cases us with
 |nil=>cases hl
 |cons a r=>
  obtain⟨a1,a2,e⟩:=ex2 (Nat.succ.inj hl);exact⟨a,a1,a2,by rw[e]⟩
def ex4(hl:us.length=4):∃a0 a1 a2 a3,us=[a0,a1,a2,a3]:=by
 cases us with
 |nil=>cases hl
 |cons a r=>
  obtain⟨a1,a2,a3,e⟩:=ex3 (Nat.succ.inj hl);exact⟨a,a1,a2,a3,by rw[e]⟩
def ex5(hl:us.length=5):∃a0 a1 a2 a3 a4,us=[a0,a1,a2,a3,a4]:=by
 cases us with
 |nil=>cases hl
 |cons a r=>
  obtain⟨a1,a2,a3,a4,e⟩:=ex4 (Nat.succ.inj hl);exact⟨a,a1,a2,a3,a4,by rw[e]⟩
def ex6(hl:us.length=6):∃a0 a1 a2 a3 a4 a5,us=[a0,a1,a2,a3,a4,a5]:=by
 cases us with
 |nil=>cases hl
 |cons a r=>
  obtain⟨a1,a2,a3,a4,a5,e⟩:=ex5 (Nat.succ.inj hl);exact⟨a,a1,a2,a3,a4,a5,by rw[e]⟩
end L2
namespace L2
open Lean Meta Simp
def Gz:List Name:=[`L2.tY,`L2.tC,`L2.tOp,`L2.tUn,`L2.gEqN,`L2.qh,`L2.v4,`L2.Jz,`L2.fOr,`L2.IO,`L2.zX,`L2.fPickT,`L2.GR,`L2.Ii,`L2.JE,`L2.tRetN,`L2.EC,`L2.wG,`L2.yQ,`L2.fS,`L2.tIf,`L2.JU,`L2.tOr,`L2.I_,`L2.b_,`L2.gU,`L2.tCB,`L2.rV,`L2.CI,`L2.Jc,`L2.Jm,`L2.EE,`L2.tIsB,`L2.E9,`L2.xh,`L2.tSl,`L2.cs,`L2.HQ,`L2.CMul,`L2.FQ,`L2.vt,`L2.tTry,`L2.gcE,`L2.JF,`L2.tGc,`L2.tBM,`L2.E7,`L2.fJoinRev,`L2.CDivB,`L2.rW,`L2.DQ,`L2.wK,`L2.Gv,`L2.Iv,`L2.E2,`L2.EF,`L2.Ew,`L2.n9,`L2.oS,`L2.Be,`L2.Bv,`L2.Es,`L2.DT,`L2.vc]
def FY:List Name:=[`L2.Ir,`L2.gI,`L2.gIC,`L2.Gs,`L2.gLe,`L2.gLt,`L2.eqS,`L2.kB,`L2.KB,`L2.Jq,`L2.IW,`L2.Fm,`L2.DB,`L2.gInt,`L2.gIx,`L2.sp0,`L2.sp1,`L2.sp2,`L2.sp3,`L2.sp4,`L2.asI,`L2.asT,`L2.asB,`L2.asR,`L2.tyV,`L2.gSt,`L2.gEn,`L2.gZf,`L2.gStr,`L2.B6,`L2.gIn,`L2.gSl,`L2.Kp,`L2.gMulS,`L2.Jd,`L2.gRep,`L2.gRepT,`L2.gIsiT,`L2.wP,`L2.AQ,`L2.IB,`L2.Il,`L2.Ff,`L2.Aq,`L2.xO,`L2.Jn,`L2.gMulT]
def rdI:=wb @L2.DF (wb @L2.KH (wb @L2.V.bl.injEq (wb @L2.V.str.injEq (wb @L2.yV (wb @L2.Jv (wb @L2.GM (wb @L2.FN (wb @L2.Fz (wb @L2.FO (wb @L2.mG (wb @L2.ur (wb @L2.vi (wb @L2.wv (wb @L2.uV (wb @L2.qJ (wb @L2.ut (wb @L2.Do (wb @L2.lA (wb @L2.rY (wb @L2.sX (wb @L2.uo (wb @L2.qM (wb @L2.o_ (wb @L2.rZ (wb @L2.Hq (wb @L2.mH (wb @L2.tI (wb @L2.vH (wb @L2.u9 (wb @L2.t7 (wb @L2.sd (wb @L2.sw (wb @L2.Dx (wb @L2.k6 (wb @L2.rL (wb @L2.tw (wb @L2.uS (wb @L2.r6 (wb @L2.ph (wb @L2.se (wb @L2.z9 (wb @L2.j_ (wb @L2.pe (wb @L2.sf (wb @L2.rK (wb @L2.pC (wb @L2.nO (wb @L2.pD (wb @L2.DC (wb @L2.kq (wb @L2.ql (wb @L2.tD (wb @L2.tT (wb @L2.sj (wb @L2.pf (wb @L2.rG (wb @L2.Ik (wb @L2.Gq (wb @L2.Ht (wb @L2.FS (wb @L2.DX (wb @L2.HB (wb @L2.DJ (wb @L2.CY (wb @L2.C4 (wb @L2.CV (wb @L2.Gd (wb @L2.D8 (wb @L2.Dh (wb @L2.DS (wb @true_and (wb @and_true (wb @and_self (wb @true_or (wb @or_true (wb @decide_eq_true_eq (wb @Bool.true_eq_false (wb @Bool.false_xor (wb @Bool.true_xor (wb @Bool.not_true (wb @Bool.not_false (wb @Zd (wb @Bool.not_eq_true' (wb @decide_eq_false_iff_not @Classical.not_not))))))))))))))))))))))))))))))))))))))))))))))))))))))))))))))))))))))))))))))))))))
end L2
namespace L2
namespace Srt
open PySem PyProof.Rows
noncomputable def kv(κ:Keyed->Int)(xs:Array Keyed)(i:Nat):Int:=(xs[i]?.map κ).getD 0
def Up(κ:Keyed->Int)(xs:Array Keyed)(k:Nat):Prop:=∀i j,i<=j->j<k->kv κ xs i<=kv κ xs j
def Dn(κ:Keyed->Int)(xs:Array Keyed)(k:Nat):Prop:=∀i j,i<=j->j<k->kv κ xs j<=kv κ xs i
structure SB(kd:SortKind)(z:Array Keyed)(t:SortSt):Prop where
 pm:(arrOf t).Perm z
 kn:kindOf t=kd
 fl:failedOf t=none
 pn:pendingOf t = #[]
def SB.sz(b:SB kd z t):(arrOf t).size=z.size:=b.pm.size_eq
def SB.put(b:SB kd z t)(p:xs.Perm (arrOf t)):SB kd z (setArr t xs):=
 ⟨p.trans b.pm,b.kn,b.fl,b.pn⟩
def pQ(h:i<xs.size):kv κ xs i=κ xs[i]:=by
 unfold kv;rw[Wn h];rfl
def wD(h:xs[i]? = ys[j]?):kv κ xs i=kv κ ys j:=by unfold kv;rw[h]
def B0(hs:u<xs.size)(hd:d<=u)(k:Nat) :
 kv κ (bubble xs u d) k=if k=u-d then kv κ xs u else if u-d<k/\k<=u then kv κ xs (k-1) else kv κ xs k:=by
 have e:=getElem?_bubble hs d hd k;by_cases h1:k=u-d
 .rw[Wf h1]at e |-
  exact wD e
 .rw[Wg h1]at e |-
  by_cases h2:u-d<k/\k<=u
  .rw[Wf h2]at e |-
   exact wD e
  .rw[Wg h2]at e |-
   exact wD e
def Ch(hj:n<=xs.size)(hk:k<n) :
 kv κ (mirror xs 0 n ((n-0) / 2)) k=kv κ xs (n-1-k):=by
 have e:=getElem?_mirror_all (i:=0) hj k;rw[Wf ⟨rp _,hk⟩,Nat.zero_add]at e;exact wD e
section
variable{prog:WL}{w:WK}{A:WJ}{E:WO->WM->Prop}{s:WM}{z:Array Keyed}{κ:Keyed->Int}{kd:SortKind}{t:SortSt}
def Lts(prog:WL)(w:WK)(A:WJ)(s:WM)(kd:SortKind)(κ:Keyed->Int)(z:Array Keyed):Prop:=
 ∀(E:WO->WM->Prop) (p q:Keyed) (Q:Bool->WM->Prop),p∈z.toList->q∈z.toList->Q (decide (κ p<κ q)) s->WH (WG prog w) A (keyLt' kd p.1 q.1) Q E s
def SB.mem(b:SB kd z t)(h:i<(arrOf t).size):(arrOf t)[i]∈z.toList:=
 (YT.mp b.pm).mem_iff.mp (by simp)
def tj(L:Lts prog w A s kd κ z)(b:SB kd z t)(hi:i<z.size)(hj:j<z.size)
 (h:Q (some (decide (kv κ (arrOf t) i<kv κ (arrOf t) j))) t):wpS (WG prog w) A E s (ltAt' i j) Q t:=by
 have i':i<(arrOf t).size:=b.sz ▸ hi;have j':j<(arrOf t).size:=b.sz ▸ hj;rw[pQ i',pQ j']at h;rw[ltAt'_eq];refine WC (WA ?_);show wpS (WG prog w) A E s (elem' (arrOf t) i >>= fun p=>elem' (arrOf t) j >>= fun q=>lt' p q) Q t;rw[elem'_eq,elem'_eq,Wn i',Wn j'];refine WC (WB (WC (WB ?_)));rw[lt'_eq];refine WC (WA ?_);rw[b.kn];exact WC (wpS_lift (wpAny_attempt (L _ _ _ _ (b.mem i') (b.mem j') ⟨rfl,WB h⟩)))
def oJ(κ:Keyed->Int)(z:Array Keyed):Prop:=(z.toList.map κ).Nodup
def apart(b:SB kd z t)(D:oJ κ z)(hj:j<z.size)(h:i<j):kv κ (arrOf t) i≠kv κ (arrOf t) j:=by
 have j':j<(arrOf t).size:=b.sz ▸ hj;have i':i<(arrOf t).size:=Nat.lt_trans h j';have d:((arrOf t).toList.map κ).Nodup:=((YT.mp b.pm).map κ).nodup_iff.mpr D;rw[pQ i',pQ j'];intro e;have:=YR.mp d i j (by simpa using i') (by simpa using j') h;simp at this;exact this e
def D9(u:Up κ xs n)(h:n=0\/kv κ xs (n-1)<=kv κ xs n):Up κ xs (n+1):=by
 intro i j a c;by_cases e:j<n
 .exact u i j a e
 .have:j=n:=by lia
  subst this;by_cases e2:i=j
  .subst e2;exact Xl _
  .exact Int.le_trans (u i (j-1) (by lia) (by lia)) (h.resolve_left (by lia))
def xR(u:Dn κ xs n)(h:n=0\/kv κ xs n<=kv κ xs (n-1)):Dn κ xs (n+1):=by
 intro i j a c;by_cases e:j<n
 .exact u i j a e
 .have:j=n:=by lia
  subst this;by_cases e2:i=j
  .subst e2;exact Xl _
  .exact Int.le_trans (h.resolve_left (by lia)) (u i (j-1) (by lia) (by lia))
def asc(L:Lts prog w A s kd κ z)(hr:r<=z.size)(ha:1<=a)(har:a<=r)(b:SB kd z t)(u:Up κ (arrOf t) a)
 (h:∀n,a<=n->n<=r->Up κ (arrOf t) n->(n=r\/kv κ (arrOf t) n<kv κ (arrOf t) (n-1))->Q (none,n) t):wpS (WG prog w) A E s (ascLoop a r) Q t:=by
 unfold ascLoop;refine wpS_forRange (fun x c t'=>t'=t/\c=(none,x)/\Up κ (arrOf t) x) ?_ ?_ ⟨rfl,rfl,u⟩
 .rintro x c t' x1 x2 ⟨rfl,rfl,u'⟩
  refine WC (tj L b (by lia) (by lia) ?_);by_cases l:kv κ (arrOf t') x<kv κ (arrOf t') (x-1)
  .simp only[We l,if_true]
   exact WB (h x x1 (by lia) u' (.inr l))
  .simp only[Wc l,Zd,if_false]
   exact WB ⟨rfl,rfl,D9 u' (.inr (by lia))⟩
 .rintro c t' ⟨rfl,rfl,u'⟩
  rw[Nat.max_eq_right har]at u' |-
  exact h r har (ym _) u' (.inl rfl)
def t3(L:Lts prog w A s kd κ z)(hr:r<=z.size)(h1:1<=n)(hn:n<=r)(b:SB kd z t)(u:Dn κ (arrOf t) n)
 (h:∀m t',SB kd z t'->1<=m->m<=r->Up κ (arrOf t') m->Q (some m) t'):wpS (WG prog w) A E s (tail3 n r) Q t:=by
 unfold tail3;refine WC (wpS_reverse ?_);have b':=b.put (mirror_perm (arrOf t) 0 n ((n-0) / 2));refine WC (asc L hr h1 hn b' ?_ fun m m1 m2 u' _=>WB (h m _ b' (by lia) m2 u'));intro i j a c;have g:n<=(arrOf t).size:=by rw[b.sz];lia
 show kv κ (mirror (arrOf t) 0 n ((n-0) / 2)) i<=kv κ (mirror (arrOf t) 0 n ((n-0) / 2)) j;rw[Ch g (by lia),Ch g c];exact u _ _ (by lia) (by lia)
def KA(L:Lts prog w A s kd κ z)(D:oJ κ z)(hr:r<=z.size)(h1:1<=n)(hn:n<=r)(b:SB kd z t)(u:Dn κ (arrOf t) n)
 (h:∀m,n<=m->m<=r->Dn κ (arrOf t) m->Q (none,m,0) t):wpS (WG prog w) A E s (descLoop n r) Q t:=by
 unfold descLoop;refine wpS_forRange (fun x c t'=>t'=t/\c=(none,x,0)/\Dn κ (arrOf t) x) ?_ ?_ ⟨rfl,rfl,u⟩
 .rintro x c t' x1 x2 ⟨rfl,rfl,u'⟩
  dsimp only;refine WC (tj L b (by lia) (by lia) ?_);by_cases l:kv κ (arrOf t') x<kv κ (arrOf t') (x-1)
  .simp only[We l,if_true]
   rw[Wg (ZM 0)];exact WB ⟨rfl,rfl,xR u' (.inr (Int.le_of_lt l))⟩
  .simp only[Wc l,Zd,if_false]
   refine WC (tj L b (by lia) (by lia) ?_);have d:=apart b D (i:=x-1) (j:=x) (by lia) (by lia);simp only[We (show kv κ (arrOf t') (x-1)<kv κ (arrOf t') x by lia),if_true];exact WB (h x x1 (by lia) u')
 .rintro c t' ⟨rfl,rfl,u'⟩
  rw[Nat.max_eq_right hn]at u' |-
  exact h r hn (ym _) u'
def count(L:Lts prog w A s kd κ z)(D:oJ κ z)(hr:r<=z.size)(h1:1<=r)(b:SB kd z t)
 (h:∀m t',SB kd z t'->1<=m->m<=r->Up κ (arrOf t') m->Q (some m) t'):wpS (WG prog w) A E s (countRun' 0 r) Q t:=by
 rw[countRun0_eq];refine WC (asc L hr (ym 1) h1 b (fun i j a c=>by have:i=j:=(by lia);subst this;exact Xl _) fun n n1 n2 u o=>?_);dsimp only;by_cases e:n=r
 .rw[Wf (by simpa using e)]
  exact WB (h n t b n1 n2 u)
 rw[Wg (by simpa using e)];by_cases g:n > 1
 .rw[Wf g]
  refine WC (tj L b (by lia) (by lia) ?_);have d:=apart b D (i:=0) (j:=n-1) (by lia) (by lia);have l:=u 0 (n-1) (by lia) (by lia);simp only[We (show kv κ (arrOf t) 0<kv κ (arrOf t) (n-1) by lia),if_true];exact WB (h n t b n1 n2 u)
 .rw[Wg g]
  have:n=1:=by lia
  subst this;unfold descPart;refine WC (wpS_lift (wpAny_rule ⟨rfl,?_⟩));refine WC (KA L D hr (by lia) (by lia) b ?_ fun m m1 m2 u'=>?_)
  .refine xR (fun i j a c=>by have:i=j:=(by lia);subst this;exact Xl _) (.inr ?_)
   have:=o.resolve_left e;lia
  .dsimp only
   rw[Wg (ZM 0)];exact t3 L hr (by lia) m2 b u' h
def Kf{l r:Nat}(g:¬ l ≥ r):l<=(l+r) / 2/\(l+r) / 2<r:=⟨by lia,by lia⟩
def Hg(L:Lts prog w A s kd κ z)(hn:n<=z.size)(hk:k₀<=n)(h0:1<=k₀)(b:SB kd z t)(u:Up κ (arrOf t) k₀)
 (h:∀t',SB kd z t'->Up κ (arrOf t') n->Q true t'):wpS (WG prog w) A E s (binarySort' 0 n k₀) Q t:=by
 rw[binarySort'_eq];simp only[Nat.zero_add];rw[Nat.max_eq_left h0];refine WC (wpS_mono (wpS_forRange (fun k c t'=>c=(none,())/\SB kd z t'/\Up κ (arrOf t') k) (Q:=fun c t'=>c=(none,())/\SB kd z t'/\Up κ (arrOf t') n) ?_ ?_ ⟨rfl,b,u⟩) ?_)
 .rintro k c t' k1 k2 ⟨rfl,b',u'⟩
  refine WC (wpS_mono (wpS_forRange (fun x c t2=>t2=t'/\∃l r,c=(none,l,r)/\l<=r/\r<=k/\r-l<=k-x /\
   (∀i,i<l->kv κ (arrOf t') i<=kv κ (arrOf t') k)/\∀i,r<=i->i<k->kv κ (arrOf t') k<=kv κ (arrOf t') i)
   (Q:=fun c t2=>t2=t'/\∃l r,c=(none,l,r)/\l<=k/\(∀i,i<l->kv κ (arrOf t') i<=kv κ (arrOf t') k)/\∀i,l<=i->i<k->kv κ (arrOf t') k<=kv κ (arrOf t') i) ?_ ?_
    ⟨rfl,0,k,rfl,rp _,ym _,ym _,fun i q=>Wa q (Nat.not_lt_zero _),fun i q q'=>Wa q' (Nat.not_lt.mpr q)⟩) ?_)
  .rintro x c t2 _ x2 ⟨rfl,l,r,rfl,lr,rk,m,lo,hi⟩
   dsimp only;by_cases g:l ≥ r
   .rw[Wf g]
    have:l=r:=by lia
    subst this;exact WB ⟨rfl,l,l,rfl,rk,lo,hi⟩
   rw[Wg g];obtain⟨a1,a2⟩:=Kf g;generalize (l+r) / 2=d at a1 a2;have a3:=Zw a2 rk;refine WC (tj L b' (by lia) (by lia) ?_);by_cases q:kv κ (arrOf t2) k<kv κ (arrOf t2) d
   .simp only[We q,if_true]
    exact WB ⟨rfl,l,d,rfl,a1,ZK a3,by lia,lo,fun i a c=>Int.le_trans (Int.le_of_lt q) (u' _ _ a c)⟩
   .simp only[Wc q,Zd,if_false]
    exact WB ⟨rfl,d+1,r,rfl,a2,rk,by lia,fun i a=>Int.le_trans (u' i d (Nat.le_of_lt_succ a) a3) (Int.not_lt.mp q),hi⟩
  .rintro c t2 ⟨rfl,l,r,rfl,lr,rk,m,lo,hi⟩
   have:l=r:=by lia
   subst this;exact⟨rfl,l,l,rfl,rk,lo,hi⟩
  .rintro c t2 ⟨rfl,l,r,rfl,lk,lo,hi⟩
   show wpS (WG prog w) A E s (moveDown' k l >>= fun _=>pure (ForInStep.yield (none,()))) _ t2;rw[moveDown'_eq];refine WC (wpS_modify (WB ⟨rfl,b'.put (bubble_perm _ _ _),?_⟩));have g:k<(arrOf t2).size:=by rw[b'.sz];lia
   intro i j a c;show kv κ (bubble (arrOf t2) k (k-l)) i<=kv κ (bubble (arrOf t2) k (k-l)) j;rw[B0 g (by lia),B0 g (by lia),Nat.sub_sub_self lk];by_cases e1:i=l
   .rw[Wf e1]
    by_cases e2:j=l
    .rw[Wf e2];exact Xl _
    .rw[Wg e2,Wf (by lia)];exact hi _ (by lia) (by lia)
   .rw[Wg e1]
    by_cases e3:l<i/\i<=k
    .rw[Wf e3,Wg (by lia),Wf (by lia)];exact u' _ _ (by lia) (by lia)
    .rw[Wg e3]
     by_cases e2:j=l
     .rw[Wf e2];exact lo _ (by lia)
     .rw[Wg e2]
      by_cases e4:l<j/\j<=k
      .rw[Wf e4];exact u' _ _ (by lia) (by lia)
      .rw[Wg e4];exact u' _ _ a (by lia)
 .rintro c t' ⟨e,b',u'⟩
  rw[Nat.max_eq_right hk]at u';exact⟨e,b',u'⟩
 .rintro c t' ⟨rfl,b',u'⟩
  exact WB (h t' b' u')
def Ky(L:Lts prog w A s kd κ z)(D:oJ κ z)(b:SB kd z t)(h2:2<=z.size)(h64:z.size<64)
 (h:∀t',(arrOf t').Perm z->failedOf t'=none->Up κ (arrOf t') z.size->Q () t'):wpS (WG prog w) A E s sortRuns' Q t:=by
 rw[sortRuns'_eq];refine WC (WA ?_);dsimp only;have mr:minRun' z.size z.size 0=z.size:=by
  obtain⟨f,e⟩:∃f,z.size=f+1:=⟨z.size-1,by lia⟩;rw[e,minRun'_succ,Wf (by lia),Nat.add_zero]
 simp only[b.sz,mr];refine WC (wpS_mono (wpS_forRange
  (fun x c t'=>(x=0/\c=(none,0)/\SB kd z t')\/(1<=x/\c=(none,z.size)/\(arrOf t').Perm z/\failedOf t'=none/\pendingOf t' = #[(0,z.size,0)]/\Up κ (arrOf t') z.size))
  (Q:=fun c t'=>c=(none,z.size)/\(arrOf t').Perm z/\failedOf t'=none/\pendingOf t' = #[(0,z.size,0)]/\Up κ (arrOf t') z.size) ?_ ?_ (.inl ⟨rfl,rfl,b⟩)) ?_)
 .rintro x c t' _ x2 (⟨rfl,rfl,b'⟩|⟨x1,rfl,d⟩)
  .dsimp only
   rw[Wg (by lia)];simp only[Nat.sub_zero,Nat.min_self,Nat.zero_add];refine WC (count L D (ym _) (by lia) b' fun m t2 b2 m1 m2 u2=>?_);dsimp only;by_cases g:m<z.size
   .rw[Wf g]
    refine WC (wpS_lift (wpAny_rule ⟨rfl,?_⟩));refine WC (Hg L (ym _) m2 m1 b2 u2 fun t3 b3 u3=>?_);simp only[Bool.not_true,Zd,if_false];refine WC (WA ?_);rw[show(pendingOf t3).back? = none by rw[b3.pn];rfl];exact WC (wpS_modify (WB (.inr ⟨by lia,rfl,b3.pm,b3.fl,by show(pendingOf t3).push _=_;rw[b3.pn];rfl,u3⟩)))
   .rw[Wg g]
    have:m=z.size:=by lia
    subst this;refine WC (WA ?_);rw[show(pendingOf t2).back? = none by rw[b2.pn];rfl];exact WC (wpS_modify (WB (.inr ⟨by lia,rfl,b2.pm,b2.fl,by show(pendingOf t2).push _=_;rw[b2.pn];rfl,u2⟩)))
  .dsimp only
   rw[Wf (ym _)];exact WB ⟨rfl,d⟩
 .rintro c t' (⟨x,_,_⟩|⟨_,e,d⟩)
  .lia
  .exact⟨e,d⟩
 .rintro c t' ⟨rfl,p1,p2,p3,p4⟩
  dsimp only;refine WC (wpS_mono (wpS_forRange (fun _ c t2=>t2=t'/\c=(none,())) (Q:=fun c t2=>t2=t'/\c=(none,())) ?_ (fun _ _ q=>q) ⟨rfl,rfl⟩) ?_)
  .rintro x c t2 _ _ ⟨rfl,rfl⟩
   refine WC (WA ?_);rw[Wf (by rw[p3];exact ym 1)];exact WB ⟨rfl,rfl⟩
  .rintro c t2 ⟨rfl,rfl⟩
   exact WB (h _ p1 p2 p4)
end
section
variable{prog:WL}{w:WK}{A:WJ}{E:WO->WM->Prop}{s:WM}
structure Cmp(prog:WL)(w:WK)(A:WJ)(h:WF)(os:OsState)(kd:SortKind)(κ:WO->Int)(vs:List WO):Prop where
 kind:∀(E:WO->WM->Prop) (s:WM) (Q:SortKind->WM->Prop),s.heap=h->Q kd s->WH (WG prog w) A (keyKind' vs.toArray) Q E s
 lt:∀(E:WO->WM->Prop) (s:WM) (p q:WO) (Q:Bool->WM->Prop),s.heap=h->p∈vs->q∈vs->Q (decide (κ p<κ q)) s->WH (WG prog w) A (keyLt' kd p q) Q E s
def pairs_mem{vs:List WO}(h:p∈(vs.toArray.zip vs.toArray).toList):p.1∈vs/\p.2=p.1:=by
 rw[Array.toList_zip]at h;simp at h;rw[List.zip_eq_zipWith,List.zipWith_self]at h;obtain⟨a,ha,e⟩:=yI.mp h;subst e;exact⟨ha,rfl⟩
def pairs_fst(vs:List WO):(vs.toArray.zip vs.toArray).toList.map (·.1)=vs:=by
 rw[Array.toList_zip];exact List.map_fst_zip (ym _)
def sort_by{vs:List WO}(ho:s.heap.get? a=some (seqObj "list" vs.toArray n))(h64:vs.length<64)(hd:(vs.map κ).Nodup)
 (hC:2<=vs.length->Cmp prog w A (((s.heap.update a (Yz fun _=>#[])).push (seqObj "tuple" vs.toArray 0)).push (seqObj "list" #[] 0)) s.os kd κ vs)
 (h:∀out:List WO,out.Perm vs->out.Pairwise (fun x y=>κ x<κ y)->P (.done (.ret .none)) { s with heap:=sortedHeap s.heap a vs out.toArray }) :
 WH (WG prog w) A (Builtin.«list.sort» ⟨[.ref a],[]⟩) P E s:=by
 rw[list_sort_plain];have la:a<s.heap.objs.size:=vN ho;refine zv (Y2 ho rfl (zv (listUpdate_at ho rfl ?_ (hsz:=by rw[yN,tV];lia))));obtain⟨e1,ho1⟩:∃e,(s.heap.update a (Yz fun _=>#[])).get? a=some (seqObj "list" #[] e):=⟨_,get?_update_seq ho fun _=>#[]⟩;refine zv (seqEpoch_at ho1 rfl (zv (wpAny_newTuple (zv (wpAny_newList (Z2 ?_))) (by show vs.length<=_;rw[tV];lia))));have ho3:(((s.heap.update a (Yz fun _=>#[])).push (seqObj "tuple" vs.toArray 0)).push (seqObj "list" #[] 0)).get? a=some (seqObj "list" #[] e1):=
  Wy _ (Wy _ ho1)
 show WH (WG prog w) A _ P E { s with heap:=((s.heap.update a (Yz fun _=>#[])).push (seqObj "tuple" vs.toArray 0)).push (seqObj "list" #[] 0) };dsimp only;have fin:∀t:SortSt,(arrOf t).Perm (vs.toArray.zip vs.toArray)->failedOf t=none->Up (fun p=>κ p.1) (arrOf t) (vs.toArray.zip vs.toArray).size ->
  (((arrOf t).map (·.2)).toList.Perm vs/\((arrOf t).map (·.2)).toList.Pairwise fun x y=>κ x<κ y):=fun t pm _ u=>by
  have pl:=YT.mp pm;have e2:((arrOf t).map (·.2)).toList=(arrOf t).toList.map (·.1):=by
   rw[Array.toList_map];exact lW fun p hp=>(pairs_mem (pl.mem_iff.mp hp)).2
  have p1:((arrOf t).map (·.2)).toList.Perm vs:=by
   rw[e2];have:=pl.map (·.1)
   rwa [pairs_fst]at this
  refine⟨p1,?_⟩;have nd:(((arrOf t).map (·.2)).toList.map κ).Nodup:=(p1.map κ).nodup_iff.mpr hd;rw[e2]at nd |-
  have sz:(arrOf t).size=(vs.toArray.zip vs.toArray).size:=pm.size_eq;refine YR.mpr fun i j hi hj hij=>?_;have hi':i<(arrOf t).size:=by simpa using hi
  have hj':j<(arrOf t).size:=by simpa using hj
  have l:=u i j (ZK hij) (by lia);rw[pQ hi',pQ hj']at l;have d:=YR.mp nd i j (by simpa using hi) (by simpa using hj) hij;simp at d l |-
  lia
 by_cases c2:vs.toArray.size<2
 .rw[Wf c2,Wf c2]
  refine zv (yy ?_);rw[StateT.run_pure];refine zv (yy ?_);dsimp only;refine zv (seqEpoch_at ho3 rfl ?_);obtain⟨f1,f2⟩:=fin (SortSt.mk' general' (vs.toArray.zip vs.toArray) #[] 7 none) (Array.Perm.refl _) rfl fun i j hij hj=>by
   have:i=j:=by simp at hj c2;lia
   subst this;exact Xl _
  have sz2:((vs.toArray.zip vs.toArray).map (·.2)).size<=WI+1:=by simp;rw[tV];lia
  refine zv (listUpdate_at ho3 rfl ?_ (hsz:=by rw[tV];decide) (hsz2:=sz2));simp only[bne_self_eq_false,Zd,if_false];exact yy (h _ f1 f2)
 .rw[Wg c2,Wg c2]
  have C:=hC (by simp at c2;lia);refine zv (C.kind _ _ _ rfl ?_);have zs:(vs.toArray.zip vs.toArray).size=vs.length:=by simp
  have L:Lts prog w A { s with heap:=((s.heap.update a (Yz fun _=>#[])).push (seqObj "tuple" vs.toArray 0)).push (seqObj "list" #[] 0) } kd (fun p=>κ p.1) (vs.toArray.zip vs.toArray):=
   fun E p q Q hp hq k=>C.lt _ _ _ _ _ rfl (pairs_mem hp).1 (pairs_mem hq).1 k
  have D:oJ (fun p=>κ p.1) (vs.toArray.zip vs.toArray):=by
   unfold oJ;rw[show(vs.toArray.zip vs.toArray).toList.map (fun p=>κ p.1)=((vs.toArray.zip vs.toArray).toList.map (·.1)).map κ by rw[uR];rfl,pairs_fst];exact hd
  refine zv (Zi (Ky (z:=vs.toArray.zip vs.toArray) (t:=SortSt.mk' kd (vs.toArray.zip vs.toArray) #[] 7 none) (Q:=fun _ t'=>(arrOf t').Perm (vs.toArray.zip vs.toArray)/\failedOf t'=none/\Up (fun p=>κ p.1) (arrOf t') (vs.toArray.zip vs.toArray).size)
   L D ⟨Array.Perm.refl _,rfl,rfl,rfl⟩ (by rw[zs];simp at c2;lia) (by lia) fun t' a1 a2 a3=>⟨a1,a2,a3⟩) ?_ fun _ _ e=>e)
  rintro⟨⟨⟩,t'⟩ s' ⟨rfl,a1,a2,a3⟩;dsimp only;refine zv (seqEpoch_at ho3 rfl ?_);obtain⟨f1,f2⟩:=fin t' a1 a2 a3;have sz2:((arrOf t').map (·.2)).size<=WI+1:=by
   have:=f1.length_eq;rw[ZY]at this;rw[this,tV];lia
  refine zv (listUpdate_at ho3 rfl ?_ (hsz:=by rw[tV];decide) (hsz2:=sz2));rw[a2];simp only[bne_self_eq_false,Zd,if_false];exact yy (h _ f1 f2)
end
end Srt
namespace Srt
open PySem PyProof.Rows
def Two(h:WF)(p:WN)(x y:Int):Prop:=∃(o:Obj) (t u:Tok) (n:Nat),h.get? p=some o/\o.cls = .type "tuple" /\ o.data = .seq #[.int x t,.int y u] n
end Srt
namespace Srt
open PySem PyProof.Rows
section
variable{prog:WL}{w:WK}{A:WJ}{E:WO->WM->Prop}{R:Result->WM->Prop}{s:WM}{I S ax:WN}{items:Array WO}{h₀:WF}{κ:WO->Int}
def Prs(h:WF)(κ:WO->Int)(lo:Int)(v:WO):Prop:=∃p x y,v = .ref p/\Two h p x y/\κ v=x*64+y/\lo<=y/\y<lo+64
end
end Srt
end L2
namespace L2
open PySem PyProof.Rows
section
variable{X:Cx}{XG:List (WN × Obj)}{σ:St}{H:Hp}{s:WM}
abbrev Pr:=WN × Int × Int
noncomputable def Ite(K:Wz)(a:WN):It:=
 ⟨fun i H=>∃xs x,SqL K H a xs/\xs[i]? = some x,fun i H x H'=>∃p y,H p=none/\x = .ref p/\H'=upd H p (.tup [.int i,y])/\∀xs,SqL K H a xs->xs[i]? = some y,fun i H=>∃xs,SqL K H a xs/\xs.length<=i⟩
def WR.turned2{h':WF}(I:WR X XG σ H s)(ge:s.heap.get? e=some oe)(gi:s.heap.get? it=some oi)(ne:e≠it)(he:∃o,h'.get? e=some o/\o.isFreed=false)(hi:∃o,h'.get? it=some o/\o.isFreed=false)
 (k:∀b o,b≠e->b≠it->s.heap.get? b=some o->h'.get? b=some o) (fe:j5 X XG H e) (fi:j5 X XG H it):∃h2:WF,h2.objs.size=s.heap.objs.size/\WR X XG σ H { s with heap:=h2,toks:=t' }/\∀b o,h2.get? b=some o->h'.get? b=some o:=by
 obtain⟨o1,g1,z1⟩:=he;obtain⟨o2,g2,z2⟩:=hi;refine⟨(s.heap.update it fun _=>o2).update e fun _=>o1,by rw[Heap.size_update,Heap.size_update],?_,?_⟩
 .have I1:WR X XG σ H { s with heap:=s.heap.update it fun _=>o2,toks:=t' }:=I.turned (fun b o hb q=>(Ww _ _ (Wj hb)).trans q) fi.1 fi.2.1 fi.2.2.2.1 fi.2.2.2.2.1 fi.2.2.2.2.2
  exact I1.turned (t':=t') (fun b o hb q=>(Ww _ _ (Wj hb)).trans q) fe.1 fe.2.1 fe.2.2.2.1 fe.2.2.2.2.1 fe.2.2.2.2.2
 .intro b o q
  by_cases b1:b=e
  .subst b1
   have ge':(s.heap.update it fun _=>o2).get? b=some oe:=(Ww _ _ (Wj ne)).trans ge;rw[Wv _ ge' z1]at q;cases q;exact g1
  .rw[Ww _ _ (Wj b1)]at q
   by_cases b2:b=it
   .subst b2
    rw[Wv _ gi z2]at q;cases q;exact g2
   .rw[Ww _ _ (Wj b2)]at q
    exact k b o b1 b2 q
def yq{P:WL}{w:WK}{K:Wz}{elts:List Expr}{cx:_}{pos:Pos}(a e it:WN)(ne:e≠it) :
 vy P w K (.Tuple elts cx pos) (Ite K a) [e,it] e (fun i h=>∃old,IsEnum h e it (i:Nat) old/\h.IsListIter it a i) where
 mem:=by simp
 obj:=fun i h st b hb=>by
  obtain⟨old,h1,o,h2,c,d⟩:=st;obtain rfl|hb:=zk.mp hb
  .exact⟨_,h1,fun v z=>by
    have z':XI _=Data.cell v:=z;cases z'⟩
  .have z:=zw.mp hb
   subst z;exact⟨o,h2,fun v z=>by rw[d]at z;cases z⟩
 keep:=fun i h h' st k=>by
  obtain⟨old,h1,h2⟩:=st;exact⟨old,k e (by simp) _ h1,h2.at fun o q=>k it (by simp) o q⟩
 item:=by
  intro X hP hw hK hc i XG s σ H E I hf st hg;subst hP hw hK;obtain⟨xs,x,hq,hx⟩:=hg;obtain⟨XC,rv,p,hz⟩:=I.list hq;obtain⟨u,hu,ru⟩:=rv.get hx;have fe:=hf e (by simp);have fi:=hf it (by simp);obtain⟨old,h1,h2⟩:=st;obtain⟨oi,gi,ci,di⟩:=id h2;refine wpAny_pyNext_enum_item h1 h2 p.isList (x:=u) (by simpa using hu) ne fun h' e1 i1 t1 z1 k1=>?_;obtain⟨oi',gi',ci',di'⟩:=id i1;obtain⟨h3,z3,I3,k3⟩:=I.turned2 (t':=s.toks+1) (h':=h') h1 gi ne ⟨_,e1,rfl⟩ ⟨_,gi',Obj.isFreed_of_fields di'⟩ k1 fe fi;have hn:=I.hok.fresh (ym s.heap.objs.size);have I4:WR X XG σ (upd H s.heap.objs.size (.tup [.int i,x])) { s with heap:=h',toks:=s.toks+1 }:=
   I3.laid (t':=s.toks+1) k3 (Nat.le_of_eq z3) (show WV X.prog X.w _ h' _ (.tup [.int i,x]) from⟨by show 2<=WI;rw[tV];decide,[.int i s.toks,u],.cons ⟨_,rfl⟩ (.cons ru .nil),⟨_,t1,rfl,0,rfl⟩⟩)
  have le:e<s.heap.objs.size:=vN h1;have li:it<s.heap.objs.size:=vN gi;have nH:∀b,b<s.heap.objs.size->upd H s.heap.objs.size (.tup [.int i,x]) b=H b:=fun b l=>ag (Zy l);refine⟨_,rfl,wpAny_letOwnedTupleGo_enum (s:={ s with heap:=h',toks:=s.toks+1 }) e1 fun h5 e5 s5=>?_⟩;have I5:WR X XG σ (upd H s.heap.objs.size (.tup [.int i,x])) { s with heap:=h5,toks:=s.toks+1 }:=
   I4.turned (t':=s.toks+1) (fun b o hb q=>(s5.2 b hb).trans q) ((nH e le).trans fe.1) fe.2.1 fe.2.2.2.1 fe.2.2.2.2.1 fe.2.2.2.2.2
  refine⟨.ref s.heap.objs.size,_,I5,rfl,⟨_,x,hn,rfl,rfl,fun ys hy=>by rw[I.list_inj hy hq];exact hx⟩,⟨u,e5,i1.at fun o q=>(s5.2 it (Wj ne)).trans q⟩,fun b hb=>?_⟩;obtain rfl|hb:=zk.mp hb
  .exact(nH _ le).trans fe.1
  .rw[zw.mp hb];exact(nH _ li).trans fi.1
 done:=by
  intro X hP hw hK hc i XG s σ H E I hf st hg;subst hP hw hK;obtain⟨xs,hq,hx⟩:=hg;obtain⟨XC,rv,p,hz⟩:=I.list hq;have fi:=hf it (by simp);have hl:=rv.length;obtain⟨old,h1,h2⟩:=st;exact wpAny_pyNext_enum_end (I.ok.hd hc) h1 h2 p.isList (by simp;lia) fun h' eb=>⟨rfl,I.turned (t':=s.toks) (fun b o hb q=>eb b o hb q) fi.1 fi.2.1 fi.2.2.2.1 fi.2.2.2.2.1 fi.2.2.2.2.2⟩
 self:=fun _ _ _ _ _ ⟨_,st,_⟩ h=>wpAny_pyIter_enum st h
def Ev(K:Wz)(ta:TA):TI:=fun σ H R=>ta σ H fun vs H1=>∃a,vs=[.ref a]/\(∃xs,SqL K H1 a xs)/\R (Ite K a) H1
def xM{arg:Expr}{ta:TA}{p pos:Pos}{elts:List Expr}{cx:_}{tp:Pos}(K:Wz)(hg:Gl X "enumerate")(hm:X.mg "enumerate" = none)(ha:PA X [arg] ta)(hs:WE [arg] X.env=[(false,eval arg X.env)]:=by rfl)(hK:X.K=K:=by rfl) :
 PI X (.Tuple elts cx tp) (.Call (.Name "enumerate" p) [arg] [] pos) (Ev K ta):=by
 subst hK;intro XG s σ H R I h;refine Call_ (ku I hg hm PyProof.Rows.boot_enumerate (Yh (thn (ha pos XG s σ H _ I h) fun us s1 ⟨vs,H1,I1,r1,q1⟩=>?_) hs rfl));obtain⟨a,e,⟨xs,hq⟩,q⟩:=q1;subst e;obtain⟨u,rfl,ru⟩:=dI r1;cases (show u=vv a from ru);obtain⟨XC,rv,pl,hz⟩:=I1.list hq;refine call_enumerate_list pl.isList fun h' e1 i1 z1 k1=>wpAny_pyIter_enum (s:={ s1 with heap:=h' }) e1 ?_;refine⟨_,[s1.heap.objs.size+1,s1.heap.objs.size],_,_,H1,rfl,I1.kept (t':=s1.toks) k1,yq a _ _ (Nat.succ_ne_self _),⟨_,e1,i1⟩,fun b hb=>?_,q⟩;obtain rfl|hb:=zk.mp hb
 .exact I1.fpOk (Xm _) (I1.hok.fresh (Xm _))
 .rw[zw.mp hb];exact I1.fpOk (ym _) (I1.hok.fresh (ym _))
noncomputable def iY:WO->List Nat
 | .str x _=>x.cps.toList
 |_=>[]
def IsS(v:WO):Prop:=∃x t,v = .str x t
abbrev InO(ls:List (List Nat)):Prop:=ls.Pairwise fun a b=>¬ b<a
theorem jU:∀ {a b:List (List Nat)},a.Perm b->InO a->InO b->a=b
 | [],_,p,_,_=>p.nil_eq
 |x::r,b,p,ha,hb=>by
  cases b with
  |nil=>exact Wa p.length_eq (by simp)
  |cons y t=>
   have hx:x∈y::t:=p.mem_iff.mp (.head _);have hy:y∈x::r:=p.mem_iff.mpr (.head _);have e:x=y:=by
    obtain h|h:=zk.mp hx
    .exact h
    .obtain h'|h':=zk.mp hy
     .exact h'.symm
     .exact List.le_antisymm (List.not_lt.mp ((ZC.mp ha).1 y h')) (List.not_lt.mp ((ZC.mp hb).1 x h))
   subst e;rw[jU (List.Perm.cons_inv p) (ZC.mp ha).2 (ZC.mp hb).2]
theorem oI:∀ {vs:List WO},(∀v∈vs,IsS v)->WW ((vs.map iY).map T) vs
 | [],_=>.nil
 |v::vs,h=>by
  obtain⟨x,t,rfl⟩:=h v (ZO ..);exact .cons ⟨t,rfl⟩ (oI fun u m=>h u (tH _ m))
theorem m9:∀ {ls:List (List Nat)} {vs:List WO},WW (ls.map T) vs->(∀v∈vs,IsS v)/\vs.map iY=ls
 | [],_,.nil=>⟨(fun _ m=>nomatch m),rfl⟩
 |l::ls,_,.cons e t=>by
  obtain⟨k,rfl⟩:=e;obtain⟨a,b⟩:=m9 t;refine⟨fun v m=>?_,by rw[xY,b];rfl⟩;obtain rfl|m:=zk.mp m
  .exact⟨_,_,rfl⟩
  .exact a v m
theorem oH:∀ {vs:List WO},(∀v∈vs,IsS v)->∃ss,StrsAre vs ss
 | [],_=>⟨[],.nil⟩
 |v::vs,h=>by
  obtain⟨x,t,rfl⟩:=h v (ZO ..);obtain⟨ss,r⟩:=oH fun u m=>h u (tH _ m);exact⟨x::ss,.cons x t r⟩
def wO(hv:∀v∈vs,IsS v)(hp:xs.Perm (pairsOf vs))(hs:SortedToK strKind xs (pairsOf vs).size) :
 (xs.map (·.2)).toList.Perm vs/\InO ((xs.map (·.2)).toList.map iY):=by
 have pl:xs.toList.Perm (vs.toArray.zip vs.toArray).toList:=YT.mp hp;have e2:(xs.map (·.2)).toList=xs.toList.map (·.1):=by
  rw[Array.toList_map];exact lW fun p m=>(Srt.pairs_mem (pl.mem_iff.mp m)).2
 have p1:(xs.map (·.2)).toList.Perm vs:=by
  rw[e2];have:=pl.map (·.1)
  rwa [Srt.pairs_fst]at this
 refine⟨p1,?_⟩;rw[e2,uR];have sz:xs.size=(pairsOf vs).size:=hp.size_eq;refine YR.mpr fun i j hi hj hij=>?_;have hi':i<xs.size:=by simpa using hi
 have hj':j<xs.size:=by simpa using hj
 have l:=hs i j (ZK hij) (by lia);have kk:∀k (h:k<xs.size),KK strKind xs k=iY xs[k].1:=fun k h=>by
  have m:xs[k]∈xs.toList:=by simp
  obtain⟨x,t,e⟩:=hv _ (Srt.pairs_mem (pl.mem_iff.mp m)).1;unfold KK;rw[Wn h];show(strKind.keyOf xs[k].1).getD strKind.dflt=_;rw[e];rfl
 rw[kk i hi',kk j hj']at l;have l':decide (iY xs[j].1<iY xs[i].1)=false:=l;simp only[List.getElem_map,Array.getElem_toList,Function.comp_apply];exact of_decide_eq_false l'
def Cb(K:Wz):List V->Hp->VK->Prop
 | [.ref p],H,Q=>∃ls:List (List Nat),SqL K H p (ls.map T)/\ls.length<64/\∀out:List (List Nat),out.Perm ls->InO out->∀l,H l=none->Q (.ref l) (upd H l (.lst (out.map T)))
 |_,_,_=>False
def tO(K:Wz)(hK:X.K=K:=by rfl):WT X (.builtin "sorted") (Cb K):=by
 subst hK;intro XG s σ H xs us Q I r h;obtain _|⟨e_1,r_1⟩:=xs
 .exact XH h
 cases e_1 with
 |ref p=>
  cases r_1 with
  |nil=>
   obtain⟨ls,hq,h64,q⟩:=h;obtain⟨u,rfl,rx⟩:=dI r;cases (show u=vv p from rx);obtain⟨XC,r',pl,hz⟩:=I.list hq;obtain⟨hv,em⟩:=m9 r';obtain⟨ss,hS⟩:=oH hv;have len:XC.length<64:=by have:=r'.length;rw[zm]at this;lia
   refine sortedK strKind_oneLt pl.isList hS.keysOf (fun v₁ v₂ rest e=>keyKind_strs (by rw[<- e];exact hS)) len fun st' hp hs=>?_;obtain⟨p1,o1⟩:=wO hv hp hs;generalize hout:(arrOf st').map (·.2)=out at p1 o1;obtain⟨c,ea⟩:=sortedAll_at s.heap XC out;have kp:∀b o,s.heap.get? b=some o->(sortedAll s.heap XC out).get? b=some o:=fun _ _ e=>sortedAll_old e;have hv2:∀v∈out.toList,IsS v:=fun v m=>hv v (p1.mem_iff.mp m);have pm:(out.toList.map iY).Perm ls:=by have:=p1.map iY;rwa [em]at this
   refine⟨.ref (s.heap.objs.size+1),_,I.laid (t':=s.toks) (a:=s.heap.objs.size+1) kp (Xm _) (show WV X.prog X.w _ (sortedAll s.heap XC out) _ (.lst ((out.toList.map iY).map T)) from⟨?_,out.toList,c,oI hv2,by rw[Array.toArray_toList];exact ea⟩),rfl,q _ pm o1 _ (I.hok.fresh (Xm _))⟩;rw[zm,pm.length_eq,tV];lia
  |cons=>exact XH h
 |_=>exact XH h
def Ag:List V->Hp->VK->Prop
 | [.ref d],H,Q=>∃XB:List (Key × V),H d=some (.dK XB)/\∀l,H l=none->Q (.ref l) (upd H l (.lst (XB.map fun e=>kV e.1)))
 |_,_,_=>False
theorem kH:∀ {vs:List (Key × WO)} {us:List WO},us.length=vs.length->(∀(j:Nat) (v:WO),us[j]? = some v->∃k x,vs[j]? = some (k,x)/\(bL P w).is k v=true)->WW (vs.map fun e=>kV e.1) us
 | [],[],_,_=>.nil
 |e::vs,u::us,hl,h=>by
  obtain⟨k,x,e1,r⟩:=h 0 u rfl;simp at e1;subst e1;refine .cons ?_ (kH (by simpa using hl) fun j v q=>by simpa using h (j+1) v (by simpa using q));cases k with
  |inl i=>obtain⟨t,z⟩:=Value.isInt_shape r;exact⟨t,z⟩
  |inr x=>obtain⟨t,z⟩:=Value.isStrOf_shape r;exact⟨t,z⟩
 | [],_::_,hl,_=>by simp at hl
 |_::_,[],hl,_=>by simp at hl
def JH(hc:X.calm=true):WT X (.type "list") Ag:=by
 intro XG s σ H xs us Q I r h;obtain _|⟨e_1,r_1⟩:=xs
 .exact XH h
 cases e_1 with
 |ref d=>
  cases r_1 with
  |nil=>
   obtain⟨XB,hd,q⟩:=h;obtain⟨u,rfl,rx⟩:=dI r;cases (show u=vv d from rx);obtain⟨z,lo,vs,kv,D⟩:=t8 I.hok hd;obtain⟨ep,hat⟩:=D.dictAt;have len:vs.length=XB.length:=(KV.length kv).symm;refine PySem.W.kdl_call (PySem.W.kdl_dict (knd:=bL X.prog X.w) (kvs:=vs) (ep:=ep) lo) (I.ok.hd hc) hat (by lia) fun h' tk acc c kp ea it=>?_;have ek:XB.map (fun e=>kV e.1)=vs.map fun e=>kV e.1:=by
    have:=Wb (List.map kV) (KV.keys kv)
    simpa [uR,Function.comp_def] using this
   refine⟨.ref s.heap.objs.size,_,I.laid (t':=tk) kp (ym _) (show WV X.prog X.w _ h' _ (.lst (XB.map fun e=>kV e.1)) from⟨by rw[zm];exact z,acc.toList,c,?_,by rw[Array.toArray_toList];exact ea⟩),rfl,q _ (I.hok.fresh (ym _))⟩;rw[ek];exact kH (P:=X.prog) (w:=X.w) (by rw[ZY];exact it.1) fun j v e=>it.2 j v (by rw[<- Wl];exact e)
  |cons=>exact XH h
 |_=>exact XH h
def AE:List V->Hp->VK->Prop
 | [.ref d],H,Q=>∃(XB:List (Key × V)) (ls:List (List Nat)),H d=some (.dK XB)/\XB.map (fun e=>kV e.1)=ls.map T/\ls.length<64/\∀out:List (List Nat),out.Perm ls->InO out->∀l,H l=none->Q (.ref l) (upd H l (.lst (out.map T)))
 |_,_,_=>False
def tF(hc:X.calm=true):WT X (.builtin "sorted") AE:=by
 intro XG s σ H xs us Q I r h;obtain _|⟨e_1,r_1⟩:=xs
 .exact XH h
 cases e_1 with
 |ref d=>
  cases r_1 with
  |nil=>
   obtain⟨XB,ls,hd,hks,h64,q⟩:=h;obtain⟨u,rfl,rx⟩:=dI r;cases (show u=vv d from rx);obtain⟨z,lo,vs,kv,D⟩:=t8 I.hok hd;obtain⟨ep,hat⟩:=D.dictAt;have len:vs.length=XB.length:=(KV.length kv).symm;have ek:XB.map (fun e=>kV e.1)=vs.map fun e=>kV e.1:=by
    have:=Wb (List.map kV) (KV.keys kv)
    simpa [uR,Function.comp_def] using this
   refine Calls.call_function_entry kind_sorted plain_sorted entry_sorted (args_sorted1 _) ?_;unfold Builtin.«sorted»;refine zv (m:=checkCount "sorted" 1 1 _) (yy ?_);refine zv (PySem.W.kdu_collect (PySem.W.kdl_dict (knd:=bL X.prog X.w) (kvs:=vs) (ep:=ep) lo) (I.ok.hd hc) hat (by lia) fun h' tk acc kp it=>?_);have rv:WW (ls.map T) acc.toList:=by
    rw[<- hks,ek];exact kH (P:=X.prog) (w:=X.w) (by rw[ZY];exact it.1) fun j v e=>it.2 j v (by rw[<- Wl];exact e)
   obtain⟨hv,em⟩:=m9 rv;obtain⟨ss,hS⟩:=oH hv;have len2:acc.toList.length<64:=by have:=rv.length;rw[zm]at this;lia
   refine zv (wpAny_newList ?_);have hoL:(h'.push (seqObj "list" acc.toList.toArray 0)).get? h'.objs.size=some (seqObj "list" acc.toList.toArray 0):=Wx _ rfl;refine zv (Z2 (Zb slot_list_sort ⟨_,hoL,rfl⟩ entry_list_sort (list_sort_treeK strKind_oneLt hoL hS.keysOf (fun v₁ v₂ rest e=>keyKind_strs (by rw[<- e];exact hS)) len2 fun st' hp hs=>⟨_,rfl,?_⟩) (args_list_sort _)));refine yy ⟨_,rfl,?_⟩;obtain⟨p1,o1⟩:=wO hv hp hs;generalize hout:(arrOf st').map (·.2)=out at p1 o1;obtain⟨c,ea⟩:=sortedHeap_at (out:=out) hoL;have I1:WR X XG σ H { s with heap:=h',toks:=tk }:=I.kept kp;have kp2:∀b o,h'.get? b=some o->(sortedHeap (h'.push (seqObj "list" acc.toList.toArray 0)) h'.objs.size acc.toList out).get? b=some o:=fun b o e=>by
    have l1:=vN e;rw[sortedHeap_old (Zy l1) (by rw[size_push'];exact Nat.lt_succ_of_lt l1),Heap.get?_push_ne _ _ _ (Zy l1)];exact e
   have hv2:∀v∈out.toList,IsS v:=fun v m=>hv v (p1.mem_iff.mp m);have pm:(out.toList.map iY).Perm ls:=by have:=p1.map iY;rwa [em]at this
   refine⟨.ref h'.objs.size,_,I1.laid (t':=tk) (a:=h'.objs.size) kp2 (ym _) (show WV X.prog X.w _ _ _ (.lst ((out.toList.map iY).map T)) from⟨?_,out.toList,c,oI hv2,by rw[Array.toArray_toList];exact ea⟩),rfl,q _ pm o1 _ (I1.hok.fresh (ym _))⟩;rw[zm,pm.length_eq,tV];lia
  |cons=>exact XH h
 |_=>exact XH h
def IY(K:Wz):List V->Hp->VK->Prop
 | [.ref p],H,Q=>∃bs:List Bool,SqL K H p (bs.map V.bl)/\Q (.bl (bs.any id)) H
 |_,_,_=>False
def Dv(K:Wz)(hc:X.calm=true)(hK:X.K=K:=by rfl):WT X (.builtin "any") (IY K):=by
 subst hK;intro XG s σ H xs us Q I r h;obtain _|⟨e_1,r_1⟩:=xs
 .exact XH h
 cases e_1 with
 |ref p=>
  cases r_1 with
  |nil=>
   obtain⟨bs,hq,q⟩:=h;obtain⟨u,rfl,rx⟩:=dI r;cases (show u=vv p from rx);obtain⟨XC,rv,pl,hz⟩:=I.list hq;have hne:p≠s.heap.objs.size:=Zy (by obtain⟨_,e,_⟩:=pl.isList;exact vN e);have hb:LSm.BoolsAre XC bs:=nN rv;refine call_any_walk (wpAny_pyIter_list pl.isList ?_);refine⟨s.heap.objs.size,[s.heap.objs.size,p],[s.heap.objs.size],XC.toArray.size,_,_,fun i=>(bs[i]?).getD false,rfl,Walks.list (A:=X.A.in1) (I.ok.hd hc) _ p hne XC.toArray,
    ⟨⟨_,Wx _ rfl,rfl,rfl⟩,pl.isList.push _⟩,fun i v s' Q' E' hP hQ=>?_,fun h' tk hk=>?_⟩
   .obtain⟨b,e,rfl⟩:=hb.get i v (by simpa using hP)
    simp only[e,Option.getD_some]at hQ;exact Ze hQ
   .have e:((lq XC.toArray.size).any fun i=>(bs[i]?).getD false)=bs.any id:=by
     rw[yN,hb.length];exact LSm.range_any bs
    rw[e];exact⟨.bl (bs.any id),H,I.kept (LSm.kept_iter hk),rfl,q⟩
  |cons=>exact XH h
 |_=>exact XH h
end
def E5(K:Wz)(CH:WN)(tb:XKs->TS)(th:TS):TS:=fun D σ H=>
 tb (fun σ' C _ H'=>∃Ce,C = .ref Ce/\PySem.W.exmOne K (.ref Ce) (.ref CH)=some true/\th D σ' H') D σ H
def Er
 (hg:Gl X x) (hm:X.mg x=some (.ref CH))
 (hex:X.ex=[]) (hst:X.stack=X.env::X.XF) (hfr:X.env.frame=some X.env.locals)
 (hb:∀(pn:List (WN × Obj)) (Ee:WO->WM->Prop) (Ex:XKs),cM (XE X.prog X.w) { X with pn:=pn,xe:=Ee } Ex->PSs { X with pn:=pn,xe:=Ee } body (tb Ex))
 (hh:∀e:WN,PSs (X.caught e) (b₀::suite) th) (hdb:(x==("__debug__":Str))=false:=by decide) :
 PS X (.Try body [.ExceptHandler (some (.Name x np)) none (b₀::suite) hpos] [] [] pos) (E5 X.K CH tb th):=by
 intro XG s σ H D I h;refine wpAny_Try_except ?_;have ok:=I.ok;refine Zi (hb (X.pn++XG) _ _ ?hP [] s σ H D (I.toPn _) h) (fun f s1 hf=>?_) (fun _ _ z=>z)
 case hP=>
  intro pins' σ' H1 s1 ev s1' I1 hq;obtain⟨e,C,rs,H',rfl,os,bare,un,hok,hrs,⟨her,a0,fl,g0⟩,⟨Ce,rfl,hmro,hth⟩⟩:=hq;have J1:=I1.call' os un hok bare (fun b z=>nomatch z);have J:WR X XG σ' H' s1':=J1.ofPn ok;have I0:WR X XG σ' H1 s1:=I1.ofPn ok;have hn0:∀b∈rs,X.s₀.heap.get? b=none/\H' b=none:=fun b hb=>by
   refine⟨?_,(hrs b hb).2⟩;cases q:X.s₀.heap.get? b with
   |none=>rfl
   |some o=>
    obtain⟨o',z⟩:=I0.base.there b o q (by rw[hex];simp);rw[(hrs b hb).1]at z;cases z
  have hpin:∀p∈X.pn++XG,p.1∉rs:=fun p hp z=>by
   have:=(I0.pin p hp).1;rw[(hrs _ z).1]at this;cases this
  have hstk:s1'.heap.FunFrames X.base (X.env::X.XF):=by rw[<- hst];exact J.stack
  rw[show X.stack=X.env::X.XF from hst]at fl;have hfrm:X.A.frames=some (X.env::X.XF):=by rw[<- hst];exact ok.frames
  show WH (WG X.prog X.w) X.A (noteFrame (.ref e) X.env) _ _ s1';refine eL (e:=e) (wV _ _) g0 (wpAny_looks_onW (base:=hid s1'.heap (X.env::X.XF) rs) hfrm hfr fl fun h₄ held up4 g4=>?_);refine eL (e:=e) (kM _ _) g4 (wpAny_landsW held fun h₅ fl5 up5 g5=>?_);have nin:∀b,b∉frs X.stack->b∉frs (X.env::X.XF):=fun b hb=>by rw[<- hst];exact hb
  have stay5:∀b o,s1'.heap.get? b=some o->b∉frs X.stack->b∉rs->h₅.get? b=some o:=fun b o z hb hr=>fl5.1 b o (jI z (nin b hb) hr);have I5:WR X XG σ' H' { s1' with heap:=h₅,toks:=s1'.toks }:=J.noted hn0 hpin stay5 (up4.trans up5);obtain⟨ob,hob,hobc⟩:=fl5.there;refine wpAny_handleBy_cons (codeAny_handlers_test (iQ (X:=X.caught e) (I5.toCaught e) hg hm (qK I5.kIn hob hobc hmro ?_) hdb)) (by intro q;cases q);refine codeAny_handlers_suite (eL (e:=e) (kM _ _) g5 (lands_againW fl5 fun h₆ fl6 up6 g6=>?_));have stay6:∀b o,s1'.heap.get? b=some o->b∉frs X.stack->b∉rs->h₆.get? b=some o:=fun b o z hb hr=>fl6.1 b o (jI z (nin b hb) hr);have I6:WR X XG σ' H' { s1' with heap:=h₆,toks:=s1'.toks }:=J.noted hn0 hpin stay6 ((up4.trans up5).trans up6);refine Zi (hh e XG _ _ _ _ (I6.toCaught e) hth) (fun f s8 hf=>?_) (fun _ _ z=>z.elim);cases f with
  |next=>
   obtain⟨σ2,H2,J2,q⟩:=hf;exact⟨_,_,J2.ofCaught ok,q⟩
  |brk=>
   obtain⟨σ2,H2,J2,q⟩:=hf;exact⟨_,_,J2.ofCaught ok,q⟩
  |cont=>
   obtain⟨σ2,H2,J2,q⟩:=hf;exact⟨_,_,J2.ofCaught ok,q⟩
  |ret u=>
   obtain⟨v,σ2,H2,J2,r,q⟩:=hf;exact⟨v,_,_,J2.ofCaught ok,r,q⟩
 cases f with
 |next=>
  obtain⟨σ',H',J,q⟩:=hf;exact XT ⟨σ',H',J.ofPn ok,q⟩
 |brk=>
  obtain⟨σ',H',J,q⟩:=hf;exact⟨σ',H',J.ofPn ok,q⟩
 |cont=>
  obtain⟨σ',H',J,q⟩:=hf;exact⟨σ',H',J.ofPn ok,q⟩
 |ret u=>
  obtain⟨v,σ',H',J,r,q⟩:=hf;exact⟨v,σ',H',J.ofPn ok,r,q⟩
open Lean Meta Simp
def D6:List Name:=Gz++[`L2.JS,`L2.tDNotIn,`L2.Et,`L2.E5]
def Eb:List Name:=FY++[`L2.Cb,`L2.AE,`L2.Ag,`L2.IY,`L2.JY,`L2.JM]
end L2
namespace L2
open PySem PyProof.Rows
def z7(h:l≠[])(hc:c<256):Txt.count ⟨⟨l⟩⟩ ⟨#[c]⟩=((spN c l).length:Int)-1:=by
 have e:=Wb ZT (uI l c);rw[zm]at e;have h1:(decide ((⟨⟨l⟩⟩:Str).length<(⟨#[c]⟩:Str).length) || decide (Yk ⟨⟨l⟩⟩<Yk ⟨#[c]⟩))=false:=by
  have a1:¬ (⟨⟨l⟩⟩:Str).length<(⟨#[c]⟩:Str).length:=by
   have:0<l.length:=XZ.mpr h;show ¬ l.length<1;lia
  have a2:Yk ⟨#[c]⟩=1:=by
   unfold Yk;rw[Wf (by simp[hc])]
  have a3:¬ Yk ⟨⟨l⟩⟩<1:=by
   unfold Yk;split
   .decide
   .split <;> decide
  rw[a2,Wc a1,Wc a3];rfl
 unfold Txt.split at e;rw[Wg (ne_true_of_eq_false h1)]at e;unfold Txt.count;by_cases hf:(Builtin.Str.occurrences ⟨⟨l⟩⟩ ⟨#[c]⟩ 0 (⟨⟨l⟩⟩:Str).length ((⟨⟨l⟩⟩:Str).length+1)).isEmpty=true
 .rw[Wf hf]at e
  rw[<- e,List.isEmpty_iff.mp hf];rfl
 .rw[Wg hf,length_partsBetween]at e
  rw[<- e];lia
section
variable{X:Cx}{XG:List (WN × Obj)}{σ:St}{H:Hp}{s:WM}
def JG:V->List V->Hp->VK->Prop
 | .str x,[.str y],H,Q=>∃c,cs y=[c]/\c<256/\cs x≠[]/\Q (.int ((spN c (cs x)).length-1)) H
 |_,_,_,_=>False
def AV:MtR X "str.count" JG:=by
 intro XG s σ H x xs v us Q I rx rs h;cases x with
 |str x=>
  obtain _|⟨e_1,r_1⟩:=xs
  .exact XH h
  cases e_1 with
  |str y=>
   cases r_1 with
   |nil=>
    obtain⟨c,hc,h2,h0,q⟩:=h;obtain⟨t,rfl⟩:=rx;obtain⟨u,rfl,t',rfl⟩:=dI rs;have hy:=qZ hc;subst hy;obtain⟨⟨l⟩⟩:=x;refine SC.count ⟨.int _,H,I.kept (t':=s.toks+1) (fun b o e=>e),⟨_,rfl⟩,?_⟩;rw[z7 (l:=l) h0 h2];exact q
   |cons=>exact XH h
  |_=>exact XH h
 |_=>exact XH h
end
namespace Srt
def KR(h:WF)(p:WN)(x y z:Int):Prop:=∃(o:Obj) (t u r:Tok) (n:Nat),h.get? p=some o/\o.cls = .type "tuple" /\ o.data = .seq #[.int x t,.int y u,.int z r] n
end Srt
end L2
namespace L2
namespace Rv
open PySem PyProof.Rows
end Rv
open PySem PyProof.Rows
def FE(J:It)(g:TG)(tb:TS)(D:gl)(σ:St)(H:Hp):Prop:=∃W:Nat->Nat->St->Hp->Prop,(∃m,W 0 m σ H)/\∀i m σ H,W i m σ H ->
 (J.stop i H/\D.nx σ H)\/(J.go i H/\∃N:St->Hp->Prop,(∀σ' H',N σ' H'->∃m',m'<m/\W (i+1) m' σ' H')/\∀x H',J.yld i H x H'->g x σ H' fun σ2 H2=>tb { D with nx:=N,ct:=N,bk:=D.nx } σ2 H2)
def wX{K:Wz}{ta:TA}{g:TG}{tb:TS}{D:gl}{σ:St}{H:Hp}(h:ta σ H fun vs H1=>∃a,vs=[.ref a]/\(∃xs,SqL K H1 a xs)/\FE (Ite K a) g tb D σ H1):sS (Ev K ta) g tb D σ H:=h
def xq{K:Wz}{a:WN}{xs:List V}{g:TG}{tb:TS}{D:gl}{σ:St}{H:Hp}(Pv:Nat->St->Hp->Prop)(h0:Pv 0 σ H)(hl:∀i σ H,i<=xs.length->Pv i σ H->SqL K H a xs)
 (hs:∀i x σ H p,xs[i]? = some x->H p=none->Pv i σ H->g (.ref p) σ (upd H p (.tup [.int i,x])) fun σ2 H2=>tb { D with nx:=Pv (i+1),ct:=Pv (i+1),bk:=D.nx } σ2 H2) (hd:∀σ H,Pv xs.length σ H->D.nx σ H):FE (Ite K a) g tb D σ H:=by
 refine⟨fun i m σ H=>m=xs.length-i/\i<=xs.length/\Pv i σ H,⟨_,rfl,rp _,h0⟩,?_⟩;rintro i m σ H ⟨rfl,hi,p⟩;have q:=hl i σ H hi p;obtain lt|ge:=Yu i xs.length
 .refine .inr ⟨⟨xs,xs[i],q,by simp[lt]⟩,Pv (i+1),fun σ' H' p'=>⟨_,by lia,rfl,lt,p'⟩,?_⟩
  rintro x H' ⟨r,y,hr,rfl,rfl,hy⟩;exact hs i y σ H r (hy xs q) hr p
 .obtain rfl:i=xs.length:=XR hi ge
  exact .inl ⟨⟨xs,q,ym _⟩,hd σ H p⟩
def iP{J:It}{H1:Hp}{D:WN}{Q:VK}{σr:St}{tt:TT}{te:TE}(h:∃W:Nat->Nat->List V->Hp->Prop,(∃m,W 0 m [] (upd H1 D (.lst []))) /\
 ∀i m ys H2,W i m ys H2->H2 D=some (.lst ys)/\((J.stop i H2/\Q (.ref D) H2)\/(J.go i H2/\∀x H3,J.yld i H2 x H3 ->
  tt (some x::σr) H3 fun b H4=>if b=true then te (some x::σr) H4 fun y H5=>H5 D=some (.lst ys)/\ys.length<WI/\∃m',m'<m/\W (i+1) m' (ys++[y]) (upd H5 D (.lst (ys++[y])))
   else ∃m',m'<m/\W (i+1) m' ys H4))) :
 ∃W:Nat->Nat->List V->Hp->Prop,(∃m,W 0 m [] (upd H1 D (.lst []))) /\
  ∀i m ys H2,W i m ys H2->H2 D=some (.lst ys)/\((J.stop i H2/\Q (.ref D) H2)\/(J.go i H2/\∀x H3,J.yld i H2 x H3->∀zs:St,zs.length=1 ->
   fS 0 x (zs++σr) H3 fun σ4 H4=>(∃zs4:St,zs4.length=1/\σ4=zs4++σr) /\
    tt σ4 H4 fun b H5=>if b=true then te σ4 H5 fun y H6=>H6 D=some (.lst ys)/\ys.length<WI/\∃m',m'<m/\W (i+1) m' (ys++[y]) (upd H6 D (.lst (ys++[y])))
     else ∃m',m'<m/\W (i+1) m' ys H5)):=by
 obtain⟨W,h0,h⟩:=h;refine⟨W,h0,fun i m ys H2 w=>?_⟩;obtain⟨h1,h2⟩:=h i m ys H2 w;refine⟨h1,h2.imp id fun⟨g1,g2⟩=>⟨g1,fun x H3 y zs hz=>?_⟩⟩;obtain⟨z,rfl⟩:=ex1 hz;exact⟨⟨[some x],rfl,rfl⟩,g2 x H3 y⟩
def cmS{ks:List Nat}(C:Hp->Prop)(hC:∀D ys,H D=none->C (upd H D (.lst ys)))(l:List Nat)(p:Nat->Bool)(f:Nat->V)(hl:∀R:VK,R (T l) H->tl σ H R)(ha:∀c∈l,c<128)(hz:l.length<=WI)
 (hp:∀c∈l,∀H (R:Bool->Hp->Prop),C H->R (p c) H->tt (some (T [c])::ks.map fun k=>(σ[k]?).join) H R) (hf:∀c∈l,p c=true->∀H (R:VK),C H->R (f c) H->te (some (T [c])::ks.map fun k=>(σ[k]?).join) H R)
 (q:∀D,H D=none->Q (.ref D) (upd H D (.lst ((l.filter p).map f)))):fG (JT tl) 1 (fS 0) ks tt te σ H Q:=by
 refine hl _ ⟨by simpa [cs] using ha,fun D hD=>?_⟩;have P:∀x∈l.map fun c=>T [c],∃c∈l,x=T [c]:=fun x hx=>by
  obtain⟨c,hc,rfl⟩:=yI.mp hx;exact⟨c,hc,rfl⟩
 let hd:V->Nat:=fun v=>match v with | .str y=>(cs y).headD 0|_=>0
 have hhd:∀c,hd (T [c])=c:=fun c=>rfl;refine iP (gT C ((AU l).c C) (fun v=>p (hd v)) (fun v=>f (hd v)) (by simpa using hz) (fun x hx H R c r=>?_) (fun x hx hb H R c r=>?_) D hD (fun ys=>hC D ys hD) ?_)
 .obtain⟨y,hy,rfl⟩:=P x hx
  exact hp y hy H R c r
 .obtain⟨y,hy,rfl⟩:=P x hx
  exact hf y hy hb H R c r
 .have e:((l.map fun c=>T [c]).filter fun v=>p (hd v)).map (fun v=>f (hd v))=(l.filter p).map f:=by
   rw[List.filter_map,uR]
   rfl
  rw[e];exact q D hD
def cmR{ks:List Nat}(C:Hp->Prop)(hC:∀D ys,H D=none->C (upd H D (.lst ys)))(n:Nat)(p:Nat->Bool)(f:Nat->V)(hl:∀R:List V->Hp->Prop,R [.int n] H->ta σ H R)(hz:n<=WI)
 (hp:∀k,k<n->∀H (R:Bool->Hp->Prop),C H->R (p k) H->tt (some (.int k)::ks.map fun k=>(σ[k]?).join) H R) (hf:∀k,k<n->p k=true->∀H (R:VK),C H->R (f k) H->te (some (.int k)::ks.map fun k=>(σ[k]?).join) H R)
 (q:∀D,H D=none->Q (.ref D) (upd H D (.lst (((lq n).filter p).map f)))):fG (AC ta) 1 (fS 0) ks tt te σ H Q:=by
 have hz':(n:Int)<2 ^ 62:=by
  have:WI<2 ^ 62:=by rw[tV];decide
  have h2:n<2 ^ 62:=by lia
  have e:((2 ^ 62:Nat):Int)=(2:Int) ^ 62:=by decide
  lia
 refine hl _ ⟨n,rfl,by lia,hz',?_⟩;rw[ZV];intro D hD;have P:∀x∈(lq n).map fun k=>V.int (k:Nat),∃k,k<n/\x = .int (k:Nat):=fun x hx=>by
  obtain⟨c,hc,rfl⟩:=yI.mp hx;exact⟨c,by simpa using hc,rfl⟩
 let hd:V->Nat:=fun v=>match v with | .int i=>i.toNat|_=>0
 have hhd:∀c:Nat,hd (.int c)=c:=fun c=>ZV c;refine iP (gT C ((AY n).c C) (fun v=>p (hd v)) (fun v=>f (hd v)) (by simpa using hz) (fun x hx H R c' r=>?_) (fun x hx hb H R c' r=>?_) D hD (fun ys=>hC D ys hD) ?_)
 .obtain⟨c,hc,rfl⟩:=P x hx
  rw[hhd]at r;exact hp c hc H R c' r
 .obtain⟨c,hc,rfl⟩:=P x hx
  rw[hhd]at r hb;exact hf c hc hb H R c' r
 .have e:(((lq n).map fun k=>V.int (k:Nat)).filter fun v=>p (hd v)).map (fun v=>f (hd v))=((lq n).filter p).map f:=by
   rw[List.filter_map,uR];have e1:((fun v=>p (hd v)) ∘ fun k:Nat=>V.int (k:Nat))=p:=by funext k;simp only[Function.comp,hhd]
   have e2:((fun v=>f (hd v)) ∘ fun k:Nat=>V.int (k:Nat))=f:=by funext k;simp only[Function.comp,hhd]
   rw[e1,e2]
  rw[e];exact q D hD
def cmL{K:Wz}{tl:TE}{ks:List Nat}{σ:St}{H H1:Hp}{Q:VK}{tt:TT}{te:TE}(a:WN)(vs:List V)(C:Hp->Prop)(hC:∀D ys,H1 D=none->C (upd H1 D (.lst ys)))(hT:∀H,C H->SqL K H a vs)(p:V->Bool)(f:V->V)
 (hl:∀R:VK,R (.ref a) H1->tl σ H R) (h1:SqL K H1 a vs) (hz:vs.length<=WI)
 (hp:∀x∈vs,∀H (R:Bool->Hp->Prop),C H->R (p x) H->tt (some x::ks.map fun k=>(σ[k]?).join) H R) (hf:∀x∈vs,p x=true->∀H (R:VK),C H->R (f x) H->te (some x::ks.map fun k=>(σ[k]?).join) H R)
 (q:∀D,H1 D=none->Q (.ref D) (upd H1 D (.lst ((vs.filter p).map f)))):fG (oK K tl) 1 (fS 0) ks tt te σ H Q:=
 hl _ ⟨a,rfl,⟨vs,h1⟩,fun D hD=>iP (gT C (AH hT) p f hz hp hf D hD (fun ys=>hC D ys hD) (q D hD))⟩
def KJ{ks:List Nat}(C:Hp->Prop)(hC:∀D ys,H D=none->C (upd H D (.lst ys)))(lo hi:Int)(n:Nat)(hn:(hi-lo).toNat=n)(p:V->Bool)(f:V->V)(hl:∀R:List V->Hp->Prop,R [.int lo,.int hi] H->ta σ H R)(hb:-(2 ^ 62)<=lo/\lo<2 ^ 62 /\ -(2 ^ 62)<=hi/\hi<2 ^ 62)(hz:n<=WI)
 (hp:∀k:Nat,k<n->∀H (R:Bool->Hp->Prop),C H->R (p (.int (lo+k))) H->tt (some (.int (lo+k))::ks.map fun k=>(σ[k]?).join) H R) (hf:∀k:Nat,k<n->p (.int (lo+k))=true->∀H (R:VK),C H->R (f (.int (lo+k))) H->te (some (.int (lo+k))::ks.map fun k=>(σ[k]?).join) H R)
 (q:∀D,H D=none->Q (.ref D) (upd H D (.lst ((((lq n).map fun k:Nat=>V.int (lo+k)).filter p).map f)))):fG (Bp ta) 1 (fS 0) ks tt te σ H Q:=by
 refine hl _ ⟨lo,hi,rfl,hb,?_⟩;rw[hn];intro D hD;have P:∀x∈(lq n).map fun k:Nat=>V.int (lo+k),∃k:Nat,k<n/\x = .int (lo+k):=fun x hx=>by
  obtain⟨c,hc,rfl⟩:=yI.mp hx;exact⟨c,by simpa using hc,rfl⟩
 refine iP (gT C ((yT lo n).c C) p f (by simpa using hz) (fun x hx H R c' r=>?_) (fun x hx hb H R c' r=>?_) D hD (fun ys=>hC D ys hD) (q D hD))
 .obtain⟨c,hc,rfl⟩:=P x hx
  exact hp c hc H R c' r
 .obtain⟨c,hc,rfl⟩:=P x hx
  exact hf c hc hb H R c' r
inductive A2 {α β:Type} (R:α->β->Prop):List α->List β->Prop
 |nil:A2 R [] []
 |cons {a:α} {b:β} {as:List α} {bs:List β}:R a b->A2 R as bs->A2 R (a::as) (b::bs)
namespace A2
variable{α β:Type}{R S:α->β->Prop}
def len(h:A2 R as bs):as.length=bs.length:=by
 induction h with
 |nil=>rfl
 |cons _ _ ih=>simp[ih]
def imp(h:A2 R as bs)(f:∀a b,a∈as->b∈bs->R a b->S a b):A2 S as bs:=by
 induction h with
 |nil=>exact .nil
 |cons r _ ih=>exact .cons (f _ _ (.head _) (.head _) r) (ih fun a b ha hb=>f a b (.tail _ ha) (.tail _ hb))
def at_(h:A2 R as bs):∀ {i:Nat} {a:α},as[i]? = some a->∃b,bs[i]? = some b/\R a b:=by
 induction h with
 |nil=>intro i a e;simp at e
 |cons r _ ih=>
  intro i a e;cases i with
  |zero=>cases e;exact⟨_,rfl,r⟩
  |succ i=>exact ih (i:=i) (by simpa using e)
def app{as:List α}{bs:List β}(h:A2 R as bs){cs:List α}{ds:List β}(g:A2 R cs ds):A2 R (as++cs) (bs++ds):=by
 induction h with
 |nil=>exact g
 |cons r _ ih=>exact .cons r ih
def snoc(h:A2 R as bs)(r:R a b):A2 R (as++[a]) (bs++[b]):=h.app (.cons r .nil)
end A2
def sp6(f:V->V->V->V->V->V->Hp->VK->XK->Prop):Sp:=fun vs H Q E=>match vs with
 | [x,y,z,u,v,a]=>f x y z u v a H Q E
 |_=>False
def sp6.inv{f}(h:sp6 f vs H Q E):∃x y z u v a,vs=[x,y,z,u,v,a]/\f x y z u v a H Q E:=by
 obtain _|⟨x,_|⟨y,_|⟨z,_|⟨u,_|⟨v,_|⟨a,_|⟨w,r⟩⟩⟩⟩⟩⟩⟩:=vs
 rotate_left 6
 .exact⟨_,_,_,_,_,_,rfl,h⟩
 all_goals exact XH h
def sp6.len{f}(h:sp6 f vs H Q E):vs.length=6:=by obtain⟨_,_,_,_,_,_,rfl,_⟩:=sp6.inv h;rfl
def sp7(f:V->V->V->V->V->V->V->Hp->VK->XK->Prop):Sp:=fun vs H Q E=>match vs with
 | [x,y,z,u,v,a,b]=>f x y z u v a b H Q E
 |_=>False
open Lean Meta Simp
def Dc:List Name:=D6++[`L2.fg,`Option.join]
def CO:List Name:=Eb++[`L2.JG,`L2.gSortT,`L2.sp5,`L2.sp6,`L2.sp7]
def HG:Name->Bool
 | .str _ s=>s.startsWith "sp_"
 |_=>false
end L2
namespace L2
open PySem PyProof.Rows
section
variable{prog:WL}{w:WK}{A:WJ}{E:WO->WM->Prop}{s:WM}{it d:WN}{i ep:Nat}{od:Obj}{es:Array YA}
def De(lo:(d==ZU)=false)(ho:s.heap.get? d=some od)(ex:od.ExactDict)(hd:od.data = .dict es ep)
 (q:Q (.ref s.heap.objs.size) { s with heap:=s.heap.push { cls:=.type "dict_keyiterator",data:=.fields #[.ref d,.int 0 0,.int es.size 0,.int ep 0] } }):WH (WG prog w) A (pyIter (.ref d)) Q E s:=by
 have ty:s.TypeIs (.ref d) "dict":=⟨od,ho,ex.1⟩;refine wpAny_pyIter_slot ty F.slot_dict_iter (Zb F.slot_dict_iter ty F.entry_dict_iter ?_ (F.args_dict_iter_1 _));unfold Builtin.«dict.__iter__» Builtin.Dict.dictSlotNone;refine zv (zv (wpAny_notOrdered_dict ty ?_));show WH _ _ (pure (vv d)) _ _ s;refine yy ?_;show WH _ _ (Xs d >>= _) _ _ s;unfold Xs;rw[Wg (by rw[lo];exact vV)];refine zv (yy (zv (Yp ho hd (zv (Y9 ho hd ?_)))));refine zv (ZZ (yy ⟨_,rfl,"dict_keyiterator",_,⟨_,Wx _ rfl,rfl⟩,Yl.lookup,by simpa [rawInt] using q⟩))
def CF(hi:s.heap.IsKeyIter it d i es.size ep)(hod:s.heap.get? d=some od)(hdd:od.data = .dict es ep)(hx:es[i]? = some e)
 (q:∀h',h'.IsKeyIter it d (i+1) es.size ep->Z4 it s.heap h'->Q (some e.key) { s with heap:=h' }):WH (WG prog w) A (pyNext (.ref it)) Q E s:=by
 obtain⟨o,ho,hc,hd⟩:=id hi;have ty:=hi.typeIs;unfold pyNext;refine zv (wpAny_attempt (wpAny_callSpecial?_slot (name:=zS "__next__") ty Yl (Zb Yl ty F.entry_dict_keyiterator_next ?_ (F.args_dict_keyiterator_next_1 _))));refine zv (yy (zv (zv ?_)))
 first|refine zv (Yr ty (yy (zv (YW ho hd ?_))))|refine zv (YD ty (yy (zv (YW ho hd ?_))))
 simp only[show ZG "dict_keyiterator" = false by decide,Zd,if_false];show WH _ _ (if (vv d==ZS)=true then _ else _) _ _ s;rw[Wg (show ¬ ((vv d==ZS)=true) from vV)];refine zv (yy (zv (Yp hod hdd ?_)));rw[Wg (by simp)];refine zv (yy (zv (Y9 hod hdd ?_)));rw[Wg (by simp)];refine yy ?_;have lt:i<es.size:=(Wm.mp hx).1;have ee:es[i]=e:=(Wm.mp hx).2;simp only[show ¬ ((i:Int)<0) from by lia,if_false,ZV,Wn lt];refine zv ?_
 first|refine zv (Yr ty (yy (zv (wpAny_isOneOf_keyiter ty ?_))))|refine zv (YD ty (yy (zv (wpAny_isOneOf_keyiter ty ?_))))
 show WH _ _ (setField (.ref it) 1 (rawInt ((i:Int)+1)) >>= _) _ _ s;refine zv (wpAny_setField ho hd (by simp) ?_);have hi':(s.heap.update it (Obj.mapFields (·.setIfInBounds 1 (rawInt ((i:Int)+1))))).IsKeyIter it d (i+1) es.size ep:=⟨_,Wv _ ho (Obj.isFreed_of_fields (Obj.data_mapFields hd _)),(Obj.cls_mapFields ..).trans hc,by rw[Obj.data_mapFields hd];simp[rawInt]⟩;refine zv (Z2 (zv (wpAny_isOneOf_keyiter (s:={ s with heap:=s.heap.update it (Obj.mapFields (·.setIfInBounds 1 (rawInt ((i:Int)+1)))) }) hi'.typeIs ?_)));show WH _ _ (pure es[i].key) _ _ _;rw[ee];exact yy (yy ⟨_,rfl,yy (q _ hi' (Z4.update ..))⟩)
def GP(hh:A.handled=none)(hi:s.heap.IsKeyIter it d i es.size ep)(hod:s.heap.get? d=some od)(hdd:od.data = .dict es ep)(hx:es.size<=i)
 (q:∀h',Heap.ExtBut it s.heap h'->Q none { s with heap:=h' }):WH (WG prog w) A (pyNext (.ref it)) Q E s:=by
 obtain⟨o,ho,hc,hd⟩:=id hi;have ty:=hi.typeIs;unfold pyNext;refine zv (wpAny_attempt (wpAny_callSpecial?_slot (name:=zS "__next__") ty Yl (Zb Yl ty F.entry_dict_keyiterator_next ?_ (F.args_dict_keyiterator_next_1 _))));refine zv (yy (zv (zv ?_)))
 first|refine zv (Yr ty (yy (zv (YW ho hd ?_))))|refine zv (YD ty (yy (zv (YW ho hd ?_))))
 simp only[show ZG "dict_keyiterator" = false by decide,Zd,if_false];show WH _ _ (if (vv d==ZS)=true then _ else _) _ _ s;rw[Wg (show ¬ ((vv d==ZS)=true) from vV)];refine zv (yy (zv (Yp hod hdd ?_)));rw[Wg (by simp)];refine zv (yy (zv (Y9 hod hdd ?_)));rw[Wg (by simp)];refine yy ?_;simp only[show ¬ ((i:Int)<0) from by lia,if_false,ZV,Array.getElem?_eq_none hx];refine zv ?_
 first|refine zv (Yr ty (yy ?_))|refine zv (YD ty (yy ?_))
 show WH _ _ (setField (.ref it) 0 .none >>= _) _ _ s;refine zv (wpAny_setField ho hd (by simp) ?_);show WH _ _ (newExc (.type "StopIteration") [] >>= _) _ _ _;refine zv ?_;simp only[newExc,newTuple];refine zv (ZZ ?_ (by size_fits));refine zv (m:=firstArgMember _ _) (wpAny_of_eq (a:=ZS) (by first|rfl|(simp only[firstArgMember];rfl)) (ZZ ?_ (by size_fits)));simp only[raiseNew];refine zv (wpAny_handled ?_);rw[show A.in1.handled=none from hh];refine zv (yy (wpAny_throw ?_));refine zv (wpAny_isInstance (T:="StopIteration") (b:=true) ⟨_,Wx _ rfl,rfl⟩ isSubtype_stop (yy (q _ (((Z4.update ..).extBut.push _).push _))))
def B7(hh:A.handled=none)(I d:WN)(ne:d≠I)(od:Obj)(es:Array YA)(ep:Nat)(hdd:od.data = .dict es ep) :
 Walks prog w A I [I,d] [I] es.size (fun i v=>∃e,es[i]? = some e/\v=e.key) (fun i h=>h.IsKeyIter I d i es.size ep/\h.get? d=some od) where
 sub:=fun b hb=>by rw[zw.mp hb];exact .head _
 frame:=fun _ _ _ st hk=>⟨st.1.at fun o e=>hk I (.head _) o e,hk d (.tail _ (.head _)) _ st.2⟩
 item:=fun i s Q E hi st q=>by
  have hx:es[i]? = some es[i]:=by simp[hi]
  exact CF st.1 st.2 hdd hx fun h' a b=>q _ h' s.toks ⟨_,hx,rfl⟩ ⟨a,(b.2 d ne).trans st.2⟩ fun c o hc z=>(b.2 c fun y=>hc (by rw[y];exact .head _)).trans z
 done:=fun s Q E st q=>GP hh st.1 st.2 hdd (ym _) fun h' b=>q h' s.toks fun c o hc z=>b c o (fun y=>hc (by rw[y];exact .head _)) z
 self:=fun _ _ _ _ st q=>wpAny_pyIter_keyiter st.1 q
def Fr(lo:(d==ZU)=false)(ex:od.ExactDict)(hd:od.data = .dict es ep):PySem.W.KdlSrc prog w "dict" d d es.size (fun i v=>∃e,es[i]? = some e/\v=e.key) (fun h=>h.get? d=some od) where
 type:=fun _ h=>⟨od,h,ex.1⟩
 there:=fun _ h=>⟨vN h,vN h⟩
 keep:=fun _ _ h k=>k d (.inl rfl) _ h
 notList:=by decide
 notTuple:=by decide
 hint:=fun _ _ _ _ h q=>PySem.W.kdl_hint_dict ⟨od,h,ex.1⟩ q
 iter:=fun _ _ hh h=>⟨_,_,(fun _ _ q=>De lo h ex hd q),B7 hh _ d (Zy (vN h)) od es ep hd,⟨⟨_,Wx _ rfl,rfl,rfl⟩,Wy _ h⟩⟩
end
theorem zP{α:Type}{p q:α->Bool}(h:∀e,p e=true->q e=true):∀ {l:List α} {u:α},u∈l->q u=true->p u=false->l.countP p<l.countP q
 |x::r,u,m,hq,hp=>by
  rw[List.countP_cons,List.countP_cons];have le:r.countP p<=r.countP q:=List.countP_mono_left fun e _=>h e;obtain rfl|m:=zk.mp m
  .rw[Wf hq,Wg (by rw[hp];decide)];lia
  .have:=zP h m hq hp
   by_cases c:p x=true
   .rw[Wf c,Wf (h x c)];lia
   .rw[Wg c];split <;> lia
abbrev Pt:=List Nat × List Nat
def ltP(a b:Pt):Prop:=a.1<b.1\/(a.1=b.1/\a.2<b.2)
instance (a b:Pt):Decidable (ltP a b):=by unfold ltP;infer_instance
def wy(a:Pt):¬ ltP a a:=fun h=>h.elim (Xi _) fun h=>Xi _ h.2
def zL(h:ltP a b)(g:ltP b c):ltP a c:=by
 unfold ltP at *;obtain h|⟨h1,h2⟩:=h
 .obtain g|⟨g1,g2⟩:=g
  .exact .inl (List.lt_trans h g)
  .exact .inl (g1 ▸ h)
 .obtain g|⟨g1,g2⟩:=g
  .exact .inl (h1 ▸ g)
  .exact .inr ⟨h1.trans g1,List.lt_trans h2 g2⟩
def wR(a b:List Nat):a<b\/a=b\/b<a:=by
 by_cases h:a<b
 .exact .inl h
 .by_cases g:b<a
  .exact .inr (.inr g)
  .exact .inr (.inl (List.le_antisymm (List.not_lt.mp g) (List.not_lt.mp h)))
def xK(a b:Pt):ltP a b\/a=b\/ltP b a:=by
 obtain⟨a1,a2⟩:=a;obtain⟨b1,b2⟩:=b;obtain h|rfl|h:=wR a1 b1
 .exact .inl (.inl h)
 .obtain h|rfl|h:=wR a2 b2
  .exact .inl (.inr ⟨rfl,h⟩)
  .exact .inr (.inl rfl)
  .exact .inr (.inr (.inr ⟨rfl,h⟩))
 .exact .inr (.inr (.inl h))
noncomputable def rnk(l:List Pt)(u:Pt):Nat:=l.countP fun e=>decide (ltP e u)
def BC{l:List Pt}{u v:Pt}(mu:u∈l)(h:ltP u v):rnk l u<rnk l v:=
 zP (fun e he=>We (zL (of_decide_eq_true he) h)) mu (We h) (Wc (wy u))
def mQ(mu:u∈l)(mv:v∈l):ltP u v↔(rnk l u:Int)<rnk l v:=by
 refine⟨fun h=>by have:=BC mu h;lia,fun h=>?_⟩;obtain g|rfl|g:=xK u v
 .exact g
 .exact Wa h (Int.lt_irrefl _)
 .have:=BC mv g;lia
abbrev oA(l:List Pt):Prop:=l.Pairwise ltP
theorem k_:∀ {a b:List Pt},a.Perm b->oA a->oA b->a=b
 | [],_,p,_,_=>p.nil_eq
 |x::r,b,p,ha,hb=>by
  cases b with
  |nil=>exact Wa p.length_eq (by simp)
  |cons y t=>
   have e:x=y:=by
    obtain h|h:=zk.mp (p.mem_iff.mp (.head _))
    .exact h
    .obtain h'|h':=zk.mp (p.mem_iff.mpr (.head _))
     .exact h'.symm
     .exact Wa (zL ((ZC.mp ha).1 y h') ((ZC.mp hb).1 x h)) (wy x)
   subst e;rw[k_ (List.Perm.cons_inv p) (ZC.mp ha).2 (ZC.mp hb).2]
namespace Srt
def TwoS(h:WF)(p:WN)(e:Pt):Prop:=∃(o:Obj) (t u:Tok) (n:Nat),h.get? p=some o/\o.cls = .type "tuple" /\ o.data = .seq #[.str ⟨⟨e.1⟩⟩ t,.str ⟨⟨e.2⟩⟩ u] n
section
variable{prog:WL}{w:WK}{A:WJ}{E:WO->WM->Prop}{s:WM}
theorem tG:∀(vs:List WO),(∀v∈vs,∃p e,v = .ref p/\TwoS s.heap p e)->∀ {Q:List (Option WO)->WM->Prop},(∀fs ns,StrsAre fs ns->fs.length=vs.length->Q (fs.map some) s) ->
 WH (WG prog w) A (vs.mapM firstOfTuple') Q E s
 | [],_,Q,h=>by rw[List.mapM_nil];exact yy (h [] [] .nil rfl)
 |v::vs,hv,Q,h=>by
  obtain⟨p,e,rfl,o,t,u,n,ho,hc,hd⟩:=hv v (ZO ..);rw[List.mapM_cons];refine zv ?_;show WH _ _ (typeOf (.ref p) >>= _) _ _ s;refine zv (wpAny_typeOf (⟨o,ho,hc⟩:s.TypeIs (.ref p) "tuple") ?_);rw[Wg (by decide)];refine zv (Y2 ho hd (yy ?_));show WH _ _ (vs.mapM firstOfTuple' >>= fun bs=>pure (some (YO ⟨⟨e.1⟩⟩ t)::bs)) Q E s;exact zv (tG vs (fun v hv'=>hv v (tH _ hv')) fun fs ns hI hl=>yy (h (.str ⟨⟨e.1⟩⟩ t::fs) (⟨⟨e.1⟩⟩::ns) (.cons _ t hI) (by simp[hl])))
def Gx{vs:List WO}(hv:∀v∈vs,∃p e,v = .ref p/\TwoS s.heap p e)(h2:2<=vs.length)(h:Q (tuples' true) s):WH (WG prog w) A (keyKind' vs.toArray) Q E s:=by
 rw[keyKind'_eq,List.mapM_toArray,map_eq_pure_bind];refine zv (zv (tG vs hv fun fs ns hI hl=>yy ?_));rw[Wf (by simp)];refine zv (wpAny_rule ?_);have e:(fs.map some).toArray.filterMap id=fs.toArray:=by simp
 rw[e,oneTypeOnly'_eq,List.mapM_toArray,mapM_typeOf_strs hI];simp only[map_pure,pure_bind];have all:((fs.map fun _=>YE "str").toArray.all fun x=>x==YE "str")=true:=by
  simp only[List.all_toArray,List.all_map,Zv];exact fun _ _=>rfl
 have at0:(fs.map fun _=>YE "str").toArray[0]? = some (YE "str"):=by
  have:0<fs.length:=by lia
  simp[this]
 rw[at0];simp only[all,if_true,pure_bind];exact yy h
def Ah(h:x≠y):decide ((⟨⟨x⟩⟩:Str)=⟨⟨y⟩⟩)=false:=Wc fun z=>h (by injection z with z;injection z)
def KP(hp:TwoS s.heap p a)(hq:TwoS s.heap q b)(h:Q (decide (ltP a b)) s) :
 WH (WG prog w) A (keyLt' (tuples' true) (.ref p) (.ref q)) Q E s:=by
 obtain⟨x,y⟩:=a;obtain⟨x',y'⟩:=b;obtain⟨o,t,u,n,ho,hc,hd⟩:=hp;obtain⟨o',t',u',n',ho',hc',hd'⟩:=hq;show WH _ _ (Builtin.List.listItems (.ref p) >>= fun xs=>Builtin.List.listItems (.ref q) >>= fun ys=>_) _ _ s;refine zv (Y2 ho hd (zv (Y2 ho' hd' ?_)));show WH _ _ (forIn [((YO ⟨⟨x⟩⟩ t,YO ⟨⟨x'⟩⟩ t'),0),((YO ⟨⟨y⟩⟩ u,YO ⟨⟨y'⟩⟩ u'),1)] (none,()) _ >>= _) _ _ s;rw[List.forIn_cons];refine zv (zv (zv (wpAny_eqBool_str ?_)));by_cases e:x=x'
 .subst e
  simp only[decide_true,Bool.not_true,Zd,if_false];refine yy ?_;simp only[List.forIn_cons];refine zv (zv (wpAny_eqBool_str ?_));by_cases e2:y=y'
  .subst e2
   simp only[decide_true,Bool.not_true,Zd,if_false];refine yy ?_;simp only[List.forIn_nil];refine yy (yy ?_);rw[Wc (wy _)]at h;exact h
  .simp only[Ah e2,Bool.not_false,if_true]
   refine zv ?_;show WH _ _ (oneLt' false (.str ⟨⟨y⟩⟩ u) (.str ⟨⟨y'⟩⟩ u')) _ _ s;rw[oneLt'_eq];simp only[Zd,if_false];refine zv (PySem.P.lt_str (Ze (yy (yy (yy ?_)))));rw[show decide (ltP (x,y) (x,y'))=decide (y<y') from decide_eq_decide.mpr ⟨fun z=>z.elim (fun z=>Wa z (Xi _)) (·.2),fun z=>.inr ⟨rfl,z⟩⟩]at h;exact h
 .simp only[Ah e,Bool.not_false,if_true]
  refine zv ?_;show WH _ _ (oneLt' true (.str ⟨⟨x⟩⟩ t) (.str ⟨⟨x'⟩⟩ t')) _ _ s;refine oneLt_str (yy (yy (yy ?_)));rw[show decide (ltP (x,y) (x',y'))=decide (x<x') from decide_eq_decide.mpr ⟨fun z=>z.elim id fun z=>Wa z.1 e,.inl⟩]at h;exact h
def cmp_S{h:WF}{os:OsState}{vs:List WO}{κ:WO->Int}{f:WO->Pt}(h2:2<=vs.length)(hv:∀v∈vs,∃p,v = .ref p/\TwoS h p (f v))(hk:∀u∈vs,∀v∈vs,(ltP (f u) (f v)↔κ u<κ v)):Cmp prog w A h os (tuples' true) κ vs where
 kind E s Q e q:=by
  subst e;exact Gx (fun v m=>let ⟨p,a,b⟩:=hv v m;⟨p,_,a,b⟩) h2 q
 lt E s u v Q e mu mv q:=by
  subst e;obtain⟨p,rfl,b⟩:=hv u mu;obtain⟨p',rfl,b'⟩:=hv v mv;refine KP b b' ?_
  rwa [decide_eq_decide.mpr (hk _ mu _ mv)]
end
end Srt
section
variable{X:Cx}{XG:List (WN × Obj)}{σ:St}{H:Hp}{s:WM}
noncomputable abbrev tP(e:Pt):List V:=[T e.1,T e.2]
noncomputable abbrev kP(e:Pt):List Key:=[.inr ⟨⟨e.1⟩⟩,.inr ⟨⟨e.2⟩⟩]
def Ij(e:Pt):(kP e).map kV=tP e:=rfl
def ip(h:kP a=kP b):a=b:=by
 obtain⟨a1,a2⟩:=a;obtain⟨b1,b2⟩:=b;simp only[kP,List.cons.injEq,and_true]at h;obtain⟨h1,h2⟩:=h;injection h1 with h1;injection h1 with h1;injection h1 with h1
 injection h2 with h2;injection h2 with h2;injection h2 with h2
 rw[h1,h2]
def FR(h:tP a=tP b):a=b:=ip (r8 (by rw[Ij,Ij,h]))
abbrev KAt(H:Hp)(a:WN)(e:Pt):Prop:=H a=some (.tup (tP e))
def IF(r:KT H XB xs):∀ {ks:List Pt},XB.map (·.1)=ks.map kP ->
 ∃ps:List (WN × Pt),ps.map (·.2)=ks/\xs.map (fun x=>vv x.2.1)=ps.map (fun e=>vv e.1)/\(xs.map (·.1)=ks.map kP)/\∀e∈ps,KAt H e.1 e.2:=by
 induction r with
 |nil=>
  intro ks h;cases ks with
  |nil=>exact⟨[],rfl,rfl,rfl,fun _ m=>nomatch m⟩
  |cons=>simp at h
 | @cons p q ps qs h t ih=>
  intro ks e;cases ks with
  |nil=>simp at e
  |cons k ks=>
   rw[xY,xY]at e;injection e with e1 e2
   obtain⟨l,a1,a2,a3,a4⟩:=ih e2;obtain⟨h1,h2,_⟩:=h;rw[e1]at h1 h2;refine⟨(q.2.1,k)::l,by rw[xY,a1],by rw[xY,xY,a2],by rw[xY,xY,a3,h1],fun z m=>?_⟩;obtain rfl|m:=zk.mp m
   .exact h2
   .exact a4 z m
noncomputable def fOf(ps:List (WN × Pt)):WO->Pt
 | .ref a=>((ps.find? fun e=>e.1==a).map (·.2)).getD ([],[])
 |_=>([],[])
def B_(hp:∀e∈ps,KAt H e.1 e.2)(m:e∈ps):fOf ps (.ref e.1)=e.2:=by
 show((ps.find? fun z=>z.1==e.1).map (·.2)).getD ([],[])=e.2;cases f:ps.find? fun z=>z.1==e.1 with
 |none=>exact Wa (Wo.mp f e m) (by simp)
 |some z=>
  have e1:z.1=e.1:=by simpa using List.find?_some f
  have t1:=hp z (List.mem_of_find?_eq_some f);have t2:=hp e m;rw[e1]at t1;have t3:=t1.symm.trans t2;injection t3 with t3;injection t3 with t3
  exact FR t3
theorem EQ(hp:∀e∈ps,KAt H e.1 e.2):∀ {out:List WO},(∀v∈out,v∈ps.map fun e=>vv e.1)->∃as:List WN,WW (as.map V.ref) out/\A2 (KAt H) as (out.map (fOf ps))
 | [],_=>⟨[],.nil,.nil⟩
 |v::out,h=>by
  obtain⟨as,a1,a2⟩:=EQ hp fun u m=>h u (tH _ m);obtain⟨e,m,rfl⟩:=yI.mp (h v (ZO ..));refine⟨e.1::as,.cons rfl a1,?_⟩;rw[xY,B_ hp m];exact .cons (hp e m) a2
def WR.twoS(I:WR X XG σ H s)(h:KAt H p e):Srt.TwoS s.heap p e:=by
 obtain⟨_,XC,r0,o,ho,hc,n,hd⟩:=(show WV X.prog X.w H s.heap p (.tup (tP e)) from I.hok p _ h);have r:WW [T e.1,T e.2] XC:=r0;clear r0;cases r with
 |cons r1 r=>
  cases r with
  |cons r2 r=>
   cases r;obtain⟨t,rfl⟩:=r1;obtain⟨u,rfl⟩:=r2;exact⟨o,t,u,n,ho,hc,hd⟩
def Srt.TwoS.keep(x:Srt.TwoS h p e)(k:∀b o,h.get? b=some o->h'.get? b=some o):Srt.TwoS h' p e:=by
 obtain⟨o,t,u,n,ho,r⟩:=x;exact⟨o,t,u,n,k _ _ ho,r⟩
def xw:List V->Hp->VK->Prop
 | [.ref d],H,Q=>∃(XB:List (List Key × V)) (ks:List Pt),H d=some (.dT XB)/\XB.map (·.1)=ks.map kP/\ks.length<64 /\
  ∀(out:List Pt) (as:List WN),out.Perm ks->oA out->A2 (KAt H) as out->∀l,H l=none->Q (.ref l) (upd H l (.lst (as.map V.ref)))
 |_,_,_=>False
def yi(hc:X.calm=true):WT X (.builtin "sorted") xw:=by
 intro XG s σ H xs us Q I r h;obtain _|⟨e_1,r_1⟩:=xs
 .exact XH h
 cases e_1 with
 |ref d=>
  cases r_1 with
  |nil=>
   obtain⟨XB,ks,hd,hks,h64,q⟩:=h;obtain⟨u,rfl,rx⟩:=dI r;cases (show u=vv d from rx);obtain⟨z,lo,xs,rel,o,es,ep,ho,ex,hdat,he,_,hn⟩:=BS I.hok hd;obtain⟨ps,p1,p2,p3,p4⟩:=IF rel hks;have ndk:ks.Nodup:=by
    rw[p3]at hn;exact(List.pairwise_map.mp hn).imp fun h e=>h (by rw[e])
   have len:es.size=ks.length:=by
    rw[<- ZY,he,zm,<- zm (f:=fun x=>vv x.2.1),p2,zm,<- zm (f:=(·.2)),p1]
   refine Calls.call_function_entry kind_sorted plain_sorted entry_sorted (args_sorted1 _) ?_;unfold Builtin.«sorted»;refine zv (m:=checkCount "sorted" 1 1 _) (yy ?_);refine zv (PySem.W.kdu_collect (Fr lo ex hdat) (I.ok.hd hc) ho (by rw[len,tV];lia) fun h' tk acc kp it=>?_);have ea:acc.toList=ps.map fun e=>vv e.1:=by
    rw[<- p2];have ek:xs.map (fun x=>vv x.2.1)=es.toList.map (·.key):=by rw[he,uR];rfl
    rw[ek];refine List.ext_getElem? fun j=>?_;rw[Ws,Wl,Wl];cases ej:acc[j]? with
    |none=>
     have:acc.size<=j:=Array.getElem?_eq_none_iff.mp ej;rw[it.1]at this;rw[Array.getElem?_eq_none this];rfl
    |some v=>
     obtain⟨e,g1,g2⟩:=it.2 j v ej;rw[g1,g2];rfl
   have inv:∀e∈ps,fOf ps (.ref e.1)=e.2:=fun e m=>B_ p4 m;have em:(ps.map fun e=>vv e.1).map (fOf ps)=ks:=by
    rw[uR,<- p1];exact lW fun e m=>inv e m
   have mk:∀v∈ps.map (fun e=>vv e.1),fOf ps v∈ks:=fun v m=>by rw[<- em];exact xW m
   have nd:((ps.map fun e=>vv e.1).map fun v=>(rnk ks (fOf ps v):Int)).Nodup:=by
    rw[show(ps.map fun e=>vv e.1).map (fun v=>(rnk ks (fOf ps v):Int))=((ps.map fun e=>vv e.1).map (fOf ps)).map (fun e=>(rnk ks e:Int)) by simp only[uR];rfl,em];refine List.pairwise_map.mpr (XV (fun {a b} ma mb ne e=>?_) ndk);obtain g|g|g:=xK a b
    .have:=(mQ ma mb).mp g;lia
    .exact ne g
    .have:=(mQ mb ma).mp g;lia
   have lv:(ps.map fun e=>vv e.1).length<64:=by rw[zm,<- zm (f:=(·.2)),p1];exact h64
   rw[ea];refine zv (wpAny_newList ?_ (by rw[tV];lia));have hoL:(h'.push (seqObj "list" (ps.map fun e=>vv e.1).toArray 0)).get? h'.objs.size=some (seqObj "list" (ps.map fun e=>vv e.1).toArray 0):=Wx _ rfl;have kL:∀b ob,s.heap.get? b=some ob->(((h'.push (seqObj "list" (ps.map fun e=>vv e.1).toArray 0)).update h'.objs.size (Yz fun _=>#[])).push (seqObj "tuple" (ps.map fun e=>vv e.1).toArray 0) |>.push (seqObj "list" #[] 0)).get? b=some ob:=fun b ob e=>by
    have l1:=vN (kp _ _ e);refine Wy _ (Wy _ ?_);rw[Heap.get?_update_ne _ _ _ _ (Zy l1)];exact Wy _ (kp _ _ e)
   refine zv (Z2 (Zb slot_list_sort ⟨_,hoL,rfl⟩ entry_list_sort (Srt.sort_by (kd:=tuples' true) (κ:=fun v=>(rnk ks (fOf ps v):Int)) hoL lv nd (fun h2=>Srt.cmp_S (f:=fOf ps) h2 (fun v m=>?_) fun u mu v mv=>mQ (mk u mu) (mk v mv)) fun out pm sr=>⟨_,rfl,?_⟩) (args_list_sort _)))
   .obtain⟨e,me,rfl⟩:=yI.mp m
    refine⟨e.1,rfl,?_⟩;rw[inv e me];exact(I.twoS (p4 e me)).keep kL
   .refine yy ⟨_,rfl,?_⟩
    obtain⟨c,el⟩:=sortedHeap_at (out:=out.toArray) hoL;have I1:WR X XG σ H { s with heap:=h',toks:=tk }:=I.kept kp;have kp2:∀b o,h'.get? b=some o->(sortedHeap (h'.push (seqObj "list" (ps.map fun e=>vv e.1).toArray 0)) h'.objs.size (ps.map fun e=>vv e.1) out.toArray).get? b=some o:=fun b o e=>by
     have l1:=vN e;rw[sortedHeap_old (Zy l1) (by rw[size_push'];exact Nat.lt_succ_of_lt l1),Heap.get?_push_ne _ _ _ (Zy l1)];exact e
    obtain⟨as,a1,a2⟩:=EQ p4 (out:=out) fun v m=>pm.mem_iff.mp m;have po:(out.map (fOf ps)).Perm ks:=by have:=pm.map (fOf ps);rwa [em]at this
    have so:oA (out.map (fOf ps)):=List.pairwise_map.mpr (XV (fun {a b} ma mb l=>(mQ (mk a (pm.mem_iff.mp ma)) (mk b (pm.mem_iff.mp mb))).mpr l) sr);refine⟨.ref h'.objs.size,_,I1.laid (t':=tk) (a:=h'.objs.size) kp2 (ym _) (show WV X.prog X.w _ _ _ (.lst (as.map V.ref)) from⟨?_,out,c,a1,el⟩),rfl,q _ as po so a2 _ (I1.hok.fresh (ym _))⟩;have:=a1.length;have:=pm.length_eq;rw[tV];lia
  |cons=>exact XH h
 |_=>exact XH h
def ER:V->List V->Hp->VK->Prop:=fun x vs H Q=>∃l b xs zs,x = .ref l/\vs=[.ref b]/\H l=some (.lst xs)/\H b=some (.tup zs)/\xs.length+zs.length<=WI/\Q .non (upd H l (.lst (xs++zs)))
def D4:MtM X "list.extend" ER:=by
 intro XG s σ H x vs v us Q I rx rv h;obtain⟨l,b,xs,zs,rfl,rfl,hH,hB,hz,q⟩:=h;cases rx;obtain⟨u,rfl,ru⟩:=rv.one;cases ru;obtain⟨z,XC,n,r,hl,e⟩:=I.lstM hH;obtain⟨z2,its2,r2,⟨ob,eb,cb,n2,db⟩⟩:=(show WV X.prog X.w H s.heap b (.tup zs) from I.hok b _ hB);have hl2:=r2.length;have fin:WR X XG σ (upd H l (.lst (xs++zs))) { s with heap:=s.heap.update l (Yz (· ++ its2.toArray)) }:=I.lset (its':=XC++its2) hH e (by simp) (r.append r2) (by rw[zc];lia);refine Zb F.slot_list_extend ⟨_,e,rfl⟩ F.entry_list_extend ?_ (F.args_list_extend_2 _ _);show WH _ _ (Yg (.ref l) (.ref b) .none) _ _ s;unfold Yg;refine zv (wpAny_typeOf ⟨ob,eb,cb⟩ ?_);rw[Wf (by rw[show(YE "tuple" == YE "tuple")=true by decide,Bool.or_true])];refine zv (Y2 eb db (zv (Y2 e rfl ?_)));have hsz:XC.toArray.size+its2.toArray.size<=WI:=by rw[yN,yN];lia
 rw[Wg (by rw[nP hsz,Bool.and_false];exact vV)];refine zv (listUpdate_at e rfl ?_ (hsz:=by rw[yN];lia) (hsz2:=by rw[Array.size_append];lia));exact yy ⟨_,rfl,.non,_,fin,rfl,q⟩
end
def CEl(J:It)(n:Nat)(g:TG)(ks:List Nat)(tt:TT)(te:TE)(σ:St)(H1:Hp)(Q:VK):Prop:=∀D,H1 D=none->∃W:Nat->Nat->List V->Hp->Prop,(∃m,W 0 m [] (upd H1 D (.lst []))) /\
 ∀i m ys H2,W i m ys H2->H2 D=some (.lst ys)/\((J.stop i H2/\Q (.ref D) H2)\/(J.go i H2/\∀x H3,J.yld i H2 x H3->∀zs:St,zs.length=n ->
  g x (zs++ks.map fun k=>(σ[k]?).join) H3 fun σ4 H4=>(∃zs4:St,zs4.length=n/\σ4=zs4++ks.map fun k=>(σ[k]?).join) /\
   tt σ4 H4 fun b H5=>if b=true then te σ4 H5 fun y H6=>H6 D=some (.lst ys)/\ys.length<WI/\∃m',m'<m/\W (i+1) m' (ys++[y]) (upd H6 D (.lst (ys++[y])))
    else ∃m',m'<m/\W (i+1) m' ys H5))
def fM{K:Wz}{tl:TE}{n:Nat}{g:TG}{ks:List Nat}{tt:TT}{te:TE}{σ:St}{H:Hp}{Q:VK}(h:tl σ H fun x H1=>∃a,x = .ref a/\(∃xs,SqL K H1 a xs)/\CEl (Itl K a) n g ks tt te σ H1 Q):fG (oK K tl) n g ks tt te σ H Q:=h
def uJ{K:Wz}{n:Nat}{g:TG}{ks:List Nat}{tt:TT}{te:TE}{σ:St}{H1:Hp}{Q:VK}(a:WN)(xs:List V)(P:WN->Nat->List V->Hp->Prop)(hz:xs.length<WI)
 (h0:∀D,H1 D=none->P D 0 [] (upd H1 D (.lst []))) (hD:∀D i ys H',P D i ys H'->H' D=some (.lst ys)/\SqL K H' a xs/\ys.length<=i)
 (hs:∀D i y ys H' (zs:St) (N1:VK) (N0:Hp->Prop),xs[i]? = some y->P D i ys H'->zs.length=n->(∀v H6,H6 D=some (.lst ys)->P D (i+1) (ys++[v]) (upd H6 D (.lst (ys++[v])))->N1 v H6)->(∀H6,P D (i+1) ys H6->N0 H6) ->
  g y (zs++ks.map fun k=>(σ[k]?).join) H' fun σ4 H4=>(∃zs4:St,zs4.length=n/\σ4=zs4++ks.map fun k=>(σ[k]?).join)/\tt σ4 H4 fun b H5=>if b=true then te σ4 H5 N1 else N0 H5)
 (hd:∀D ys H',P D xs.length ys H'->Q (.ref D) H'):CEl (Itl K a) n g ks tt te σ H1 Q:=by
 intro D hDn;refine⟨fun i m ys H'=>m=xs.length-i/\i<=xs.length/\P D i ys H',⟨_,rfl,rp _,h0 D hDn⟩,?_⟩;rintro i m ys H' ⟨rfl,hi,p⟩;obtain⟨d1,d2,d3⟩:=hD D i ys H' p;refine⟨d1,?_⟩;obtain lt|ge:=Yu i xs.length
 .refine .inr ⟨⟨xs,xs[i],d2,by simp[lt]⟩,?_⟩
  rintro x H3 ⟨rfl,hx⟩ zs hzs;exact hs D i x ys _ zs _ _ (hx xs d2) p hzs (fun v H6 h6 p6=>⟨h6,by lia,_,by lia,rfl,lt,p6⟩) fun H6 p6=>⟨_,by lia,rfl,lt,p6⟩
 .obtain rfl:i=xs.length:=XR hi ge
  exact .inl ⟨⟨xs,d2,ym _⟩,hd D ys H' p⟩
open Lean Meta Simp
def Di:List Name:=Dc++[`L2.zG,`L2.ER,`L2.tPar3]
def C7:List Name:=CO++[`L2.xw,`L2.gRp]
def D3(e:Lean.Expr):MetaM (Option Lean.Expr):=do
 let .const n us:=e.getAppFn|return none
 let fr:=HG n || Di.contains n
 unless fr || C7.contains n do return none
 let some (.defnInfo d):=(<- getEnv).find? n|return none
 let v:=d.value.instantiateLevelParams d.levelParams us
 if e.getAppNumArgs<v.getNumHeadLambdas then return none
 let b:=v.beta e.getAppArgs
 if fr then return some b
 match <- reduceMatcher? b with
 | .reduced r=>return some r
 | .notMatcher=>return some b
 |_=>return none
end L2
namespace K19
open PySem L2
structure Row where
 pa:List Nat
 cu:List Nat
 am:Int
structure Bk where
 k:Int
 d:Int
 rs:List Row
noncomputable def sg(a s:Int)(k:Nat):Nat:=97+((a+s*k) % 26).toNat
noncomputable def wd(a s:Int)(n:Nat):List Nat:=(lq n).map fun k=>sg a s k
noncomputable def nms(c:Int)(k:Nat):List Nat:=
 if k<6 then (wd (c / 250) (1+c / 10 % 25) (1+c % 10).toNat).take (c / 6500 % (1+c % 10+1)).toNat++[97+((c / 71500+3*k) % 26).toNat]++(wd (c / 250) (1+c / 10 % 25) (1+c % 10).toNat).drop (c / 6500 % (1+c % 10+1)).toNat
 else wd (c / 250) (1+c / 10 % 25) (1+c % 10).toNat
def IU(a s:Int)(k:Nat):97<=sg a s k/\sg a s k<=122:=by unfold sg;lia
def iI:1<=(nms c k).length/\(nms c k).length<=11/\∀x∈nms c k,97<=x/\x<=122:=by
 have hw:(wd (c / 250) (1+c / 10 % 25) (1+c % 10).toNat).length=(1+c % 10).toNat:=by simp[wd]
 have hx:∀x∈wd (c / 250) (1+c / 10 % 25) (1+c % 10).toNat,97<=x/\x<=122:=fun x hx=>by
  obtain⟨k,_,rfl⟩:=yI.mp hx;exact IU _ _ _
 unfold nms;generalize wd (c / 250) (1+c / 10 % 25) (1+c % 10).toNat=w at hw hx;split
 .have h2:=fun n=>Wb ZT (List.take_append_drop n w)
  simp only[zc]at h2;refine⟨by rw[zc,zc,wa];lia,by rw[zc,zc,wa];have:=h2 (c / 6500 % (1+c % 10+1)).toNat;lia,fun x hm=>?_⟩;obtain h|h:=yf.mp hm
  .obtain h|h:=yf.mp h
   .exact hx x (ZA h)
   .rw[zw.mp h];lia
  .exact hx x (List.mem_of_mem_drop h)
 .exact⟨by lia,by lia,hx⟩
def GG(c:Int):nms c 0≠nms c 6:=fun h=>by
 have:=Wb ZT h;unfold nms at this;rw[Wf (by decide),Wg (by decide),zc,zc,wa]at this;have h2:=Wb ZT (List.take_append_drop (c / 6500 % (1+c % 10+1)).toNat (wd (c / 250) (1+c / 10 % 25) (1+c % 10).toNat));rw[zc]at h2;lia
inductive Pths (c:Int):List (List Nat)->Prop
 |two:Pths c [nms c 0,nms c 6]
 |more {ps:List (List Nat)} {u:List Nat} {k:Nat}:Pths c ps->u∈ps->u++58::nms c k∉ps->(spN 58 u).length<=5->Pths c (ps++[u++58::nms c k])
noncomputable def yH(d:List (Pt × Int))(k:Pt)(v:Int):List (Pt × Int):=if (d.any fun e=>decide (e.1=k))=true then d.map (fun e=>if e.1=k then (e.1,v) else e) else d++[(k,v)]
noncomputable def oY(d:List (Pt × Int))(k:Pt):Option Int:=(d.find? fun e=>decide (e.1=k)).map (·.2)
noncomputable def kg(e:Pt × Int):List Key × V:=(kP e.1,.int e.2)
def C2(e:Pt × Int)(k:Pt):decide ((kg e).1=kP k)=decide (e.1=k):=decide_eq_decide.mpr ⟨fun h=>ip h,fun h=>by show kP e.1=kP k;rw[h]⟩
def uw(d:List (Pt × Int))(k:Pt)(v:Int):bi (d.map kg) (kP k) (.int v)=(yH d k v).map kg:=by
 unfold bi yH;have e1:((d.map kg).any fun kv=>decide (kv.1=kP k))=d.any fun e=>decide (e.1=k):=by
  rw[List.any_map];exact Wb (d.any ·) (funext fun e=>C2 e k)
 rw[e1];split
 .rw[uR,uR]
  apply lW;intro e _;show(if (kg e).1=kP k then ((kg e).1,V.int v) else kg e)=kg (if e.1=k then (e.1,v) else e);by_cases h:e.1=k
  .rw[Wf h,Wf (by show kP e.1=kP k;rw[h])];rfl
  .rw[Wg h];exact Wg fun z=>h (ip z)
 .rw[yB];rfl
theorem iz(k:Pt):∀d:List (Pt × Int),bw (d.map kg) (kP k)=(oY d k).map V.int
 | []=>rfl
 |e::r=>by
  have ih:=iz k r;by_cases h:e.1=k
  .rw[xY,b8 (by show kP e.1=kP k;rw[h])]
   simp[oY,h,kg]
  .rw[xY,bZ (fun z=>h (ip z)),ih]
   simp[oY,h]
noncomputable def stp(d:List (Pt × Int))(r:Row):List (Pt × Int):=yH d (r.pa,r.cu) ((oY d (r.pa,r.cu)).getD 0+r.am)
noncomputable def dk(rs:List Row):List (Pt × Int):=rs.foldl stp []
def qk(rs:List Row)(r:Row):dk (rs++[r])=stp (dk rs) r:=by unfold dk;rw[List.foldl_append];rfl
def yu(d:List (Pt × Int))(k:Pt)(v:Int):(yH d k v).map (·.1)=if k∈d.map (·.1) then d.map (·.1) else d.map (·.1)++[k]:=by
 unfold yH;have e:((d.any fun e=>decide (e.1=k))=true)↔k∈d.map (·.1):=by
  rw[YY];constructor
  .rintro⟨x,hx,h⟩;exact yI.mpr ⟨x,hx,of_decide_eq_true h⟩
  .intro h
   obtain⟨x,hx,h⟩:=yI.mp h;exact⟨x,hx,We h⟩
 by_cases h:k∈d.map (·.1)
 .rw[Wf (e.mpr h),Wf h,uR]
  apply lW;intro x _;show(if x.1=k then (x.1,v) else x).1=x.1;split <;> rfl
 .rw[Wg fun z=>h (e.mp z),Wg h,yB];rfl
def xi:(dk (rs++[r])).map (·.1)=if (r.pa,r.cu)∈(dk rs).map (·.1) then (dk rs).map (·.1) else (dk rs).map (·.1)++[(r.pa,r.cu)]:=by
 rw[qk];exact yu _ _ _
def snoc_ind{α:Type}{P:List α->Prop}(h0:P [])(h1:∀l x,P l->P (l++[x]))(l:List α):P l:=by
 have:∀r:List α,P r.reverse:=by
  intro r
  induction r with
  |nil=>exact h0
  |cons x r ih=>rw[List.reverse_cons];exact h1 _ _ ih
 have h:=this l.reverse
 rwa [List.reverse_reverse]at h
def sO(rs:List Row):((dk rs).map (·.1)).Nodup/\(∀e∈(dk rs).map (·.1),∃r∈rs,e=(r.pa,r.cu))/\(dk rs).length<=rs.length:=by
 induction rs using snoc_ind with
 |h0=>exact⟨.nil,(fun _ m=>nomatch m),ym _⟩
 |h1 l x ih=>
  obtain⟨i1,i2,i3⟩:=ih;rw[<- zm (f:=(·.1)) (as:=dk (l++[x])),xi];rw[<- zm (f:=(·.1))]at i3;by_cases h:(x.pa,x.cu)∈(dk l).map (·.1)
  .rw[Wf h]
   refine⟨i1,fun e m=>?_,by rw[zc];lia⟩;obtain⟨r,hr,g⟩:=i2 e m;exact⟨r,uj _ hr,g⟩
  .rw[Wg h]
   refine⟨ZW.mpr ⟨i1,yE.mpr ⟨vO,Zu⟩,fun a ha b hb=>by rw[zw.mp hb];rintro rfl;exact h ha⟩,fun e m=>?_,by rw[zc,zc,wa,wa];lia⟩;obtain m|m:=yf.mp m
   .obtain⟨r,hr,g⟩:=i2 e m
    exact⟨r,uj _ hr,g⟩
   .exact⟨x,by simp,zw.mp m⟩
theorem lC{α:Type}[DecidableEq α]:∀ {l m:List α},l.Nodup->(∀x∈l,x∈m)->l.length<=m.length
 | [],m,_,_=>rp _
 |x::r,m,h,s=>by
  obtain⟨h1,h2⟩:=yE.mp h;have hx:=s x (.head _);have:=lC (l:=r) (m:=m.erase x) h2 fun y hy=>(List.mem_erase_of_ne (by rintro rfl;exact h1 hy)).mpr (s y (.tail _ hy));rw[List.length_erase_of_mem hx]at this;have:0<m.length:=List.length_pos_of_mem hx;rw[sP];lia
def zW(h:k∈d.map (·.1)):∃n,oY d k=some n:=by
 obtain⟨e,he,rfl⟩:=yI.mp h;unfold oY;cases f:d.find? fun x=>decide (x.1=e.1) with
 |none=>exact Wa (Wo.mp f e he) (by simp)
 |some z=>exact⟨z.2,rfl⟩
noncomputable def val(rs:List Row)(k:Pt):Int:=(oY (dk rs) k).getD 0
noncomputable def res(rs:List Row)(out:List Pt):List Row:=(out.filter fun k=>decide (val rs k≠0)).map fun k=>⟨k.1,k.2,val rs k⟩
def Da(rs:List Row)(out:List Pt):(res rs out).length<=out.length:=by unfold res;rw[zm];exact Zj _ _
def GY(h:k∈(dk rs).map (·.1)):oY (dk rs) k=some (val rs k):=by
 obtain⟨n,e⟩:=zW h;unfold val;rw[e];rfl
def Ad(rs:List Row)(out:List Pt)(k:Pt):res rs (out++[k])=res rs out++if val rs k≠0 then [⟨k.1,k.2,val rs k⟩] else []:=by
 unfold res;rw[Zp,yB]
 congr 1
 by_cases h:val rs k≠0
 .rw[Wf h];simp[h]
 .rw[Wg h];simp at h;simp[h]
end K19
namespace K3
noncomputable def S(a:Int):Int:=
 if a<=0 then 0 else if a=1 then 31 else if a=2 then 59 else if a=3 then 90 else if a=4 then 120
 else if a=5 then 151 else if a=6 then 181 else if a=7 then 212 else if a=8 then 243 else if a=9 then 273
 else if a=10 then 304 else 334
noncomputable def LD(y:Int):Int:=(y+3) / 4-(y+99) / 100+(y+399) / 400
noncomputable def FD(m:Int):Int:=365*(m / 12)+(if m % 12 > 1 then LD (m / 12+1) else LD (m / 12))+S (m % 12)
noncomputable def LG(y m:Int):Int:=
 if m=2 then (if (y % 4=0/\y % 100≠0)\/y % 400=0 then 29 else 28)
 else if m=4\/m=6\/m=9\/m=11 then 30 else 31
def w4(h:m=12*y+a)(h0:0<=a)(h1:a<12) :
 FD m=365*y+(if a > 1 then LD (y+1) else LD y)+S a:=by
 have e1:m / 12=y:=by lia
 have e2:m % 12=a:=by lia
 unfold FD;rw[e1,e2]
def q4(y:Int):(y+4) / 4=(y+3) / 4+if y % 4=0 then 1 else 0:=by split <;> lia
def KD(y:Int):(y+100) / 100=(y+99) / 100+if y % 100=0 then 1 else 0:=by split <;> lia
def KG(y:Int):(y+400) / 400=(y+399) / 400+if y % 400=0 then 1 else 0:=by split <;> lia
def wJ(y:Int):LD (y+1)=LD y+(if (y % 4=0/\y % 100≠0)\/y % 400=0 then 1 else 0):=by
 unfold LD;rw[Z3,Z3,Z3];show(y+4) / 4-(y+100) / 100+(y+400) / 400=_;rw[q4,KD,KG];generalize (y+3) / 4=A;generalize (y+99) / 100=B;generalize (y+399) / 400=C;by_cases a:y % 400=0
 .have b:y % 100=0:=by lia
  have c:y % 4=0:=by clear b;lia
  rw[Wf a,Wf b,Wf c,Wf (.inr a)];clear a b c;lia
 .by_cases b:y % 100=0
  .have c:y % 4=0:=by clear a;lia
   rw[Wg a,Wf b,Wf c,Wg (fun z=>z.elim (fun w=>w.2 b) a)];clear a b c;lia
  .by_cases c:y % 4=0
   .rw[Wg a,Wg b,Wf c,Wf (.inl ⟨c,b⟩)]
    clear a b c;lia
   .rw[Wg a,Wg b,Wg c,Wg (fun z=>z.elim (fun w=>c w.1) a)]
    clear a b c;lia
def HF:∀a:Nat,a<11->a≠1->S (a+1)=S a+LG 1 (1+a):=by decide
def FM(y z m:Int)(h:m≠2):LG y m=LG z m:=by unfold LG;rw[Wg h,Wg h]
def Fh(y:Int):LG (2000+y) 2=28+(LD (y+1)-LD y):=by
 have h:(((2000+y) % 4=0/\(2000+y) % 100≠0)\/(2000+y) % 400=0)↔((y % 4=0/\y % 100≠0)\/y % 400=0):=by
  have e (k:Int) (d:2000=k*(2000 / k)):(2000+y) % k=y % k:=by rw[Int.add_comm,d,Int.add_mul_emod_self_left]
  rw[e 4 rfl,e 100 rfl,e 400 rfl]
 rw[wJ,LG,Wf rfl];by_cases c:(y % 4=0/\y % 100≠0)\/y % 400=0
 .rw[Wf c,Wf (h.mpr c)];lia
 .rw[Wg c,Wg (fun q=>c (h.mp q))];lia
def Eo(m:Int):FD (m+1)=FD m+LG (2000+m / 12) (1+m % 12):=by
 have b0:0<=m % 12:=ZH _ (by decide);have b1:m % 12<12:=ZN _ (by decide);have e:m=12*(m / 12)+m % 12:=(Int.mul_ediv_add_emod m 12).symm;have a1:=w4 e b0 b1;generalize m / 12=y at *;generalize m % 12=z at *;obtain⟨a,rfl⟩:=Zk b0;by_cases c:a=11
 .subst c
  rw[a1,w4 (m:=m+1) (y:=y+1) (a:=0) (by lia) (by decide) (by decide)];show _+LD (y+1)+0=_+LD (y+1)+334+31;lia
 .have a2:=w4 (m:=m+1) (y:=y) (a:=a+1) (by lia) (by lia) (by lia)
  by_cases c1:a=1
  .subst c1
   rw[a1,a2];show _+LD (y+1)+59=_+LD y+31+LG (2000+y) 2;rw[Fh];lia
  .have s:=HF a (by lia) c1
   rw[a1,a2,FM _ 1 _ (by lia),s];by_cases c2:a=0
   .subst c2;exact(Z3 _ _ _).symm
   .rw[Wf (by lia),Wf (by lia)];lia
def JO(y m:Int):28<=LG y m/\LG y m<=31:=by
 unfold LG;repeat' split
 all_goals lia
def xQ(m:Int):FD m+28<=FD (m+1)/\FD (m+1)<=FD m+31:=by
 have h:=Eo m;have g:=JO (2000+m / 12) (1+m % 12);lia
def tZ(m:Int)(k:Nat):FD m+28*k<=FD (m+k):=by
 induction k with
 |zero=>simp
 |succ k ih=>
  have h:=xQ (m+k);have e:m+((k+1:Nat):Int)=m+k+1:=by lia
  rw[e];lia
def eh(h:m<=n):FD m+28*(n-m)<=FD n:=by
 have g:=tZ m (n-m).toNat;have e:m+((n-m).toNat:Int)=n:=by lia
 rw[e]at g;lia
def zR:FD 0=0:=by decide
def vD:FD 4800=146097:=by decide
open Classical in
noncomputable def MO(d:Int):Int:=if h:∃m,FD m<=d/\d<FD (m+1) then Classical.choose h else 0
def Jy(h1:FD m<=d)(h2:d<FD (m+1)):m=MO d:=by
 have h:∃m,FD m<=d/\d<FD (m+1):=⟨m,h1,h2⟩;have g:=Classical.choose_spec h;unfold MO;rw[dif_pos h];generalize Classical.choose h=n at g;obtain⟨g1,g2⟩:=g;by_cases c:m+1<=n
 .have:=eh c;lia
 .by_cases c2:n+1<=m
  .have:=eh c2;lia
  .lia
def E8(h1:FD m<=d)(h2:d<FD (m+1)):MO d=m:=(Jy h1 h2).symm
def Je(h0:0<=m):0<=FD m:=by
 have:=eh h0;rw[zR]at this;lia
def Ct(h1:m<=4799):FD (m+1)<=146097:=by
 have:=eh (show m+1<=4800 by lia);rw[vD]at this;lia
def Iq(h0:0<=d)(h1:d<=146096):0<=MO d/\MO d<=4799/\FD (MO d)<=d/\d<FD (MO d+1):=by
 have ex:∀(n:Nat),FD n<=d\/∃k:Nat,k<n/\FD k<=d/\d<FD (k+1):=by
  intro n
  induction n with
  |zero=>left;show FD 0<=d;rw[zR];exact h0
  |succ n ih=>
   obtain h|⟨k,hk,h⟩:=ih
   .by_cases c:FD ((n:Int)+1)<=d
    .left;exact c
    .right;exact⟨n,by lia,h,by lia⟩
   .right;exact⟨k,by lia,h⟩
 obtain h|⟨k,hk,h2,h3⟩:=ex 4800
 .have e:FD ((4800:Nat):Int)=146097:=vD
  rw[e]at h;lia
 .have e:=E8 h2 h3
  rw[e];exact⟨by lia,by lia,h2,h3⟩
noncomputable def R10:List Int:=[31,30,31,30,31,31,30,31,30,31]
def Dp:∀a:Nat,a<10->(R10.take a).sum+59=S ((a:Int)+2):=by decide
def J7(m:Int):365*(m / 12)+LD (m / 12)+((31::(28+(LD (m / 12+1)-LD (m / 12)))::R10).take (m % 12).toNat).sum=FD m:=by
 have b0:0<=m % 12:=ZH _ (by decide);have b1:m % 12<12:=ZN _ (by decide);have a1:=w4 (Int.mul_ediv_add_emod m 12).symm b0 b1;generalize m / 12=y at *;generalize m % 12=z at *;obtain⟨a,rfl⟩:=Zk b0;rw[a1]
 match a,b1 with
 |0,_=>rfl
 |1,_=>rfl
 |a+2,b1=>
  have s:=Dp a (by lia);rw[Wf (by lia)];show _+_+(31+(_+(R10.take a).sum))=_+S ((a:Int)+2);rw[<- s];lia
end K3
namespace K22
open PySem L2 K19
noncomputable def sm(rs:List Row)(k:Pt):Int:=match rs with
 | []=>0
 |r::q=>(if (r.pa,r.cu)=k then r.am else 0)+sm q k
theorem kA(k:Pt)(y:List Row):∀x:List Row,sm (x++y) k=sm x k+sm y k
 | []=>by rw[List.nil_append];simp[sm]
 |r::q=>by rw[Yy,sm,sm,kA k y q];lia
def zD(k:Pt)(v:Int)(k':Pt)(d:List (Pt × Int)):oY (yH d k v) k'=if k'=k then some v else oY d k':=by
 have inj:∀ {x y:Option Int},x.map V.int=y.map V.int->x=y:=fun {x y} h=>by
  cases x <;> cases y <;> first|rfl|cases h
  rfl
 refine inj ?_;rw[<- iz,<- uw,oz];by_cases c:k'=k
 .rw[Wf c,Wf (by rw[c])];rfl
 .rw[Wg c,Wg (fun z=>c (ip z)),iz]
def n8(rs:List Row)(k:Pt):val rs k=sm rs k:=by
 unfold val
 induction rs using snoc_ind with
 |h0=>rfl
 |h1 l x ih=>
  rw[qk,kA];unfold stp;rw[zD];by_cases c:k=(x.pa,x.cu)
  .rw[Wf c,<- c,<- ih];simp[sm,c]
  .rw[Wg c,ih,show sm [x] k=0 by simp only[sm];rw[Wg fun z=>c z.symm];rfl];lia
def iV(h:∀r∈rs,(r.pa,r.cu)≠k):sm rs k=0:=by
 induction rs with
 |nil=>rfl
 |cons r q ih=>rw[sm,Wg (h r (.head _)),ih fun x m=>h x (.tail _ m)];rfl
def Ae:∀r∈rs,(r.pa,r.cu)∈(dk rs).map (·.1):=by
 induction rs using snoc_ind with
 |h0=>exact fun _ m=>nomatch m
 |h1 l x ih=>
  intro r m;rw[xi];obtain m|m:=yf.mp m
  .split
   .exact ih r m
   .exact uj _ (ih r m)
  .rw[zw.mp m]
   split
   .assumption
   .exact uD _ (zw.mpr rfl)
def Fa{out:List Pt}(po:out.Perm ((dk rs).map (·.1)))(h:k∉out):sm rs k=0:=
 iV fun r m e=>h (po.mem_iff.mpr (e ▸ Ae r m))
noncomputable def trn(rs:List Row):List Row:=rs.map fun r=>⟨r.pa,r.cu,-r.am⟩
theorem BV(k:Pt):∀rs:List Row,sm (trn rs) k = - sm rs k
 | []=>rfl
 |r::q=>by
  have ih:=BV k q;unfold trn at ih |-
  rw[xY,sm,sm,ih];dsimp only;by_cases c:(r.pa,r.cu)=k
  .rw[Wf c,Wf c];lia
  .rw[Wg c,Wg c];lia
def ceA{K:Wz}{β γ:Type}{n:Nat}{g:TG}{ks:List Nat}{tt:TT}{te:TE}{σ:St}{H:Hp}{Q:VK}{S:Hp->V->γ->Prop}(hS:∀(G G':Hp) (v:V) (c:γ),(∀t l,G t=some (.tup l)->G' t=some (.tup l))->S G v c->S G' v c)
 (a:WN) (vs:List V) (R:List β) (Rel:V->β->Prop) (p:β->Bool) (f:β->γ) (ha:H a=some (.lst vs)) (hN:WS H) (hR:A2 Rel vs R) (hz:vs.length<WI)
 (hs:∀v b,b∈R->Rel v b->∀G (zs:St) (N1:VK) (N0:Hp->Prop),XA H G->WS G->zs.length=n->(p b=true->∀u G',XA G G'->WS G'->S G' u (f b)->N1 u G')->(p b=false->∀G',XA G G'->WS G'->N0 G') ->
  g v (zs++ks.map fun k=>(σ[k]?).join) G fun σ4 H4=>(∃zs4:St,zs4.length=n/\σ4=zs4++ks.map fun k=>(σ[k]?).join)/\tt σ4 H4 fun b H5=>if b=true then te σ4 H5 N1 else N0 H5)
 (q:∀D ws G,H D=none->XA H G->WS G->G D=some (.lst ws)->A2 (S G) ws ((R.filter p).map f)->Q (.ref D) G):CEl (Itl K a) n g ks tt te σ H Q:=by
 refine uJ a vs (fun D i ys G=>H D=none/\XA H G/\WS G/\G D=some (.lst ys)/\ys.length<=i/\A2 (S G) ys (((R.take i).filter p).map f)) hz ?_ ?_ ?_ ?_
 .exact fun D hD=>⟨hD,aj _ hD,aE hN rfl,aa,ym _,.nil⟩
 .rintro D i ys G ⟨hD,sm,_,gd,ly,_⟩
  exact⟨gd,al (sm _ _ ha),ly⟩
 .rintro D i y ys G zs N1 N0 hy ⟨hD,sm,nG,gd,ly,A⟩ hzs n1 n0
  obtain⟨b,hb,rb⟩:=hR.at_ hy;have mb:=wt hb;have et:R.take (i+1)=R.take i++[b]:=by rw[Xj,hb];rfl
  rw[et,Zp,yB]at n1 n0;refine hs y b mb rb G zs N1 N0 sm nG hzs (fun pb u G' s' nG' hu=>?_) fun pb G' s' nG'=>n0 G' ⟨hD,sm.trans s',nG',s' _ _ gd,Xp ly,?_⟩
  .have gd':=s' _ _ gd
   have kt:∀t l,G' t=some (.tup l)->upd G' D (.lst (ys++[u])) t=some (.tup l):=fun t l e=>by
    rw[ag fun z=>by rw[z,gd']at e;cases e];exact e
   refine n1 _ _ gd' ⟨hD,fun c o e=>?_,aE nG' rfl,aa,by rw[zc];exact Xd ly,?_⟩
   .rw[ag (aM e hD)];exact s' _ _ (sm _ _ e)
   .rw[tR pb,Ym]
    exact(A.imp fun _ _ _ _ h=>hS _ _ _ _ kt (hS _ _ _ _ (fun t l e=>s' _ _ e) h)).snoc (hS _ _ _ _ kt hu)
  .rw[tK (by rw[pb];decide),Ym,ZR,Zs]
   exact A.imp fun _ _ _ _ h=>hS _ _ _ _ (fun t l e=>s' _ _ e) h
 .rintro D ys G ⟨hD,sm,nG,gd,_,A⟩
  rw[hR.len,Zx]at A;exact q D ys G hD sm nG gd A
end K22
namespace L2
open PySem PyProof.Rows
def AB(h:H a=some o):upd H a o=H:=by
 funext b;by_cases e:b=a
 .subst e;rw[aa,h]
 .rw[ag e]
noncomputable def isD:HO->Bool
 | .dK _=>true
 | .dT _=>true
 |_=>false
noncomputable def ke:HO->Nat
 | .dK XB=>XB.length
 | .dT XB=>XB.length
 |_=>0
def w6(H:Hp)(u:HO)(i:Nat)(x v:V):Prop:=match u with
 | .dK XB=>∃k,XB[i]? = some (k,v)/\x=kV k
 | .dT XB=>∃k q,XB[i]? = some (k,v)/\x = .ref q/\H q=some (.tup (k.map kV))
 |_=>False
def Df(h:(bL P w).is k u=true):WX (kV k) u:=by
 cases k with
 |inl i=>obtain⟨t,z⟩:=Value.isInt_shape h;exact⟨t,z⟩
 |inr x=>obtain⟨t,z⟩:=Value.isStrOf_shape h;exact⟨t,z⟩
def EG{α β:Type}{R:α->β->Prop}{xs:List α}{ys:List β}(h:Paired R xs ys):∀ {i:Nat} {y:β},ys[i]? = some y->∃x,xs[i]? = some x/\R x y:=by
 induction h with
 |nil=>intro i y e;simp at e
 |cons r _ ih=>
  intro i y e;cases i with
  |zero=>cases e;exact⟨_,rfl,r⟩
  |succ i=>exact ih (i:=i) (by simpa using e)
section
variable{X:Cx}{XG:List (WN × Obj)}{σ:St}{H:Hp}{s:WM}{a:WN}
def xa(I:WR X XG σ H s){u:HO}(hu:isD u=true)(x:WV X.prog X.w H s.heap a u):∃(o:Obj) (es:Array YA) (ep:Nat),s.heap.get? a=some o/\o.ExactDict/\o.data = .dict es ep/\(a==ZU)=false/\es.size=ke u /\
 ∀i e,es[i]? = some e->∃x v,w6 H u i x v/\WX x e.key/\WX v e.val:=by
 cases u with
 |dK XB=>
  obtain⟨z,lo,vs,rel,o,es,ep,ho,ex,hd,hk,hp,hn⟩:=x;have hl:es.size=vs.length:=by rw[<- hp.length];simp
  refine⟨o,es,ep,ho,ex,hd,lo,by rw[hl];exact rel.length.symm,fun i e he=>?_⟩;have hi:i<vs.length:=by rw[<- hl];exact(Wm.mp he).1
  obtain⟨p1,p2⟩:=hp.get? (e:=e) (k:=vs[i].1) (v:=vs[i].2) (by rw[Wl];exact he) (by simp[hi]);obtain⟨⟨k,v⟩,hx,e1,e2⟩:=EG rel (y:=vs[i]) (Wr hi);have e1':k=vs[i].1:=e1;refine⟨kV k,v,⟨k,hx,rfl⟩,by rw[e1'];exact Df p1,by rw[p2];exact e2⟩
 |dT XB=>
  obtain⟨z,lo,xs,rel,o,es,ep,ho,ex,hd,he,hn⟩:=x;have hl:es.size=xs.length:=size_of_entries he;refine⟨o,es,ep,ho,ex,hd,lo,by rw[hl];exact(Xv rel).symm,fun i e h=>?_⟩;rw[entry_at he i]at h;obtain⟨q,hq,rfl⟩:=Zn.mp h;obtain⟨⟨k,v⟩,hx,e1,e2,e3⟩:=EG rel hq;exact⟨.ref q.2.1,v,⟨k,q.2.1,hx,rfl,e2⟩,rfl,e3⟩
 |_=>cases hu
def WR.freeze(I:WR X XG σ H s)(hu:isD u=true)(e:Rd H a u):∃(o:Obj) (es:Array YA) (ep:Nat),s.heap.get? a=some o/\o.ExactDict/\o.data = .dict es ep/\(a==ZU)=false/\es.size=ke u/\(H a=some u\/H a=some (.frz o u))/\WR X XG σ (upd H a (.frz o u)) s:=by
 have x:=Al I.hok e;obtain⟨o,es,ep,ho,ex,hd,lo,hz,_⟩:=xa I hu x;obtain e|⟨o',e⟩:=e
 .refine⟨o,es,ep,ho,ex,hd,lo,hz,.inl e,?_⟩
  have no:∀b w,H b=some w->isD w=false->b≠a:=fun b w q n z=>by rw[z,e]at q;cases q;rw[hu]at n;cases n
  exact I.write (x:=a) (e:=a) (t':=s.toks) (h':=s.heap) (by rw[e];cases u <;> first|exact ZF|cases hu) (.inl rfl) (fun _ _ _ q=>q) ⟨o,ho⟩ ⟨ho,x.stay (fun _ _ _ q=>q) (fun c z=>by rw[ag (no c _ z rfl)];exact z) fun c xs z=>by rw[ag (no c _ z rfl)];exact z⟩
 .have h1:=(show WV X.prog X.w H s.heap a (.frz o' u) from I.hok a _ e).1
  rw[ho]at h1;cases h1;refine⟨o,es,ep,ho,ex,hd,lo,hz,.inr e,?_⟩;rw[AB e];exact I
def WR.thaw(I:WR X XG σ H s)(e:H a=some (.frz o u))(nf:∀o' u',X.H₀ a≠some (.frz o' u')):WR X XG σ (upd H a u) s:=by
 have na:∀b,H b=none->b≠a:=fun b n z=>by rw[z,e]at n;cases n
 have no:∀b w,H b=some w->(∀o x,w ≠ .frz o x)->b≠a:=fun b w q n z=>by rw[z,e]at q;cases q;exact n _ _ rfl
 have own:∀ {d:WN} c,H c=some (.own d)->upd H a u c=some (.own d):=fun c z=>by rw[ag (no c _ z (by intro _ _ y;cases y))];exact z
 have tup:∀c xs,H c=some (.tup xs)->upd H a u c=some (.tup xs):=fun c xs z=>by rw[ag (no c _ z (by intro _ _ y;cases y))];exact z
 refine⟨I.ok,I.os,I.bare,⟨I.base.keep,I.base.slot,fun b ob q n hx=>?_,I.base.there,fun b xs q=>tup b xs (I.base.tups b xs q),fun b ob x q=>?_,fun b ps q=>?_⟩,I.loc,I.cell,?_,fun x c ec=>?_,fun p hp=>?_,fun b ob q=>?_,I.len⟩
 .have h:=I.base.free b ob q n hx
  rw[ag (na b h)];exact h
 .have h:=I.base.frzs b ob x q
  by_cases eb:b=a
  .subst eb;exact Wa q (nf _ _)
  .rw[ag eb];exact h
 .obtain⟨m,h⟩:=I.base.tbls b ps q
  exact⟨m,by rw[ag (no b _ h (by intro _ _ z;cases z))];exact h⟩
 .rw[ag (na _ I.free)];exact I.free
 .have h:=I.freeC x c ec
  rw[ag (na _ h)];exact h
 .obtain⟨p1,p2,p3⟩:=I.pin p hp
  exact⟨p1,by rw[ag (na _ p2)];exact p2,p3⟩
 .by_cases eb:b=a
  .subst eb
   rw[aa]at q;cases q;exact(show WV X.prog X.w H s.heap b (.frz o u) from I.hok _ _ e).2.stay (fun _ _ _ z=>z) own tup
  .rw[ag eb]at q
   exact(I.hok b ob q).stay (fun _ _ _ z=>z) own tup
def Th(H H1:Hp)(P:Hp->Prop):Prop:=∃a o u,H1 a=some (.frz o u)/\((H a=some u/\isD u=true/\P (upd H1 a u))\/(H a=some (.frz o u)/\P H1))
def WR.th(I:WR X XG σ H s)(I1:WR X XG σ1 H1 s1)(h:Th H H1 P):∃H2,WR X XG σ1 H2 s1/\P H2:=by
 obtain⟨a,o,u,e1,⟨e2,hu,q⟩|⟨e2,q⟩⟩:=h
 .exact⟨_,I1.thaw e1 (fun o' u' z=>by rw[I.base.frzs _ _ _ z]at e2;cases e2;cases hu),q⟩
 .exact⟨_,I1,q⟩
def zH(I:WR X XG σ H s)(hu:isD u=true)(hd:o.data = .dict es ep)(e:H a=some (.frz o u)):s.heap.get? a=some o/\es.size=ke u/\∀i e,es[i]? = some e->∃x v,w6 H u i x v/\WX x e.key/\WX v e.val:=by
 obtain⟨ho,x⟩:=(show WV X.prog X.w H s.heap a (.frz o u) from I.hok a _ e);obtain⟨o',es',ep',ho',ex,hd',lo,hz,h⟩:=xa I hu x;rw[ho]at ho';cases ho';rw[hd]at hd';injection hd' with h2 h3
 subst h2;exact⟨ho,hz,h⟩
end
end L2
namespace L2
open PySem PySem.Spec PyProof.Rows
noncomputable abbrev Hx:List WO:=[.type "ValueError",.type "Exception",.type "BaseException",.type "object"]
noncomputable def Fb:List WO->Bool
 | .ref _::r=>Fb r
 |l=>l==Hx
section
variable{K:Wz}{h:WF}{C f:WN}
noncomputable def Kj(K:Wz)(C f:WN):Bool:=match K.lookup C with
 |some ⟨.type "type",_,.cls cd,sl⟩=>(match cd.mro,sl.toList with
  | .ref C'::bm,[_,_,_,_,some (.builtin n),_]=>(C'==C&&n == "ValueError.__new__" && !cd.hasDel)&&(PySem.W.tailIn K Hx bm&&PySem.W.nsOkIn K cd.ns&&PySem.W.nsIn K cd.ns "__init__" == some (some (.ref f)))
  |_,_=>false)
 |_=>false
end
section
variable{prog:WL}{w:WK}{A:WJ}{E:WO->WM->Prop}{h:WF}{g:Array GenState}{d:Drawn}{t:Nat}{os:OsState}
variable{nm q:Str}{C N:WN}{bs bm bmB:List WO}{hdct:Bool}{sn:List Str}{sub:List WO}{ab:Bool}{col:Option Bool}{dd:Option WN}{k0 k1 k2 k3 k5:Option WO}{B newId initId:String}
noncomputable def KY(h:WF)(C:WN)(rest:List WO):WF:=(h.push { cls:=.type "tuple",data:=.seq rest.toArray }).push { cls:=.ref C,data:=.fields #[.ref h.objs.size,.none,.none,.none,.bool false,.none] }
end
def Tp(H:Hp)(xs:List V)(Q:VK):Prop:=∀p H',H' p=some (.tup xs)->XA H H'->(WS H->WS H')->Q (.ref p) H'
end L2
namespace L2
open PySem PyProof.Rows
section
variable{prog:WL}{w:WK}{A:WJ}{E:WO->WM->Prop}{s:WM}{it d:WN}{i ep:Nat}{od:Obj}{es:Array YA}
def AT(lo:(d==ZU)=false)(ho:s.heap.get? d=some od)(ex:od.ExactDict)
 (q:Q (.ref s.heap.objs.size) { s with heap:=s.heap.push { cls:=.type "dict_items",data:=.fields #[.ref d] } }):WH (WG prog w) A (call (.builtin "dict.items") [.ref d]) Q E s:=by
 have ty:s.TypeIs (.ref d) "dict":=⟨od,ho,ex.1⟩;refine Zb PySem.F.slot_dict_items ty PySem.F.entry_dict_items ?_ (PySem.F.args_dict_items_1 _);unfold Builtin.«dict.items» Builtin.Dict.noArgs;refine zv (zv (wpAny_notOrdered_dict ty ?_));show WH _ _ (pure d) _ _ s;refine yy ?_;show WH _ _ (Xs d >>= _) _ _ s;unfold Xs;rw[Wg (by rw[lo];exact vV)];exact zv (yy (zv (ZZ (yy ⟨_,rfl,q⟩))))
def rS(hv:s.heap.IsItemsView v d)(ho:s.heap.get? d=some od)(hd:od.data = .dict es ep)
 (q:Q (.ref s.heap.objs.size) { s with heap:=s.heap.push { cls:=.type "dict_itemiterator",data:=.fields #[.none,.bool false,.ref d,.int 0 0,.int es.size 0,.int ep 0,.none,.none] } }):WH (WG prog w) A (pyIter (.ref v)) Q E s:=by
 obtain⟨ov,hov,hcv,hdv⟩:=id hv;refine wpAny_pyIter_slot hv.typeIs F.slot_dict_items_iter (Zb F.slot_dict_items_iter hv.typeIs F.entry_dict_items_iter ?_ (F.args_dict_items_iter_1 _));unfold Builtin.«dict_items.__iter__» Builtin.Dict_items.dictOf Builtin.Dict_items.newIterator;refine zv (yy (zv (zv (XJ hov hdv (x:=.ref d) rfl (yy (zv (zv (Yp ho hd (zv (Y9 ho hd ?_)))))))) ));simp only[show ZG "dict_itemiterator" = true by decide,if_true];refine ZZ (yy ⟨_,rfl,"dict_itemiterator",_,⟨_,Wx _ rfl,rfl⟩,Yq.lookup,by simpa [rawInt,Builtin.Dict_items.ownedTupleFields] using q⟩)
  (by simp only[sizeOk,Builtin.Dict_items.ownedTupleFields,yN,zc,sP,YM,tV];lia)
def DG(hit:XN s.heap it d i es.size ep ok ov)(hod:s.heap.get? d=some od)(hdd:od.data = .dict es ep)(hx:es[i]? = some e)
 (q:∀h',IsItemIterOut h' it d (i+1) es.size ep e.key e.val s.heap.objs.size->h'.get? s.heap.objs.size=some { cls:=.type "tuple",data:=.seq #[e.key,e.val] }->h'.objs.size=s.heap.objs.size+1 ->
  (∀b o,b≠it->s.heap.get? b=some o->h'.get? b=some o)->Q (some (.ref s.heap.objs.size)) { s with heap:=h' }):WH (WG prog w) A (pyNext (.ref it)) Q E s:=by
 obtain⟨hp,g,dr,tk,os⟩:=s;have ty:Shared.TypeIs ⟨hp,g,dr,tk,os⟩ (.ref it) "dict_itemiterator":=⟨_,hit,rfl⟩;unfold pyNext;refine zv (wpAny_attempt (wpAny_callSpecial?_slot (name:=zS "__next__") ty Yq (Zb Yq ty F.entry_dict_itemiterator_next ?_ (F.args_dict_itemiterator_next_1 _))));refine zv (yy (zv (zv ?_)))
 first|refine zv (Yv ty (yy (zv (YW hit rfl ?_))))|refine zv (YS ty (yy (zv (YW hit rfl ?_))))
 simp only[show ZG "dict_itemiterator" = true by decide,if_true];show WH _ _ (if (vv d==ZS)=true then _ else _) _ _ _;rw[Wg (show ¬ ((vv d==ZS)=true) from vV)];refine zv (yy (zv (Yp hod hdd ?_)));rw[Wg (by simp)];refine zv (yy (zv (Y9 hod hdd ?_)));rw[Wg (by simp)];refine yy ?_;have lt:i<es.size:=(Wm.mp hx).1;have ee:es[i]=e:=(Wm.mp hx).2;simp only[show ¬ ((i:Int)<0) from by lia,if_false,ZV,Wn lt];refine zv ?_
 first|refine zv (Yv ty (yy (zv (Y5 ty ?_))))|refine zv (YS ty (yy (zv (Y5 ty ?_))))
 show WH _ _ (setField (.ref it) 3 (rawInt ((i:Int)+1)) >>= _) _ _ ⟨hp,g,dr,tk,os⟩;refine zv (Y3 hit (by simp) fun a1 n1 b1=>?_)
 replace b1:Z4 it hp a1:=b1
 replace n1:XN a1 it d (i+1) es.size ep ok ov:=by
  have z:((i+1:Nat):Int)=(i:Int)+1:=by lia
  unfold XN;rw[z];simpa [rawInt] using n1
 have ty1:Shared.TypeIs ⟨a1,g,dr,tk,os⟩ (.ref it) "dict_itemiterator":=⟨_,n1,rfl⟩;refine zv (Z2 (zv (Y5 ty1 (zv (Y5 ty1 ?_)))));show WH _ _ (Builtin.Dict_items.pairFromOwner (.ref it) 6 es[i].key es[i].val) _ _ ⟨a1,g,dr,tk,os⟩;rw[ee];unfold Builtin.Dict_items.pairFromOwner;refine zv (wpAny_newTuple ?_);have n2:XN (a1.push { cls:=.type "tuple",data:=.seq #[e.key,e.val] }) it d (i+1) es.size ep ok ov:=Wy _ n1;generalize ha:a1.push { cls:=.type "tuple",data:=.seq #[e.key,e.val] }=a2 at n2;have z1:a1.objs.size=hp.objs.size:=b1.1;have il:it<hp.objs.size:=vN hit;have t2:a2.get? hp.objs.size=some { cls:=.type "tuple",data:=.seq #[e.key,e.val] }:=by rw[<- ha,<- z1];exact Wx _ rfl
 have z2:a2.objs.size=hp.objs.size+1:=by rw[<- ha,Heap.size_push,z1]
 have k2:∀b o,b≠it->hp.get? b=some o->a2.get? b=some o:=fun b o hb z=>by rw[<- ha];exact Wy _ (b1.extBut b o hb z)
 show WH _ _ (Builtin.Dict_items.ownedTupleIsFree (.ref it) >>= _) _ _ ⟨a2,g,dr,tk,os⟩;rw[z1];clear ha n1 b1 ty1 z1 a1;refine zv ?_;unfold Builtin.Dict_items.ownedTupleIsFree;refine zv (XJ n2 rfl (x:=.none) rfl (yy ?_));simp only[if_true];refine zv (XJ n2 rfl (x:=ok) rfl (zv (XJ n2 rfl (x:=ov) rfl (zv (Y3 n2 (by simp) fun a3 n3 b3=>?_)))))
 replace b3:Z4 it a2 a3:=b3
 replace n3:XN a3 it d (i+1) es.size ep e.key ov:=n3
 refine zv (Y3 n3 (by simp) fun a4 n4 b4=>?_)
 replace b4:Z4 it a3 a4:=b4
 replace n4:XN a4 it d (i+1) es.size ep e.key e.val:=n4
 refine zv (Y3 n4 (by simp) fun a5 n5 b5=>?_)
 replace b5:Z4 it a4 a5:=b5
 replace n5:IsItemIterOut a5 it d (i+1) es.size ep e.key e.val hp.objs.size:=n5
 refine zv (Y3 n5 (by simp) fun a6 n6 b6=>?_)
 replace b6:Z4 it a5 a6:=b6
 replace n6:IsItemIterOut a6 it d (i+1) es.size ep e.key e.val hp.objs.size:=n6
 have up:∀b o,b≠it->a2.get? b=some o->a6.get? b=some o:=fun b o hb z=>b6.extBut b o hb (b5.extBut b o hb (b4.extBut b o hb (b3.extBut b o hb z)));exact zv (wpAny_letGo (yy (yy ⟨_,rfl,yy (q a6 n6 (up _ _ (Nat.ne_of_gt il) t2) (by show a6.objs.size=hp.objs.size+1;rw[b6.1,b5.1,b4.1,b3.1,z2]) fun b o hb z=>up b o hb (k2 b o hb z))⟩)))
def wu(hh:A.handled=none)(hit:XN s.heap it d i es.size ep ok ov)(hod:s.heap.get? d=some od)(hdd:od.data = .dict es ep)(hx:es.size<=i)
 (q:∀h',Heap.ExtBut it s.heap h'->Q none { s with heap:=h' }):WH (WG prog w) A (pyNext (.ref it)) Q E s:=by
 have ty:s.TypeIs (.ref it) "dict_itemiterator":=⟨_,hit,rfl⟩;unfold pyNext;refine zv (wpAny_attempt (wpAny_callSpecial?_slot (name:=zS "__next__") ty Yq (Zb Yq ty F.entry_dict_itemiterator_next ?_ (F.args_dict_itemiterator_next_1 _))));refine zv (yy (zv (zv ?_)))
 first|refine zv (Yv ty (yy (zv (YW hit rfl ?_))))|refine zv (YS ty (yy (zv (YW hit rfl ?_))))
 simp only[show ZG "dict_itemiterator" = true by decide,if_true];show WH _ _ (if (vv d==ZS)=true then _ else _) _ _ s;rw[Wg (show ¬ ((vv d==ZS)=true) from vV)];refine zv (yy (zv (Yp hod hdd ?_)));rw[Wg (by simp)];refine zv (yy (zv (Y9 hod hdd ?_)));rw[Wg (by simp)];refine yy ?_;simp only[show ¬ ((i:Int)<0) from by lia,if_false,ZV,Array.getElem?_eq_none hx];refine zv ?_
 first|refine zv (Yv ty (yy ?_))|refine zv (YS ty (yy ?_))
 show WH _ _ (setField (.ref it) 2 .none >>= _) _ _ s;refine zv (wpAny_setField hit rfl (by simp) ?_);show WH _ _ (newExc (.type "StopIteration") [] >>= _) _ _ _;refine zv ?_;simp only[newExc,newTuple];refine zv (ZZ ?_ (by size_fits));refine zv (m:=firstArgMember _ _) (wpAny_of_eq (a:=ZS) (by first|rfl|(simp only[firstArgMember];rfl)) (ZZ ?_ (by size_fits)));simp only[raiseNew];refine zv (wpAny_handled ?_);rw[show A.in1.handled=none from hh];refine zv (yy (wpAny_throw ?_));refine zv (wpAny_isInstance (T:="StopIteration") (b:=true) ⟨_,Wx _ rfl,rfl⟩ isSubtype_stop (yy (q _ (((Z4.update ..).extBut.push _).push _))))
end
section
variable{X:Cx}{XG:List (WN × Obj)}{σ:St}{H:Hp}{s:WM}
def WR.turned1{h':WF}(I:WR X XG σ H s)(gi:s.heap.get? it=some oi)(hi:∃o,h'.get? it=some o/\o.isFreed=false)
 (k:∀b o,b≠it->s.heap.get? b=some o->h'.get? b=some o) (fi:j5 X XG H it):∃h2:WF,h2.objs.size=s.heap.objs.size/\WR X XG σ H { s with heap:=h2,toks:=t' }/\∀b o,h2.get? b=some o->h'.get? b=some o:=by
 obtain⟨o2,g2,z2⟩:=hi;refine⟨s.heap.update it fun _=>o2,by rw[Heap.size_update],I.turned (fun b o hb q=>(Ww _ _ (Wj hb)).trans q) fi.1 fi.2.1 fi.2.2.2.1 fi.2.2.2.2.1 fi.2.2.2.2.2,fun b o q=>?_⟩;by_cases b2:b=it
 .subst b2
  rw[Wv _ gi z2]at q;cases q;exact g2
 .rw[Ww _ _ (Wj b2)]at q
  exact k b o b2 q
noncomputable def Iti(a:WN)(o:Obj)(u:HO):It:=
 ⟨fun i H=>i<ke u/\H a=some (.frz o u),fun i H y H'=>∃p x v,H p=none/\y = .ref p/\w6 H u i x v/\H'=upd H p (.tup [x,v]),fun i H=>ke u<=i/\H a=some (.frz o u)⟩
def v8{P:WL}{w:WK}{K:Wz}{elts:List Expr}{cx:_}{pos:Pos}(a it:WN)(o:Obj)(es:Array YA)(ep:Nat)(u:HO)(hu:isD u=true)(hd:o.data = .dict es ep) :
 vy P w K (.Tuple elts cx pos) (Iti a o u) [it] it (fun i h=>∃ok ov,XN h it a i es.size ep ok ov) where
 mem:=by simp
 obj:=fun i h st b hb=>by
  have e:b=it:=by simpa using hb
  subst e;obtain⟨ok,ov,e⟩:=st;exact⟨_,e,fun v z=>by
   have z':XI _=Data.cell v:=z;cases z'⟩
 keep:=fun i h h' st k=>by
  obtain⟨ok,ov,e⟩:=st;exact⟨ok,ov,k it (by simp) _ e⟩
 item:=by
  intro X hP hw hK hc i XG s σ H E I hf st hg;subst hP hw hK;obtain⟨hi,hq⟩:=hg;obtain⟨ho,hz,hen⟩:=zH I hu hd hq;have fi:=hf it (by simp);obtain⟨ok,ov,st⟩:=st;have hx:es[i]? = some es[i]:=by simp[show i<es.size by lia]
  obtain⟨x,v,en,rx,rv⟩:=hen i _ hx;refine DG st ho hd hx fun h' n1 t1 z1 k1=>?_;obtain⟨h3,z3,I3,k3⟩:=I.turned1 (t':=s.toks) (h':=h') st ⟨_,n1,rfl⟩ k1 fi;have hn:=I.hok.fresh (ym s.heap.objs.size);have I4:WR X XG σ (upd H s.heap.objs.size (.tup [x,v])) { s with heap:=h',toks:=s.toks }:=
   I3.laid (t':=s.toks) k3 (Nat.le_of_eq z3) (show WV X.prog X.w _ h' _ (.tup [x,v]) from⟨by show 2<=WI;rw[tV];decide,[es[i].key,es[i].val],.cons rx (.cons rv .nil),⟨_,t1,rfl,0,rfl⟩⟩)
  have li:it<s.heap.objs.size:=vN st;have nH:upd H s.heap.objs.size (.tup [x,v]) it=H it:=ag (Zy li);refine⟨_,rfl,wpAny_letOwnedTupleGo_items (s:={ s with heap:=h' }) n1 fun h5 e5 s5=>?_⟩;have I5:WR X XG σ (upd H s.heap.objs.size (.tup [x,v])) { s with heap:=h5,toks:=s.toks }:=
   I4.turned (t':=s.toks) (fun b o hb q=>(s5.2 b hb).trans q) (nH.trans fi.1) fi.2.1 fi.2.2.2.1 fi.2.2.2.2.1 fi.2.2.2.2.2
  refine⟨.ref s.heap.objs.size,_,I5,rfl,⟨_,x,v,hn,rfl,en,rfl⟩,⟨_,_,e5⟩,fun b hb=>?_⟩;rw[zw.mp hb];exact nH.trans fi.1
 done:=by
  intro X hP hw hK hc i XG s σ H E I hf st hg;subst hP hw hK;obtain⟨hi,hq⟩:=hg;obtain⟨ho,hz,hen⟩:=zH I hu hd hq;have fi:=hf it (by simp);obtain⟨ok,ov,st⟩:=st;exact wu (I.ok.hd hc) st ho hd (by lia) fun h' eb=>⟨rfl,I.turned (t':=s.toks) (fun b o hb q=>eb b o hb q) fi.1 fi.2.1 fi.2.2.2.1 fi.2.2.2.2.1 fi.2.2.2.2.2⟩
 self:=fun _ _ s Q E st h=>by
  obtain⟨ok,ov,st⟩:=st;exact PySem.W.kcp_self st h
def zJ(td:TE):TI:=fun σ H R=>td σ H fun x H1=>∃b u,x = .ref b/\isD u=true/\Rd H1 b u/\∀o,(H1 b=some u\/H1 b=some (.frz o u))->R (Iti b o u) (upd H1 b (.frz o u))
def BM{o:Expr}{td:TE}{apos cpos tp:Pos}{elts:List Expr}{cx:_}(ho:PE X o td)
 (hbase:Yc o "items" X.env (eval o X.env)=eval o X.env:=by rfl) (hline:(apos.endLine==cpos.line)=true:=by rfl):PI X (.Tuple elts cx tp) (.Call (.Attribute o "items" apos) [] [] cpos) (zJ td):=by
 intro XG s σ H R I h;refine wpAny_Call_method0_late hbase hline (thn (ho XG s σ H _ I h) fun v s1 ⟨x,H1,I1,rx,b,u,ex,hu,hr,q⟩=>?_);subst ex;cases (show v=vv b from rx);obtain⟨oo,es,ep,hob,ex,hd,lo,hz,hor,I2⟩:=I1.freeze hu hr;refine⟨"dict","dict.items",Y1,PySem.F.slot_dict_items,PySem.F.type_dict_items,⟨oo,hob,ex.1⟩,fun a e=>by cases e;exact⟨oo,hob,ex.2.1⟩,Z5 rfl (PySem.evalArgs_none (AT lo hob ex ?_))⟩;refine rS (s:={ s1 with heap:=_ }) ⟨_,Wx _ rfl,rfl,rfl⟩ (Wy _ hob) hd ?_;have I3:WR X XG σ (upd H1 b (.frz oo u)) { s1 with heap:=s1.heap.push { cls:=.type "dict_items",data:=.fields #[.ref b] } }:=I2.kept (t':=s1.toks) fun c ob e=>Wy _ e;refine⟨_,[_],_,Iti b oo u,_,rfl,I3.kept (t':=s1.toks) (fun c ob e=>Wy _ e),v8 b _ oo es ep u hu hd,⟨_,_,Wx _ rfl⟩,fun c hc=>?_,q oo hor⟩;rw[zw.mp hc];exact I3.fpOk (ym _) (I3.hok.fresh (ym _))
end
section
variable{prog:WL}{w:WK}{A:WJ}{E:WO->WM->Prop}{s:WM}{d:WN}
def FU{K:Type}[DecidableEq K]{knd:KeyKind prog w K}{XB:List (K × WO)}{k:K}{key dflt:WO}{Q:WO->WM->Prop}(hkey:knd.is k key=true)(hm:s.heap.DictOf knd d XB)(hv:valueAt XB k=none)(hsz:XB.length<=WI)
 (q:∀h',h'.DictOf knd d (stored XB k dflt)->Z4 d s.heap h'->Q dflt { s with heap:=h',toks:=s.toks+1 }):WH (WG prog w) A (Xk d key dflt) Q E s:=by
 obtain⟨o,es,ep,ho,hc,hd,hk,hp,hn⟩:=id hm;have hes:es.size<=WI:=by have e1:=hp.length;rw[ZY]at e1;lia
 have hidx:(es.findIdx? fun e=>knd.is k e.key)=XB.findIdx? fun kv=>decide (kv.1=k):=by rw[<- hp.findIdx k];obtain⟨l⟩:=es;simp
 have hany:(XB.any fun kv=>decide (kv.1=k))=false:=by
  cases c:XB.any fun kv=>decide (kv.1=k) with
  |false=>rfl
  |true=>
   exfalso
   unfold valueAt at hv;rw[Option.map_eq_none_iff,Wo]at hv;obtain⟨kv,m,e⟩:=YY.mp c;exact hv kv m e
 have hno:(XB.findIdx? fun kv=>decide (kv.1=k))=none:=by
  rw[List.findIdx?_eq_none_iff];intro x hx;cases c:decide (x.1=k) with
  |false=>rfl
  |true=>rw[YY.mpr ⟨x,hx,c⟩]at hany;cases hany
 have hnot:k∉XB.map (·.1):=not_mem_of_findIdx_none hno;unfold Xk
 try with_reducible refine Z2 ?_
 refine zv (knd.pyHash hkey (zv (wpAny_dictFind_of (s:={ s with toks:=s.toks+1 }) hkey ho hd hk ?_)));rw[hidx,hno];refine zv (wpAny_rule (zv (wpAny_updateDictKeys (hz:=hes) (s:={ s with toks:=s.toks+1 }) ho hd (yy (q _ ⟨_,_,ep+1,Wv _ ho (Obj.isFreed_of_dict (Xh hd _)),hc.mapDictKeys _,Xh hd _,hk.push hkey _,?_,?_⟩ (Z4.update ..))))))
 .rw[stored,Wg (by rw[hany];decide)]
  have:=hp.append hkey (knd.hash k) dflt;obtain⟨l⟩:=es
  simpa using this
 .rw[stored,Wg (by rw[hany];decide),yB]
  exact ZW.mpr ⟨hn,by simp,fun a ha b hb=>by simp at hb;rw[hb];rintro rfl;exact hnot ha⟩
def xP{K:Type}[DecidableEq K]{knd:HeapKind prog w K}{a:WN}{xs:List (K × WN × WO)}{k:K}{dflt:WO}{Q:WO->WM->Prop}(hu:knd.room A)(hkey:knd.is s.heap k a)(hm:s.heap.DictOfH knd d xs)(hsz:xs.length<=WI)
 (q1:∀p,atKey xs k=some p->Q p.2 { s with toks:=s.toks+knd.draws k })
 (q2:atKey xs k=none->∀h',h'.DictOfH knd d (storedH xs k a dflt)->Z4 d s.heap h'->Q dflt { s with heap:=h',toks:=s.toks+knd.draws k }):WH (WG prog w) A (Xk d (.ref a) dflt) Q E s:=by
 obtain⟨o,es,ep,ho,hc,hd,he,his,hn⟩:=id hm;unfold Xk
 try with_reducible refine Z2 ?_
 refine zv (knd.pyHash hu hkey (zv (wpAny_dictFind_heap (s:={ s with toks:=s.toks+knd.draws k }) hu hkey ho hd he his hn ?_ ?_)))
 .intro hno
  have hnot:k∉xs.map (·.1):=not_mem_keys_of_get hno;have en:=atKey_none_of_get hno;refine zv (wpAny_rule (zv (wpAny_updateDictKeys (hz:=by have e:=size_of_entries he;lia) (s:={ s with toks:=s.toks+knd.draws k }) ho hd (yy (q2 en _ ⟨_,_,ep+1,Wv _ ho (Obj.isFreed_of_dict (Xh hd _)),hc.mapDictKeys _,Xh hd _,?_,?_,?_⟩ (Z4.update ..))))))
  .rw[storedH_new en];simp[he,entryOfKey]
  .rw[storedH_new en]
   intro x hx;obtain hx|hx:=yf.mp hx
   .exact knd.keeps (his x hx) ho hd (Z4.update ..)
   .rw[zw.mp hx];exact knd.keeps hkey ho hd (Z4.update ..)
  .rw[storedH_new en,yB]
   exact ZW.mpr ⟨hn,by simp,fun a ha b hb=>by simp at hb;rw[hb];rintro rfl;exact hnot ha⟩
 .intro j p hj
  refine zv (Yp (s:={ s with toks:=s.toks+knd.draws k }) ho hd ?_);rw[entry_at he j,hj];exact zv (wpAny_rule (yy (q1 p (atKey_of_get hn hj))))
def m4{key dflt:WO}{Q:WO->WM->Prop}(lo:(d==ZU)=false)(ty:s.TypeIs (.ref d) "dict")(h:∀E':WO->WM->Prop,WH (WG prog w) A.in1 (Xk d key dflt) Q E' s):WH (WG prog w) A (call (.builtin "dict.setdefault") [.ref d,key,dflt]) Q E s:=by
 refine Zb PySem.F.slot_dict_setdefault ty PySem.F.entry_dict_setdefault ?_ (PySem.F.args_dict_setdefault_3 _ _ _);unfold Builtin.«dict.setdefault» Builtin.Dict.keyAndDefault;refine zv (zv (wpAny_notOrdered_dict ty ?_));show WH _ _ (pure (d,key,some dflt)) _ _ s;refine yy ?_;show WH _ _ (if (d==ZU)=true then _ else (Xk d key dflt >>= _)) _ _ s;rw[Wg (by rw[lo];exact vV)];exact zv (Zi (h _) (fun v s' z=>yy ⟨v,rfl,z⟩) fun _ _ z=>z)
end
section
variable{X:Cx}{o e f:Expr}{apos cpos:Pos}{td ty tx:TE}
def Bf(td ty tx:TE):TE:=fun σ H Q=>td σ H fun x H1=>∃a,x = .ref a/\IsD H1 a/\ty σ H1 fun y H2=>tx σ H2 fun z H3=>(∃v,DGet H3 a y (some v)/\Q v H3)\/(DGet H3 a y none/\∃H4,DPut H3 a y z H4/\Q z H4)
def xm(hu:X.A.units+1<cLine)(ho:PE X o td)(he:PE X e ty)(hf:PE X f tx)(m:M2 X o "setdefault" apos e f cpos):PE X (.Call (.Attribute o "setdefault" apos) [e,f] [] cpos) (Bf td ty tx):=by
 intro XG s σ H Q I h;refine wpAny_Call_method m.base m.few m.line Y1 PySem.F.slot_dict_setdefault PySem.F.type_dict_setdefault (thn (ho XG s σ H _ I h) fun u s1 ⟨x,H1,I1,rx,a,ex,d,q1⟩=>?_);subst ex;obtain rfl:u=vv a:=rx;obtain⟨t1,t2,_⟩:=vj I1 d;refine⟨t1,t2,?_⟩;rw[m.trees];refine Z5 rfl (YG (YU (thn (he XG s1 σ H1 _ I1 q1) fun iv s2 ⟨y,H2,I2,ry,q2⟩=>
  YU (thn (hf XG s2 σ H2 _ I2 q2) fun fv s3 ⟨z,H3,I3,rz,q3⟩=>Calls.spliced_nil ?_))))
 obtain⟨v,g,q⟩|⟨g,H4,p,q⟩:=q3
 .obtain⟨XB,k,er,ey,l⟩|⟨XB,k,b,er,ey,eb,l⟩:=g
  .subst ey
   obtain⟨zz,lo,vs,rel,dd⟩:=lJ I3.hok er;obtain⟨v',hv',rv⟩:∃v',valueAt vs k=some v'/\WX v v':=by
    have r:=rel.val k;rw[<- l]at r;cases c:valueAt vs k with
    |none=>rw[c]at r;exact(show False from r).elim
    |some v'=>rw[c]at r;exact⟨v',rfl,r⟩
   refine m4 lo dd.typeIs fun E'=>wpAny_dictSetDefault_of (f:=valueAt vs) (kc ry) dd.mapOf (fun v2 e2=>?_) (fun e2=>by rw[hv']at e2;cases e2) (hz:=?_)
   .rw[hv']at e2;cases e2
    exact⟨v,H3,I3.tok _,rv,q⟩
   .obtain⟨o1,es,ep,h1,_,h3,_,hp,_⟩:=dd
    intro o2 es2 ep2 g1 g2;rw[h1]at g1;cases g1;rw[h3]at g2;injection g2 with g2 _
    subst g2;have e1:=hp.length;rw[ZY]at e1;rw[rel.length]at zz;lia
  .subst ey
   cases (show iv=vv b from ry);obtain⟨zz,lo,xs,rel,dd⟩:=lO I3.hok er;have r:=rel.val k;rw[<- l]at r;refine m4 lo dd.typeIs fun E'=>xP (Yx hu) (ic I3.hok eb) dd (by rw[<- Xv rel];exact zz) (fun p e2=>?_) (fun e2=>by rw[e2]at r;exact(show False from r).elim);rw[e2]at r;exact⟨v,H3,I3.tok _,r,q⟩
 .obtain⟨XB,k,er,ey,hl,eH⟩|⟨XB,k,b,er,ey,eb,hl,eH⟩:=p
  .subst ey eH
   obtain⟨zz,lo,vs,rel,dd⟩:=t8 I3.hok er;have hv:valueAt vs k=none:=by
    obtain⟨kvs2,k2,er2,ey2,l2⟩|⟨_,_,b2,_,ey2,_,_⟩:=g
    .have ek:=Bj ey2
     subst ek;obtain er2|⟨o2,er2⟩:=er2
     .rw[er]at er2;cases er2
      have r:=rel.val k;rw[<- l2]at r;exact RelO.none_of r
     .rw[er]at er2;cases er2
    .cases k <;> cases ey2
   have hz:vs.length<=WI:=by rw[<- rel.length];exact zz
   have hl2:(bi XB k z).length<=WI:=by have:=eJ XB k z;lia
   refine m4 lo dd.typeIs fun E'=>FU (kc ry) dd hv hz fun h' dd' hs=>⟨z,_,?_,rz,q⟩;have hx:∃q,h'.get? a=some q:=let ⟨q,_,_,hq,_⟩:=dd';⟨q,hq⟩;exact jZ I3 (by rw[er];exact ZF) hs hx (v6 hl2 lo (rel.put k rz) dd')
  .subst ey eH
   cases (show iv=vv b from ry);obtain⟨zz,lo,xs,rel,dd⟩:=BS I3.hok er;have hv:atKey xs k=none:=by
    obtain⟨kvs2,k2,er2,ey2,l2⟩|⟨kvs2,k2,b2,er2,ey2,eb2,l2⟩:=g
    .cases k2 <;> cases ey2
    .cases ey2
     rw[eb]at eb2;injection eb2 with eb2;injection eb2 with eb2
     have ek:=r8 eb2;subst ek;obtain er2|⟨o2,er2⟩:=er2
     .rw[er]at er2;cases er2
      have r:=rel.val k;rw[<- l2]at r;exact Option.map_eq_none_iff.mp (RelO.none_of r)
     .rw[er]at er2;cases er2
   have hl2:(bi XB k z).length<=WI:=by have:=eJ XB k z;lia
   refine m4 lo dd.typeIs fun E'=>xP (Yx hu) (ic I3.hok eb) dd (by rw[<- Xv rel];exact zz) (fun p e2=>by rw[hv]at e2;cases e2) fun _ h' dd' hs=>⟨z,_,?_,rz,q⟩;obtain⟨qo,es,ep,hq,h2,h3,h4,_,h5⟩:=dd';refine jZ I3 (by rw[er];exact ZF) hs ⟨qo,hq⟩ ⟨hl2,lo,_,(rel.put k eb rz).keeps fun c ys ec=>?_,qo,es,ep,hq,h2,h3,h4,h5⟩;rw[ag (Eu ec er (fun z=>nomatch z))];exact ec
end
namespace Srt
end Srt
open Lean Meta Simp
end L2
namespace L2
section
variable{κ:Type}[DecidableEq κ]
def jO{XB:List (κ × V)}{k:κ}{v:V}(h:bw XB k=some v):(k,v)∈XB:=by
 unfold bw at h;obtain⟨e,he,rfl⟩:=Zn.mp h;have h1:=List.find?_some he;have h2:=List.mem_of_find?_eq_some he;have h3:=of_decide_eq_true h1;subst h3;exact h2
def wL{XB:List (κ × V)}{k:κ}(h:bw XB k=none){v:V}:(k,v)∉XB:=fun m=>by
 unfold bw at h;have h1:=Wo.mp (Option.map_eq_none_iff.mp h) _ m;exact h1 (We rfl)
def Gb{XB:List (κ × V)}(nd:(XB.map (·.1)).Nodup)(h:(k,v)∈XB)(h':(k,v')∈XB):v=v':=by
 induction XB with
 |nil=>cases h
 |cons p r ih=>
  rw[xY,yE]at nd;obtain e|m:=zk.mp h
  .obtain e'|m':=zk.mp h'
   .rw[<- e]at e';exact(Zg e').2.symm
   .exact Wa (yI.mpr ⟨_,m',rfl⟩) (by rw[<- e]at nd;exact nd.1)
  .obtain e'|m':=zk.mp h'
   .exact Wa (yI.mpr ⟨_,m,rfl⟩) (by rw[<- e']at nd;exact nd.1)
   .exact ih nd.2 m m'
def iK{XB:List (κ × V)}{k:κ}{v:V}{x:κ × V}:x∈bi XB k v↔x=(k,v)\/(x∈XB/\x.1≠k):=by
 unfold bi;split
 .rename_i h
  obtain⟨e,me,he⟩:=YY.mp h;have he:=of_decide_eq_true he;constructor
  .intro m
   obtain⟨z,mz,rfl⟩:=yI.mp m;split
   .rename_i q;exact .inl (by rw[q])
   .rename_i q;exact .inr ⟨mz,q⟩
  .rintro(rfl|⟨m,n⟩)
   .exact yI.mpr ⟨e,me,by rw[Wf he,he]⟩
   .exact yI.mpr ⟨x,m,by rw[Wg n]⟩
 .rename_i h
  rw[yf,zw];constructor
  .rintro(m|e)
   .refine .inr ⟨m,fun z=>h (YY.mpr ⟨x,m,We z⟩)⟩
   .exact .inl e
  .rintro(e|⟨m,_⟩)
   .exact .inr e
   .exact .inl m
def El(XB:List (κ × V))(k:κ)(v:V):(bi XB k v).map (·.1)=if (XB.any fun kv=>decide (kv.1=k))=true then XB.map (·.1) else XB.map (·.1)++[k]:=by
 unfold bi;split
 .rw[uR]
  apply lW;intro e _;show(if e.1=k then (e.1,v) else e).1=e.1;split <;> rfl
 .rw[yB];rfl
def EZ{XB:List (κ × V)}(nd:(XB.map (·.1)).Nodup):((bi XB k v).map (·.1)).Nodup:=by
 rw[El];split
 .exact nd
 .rename_i h
  rw[ZW];refine⟨nd,by simp,fun x mx y my=>?_⟩;rw[zw.mp my];rintro rfl;obtain⟨e,me,rfl⟩:=yI.mp mx;exact h (YY.mpr ⟨e,me,We rfl⟩)
def jh(XB:List (κ × V))(k:κ)(v:V):(bi XB k v).length<=XB.length+1:=by
 unfold bi;split
 .rw[zm];lia
 .rw[zc];exact ym _
end
structure Qr where
 d:Int
 a:List Nat
 p:Int
 b:List Nat
 q:Int
abbrev Wt:=Int × Int
noncomputable def hit(r:Qr)(x y:List Nat):Option Wt:=if r.a=x/\r.b=y then some (r.p,r.q) else if r.a=y/\r.b=x then some (r.q,r.p) else none
noncomputable def KO(r:Qr)(x y:List Nat)(D:Int)(o:Option Wt):Option Wt:=if r.d=D then (hit r x y).or o else o
noncomputable def val(R:List Qr)(x y:List Nat)(D:Int):Option Wt:=R.foldl (fun o r=>KO r x y D o) none
def oJ(R:List Qr):Prop:=∀r∈R,r.a≠r.b
end L2
namespace L2
open PySem PyProof.Rows
def Bi(tk tv:TE):TE:=fun σ H Q=>∀p,H p=none->tk σ (upd H p (.dK [])) fun x H1=>tv σ H1 fun y H2=>H2 p=some (.dK [])/\∃XB:List (Key × V),[(x,y)]=XB.map (fun kv=>(kV kv.1,kv.2))/\XB.length<=15/\Q (.ref p) (upd H2 p (.dK (dZ [] XB)))
def Af(hk:PE X k tk)(hv:PE X v tv):PE X (.Dict [some k] [v] pos) (Bi tk tv):=fun XG s σ H Q I h=>wT (trs:=[(tk,tv)]) (fZ hk hv wB) rfl rfl (by simp) (show 1<=15 by decide) XG s σ H Q I h
open Lean Meta Simp
end L2
namespace L2
section
variable{N:Type}{A:N->N->Prop}{g:N}
def Wk(A:N->N->Prop)(g:N):Nat->N->Prop
 |0,x=>x=g
 |k+1,x=>∃y,Wk A g k y/\A y x
def Far(A:N->N->Prop)(g:N)(k:Nat)(x:N):Prop:=Wk A g k x/\∀j,j<k -> ¬ Wk A g j x
end
section
variable{A:List Nat->List Nat->Prop}{g:List Nat}
def Nx(A:List Nat->List Nat->Prop)(g x y:List Nat):Prop:=∃k,Far A g (k+1) x/\Far A g k y/\A x y/\∀z,Far A g k z->A x z -> ¬ z<y
def Chn(A:List Nat->List Nat->Prop)(g:List Nat):List (List Nat)->Prop
 | []=>False
 | [x]=>x=g
 |x::y::r=>Nx A g x y/\Chn A g (y::r)
end
section
variable{N:Type}{A:N->N->Prop}{g:N}
def Up(A:N->N->Prop)(g:N)(k:Nat)(F:List N)(x:N)(n:Nat):Prop:=(n<=k/\Far A g n x)\/(n=k+1/\x∈F)
end
def pr(r:Qr)(x y:List Nat):Prop:=(r.a=x/\r.b=y)\/(r.a=y/\r.b=x)
def Lk(R:List Qr)(d:Int)(x y:List Nat):Prop:=∃r∈R,r.d<=d/\pr r x y
def Cov(R:List Qr)(C:List (List Nat)):Prop:=∀r∈R,r.a∈C/\r.b∈C
structure SD(m:List (Key × V))(P:List Nat->Nat->Prop):Prop where
 nd:(m.map (·.1)).Nodup
 to:∀k v,(k,v)∈m->∃(x:List Nat) (n:Nat),k = .inr ⟨⟨x⟩⟩/\v = .int n/\P x n
 fr:∀x (n:Nat),P x n->((.inr ⟨⟨x⟩⟩:Key),V.int n)∈m
noncomputable def nms(R:List Qr):List (List Nat):=R.flatMap fun r=>[r.a,r.b]
def Rows(R:List Qr)(C:List (List Nat)):Prop:=∀r∈R,(0<=r.d/\r.d<=146096)/\r.a∈C/\r.b∈C/\r.a≠r.b/\(1<=r.p/\r.p<=1000000000)/\1<=r.q/\r.q<=1000000000
end L2
namespace L2
open PySem PyProof.Rows
section
variable{P:WL}{w:WK}{A:WJ}{E:WO->WM->Prop}{s:WM}
abbrev skd(P:WL)(w:WK):=PySem.strKind P w
def KS(P:WL)(w:WK)(h:WF)(a:WN)(ls:List (List Nat))(ld:Bool):Prop:=∃o es ep t,h.get? a=some o/\o.ExactSet/\o.data = .set es ep t/\ElemsOf (skd P w) es.toList/\es.size<scanBound/\t.fits es.size=true/\t.led=ld/\(0<es.size->t.plain=false)/\(es.toList.map fun e=>iY e.2).Nodup/\∀l,l∈es.toList.map (fun e=>iY e.2)↔l∈ls
end
section
variable{P:WL}{w:WK}{A:WJ}{E:WO->WM->Prop}{s:WM}{a:WN}{ls:List (List Nat)}
def KZ(ls:List (List Nat))(vs:List WO):Prop:=(∀v∈vs,IsS v)/\(vs.map iY).Nodup/\(∀l,l∈vs.map iY↔l∈ls)/\vs.length<scanBound
end
section
variable{X:Cx}
def BH(te:TE):TE:=fun σ H Q=>te σ H fun v H1=>Th H H1 (Q v)\/Q v H1
def zO(he:PE X e te):PE X e (BH te):=by
 intro XG s σ H Q I h;refine thn (he XG s σ H _ I h) fun u s1 ⟨v,H1,I1,r,q⟩=>?_;obtain q|q:=q
 .obtain⟨H2,I2,q2⟩:=I.th I1 q
  exact⟨v,H2,I2,r,q2⟩
 .exact⟨v,H1,I1,r,q⟩
def Jt(b:WN)(o:Obj)(u:HO)(P:WN->Nat->List V->Hp->Prop)
 (h0:∀D,H1 D=none->P D 0 [] (upd H1 D (.lst []))) (hD:∀D i ys H',P D i ys H'->H' D=some (.lst ys)/\H' b=some (.frz o u)/\ys.length<=i) (hz:ke u<WI)
 (hs:∀D i x v ys H' r (zs:St) (N1:VK) (N0:Hp->Prop),i<ke u->w6 H' u i x v->H' r=none->P D i ys H'->zs.length=n->(∀v H6,H6 D=some (.lst ys)->P D (i+1) (ys++[v]) (upd H6 D (.lst (ys++[v])))->N1 v H6)->(∀H6,P D (i+1) ys H6->N0 H6) ->
  g (.ref r) (zs++ks.map fun k=>(σ[k]?).join) (upd H' r (.tup [x,v])) fun σ4 H4=>(∃zs4:St,zs4.length=n/\σ4=zs4++ks.map fun k=>(σ[k]?).join)/\tt σ4 H4 fun b H5=>if b=true then te σ4 H5 N1 else N0 H5)
 (hd:∀D ys H',P D (ke u) ys H'->Q (.ref D) H'):CEl (Iti b o u) n g ks tt te σ H1 Q:=by
 intro D hDn;refine⟨fun i m ys H'=>m=ke u-i/\i<=ke u/\P D i ys H',⟨_,rfl,rp _,h0 D hDn⟩,?_⟩;rintro i m ys H' ⟨rfl,hi,p⟩;obtain⟨d1,d2,d3⟩:=hD D i ys H' p;refine⟨d1,?_⟩;obtain lt|ge:=Yu i (ke u)
 .refine .inr ⟨⟨lt,d2⟩,?_⟩
  rintro y H3 ⟨r,x,v,hr,rfl,hx,rfl⟩ zs hzs;exact hs D i x v ys _ r zs _ _ lt hx hr p hzs (fun v H6 h6 p6=>⟨h6,by lia,_,by lia,rfl,lt,p6⟩) fun H6 p6=>⟨_,by lia,rfl,lt,p6⟩
 .obtain rfl:i=ke u:=XR hi ge
  exact .inl ⟨⟨ym _,d2⟩,hd D ys H' p⟩
def cmI{K:Wz}{ks:List Nat}{tt:TT}{te:TE}{σ:St}{H H1:Hp}{Q:VK}(b:WN)(XB:List (Key × V))(p:V->V->Bool)(f:V->V->V)(sm:XA H H1)(hb:H1 b=some (.dK XB))(hz:XB.length<WI)
 (hp:∀k v,(k,v)∈XB->∀G (R:Bool->Hp->Prop),R (p (kV k) v) G->tt (some (kV k)::some v::ks.map fun k=>(σ[k]?).join) G R)
 (hf:∀k v,(k,v)∈XB->p (kV k) v=true->∀G (R:VK),R (f (kV k) v) G->te (some (kV k)::some v::ks.map fun k=>(σ[k]?).join) G R)
 (q:∀D H2,XA H H2->H D=none->H2 D=some (.lst ((XB.filter fun e=>p (kV e.1) e.2).map fun e=>f (kV e.1) e.2))->Q (.ref D) H2) :
 ∃c u,b=c/\isD u=true/\Rd H1 c u/\∀o,(H1 c=some u\/H1 c=some (.frz o u))->CEl (Iti c o u) 2 (DQ K 2 (wK (fS 0) (wK (fS 1) Gv))) ks tt te σ (upd H1 c (.frz o u)) fun v H2=>Th H H2 (Q v)\/Q v H2:=by
 refine⟨b,.dK XB,rfl,rfl,.inl hb,fun o _=>Jt b o (.dK XB) (fun D i ys G=>G D=some (.lst ys)/\G b=some (.frz o (.dK XB))/\H D=none/\D≠b/\(∀c z,c≠b->H c=some z->G c=some z)/\ys=((XB.take i).filter fun e=>p (kV e.1) e.2).map fun e=>f (kV e.1) e.2) ?_ ?_ hz ?_ ?_⟩
 .intro D hD
  have nb:D≠b:=fun z=>by rw[z,aa]at hD;cases hD
  rw[ag nb]at hD;refine⟨aa,(ag (Wj nb)).trans aa,sm.free hD,nb,fun c z cb e=>?_,rfl⟩;rw[ag (aM (sm _ _ e) hD),ag cb];exact sm _ _ e
 .rintro D i ys G ⟨g1,g2,_,_,_,rfl⟩
  refine⟨g1,g2,?_⟩;rw[zm];exact r9 (Zj _ _) (by rw[qF];lia)
 .rintro D i x v ys G r zs N1 N0 hi ⟨k,hk,rfl⟩ hr ⟨g1,g2,hD,nb,kp,rfl⟩ hzs n1 n0
  obtain⟨z1,z2,rfl⟩:=ex2 hzs;have mk:=wt hk;have et:XB.take (i+1)=XB.take i++[(k,v)]:=by rw[Xj,hk];rfl
  rw[et,Zp]at n1 n0;have rD:r≠D:=fun z=>by rw[z,g1]at hr;cases hr
  have rb:r≠b:=fun z=>by rw[z,g2]at hr;cases hr
  have gD:(upd G r (.tup [kV k,v])) D=some (.lst (((XB.take i).filter fun e=>p (kV e.1) e.2).map fun e=>f (kV e.1) e.2)):=(ag (Wj rD)).trans g1;have gb:(upd G r (.tup [kV k,v])) b=some (.frz o (.dK XB)):=(ag (Wj rb)).trans g2;have gk:∀c z,c≠b->H c=some z->(upd G r (.tup [kV k,v])) c=some z:=fun c z cb e=>by
   have:=kp c z cb e;rw[ag (aM this hr)];exact this
  refine⟨r,_,rfl,aY aa,rfl,_,_,rfl,_,_,rfl,rfl,⟨[some (kV k),some v],rfl,rfl⟩,hp k v mk _ _ ?_⟩;cases c:p (kV k) v with
  |true=>
   rw[Wf rfl];refine hf k v mk c _ _ (n1 _ _ gD ⟨aa,(ag (Wj nb)).trans gb,hD,nb,fun c' z cb e=>?_,?_⟩)
   .rw[ag (aM e hD)];exact gk c' z cb e
   .rw[tR (by exact c),Ym,yB];rfl
  |false=>
   rw[Wg vV];refine n0 _ ⟨gD,gb,hD,nb,gk,?_⟩;rw[tK (by rw[c];decide),Ym,Zs]
 .rintro D ys G ⟨g1,g2,hD,nb,kp,rfl⟩
  have e1:XB.take (ke (.dK XB))=XB:=Zm (ym _);rw[e1]at g1;cases hH:H b with
  |none=>exact .inr (q D G (fun c z e=>kp c z (aM e hH) e) hD g1)
  |some z=>
   have ez:z = .dK XB:=by have:=sm _ _ hH;rw[hb]at this;exact(Zt this).symm
   subst ez;refine .inl ⟨b,o,.dK XB,g2,.inl ⟨hH,rfl,q D _ (fun c z e=>?_) hD ((ag nb).trans g1)⟩⟩;by_cases cb:c=b
   .rw[cb,aa,<- e,cb,hH]
   .rw[ag cb];exact kp c z cb e
def Hl(h:td σ H fun x H1=>∃b u,x = .ref b/\isD u=true/\Rd H1 b u/\∀o,(H1 b=some u\/H1 b=some (.frz o u))->CEl (Iti b o u) n g ks tt te σ (upd H1 b (.frz o u)) fun v H2=>Th H H2 (Q v)\/Q v H2):BH (fG (zJ td) n g ks tt te) σ H Q:=h
end
end L2
namespace L2
open PySem
noncomputable def kI:Key->Int
 | .inl i=>i
 | .inr _=>0
noncomputable def vI:V->Int
 | .int i=>i
 |_=>0
noncomputable def sE(P:Int->Bool):List (Key × V)->Int
 | []=>0
 |e::m=>(if P (kI e.1)=true then vI e.2 else 0)+sE P m
theorem wo(P:Int->Bool):∀m:List (Key × V),((m.filter fun e=>P (kI e.1)).map fun e=>vI e.2).sum=sE P m
 | []=>rfl
 |e::m=>by
  by_cases c:P (kI e.1)=true
  .rw[tR (by exact c),xY,Yb,wo P m,sE,Wf c]
  .rw[tK (by exact c),wo P m,sE,Wg c,Yj]
theorem BR(P:Int->Bool):∀m l:List (Key × V),sE P (m++l)=sE P m+sE P l
 | [],l=>by simp[sE]
 |e::m,l=>by rw[Yy,sE,sE,BR P m l,Z3]
theorem AI(P:Int->Bool)(d x g:Int):∀m:List (Key × V),(m.map (·.1)).Nodup->(.inl d,.int g)∈m->sE P (m.map fun kv=>if kv.1=(.inl d:Key) then (kv.1,V.int (g+x)) else kv)=sE P m+if P d=true then x else 0
 | [],_,h=>nomatch h
 |e::m,nd,h=>by
  rw[xY]at nd;obtain⟨n1,n2⟩:=yE.mp nd;rw[xY,sE,sE];by_cases c:e.1 = .inl d
  .have ee:e=(.inl d,.int g):=by
    obtain h|h:=zk.mp h
    .exact h.symm
    .exact Wa (xW (f:=(·.1)) h) (by rw[<- c];exact n1)
   have id:m.map (fun kv=>if kv.1=(.inl d:Key) then (kv.1,V.int (g+x)) else kv)=m:=by
    conv=>rhs;rw[<- Ye m]
    refine lW fun kv mk=>Wg fun z=>n1 ?_;rw[c,<- z];exact xW mk
   rw[id,Wf c,ee];show(if P d=true then g+x else 0)+_=(if P d=true then g else 0)+_+_;split <;> lia
  .have hm:(.inl d,.int g)∈m:=(zk.mp h).resolve_left fun z=>c (by rw[<- z])
   rw[Wg c,AI P d x g m n2 hm,Z3]
noncomputable def gM(m:List (Key × V))(d:Int):Int:=match bw m (.inl d) with
 |some v=>vI v
 |none=>0
def IntD(m:List (Key × V)):Prop:=∀k v,(k,v)∈m->∃D a,k = .inl D/\v = .int a
def HL(P:Int->Bool)(nd:(m.map (·.1)).Nodup)(hi:IntD m)(d x:Int):sE P (bi m (.inl d) (.int (gM m d+x)))=sE P m+if P d=true then x else 0:=by
 unfold bi gM;rw[fF];cases e:bw m (.inl d) with
 |none=>
  rw[Wg (by decide),BR];show _+((if P d=true then 0+x else 0)+0)=_;rw[Yj,ZQ]
 |some v=>
  rw[Wf (show(some v).isSome=true from rfl)];obtain⟨D,g,_,rfl⟩:=hi _ _ (jO e);exact AI P d x g m nd (jO e)
def IntD.put(hi:IntD m)(d x:Int):IntD (bi m (.inl d) (.int x)):=fun k v mk=>by
 obtain e|⟨mk,_⟩:=iK.mp mk
 .obtain⟨rfl,rfl⟩:=Zg e;exact⟨d,x,rfl,rfl⟩
 .exact hi k v mk
abbrev PR:=Int × List Nat × List Nat × Int
noncomputable def sR(x y:List Nat)(P:Int->Bool):List PR->Int
 | []=>0
 |z::R=>(if z.2.1=x/\z.2.2.1=y/\P z.1=true then z.2.2.2 else 0)+sR x y P R
theorem qP(x y:List Nat)(P:Int->Bool):∀R S:List PR,sR x y P (R++S)=sR x y P R+sR x y P S
 | [],S=>by simp[sR]
 |z::R,S=>by rw[Yy,sR,sR,qP x y P R S,Z3]
structure MM(m:List (Key × V))(x y:List Nat)(R:List PR):Prop where
 nd:(m.map (·.1)).Nodup
 it:IntD m
 sm:∀P,sE P m=sR x y P R
def MM.put(h:MM m x y R)(d am:Int):MM (bi m (.inl d) (.int (gM m d+am))) x y (R++[(d,x,y,am)]):=
 ⟨EZ h.nd,h.it.put _ _,fun P=>by
  rw[HL P h.nd h.it,qP,h.sm P];show _=_+((if x=x/\y=y/\P d=true then am else 0)+0);rw[ZQ];by_cases c:P d=true
  .rw[Wf c,Wf ⟨rfl,rfl,c⟩]
  .rw[Wg c,Wg fun z=>c z.2.2]⟩
def MM.other(h:MM m x y R)(ne:¬ (z.2.1=x/\z.2.2.1=y)):MM m x y (R++[z]):=
 ⟨h.nd,h.it,fun P=>by
  rw[h.sm P,qP];show _=_+((if z.2.1=x/\z.2.2.1=y/\P z.1=true then z.2.2.2 else 0)+0);rw[Wg fun q=>ne ⟨q.1,q.2.1⟩];simp⟩
def DN(h:∀z∈R,¬ (z.2.1=x/\z.2.2.1=y))(P:Int->Bool):sR x y P R=0:=by
 induction R with
 |nil=>rfl
 |cons z R ih=>
  rw[sR,ih fun u m=>h u (tH _ m),Wg fun q=>h z (ZO ..) ⟨q.1,q.2.1⟩];rfl
def MM.nil(h:∀z∈R,¬ (z.2.1=x/\z.2.2.1=y)):MM [] x y R:=⟨Zu,(fun _ _ m=>nomatch m),fun P=>(DN h P).symm⟩
theorem tM(P:Int->Bool):∀ {m:List (Key × V)},IntD m->(m.filter fun e=>P (vI (kV e.1))).map (fun e=>e.2)=((m.filter fun e=>P (kI e.1)).map fun e=>vI e.2).map V.int
 | [],_=>rfl
 |e::m,h=>by
  obtain⟨D,x,e1,e2⟩:=h e.1 e.2 (ZO ..);have ih:=tM P (m:=m) fun k v mk=>h k v (tH _ mk);have ek:vI (kV e.1)=kI e.1:=by rw[e1];rfl
  by_cases c:P (kI e.1)=true
  .rw[tR (by rw[ek];exact c),tR (by exact c),xY,xY,xY,ih,e2];rfl
  .rw[tK (by rw[ek];exact c),tK (by exact c),ih]
def MM.own(h:MM m x y R)(P:Int->Bool):((m.filter fun e=>P (kI e.1)).map fun e=>vI e.2).sum=sR x y P R:=(wo P m).trans (h.sm P)
def GN:∀ {a b:List (List Nat)},InO a->InO b->a.Nodup->b.Nodup->(∀c,c∈a↔c∈b)->a=b:=fun {a b} ia ib na nb h=>jU ((List.perm_ext_iff_of_nodup na nb).mpr h) ia ib
def II{K:Wz}{n:Nat}{g:TG}{ks:List Nat}{tt:TT}{te:TE}{σ:St}{H1:Hp}{Q:VK}(a:WN)(xs:List V)(P:WN->Nat->List V->Hp->Prop)(hz:xs.length<WI)
 (h0:∀D,H1 D=none->P D 0 [] (upd H1 D (.lst []))) (hD:∀D i ys H',P D i ys H'->H' D=some (.lst ys)/\SqT K H' a xs/\ys.length<=i)
 (hs:∀D i y ys H' (zs:St) (N1:VK) (N0:Hp->Prop),xs[i]? = some y->P D i ys H'->zs.length=n->(∀v H6,H6 D=some (.lst ys)->P D (i+1) (ys++[v]) (upd H6 D (.lst (ys++[v])))->N1 v H6)->(∀H6,P D (i+1) ys H6->N0 H6) ->
  g y (zs++ks.map fun k=>(σ[k]?).join) H' fun σ4 H4=>(∃zs4:St,zs4.length=n/\σ4=zs4++ks.map fun k=>(σ[k]?).join)/\tt σ4 H4 fun b H5=>if b=true then te σ4 H5 N1 else N0 H5)
 (hd:∀D ys H',P D xs.length ys H'->Q (.ref D) H'):CEl (Itt K a) n g ks tt te σ H1 Q:=by
 intro D hDn;refine⟨fun i m ys H'=>m=xs.length-i/\i<=xs.length/\P D i ys H',⟨_,rfl,rp _,h0 D hDn⟩,?_⟩;rintro i m ys H' ⟨rfl,hi,p⟩;obtain⟨d1,d2,d3⟩:=hD D i ys H' p;refine⟨d1,?_⟩;obtain lt|ge:=Yu i xs.length
 .refine .inr ⟨⟨xs,xs[i],d2,by simp[lt]⟩,?_⟩
  rintro x H3 ⟨rfl,hx⟩ zs hzs;exact hs D i x ys _ zs _ _ (hx xs d2) p hzs (fun v H6 h6 p6=>⟨h6,by lia,_,by lia,rfl,lt,p6⟩) fun H6 p6=>⟨_,by lia,rfl,lt,p6⟩
 .obtain rfl:i=xs.length:=XR hi ge
  exact .inl ⟨⟨xs,d2,ym _⟩,hd D ys H' p⟩
def K4{β:Type}(mk:β->List V)(H:Hp)(v:V)(b:β):Prop:=∃t,v = .ref t/\H t=some (.tup (mk b))
end L2
namespace K22
open PySem L2 K19
def E4(h:tl σ H fun x H1=>∃a,x = .ref a/\(∃xs,SqT K H1 a xs)/\CEl (Itt K a) n g ks tt te σ H1 Q):fG (Ea K tl) n g ks tt te σ H Q:=h
def Jl{K:Wz}{β γ:Type}{n:Nat}{g:TG}{ks:List Nat}{tt:TT}{te:TE}{σ:St}{H:Hp}{Q:VK}{S:Hp->V->γ->Prop}(hS:∀(G G':Hp) (v:V) (c:γ),(∀t l,G t=some (.tup l)->G' t=some (.tup l))->S G v c->S G' v c)
 (a:WN) (vs:List V) (R:List β) (Rel:V->β->Prop) (p:β->Bool) (f:β->γ) (ha:H a=some (.tup vs)) (hN:WS H) (hR:A2 Rel vs R) (hz:vs.length<WI)
 (hs:∀v b,b∈R->Rel v b->∀G (zs:St) (N1:VK) (N0:Hp->Prop),XA H G->WS G->zs.length=n->(p b=true->∀u G',XA G G'->WS G'->S G' u (f b)->N1 u G')->(p b=false->∀G',XA G G'->WS G'->N0 G') ->
  g v (zs++ks.map fun k=>(σ[k]?).join) G fun σ4 H4=>(∃zs4:St,zs4.length=n/\σ4=zs4++ks.map fun k=>(σ[k]?).join)/\tt σ4 H4 fun b H5=>if b=true then te σ4 H5 N1 else N0 H5)
 (q:∀D ws G,H D=none->XA H G->WS G->G D=some (.lst ws)->A2 (S G) ws ((R.filter p).map f)->Q (.ref D) G):CEl (Itt K a) n g ks tt te σ H Q:=by
 refine II a vs (fun D i ys G=>H D=none/\XA H G/\WS G/\G D=some (.lst ys)/\ys.length<=i/\A2 (S G) ys (((R.take i).filter p).map f)) hz ?_ ?_ ?_ ?_
 .exact fun D hD=>⟨hD,aj _ hD,aE hN rfl,aa,ym _,.nil⟩
 .rintro D i ys G ⟨hD,sm,_,gd,ly,_⟩
  exact⟨gd,aY (sm _ _ ha),ly⟩
 .rintro D i y ys G zs N1 N0 hy ⟨hD,sm,nG,gd,ly,A⟩ hzs n1 n0
  obtain⟨b,hb,rb⟩:=hR.at_ hy;have mb:=wt hb;have et:R.take (i+1)=R.take i++[b]:=by rw[Xj,hb];rfl
  rw[et,Zp,yB]at n1 n0;refine hs y b mb rb G zs N1 N0 sm nG hzs (fun pb u G' s' nG' hu=>?_) fun pb G' s' nG'=>n0 G' ⟨hD,sm.trans s',nG',s' _ _ gd,Xp ly,?_⟩
  .have gd':=s' _ _ gd
   have kt:∀t l,G' t=some (.tup l)->upd G' D (.lst (ys++[u])) t=some (.tup l):=fun t l e=>by
    rw[ag fun z=>by rw[z,gd']at e;cases e];exact e
   refine n1 _ _ gd' ⟨hD,fun c o e=>?_,aE nG' rfl,aa,by rw[zc];exact Xd ly,?_⟩
   .rw[ag (aM e hD)];exact s' _ _ (sm _ _ e)
   .rw[tR pb,Ym]
    exact(A.imp fun _ _ _ _ h=>hS _ _ _ _ kt (hS _ _ _ _ (fun t l e=>s' _ _ e) h)).snoc (hS _ _ _ _ kt hu)
  .rw[tK (by rw[pb];decide),Ym,ZR,Zs]
   exact A.imp fun _ _ _ _ h=>hS _ _ _ _ (fun t l e=>s' _ _ e) h
 .rintro D ys G ⟨hD,sm,nG,gd,_,A⟩
  rw[hR.len,Zx]at A;exact q D ys G hD sm nG gd A
end K22
namespace L2
open PySem PyProof.Rows
def DfN(K:Wz)(mg:Str->Option WO)(x:Str)(st:Stmt):Prop:=∃f fd,mg x=some (.ref f)/\Fun K x x st f fd
def DfM(K:Wz)(C:WN)(m q:Str)(st:Stmt):Prop:=∃f fd,BF K C m f/\Fun K m q st f fd
def Fo(P:WL)(w:WK)(K:Wz)(mg:Str->Option WO)(base:WF)(x:Str)(k:Nat)(sp:Sp):Prop:=
 ∃f fd ps,mg x=some (.ref f)/\Ys K (.ref f)=true/\Binds K fd ps []/\hZ P w K mg base (XE P w) k f fd ps sp
def Mo(P:WL)(w:WK)(K:Wz)(mg:Str->Option WO)(base:WF)(C:WN)(m:Str)(k:Nat)(sp:Sp):Prop:=
 ∃f fd ps,BF K C m f/\Binds K fd ps []/\hZ P w K mg base (XE P w) k f fd ps sp
def MkC(K:Wz)(C:WN):Prop:=PySem.W.makesIn K C=true/\Ys K (.ref C)=true
section
variable{P:WL}{w:WK}{K:Wz}{mg:Str->Option WO}{base:WF}{x m WQ:Str}{st:Stmt}{C:WN}{N:List Str}{n k:Nat}{sp:Sp}
def ul(x WQ:Str)(st:Stmt)(ps:List Str):Prop:=∀(kV doc pm:WO) (an:Option WN) (XD ct:WO) (us:List WO),us.length=ps.length->bindArgs (YJ x WQ (gC st) (bB st) (ay st) .none kV doc pm an XD ct) ⟨us,[]⟩=pure (ps.zip us)
section
variable(P:WL)(w:WK)(K:Wz)(mg:Str->Option WO)(base:WF)(N:List Str)(WQ:Str)(st:Stmt)(k:Nat)
def BA(sp:Sp):Prop:=
 ∀(f:WN) (XD:WO) (A:WJ) (XF:List Env) (s:WM) (H:Hp) (vs:List V) (Q:VK) (E:XK),N.Nodup->(A.deeper (envOfC WQ (ay st) s.heap.objs.size f XD)).units+100<cLine->Room k (A.deeper (envOfC WQ (ay st) s.heap.objs.size f XD))->sp vs H Q E ->
  WS H/\∃t,PSs (c6 (XE P w) P w K mg base N WQ (ay st) f XD A XF s H (gcE H E)) (bB st) t/\t { nx:=fun _ H'=>∃G,Gc H G H'/\Q .non G,rt:=fun v H'=>∃G,Gc H G H'/\Q v G } (fg N vs) H
def Ca(sp:Sp):Prop:=
 ∀(f:WN) (XD:WO) (A:WJ) (XF:List Env) (s:WM) (H:Hp) (vs:List V) (Q:VK) (E:XK),N.Nodup->(A.deeper (envOfC WQ (ay st) s.heap.objs.size f XD)).units+100<cLine->Room k (A.deeper (envOfC WQ (ay st) s.heap.objs.size f XD))->sp vs H Q E ->
  ∃t,PSs (c6 (XE P w) P w K mg base N WQ (ay st) f XD A XF s H E) (bB st) t/\t { nx:=fun _ H'=>Q .non H',rt:=Q } (fg N vs) H
end
def DfN.okG(F:DfN K mg x st)(N:List Str)(n:Nat)(S:df N (N.take n) (ay st))(b:ul x x st (N.take n))(len:∀vs H Q E,sp vs H Q E->vs.length=(N.take n).length)
 (h:BA P w K mg base N x st k sp):Fo P w K mg base x (k+1) sp:=by
 obtain⟨f,fd,m,F⟩:=F;exact⟨f,fd,_,m,F.kp,F.binds b,F.okG S len fun XD A XF s H vs Q E hr hs=>h f XD A XF s H vs Q E S.nd (cP hr) hr hs⟩
def DfN.okX(F:DfN K mg x st)(N:List Str)(n:Nat)(S:df N (N.take n) (ay st))(b:ul x x st (N.take n))(len:∀vs H Q E,sp vs H Q E->vs.length=(N.take n).length)
 (h:Ca P w K mg base N x st k sp):Fo P w K mg base x (k+1) sp:=by
 obtain⟨f,fd,m,F⟩:=F;exact⟨f,fd,_,m,F.kp,F.binds b,F.okX S len fun XD A XF s H vs Q E hr hs=>h f XD A XF s H vs Q E S.nd (cP hr) hr hs⟩
def DfM.okG(F:DfM K C m WQ st)(N:List Str)(n:Nat)(S:df N (N.take n) (ay st))(b:ul m WQ st (N.take n))(len:∀vs H Q E,sp vs H Q E->vs.length=(N.take n).length)
 (h:BA P w K mg base N WQ st k sp):Mo P w K mg base C m (k+1) sp:=by
 obtain⟨f,fd,m,F⟩:=F;exact⟨f,fd,_,m,F.binds b,F.okG S len fun XD A XF s H vs Q E hr hs=>h f XD A XF s H vs Q E S.nd (cP hr) hr hs⟩
def DfM.okX(F:DfM K C m WQ st)(N:List Str)(n:Nat)(S:df N (N.take n) (ay st))(b:ul m WQ st (N.take n))(len:∀vs H Q E,sp vs H Q E->vs.length=(N.take n).length)
 (h:Ca P w K mg base N WQ st k sp):Mo P w K mg base C m (k+1) sp:=by
 obtain⟨f,fd,m,F⟩:=F;exact⟨f,fd,_,m,F.binds b,F.okX S len fun XD A XF s H vs Q E hr hs=>h f XD A XF s H vs Q E S.nd (cP hr) hr hs⟩
end
section
variable{X:Cx}{k:Nat}{C:WN}{sp:Sp}{E:XKs}{x m:Str}{p pos apos:Pos}{e o:Expr}{es:List Expr}{ta:TE}{t:TA}
def JC(F:Fo X.prog X.w X.K X.mg X.base x k sp)(hr:Room k X.A)(hg:Gl X x)(hx:cM (XE X.prog X.w) X E)
 (ha:PA X (e::es) t) (hdb:(x==("__debug__":Str))=false:=by decide) (he:WE (e::es) X.env=(false,eval e X.env)::WE es X.env:=by rfl) (hpl:(WD pos (WE es X.env)).any (·.1)=false:=by rfl) :
 PE X (.Call (.Name x p) (e::es) [] pos) (rV sp [] E t):=by
 obtain⟨f,fd,ps,m,kp,b,F⟩:=F;exact BL F hr hg m kp b .nil hx ha hdb he hpl
def cK{pl:Sem Bool}(he:PE X o ta)(c:Cls X.K C)(F:Mo X.prog X.w X.K X.mg X.base C m k sp)(hr:Room k X.A)(hx:cM (XE X.prog X.w) X E)(ha:PA X (e::es) t)
 (hst:WE (e::es) X.env=(false,eval e X.env)::WE es X.env:=by rfl) (hpl:(WD pos (WE es X.env)).any (·.1)=false:=by rfl)
 (ht:eval (.Call (.Attribute o m apos) (e::es) [] pos) X.env=(do
  let ov <- eval o X.env
  standAt apos.atName
  let (f,first) <- holding [ov] (getMethod ov m pl)
  callWith pos f first (WD pos (WE (e::es) X.env)) (backToKw pos (Xn [] X.env))):=by rfl) :
 PE X (.Call (.Attribute o m apos) (e::es) [] pos) (n9 C m sp [] E ta t):=by
 obtain⟨f,fd,ps,mm,b,F⟩:=F;exact AN he c mm F hr b .nil hx ha hst hpl ht
def zA{pl:Sem Bool}(he:PE X o ta)(c:Cls X.K C)(F:Mo X.prog X.w X.K X.mg X.base C m k sp)(hr:Room k X.A)(hx:cM (XE X.prog X.w) X E)
 (ht:eval (.Call (.Attribute o m apos) [] [] pos) X.env=(do
  let ov <- eval o X.env
  standAt apos.atName
  let (f,first) <- holding [ov] (getMethod ov m pl)
  callWith pos f first (WD pos (WE [] X.env)) (backToKw pos (Xn [] X.env))):=by rfl) :
 PE X (.Call (.Attribute o m apos) [] [] pos) (n9 C m sp [] E ta gU):=by
 obtain⟨f,fd,ps,mm,b,F⟩:=F;exact yC he c mm F hr b .nil hx ht
def EB(M:MkC X.K C)(F:Mo X.prog X.w X.K X.mg X.base C "__init__" k sp)(hr:Room (k+1) X.A)(hg:Gl X x)(hm:X.mg x=some (.ref C))(hx:cM (XE X.prog X.w) X E)
 (ha:PA X (e::es) t) (hdb:(x==("__debug__":Str))=false:=by decide) (he:WE (e::es) X.env=(false,eval e X.env)::WE es X.env:=by rfl) (hpl:(WD pos (WE es X.env)).any (·.1)=false:=by rfl) :
 PE X (.Call (.Name x p) (e::es) [] pos) (oS C sp [] E t):=by
 obtain⟨f,fd,ps,mm,b,F⟩:=F;exact A9 ⟨M.1,mm.at_,mm.fn,M.2⟩ F hr hg hm b .nil hx ha hdb he hpl
def qz(M:MkC X.K C)(F:Mo X.prog X.w X.K X.mg X.base C "__init__" k sp)(hr:Room (k+1) X.A)(hg:Gl X x)(hm:X.mg x=some (.ref C))(hx:cM (XE X.prog X.w) X E)
 (hdb:(x==("__debug__":Str))=false:=by decide):PE X (.Call (.Name x p) [] [] pos) (oS C sp [] E gU):=by
 obtain⟨f,fd,ps,mm,b,F⟩:=F;exact yX ⟨M.1,mm.at_,mm.fn,M.2⟩ F hr hg hm b .nil hx hdb
end
section
variable{X:Cx}{k j i:Nat}{C:WN}{sp:Sp}{E:XKs}{x m:Str}{p pos pos' apos:Pos}{e o a b:Expr}{es:List Expr}{ta tb te:TE}{t:TA}
def aH(F:Fo X.prog X.w X.K X.mg X.base x k sp)(hr:Room j X.A)(hx:cM (XE X.prog X.w) X E)(ha:PA X (e::es) t)(hk:k<=j:=by decide)(hg:Gl X x:=by rfl)(hdb:(x==("__debug__":Str))=false:=by decide)(he:WE (e::es) X.env=(false,eval e X.env)::WE es X.env:=by rfl)(hpl:(WD pos (WE es X.env)).any (·.1)=false:=by rfl):PE X (.Call (.Name x p) (e::es) [] pos) (rV sp [] E t):=JC F (hr.mono hk) hg hx ha hdb he hpl
def aV(i:Nat){e:Expr}(hN:X.N.Nodup)(he:PE X e te)(hi:X.N[i]? = some x:=by rfl)(hx:Loc X.env.scope x:=by first|exact Wi rfl|exact Wh rfl)(hs:swapsWith e (some (.Name x pos')) pos.line X.env=pure false:=by rfl)(hf:X.fn x=true\/X.env.scope.names.lookup x=some .local:=by first|exact .inl rfl|exact .inr rfl|assumption):PS X (.Assign [.Name x pos'] e pos) (yQ te (fS i)):=FF hN hi hx he hs hf
def aK(K:Wz)(ha:PE X a ta)(hb:PE X b tb)(hs:rJ b:=by exact fun _ _=>rfl)(hK:X.K=K:=by rfl):PE X (.Subscript a b pos) (tOp (gIx K) ta tb):=JN (CQ K hK) ha hb hs
def bf{op:CmpOp}{r:R2}(ho:OpR X (Zl op) r)(ha:PE X a ta)(hb:PE X b tb)(hm:Yd op b=false:=by exact dD _):PT X (.Compare a [op] [b] pos) (qh (tOp r ta tb)):=oU ho ha hb hm
def fa1{e0:Expr}{t0:TE}(h0:PE X e0 t0)(n0:cv e0=true:=by rfl):PA X [e0] (b_ t0 gU):=FA.pa (bj h0 cr n0)
def fa2{e0 e1:Expr}{t0 t1:TE}(h0:PE X e0 t0)(h1:PE X e1 t1)(n0:cv e0=true:=by rfl)(n1:cv e1=true:=by rfl):PA X [e0,e1] (b_ t0 (b_ t1 gU)):=FA.pa (bj h0 (bj h1 cr n1) n0)
def fa3{e0 e1 e2:Expr}{t0 t1 t2:TE}(h0:PE X e0 t0)(h1:PE X e1 t1)(h2:PE X e2 t2)(n0:cv e0=true:=by rfl)(n1:cv e1=true:=by rfl)(n2:cv e2=true:=by rfl):PA X [e0,e1,e2] (b_ t0 (b_ t1 (b_ t2 gU))):=FA.pa (bj h0 (bj h1 (bj h2 cr n2) n1) n0)
def fa4{e0 e1 e2 e3:Expr}{t0 t1 t2 t3:TE}(h0:PE X e0 t0)(h1:PE X e1 t1)(h2:PE X e2 t2)(h3:PE X e3 t3)(n0:cv e0=true:=by rfl)(n1:cv e1=true:=by rfl)(n2:cv e2=true:=by rfl)(n3:cv e3=true:=by rfl):PA X [e0,e1,e2,e3] (b_ t0 (b_ t1 (b_ t2 (b_ t3 gU)))):=FA.pa (bj h0 (bj h1 (bj h2 (bj h3 cr n3) n2) n1) n0)
def fa5{e0 e1 e2 e3 e4:Expr}{t0 t1 t2 t3 t4:TE}(h0:PE X e0 t0)(h1:PE X e1 t1)(h2:PE X e2 t2)(h3:PE X e3 t3)(h4:PE X e4 t4)(n0:cv e0=true:=by rfl)(n1:cv e1=true:=by rfl)(n2:cv e2=true:=by rfl)(n3:cv e3=true:=by rfl)(n4:cv e4=true:=by rfl):PA X [e0,e1,e2,e3,e4] (b_ t0 (b_ t1 (b_ t2 (b_ t3 (b_ t4 gU))))):=FA.pa (bj h0 (bj h1 (bj h2 (bj h3 (bj h4 cr n4) n3) n2) n1) n0)
def fa6{e0 e1 e2 e3 e4 e5:Expr}{t0 t1 t2 t3 t4 t5:TE}(h0:PE X e0 t0)(h1:PE X e1 t1)(h2:PE X e2 t2)(h3:PE X e3 t3)(h4:PE X e4 t4)(h5:PE X e5 t5)(n0:cv e0=true:=by rfl)(n1:cv e1=true:=by rfl)(n2:cv e2=true:=by rfl)(n3:cv e3=true:=by rfl)(n4:cv e4=true:=by rfl)(n5:cv e5=true:=by rfl):PA X [e0,e1,e2,e3,e4,e5] (b_ t0 (b_ t1 (b_ t2 (b_ t3 (b_ t4 (b_ t5 gU)))))):=FA.pa (bj h0 (bj h1 (bj h2 (bj h3 (bj h4 (bj h5 cr n5) n4) n3) n2) n1) n0)
def Ia{E:XKs}{msg:Str}{j1}{p1 np cpos:Pos}(O:PySem.W.excIn X.K C Hx "ValueError.__new__" = true)(hm:X.mg x=some (.ref C))(hx:vQ X E)(hc:X.calm=true:=by rfl)(hg:Gl X x:=by rfl)(hdb:(x==("__debug__":Str))=false:=by decide):PS X (.Raise (some (.Call (.Name x np) [.Constant (.str msg) j1 p1] [] cpos)) none pos) (vt C E (b_ (tC (.str msg)) gU)):=BO O PySem.F.excBase_ValueError hc hg hm hx (fa1 Cs) hdb
end
section
variable(P:WL)(w:WK)(K:Wz)(mg:Str->Option WO)(base:WF)(N:List Str)(WQ:Str)(st:Stmt)(k:Nat)
def BdG(vs:List V)(r:Hp->VK->XK->Prop):Prop:=∀(fA:WN) (XD:WO) (A:WJ) (XF:List Env) (s:WM) (H:Hp) (Q:VK) (E:XK),N.Nodup->(A.deeper (envOfC WQ (ay st) s.heap.objs.size fA XD)).units+100<cLine->Room k (A.deeper (envOfC WQ (ay st) s.heap.objs.size fA XD))->r H Q E->WS H/\∃t,PSs (c6 (XE P w) P w K mg base N WQ (ay st) fA XD A XF s H (gcE H E)) (bB st) t/\t { nx:=fun _ H'=>∃G,Gc H G H'/\Q .non G,rt:=fun v H'=>∃G,Gc H G H'/\Q v G } (fg N vs) H
def BdX(vs:List V)(r:Hp->VK->XK->Prop):Prop:=∀(fA:WN) (XD:WO) (A:WJ) (XF:List Env) (s:WM) (H:Hp) (Q:VK) (E:XK),N.Nodup->(A.deeper (envOfC WQ (ay st) s.heap.objs.size fA XD)).units+100<cLine->Room k (A.deeper (envOfC WQ (ay st) s.heap.objs.size fA XD))->r H Q E->∃t,PSs (c6 (XE P w) P w K mg base N WQ (ay st) fA XD A XF s H E) (bB st) t/\t { nx:=fun _ H'=>Q .non H',rt:=Q } (fg N vs) H
def BX(n:Nat)(sp:Sp):Prop:=(∀vs H Q E,sp vs H Q E->vs.length=n)/\Ca P w K mg base N WQ st k sp
def BG(n:Nat)(sp:Sp):Prop:=(∀vs H Q E,sp vs H Q E->vs.length=n)/\BA P w K mg base N WQ st k sp
end
section
variable{P:WL}{w:WK}{K:Wz}{mg:Str->Option WO}{base:WF}{x m WQ:Str}{st:Stmt}{C:WN}{k:Nat}
section
variable{sp:Sp}{n:Nat}
def DfN.hg(F:DfN K mg x st)(N:List Str)(h:BG P w K mg base N x st k n sp)(S:df N (N.take n) (ay st):=by exact⟨rfl,rfl,rfl,by decide +kernel,rfl,by decide +kernel,by decide +kernel⟩)(b:ul x x st (N.take n):=by walk_at "b")(l:(N.take n).length=n:=by rfl):Fo P w K mg base x (k+1) sp:=F.okG N n S b (fun vs H Q E z=>(h.1 vs H Q E z).trans l.symm) h.2
def DfN.hx(F:DfN K mg x st)(N:List Str)(h:BX P w K mg base N x st k n sp)(S:df N (N.take n) (ay st):=by exact⟨rfl,rfl,rfl,by decide +kernel,rfl,by decide +kernel,by decide +kernel⟩)(b:ul x x st (N.take n):=by walk_at "b")(l:(N.take n).length=n:=by rfl):Fo P w K mg base x (k+1) sp:=F.okX N n S b (fun vs H Q E z=>(h.1 vs H Q E z).trans l.symm) h.2
def DfM.hg(F:DfM K C m WQ st)(N:List Str)(h:BG P w K mg base N WQ st k n sp)(S:df N (N.take n) (ay st):=by exact⟨rfl,rfl,rfl,by decide +kernel,rfl,by decide +kernel,by decide +kernel⟩)(b:ul m WQ st (N.take n):=by walk_at "b")(l:(N.take n).length=n:=by rfl):Mo P w K mg base C m (k+1) sp:=F.okG N n S b (fun vs H Q E z=>(h.1 vs H Q E z).trans l.symm) h.2
def DfM.hx(F:DfM K C m WQ st)(N:List Str)(h:BX P w K mg base N WQ st k n sp)(S:df N (N.take n) (ay st):=by exact⟨rfl,rfl,rfl,by decide +kernel,rfl,by decide +kernel,by decide +kernel⟩)(b:ul m WQ st (N.take n):=by walk_at "b")(l:(N.take n).length=n:=by rfl):Mo P w K mg base C m (k+1) sp:=F.okX N n S b (fun vs H Q E z=>(h.1 vs H Q E z).trans l.symm) h.2
end
variable{N:List Str}
def gG1{f:V->Hp->VK->XK->Prop}(h:∀x0,BdG P w K mg base N WQ st k [x0] (f x0)):BG P w K mg base N WQ st k 1 (sp1 f):=⟨fun vs H Q E h=>sp1.len h,fun fA XD A XF s H vs Q E ND HU hr hs=>by obtain⟨x0,rfl,hs⟩:=sp1.inv hs;exact h x0 fA XD A XF s H Q E ND HU hr hs⟩
def gX1{f:V->Hp->VK->XK->Prop}(h:∀x0,BdX P w K mg base N WQ st k [x0] (f x0)):BX P w K mg base N WQ st k 1 (sp1 f):=⟨fun vs H Q E h=>sp1.len h,fun fA XD A XF s H vs Q E ND HU hr hs=>by obtain⟨x0,rfl,hs⟩:=sp1.inv hs;exact h x0 fA XD A XF s H Q E ND HU hr hs⟩
def gG2{f:V->V->Hp->VK->XK->Prop}(h:∀x0 x1,BdG P w K mg base N WQ st k [x0,x1] (f x0 x1)):BG P w K mg base N WQ st k 2 (sp2 f):=⟨fun vs H Q E h=>sp2.len h,fun fA XD A XF s H vs Q E ND HU hr hs=>by obtain⟨x0,x1,rfl,hs⟩:=sp2.inv hs;exact h x0 x1 fA XD A XF s H Q E ND HU hr hs⟩
def gX2{f:V->V->Hp->VK->XK->Prop}(h:∀x0 x1,BdX P w K mg base N WQ st k [x0,x1] (f x0 x1)):BX P w K mg base N WQ st k 2 (sp2 f):=⟨fun vs H Q E h=>sp2.len h,fun fA XD A XF s H vs Q E ND HU hr hs=>by obtain⟨x0,x1,rfl,hs⟩:=sp2.inv hs;exact h x0 x1 fA XD A XF s H Q E ND HU hr hs⟩
def gG3{f:V->V->V->Hp->VK->XK->Prop}(h:∀x0 x1 x2,BdG P w K mg base N WQ st k [x0,x1,x2] (f x0 x1 x2)):BG P w K mg base N WQ st k 3 (sp3 f):=⟨fun vs H Q E h=>sp3.len h,fun fA XD A XF s H vs Q E ND HU hr hs=>by obtain⟨x0,x1,x2,rfl,hs⟩:=sp3.inv hs;exact h x0 x1 x2 fA XD A XF s H Q E ND HU hr hs⟩
def gX3{f:V->V->V->Hp->VK->XK->Prop}(h:∀x0 x1 x2,BdX P w K mg base N WQ st k [x0,x1,x2] (f x0 x1 x2)):BX P w K mg base N WQ st k 3 (sp3 f):=⟨fun vs H Q E h=>sp3.len h,fun fA XD A XF s H vs Q E ND HU hr hs=>by obtain⟨x0,x1,x2,rfl,hs⟩:=sp3.inv hs;exact h x0 x1 x2 fA XD A XF s H Q E ND HU hr hs⟩
def gG4{f:V->V->V->V->Hp->VK->XK->Prop}(h:∀x0 x1 x2 x3,BdG P w K mg base N WQ st k [x0,x1,x2,x3] (f x0 x1 x2 x3)):BG P w K mg base N WQ st k 4 (sp4 f):=⟨fun vs H Q E h=>sp4.len h,fun fA XD A XF s H vs Q E ND HU hr hs=>by obtain⟨x0,x1,x2,x3,rfl,hs⟩:=sp4.inv hs;exact h x0 x1 x2 x3 fA XD A XF s H Q E ND HU hr hs⟩
def gX4{f:V->V->V->V->Hp->VK->XK->Prop}(h:∀x0 x1 x2 x3,BdX P w K mg base N WQ st k [x0,x1,x2,x3] (f x0 x1 x2 x3)):BX P w K mg base N WQ st k 4 (sp4 f):=⟨fun vs H Q E h=>sp4.len h,fun fA XD A XF s H vs Q E ND HU hr hs=>by obtain⟨x0,x1,x2,x3,rfl,hs⟩:=sp4.inv hs;exact h x0 x1 x2 x3 fA XD A XF s H Q E ND HU hr hs⟩
def gG5{f:V->V->V->V->V->Hp->VK->XK->Prop}(h:∀x0 x1 x2 x3 x4,BdG P w K mg base N WQ st k [x0,x1,x2,x3,x4] (f x0 x1 x2 x3 x4)):BG P w K mg base N WQ st k 5 (sp5 f):=⟨fun vs H Q E h=>sp5.len h,fun fA XD A XF s H vs Q E ND HU hr hs=>by obtain⟨x0,x1,x2,x3,x4,rfl,hs⟩:=sp5.inv hs;exact h x0 x1 x2 x3 x4 fA XD A XF s H Q E ND HU hr hs⟩
def gX5{f:V->V->V->V->V->Hp->VK->XK->Prop}(h:∀x0 x1 x2 x3 x4,BdX P w K mg base N WQ st k [x0,x1,x2,x3,x4] (f x0 x1 x2 x3 x4)):BX P w K mg base N WQ st k 5 (sp5 f):=⟨fun vs H Q E h=>sp5.len h,fun fA XD A XF s H vs Q E ND HU hr hs=>by obtain⟨x0,x1,x2,x3,x4,rfl,hs⟩:=sp5.inv hs;exact h x0 x1 x2 x3 x4 fA XD A XF s H Q E ND HU hr hs⟩
def gX6{f:V->V->V->V->V->V->Hp->VK->XK->Prop}(h:∀x0 x1 x2 x3 x4 x5,BdX P w K mg base N WQ st k [x0,x1,x2,x3,x4,x5] (f x0 x1 x2 x3 x4 x5)):BX P w K mg base N WQ st k 6 (sp6 f):=⟨fun vs H Q E h=>sp6.len h,fun fA XD A XF s H vs Q E ND HU hr hs=>by obtain⟨x0,x1,x2,x3,x4,x5,rfl,hs⟩:=sp6.inv hs;exact h x0 x1 x2 x3 x4 x5 fA XD A XF s H Q E ND HU hr hs⟩
end
end L2
namespace L2
open PySem
section
variable{X:Cx}{st:Stmt}{rest:List Stmt}{t u:TS}
def K5(b:TS)(D:gl)(σ:St)(H:Hp):Prop:=b D σ H
end
end L2
namespace L2
def JA{p q r:Prop}{C:Prop}(z:p/\q/\r)(k:p->q->r->C):C:=by obtain⟨h0,h1,h2⟩:=z;exact k h0 h1 h2
def br{α:Type}{p q:α->Prop}{C:Prop}(z:∃a,p a/\q a)(k:∀a,p a->q a->C):C:=by obtain⟨a,h0,h1⟩:=z;exact k a h0 h1
def h_{α:Type}{p q r:α->Prop}{C:Prop}(z:∃a,p a/\q a/\r a)(k:∀a,p a->q a->r a->C):C:=by obtain⟨a,h0,h1,h2⟩:=z;exact k a h0 h1 h2
def bq{α:Type}{p q r s:α->Prop}{C:Prop}(z:∃a,p a/\q a/\r a/\s a)(k:∀a,p a->q a->r a->s a->C):C:=by obtain⟨a,h0,h1,h2,h3⟩:=z;exact k a h0 h1 h2 h3
def C5{α β:Type}{p q:α->β->Prop}{C:Prop}(z:∃a b,p a b/\q a b)(k:∀a b,p a b->q a b->C):C:=by obtain⟨a,b,h0,h1⟩:=z;exact k a b h0 h1
def vk{α β:Type}{p q r s t:α->β->Prop}{C:Prop}(z:∃a b,p a b/\q a b/\r a b/\s a b/\t a b)(k:∀a b,p a b->q a b->r a b->s a b->t a b->C):C:=by obtain⟨a,b,h0,h1,h2,h3,h4⟩:=z;exact k a b h0 h1 h2 h3 h4
def IE{α β:Type}{p q r s t u:α->β->Prop}{C:Prop}(z:∃a b,p a b/\q a b/\r a b/\s a b/\t a b/\u a b)(k:∀a b,p a b->q a b->r a b->s a b->t a b->u a b->C):C:=by obtain⟨a,b,h0,h1,h2,h3,h4,h5⟩:=z;exact k a b h0 h1 h2 h3 h4 h5
def Kk{α β γ δ ε ζ η:Type}{p q r s t u v w x:α->β->γ->δ->ε->ζ->η->Prop}{C:Prop}(z:∃a b c d e f g,p a b c d e f g/\q a b c d e f g/\r a b c d e f g/\s a b c d e f g/\t a b c d e f g/\u a b c d e f g/\v a b c d e f g/\w a b c d e f g/\x a b c d e f g)(k:∀a b c d e f g,p a b c d e f g->q a b c d e f g->r a b c d e f g->s a b c d e f g->t a b c d e f g->u a b c d e f g->v a b c d e f g->w a b c d e f g->x a b c d e f g->C):C:=by obtain⟨a,b,c,d,e,f,g,h0,h1,h2,h3,h4,h5,h6,h7,h8⟩:=z;exact k a b c d e f g h0 h1 h2 h3 h4 h5 h6 h7 h8
def IT{α β γ δ ε ζ η θ:Type}{p:α->β->γ->δ->ε->ζ->η->θ->Prop}{C:Prop}(z:∃a b c d e f g h,p a b c d e f g h)(k:∀a b c d e f g h,p a b c d e f g h->C):C:=by obtain⟨a,b,c,d,e,f,g,h,h0⟩:=z;exact k a b c d e f g h h0
end L2
namespace L2
open PySem PyProof.Rows
section
variable{X:Cx}
def Io:V->List V->Hp->VK->Prop:=fun x vs H Q=>∃l xs n y,x = .ref l/\vs=[.int (n:Nat),y]/\H l=some (.lst xs)/\n<=xs.length/\xs.length<WI/\Q .non (upd H l (.lst (xs.take n++y::xs.drop n)))
def BI{prog:WL}{w:WK}{A:WJ}{E:WO->WM->Prop}{s:WM}{Q:WO->WM->Prop}{l:WN}{XC:Array WO}{n:Nat}{k:Int}{t:Tok}{u:WO}{f:Array WO->Array WO}(hc:Xf k=true)(hz:XC.size<=WI)(e:s.heap.get? l=some { cls:=.type "list",data:=.seq XC n })
 (hf:f=fun xs:Array WO=>(xs.extract 0 (if k<0 then (k+(xs.size:Int)).toNat else min k.toNat xs.size)).push u++xs.extract (if k<0 then (k+(xs.size:Int)).toNat else min k.toNat xs.size))
 (h:Q .none { s with heap:=s.heap.update l (Yz f),toks:=s.toks }):WH (WG prog w) A (call (.builtin "list.insert") [.ref l,.int k t,u]) Q E s:=by
 subst hf;exact YF F.slot_list_insert ⟨_,e,rfl⟩ F.entry_list_insert (F.args_list_insert_3 _ _ _) (PySem.AutoSeq1.list_insert_list_int_val_1 l XC n k t u (by rw[hc];decide) hz) ⟨e,h⟩
def Gr:MtM X "list.insert" Io:=by
 intro XG s σ H x vs v us Q I rx rv h;obtain⟨l,xs,k,y,rfl,rfl,hH,hk,hz,q⟩:=h;cases rx;obtain⟨u1,u2,rfl,⟨t,rfl⟩,r2⟩:=rv.two;obtain⟨z,XC,n,r,hl,e⟩:=I.lstM hH;have hf:Xf (k:Int)=true:=by
  have:k<=WI:=by lia
  unfold Xf;rw[tV]at this;simp only[Za,decide_eq_true_eq];constructor <;> lia
 have hv:WW (xs.take k++y::xs.drop k) (XC.take k++u2::XC.drop k):=WW.append (WW.take k r) (.cons r2 (WW.drop k r));have hn:(xs.take k++y::xs.drop k).length<=WI:=by rw[zc,sP,qF,Xc];lia
 refine BI hf (by rw[yN];lia) e rfl ⟨.non,_,I.lset hH e ?_ hv hn,rfl,q⟩;show(XC.toArray.extract 0 (if (k:Int)<0 then ((k:Int)+(XC.toArray.size:Int)).toNat else min (k:Int).toNat XC.toArray.size)).push u2++XC.toArray.extract (if (k:Int)<0 then ((k:Int)+(XC.toArray.size:Int)).toNat else min (k:Int).toNat XC.toArray.size)=_;rw[Wg (by lia),ZV,Xz (by rw[yN];lia)];exact PySem.W.kl_ins_eq XC k u2
end
end L2
namespace K17
open PySem L2
noncomputable def wi(l o:List Nat):Bool:=decide (l=o) || qB l (o++[58])
structure Row where
 pa:List Nat
 cu:List Nat
 am:Int
structure Bk where
 k:Int
 d:Int
 rs:List Row
def Num(bs:List Bk):Prop:=bs.map (·.k)=(lq bs.length).map fun i:Nat=>(i:Int)
noncomputable def sg(a s:Int)(k:Nat):Nat:=97+((a+s*k) % 26).toNat
noncomputable def wd(a s:Int)(n:Nat):List Nat:=(lq n).map fun k=>sg a s k
noncomputable def nms(c:Int)(k:Nat):List Nat:=
 if k<6 then (wd (c / 250) (1+c / 10 % 25) (1+c % 10).toNat).take (c / 6500 % (1+c % 10+1)).toNat++[97+((c / 71500+3*k) % 26).toNat]++(wd (c / 250) (1+c / 10 % 25) (1+c % 10).toNat).drop (c / 6500 % (1+c % 10+1)).toNat
 else wd (c / 250) (1+c / 10 % 25) (1+c % 10).toNat
noncomputable def zy:List Nat:=[110,111,98,111,100,121]
noncomputable def vd:List Nat:=[122,108,97,116,101,122]
noncomputable def apl(l:List Nat):Bool:=(lq 5).all fun k=>match l[k]?,l[k+1]?,l[k+2]? with
 |some x,some y,some z=>decide ((2*(y:Int)-x-z) % 26=0)
 |_,_,_=>true
def ap3(a s:Int)(k:Nat):(2*(sg a s (k+1):Int)-sg a s k-sg a s (k+2)) % 26=0:=by
 unfold sg;have e1:s*((k+1:Nat):Int)=s*k+s:=by rw[Int.natCast_add,Int.mul_add];simp
 have e2:s*((k+2:Nat):Int)=s*k+s*2:=by rw[Int.natCast_add,Int.mul_add];rfl
 rw[e1,e2];generalize s*(k:Int)=t;have m:∀x:Int,((x % 26).toNat:Int)=x % 26:=fun x=>Int.toNat_of_nonneg (ZH x (by decide));simp only[Int.natCast_add,m]
 omega
def vY(a s:Int)(n k:Nat):(wd a s n)[k]? = if k<n then some (sg a s k) else none:=by
 split
 .rename_i h;simp[wd,h]
 .rename_i h;simp[wd];omega
def GD(a s:Int)(n:Nat):apl (wd a s n)=true:=by
 unfold apl;rw[Zv];intro k _;rw[vY,vY,vY];by_cases h:k+2<n
 .rw[Wf h,Wf (Nat.lt_of_succ_lt h),Wf (Nat.lt_of_succ_lt (Nat.lt_of_succ_lt h))]
  exact We (ap3 a s k)
 .rw[Wg h]
  split
  .rename_i h3;cases h3
  .rfl
def DR(w:List Nat)(t g:Nat):∃i,i<=w.length/\(w.take t++[g]++w.drop t).eraseIdx i=w:=by
 obtain h|h:=Yu w.length t
 .refine⟨w.length,ym _,?_⟩
  rw[Zm (ZK h),List.drop_of_length_le (ZK h),Zs,List.eraseIdx_append_of_length_le (ym _),Nat.sub_self];simp
 .refine⟨t,h,?_⟩
  have e:(w.take t).length=t:=by rw[qF];exact Xz h
  rw[YI,List.eraseIdx_append_of_length_le (Nat.le_of_eq e),e,Nat.sub_self];simp
def xj{a s:Int}{n g t:Nat}(r:List Nat)(hr:r=zy\/r=vd):(wd a s n).take t++[g]++(wd a s n).drop t≠r/\wd a s n≠r:=by
 have q:∀i,i<7->apl (r.eraseIdx i)=false:=by
  obtain rfl|rfl:=hr <;> decide
 have q0:apl r=false:=by obtain rfl|rfl:=hr <;> decide
 have ap:=GD a s n;refine⟨fun h=>?_,fun h=>?_⟩
 .obtain⟨i,hi,e⟩:=DR (wd a s n) t g
  rw[h]at e;have l:(wd a s n).length<7:=by
   rw[<- e];refine ZD (List.length_eraseIdx_le ..) ?_;obtain rfl|rfl:=hr <;> decide
  rw[<- e,q i (ZD hi l)]at ap;cases ap
 .rw[h,q0]at ap;cases ap
def Ei{c:Int}{k:Nat}{r:List Nat}(hr:r=zy\/r=vd):nms c k≠r:=by
 unfold nms;split
 .exact(xj r hr).1
 .exact(xj (g:=0) (t:=0) r hr).2
inductive Pths (c:Int):List (List Nat)->Prop
 |two:Pths c [nms c 0,nms c 6]
 |more {ps:List (List Nat)} {u:List Nat} {k:Nat}:Pths c ps->u∈ps->u++58::nms c k∉ps->(spN 58 u).length<=5->Pths c (ps++[u++58::nms c k])
end K17
namespace L2
open PySem PyProof.Rows
section
variable{X:Cx}
def tFz(te:TE):TE:=fun σ H Q=>∃b u,isD u=true/\H b=some u/\∀o,te σ (upd H b (.frz o u)) fun v H1=>H1 b=some (.frz o u)/\Q v (upd H1 b u)
def jQ{e:Expr}{te:TE}(he:PE X e te):PE X e (tFz te):=by
 intro XG s σ H Q I h;obtain⟨b,u,hu,hb,h⟩:=h;obtain⟨o,_,_,_,_,_,_,_,_,I1⟩:=I.freeze hu (.inl hb);refine thn (he XG s σ _ _ I1 (h o)) fun v s1 hq_=>?_;obtain⟨v,H1,I2,r,e,q⟩:=hq_;exact⟨v,_,I2.thaw e (fun o' u' z=>by rw[I.base.frzs _ _ _ z]at hb;cases hb;cases hu),r,q⟩
def sFz(ts:TS):TS:=fun D σ H=>∃b u,isD u=true/\H b=some u/\∀o,ts { nx:=fun σ' H1=>H1 b=some (.frz o u)/\D.nx σ' (upd H1 b u),rt:=fun v H1=>H1 b=some (.frz o u)/\D.rt v (upd H1 b u),bk:=fun σ' H1=>H1 b=some (.frz o u)/\D.bk σ' (upd H1 b u),ct:=fun σ' H1=>H1 b=some (.frz o u)/\D.ct σ' (upd H1 b u) } σ (upd H b (.frz o u))
def iG{st:Stmt}{ts:TS}(h:PS X st ts):PS X st (sFz ts):=by
 intro XG s σ H D I q;obtain⟨b,u,hu,hb,q⟩:=q;obtain⟨o,_,_,_,_,_,_,_,_,I1⟩:=I.freeze hu (.inl hb);have nf:∀o' u',X.H₀ b≠some (.frz o' u'):=fun o' u' z=>by rw[I.base.frzs _ _ _ z]at hb;cases hb;cases hu
 refine thn (h XG s σ _ _ I1 (q o)) fun f s1 hf=>?_;cases f with
 |next=>
  obtain⟨σ',H',I',e,z⟩:=hf;exact⟨σ',_,I'.thaw e nf,z⟩
 |brk=>
  obtain⟨σ',H',I',e,z⟩:=hf;exact⟨σ',_,I'.thaw e nf,z⟩
 |cont=>
  obtain⟨σ',H',I',e,z⟩:=hf;exact⟨σ',_,I'.thaw e nf,z⟩
 |ret u=>
  obtain⟨v,σ',H',I',r,e,z⟩:=hf;exact⟨v,σ',_,I'.thaw e nf,r,z⟩
noncomputable def G_(x:Str):WO->Bool
 | .str y _=>y==x
 |_=>false
def EU(K:Wz):V->List V->Hp->VK->Prop:=fun x vs H Q=>∃(p:WN) (ls:List (List Nat)) (l:List Nat) (j:Nat),x = .ref p/\vs=[T l]/\SqL K H p (ls.map T)/\ls[j]? = some l/\(∀i,i<j->ls[i]? ≠ some l)/\Q (.int j) H
theorem wn{x:List Nat}:∀ {ls:List (List Nat)} {XC:List WO},WW (ls.map T) XC->∀ {j:Nat} {l:List Nat},ls[j]? = some l->∃h:j<XC.length,G_ ⟨⟨x⟩⟩ XC[j]=decide (l=x)
 | [],_,.nil,j,b,h=>by simp at h
 |c::r,_,.cons e t,j,b,h=>by
  obtain⟨t',rfl⟩:=(show ∃t',_=YO ⟨⟨c⟩⟩ t' from e);cases j with
  |zero=>
   cases h;refine⟨by simp,?_⟩;show((⟨⟨c⟩⟩:Str)==⟨⟨x⟩⟩)=decide (c=x);by_cases h:c=x
   .subst h;simp
   .rw[Wc h]
    simpa using h
  |succ j=>
   obtain⟨h1,h2⟩:=wn t (j:=j) (by simpa using h);exact⟨by simp;lia,by simpa using h2⟩
def yZ{x:List Nat}{ls:List (List Nat)}{XC:List WO}{t:Tok}(r:WW (ls.map T) XC):∀y,y∈XC.toArray->SeqAt.EqAt A s y (.str ⟨⟨x⟩⟩ t) (G_ ⟨⟨x⟩⟩ y):=fun y hy=>by
 have m:y∈XC:=by simpa using hy
 clear hy
 induction ls generalizing XC with
 |nil=>cases r;cases m
 |cons c q ih=>
  cases r with
  |cons e r=>
   obtain rfl|m:=zk.mp m
   .obtain⟨t',rfl⟩:=(show ∃t',_=YO ⟨⟨c⟩⟩ t' from e)
    exact SeqAt.EqAt.str_str _ _ _ _
   .exact ih r m
def Dr(K:Wz)(hK:X.K=K:=by rfl):MtM X "list.index" (EU K):=by
 subst hK;intro XG s σ H x vs v us Q I rx rv h;obtain⟨p,ls,l,j,rfl,rfl,hq,hj,hi,q⟩:=h;cases rx;obtain⟨u,rfl,ru⟩:=rv.one;obtain⟨t,rfl⟩:=(show ∃t,u=YO ⟨⟨l⟩⟩ t from ru);obtain⟨XC,r,pl,hz⟩:=I.list hq;obtain⟨⟨oc,od,ot,os⟩,e,c,n,d⟩:=pl.isList;simp only at c d;subst c;subst d;obtain⟨jl,jt⟩:=wn (x:=l) r hj;have hl:=r.length;refine YF F.slot_list_index ⟨_,e,rfl⟩ F.entry_list_index (F.args_list_index_2 _ _) (SeqAt.list_indexAt p XC.toArray n od os (.str ⟨⟨l⟩⟩ t) (G_ ⟨⟨l⟩⟩) j (by simpa using jl) (by have:WI<2 ^ 62:=(by rw[tV];decide);lia) (by simpa using jt) fun m hm lt=>?_) ⟨e,yZ r,?_⟩
 .have hm':m<ls.length:=by
   have:m<XC.length:=by simpa using hm
   rw[zm]at hl;lia
  obtain⟨_,h2⟩:=wn (x:=l) r (Wr hm');have:ls[m]≠l:=fun z=>hi m lt (by rw[Wr hm',z])
  simpa [this] using h2
 .exact⟨.int _,H,I.tok _,⟨_,rfl⟩,q⟩
end
end L2
namespace L2
open PySem PyProof.Rows
section
variable{X:Cx}
def ET:V->List V->Hp->VK->Prop:=fun x vs H Q=>∃l b xs zs,x = .ref l/\vs=[.ref b]/\H l=some (.lst xs)/\H b=some (.lst zs)/\xs.length+zs.length<=WI/\Q .non (upd H l (.lst (xs++zs)))
def xf:MtM X "list.extend" ET:=by
 intro XG s σ H x vs v us Q I rx rv h;obtain⟨l,b,xs,zs,rfl,rfl,hH,hB,hz,q⟩:=h;cases rx;obtain⟨u,rfl,ru⟩:=rv.one;cases ru;obtain⟨z,XC,n,r,hl,e⟩:=I.lstM hH;obtain⟨z2,its2,n2,r2,hl2,e2⟩:=I.lstM hB;have fin:WR X XG σ (upd H l (.lst (xs++zs))) { s with heap:=s.heap.update l (Yz (· ++ its2.toArray)) }:=I.lset (its':=XC++its2) hH e (by simp) (r.append r2) (by rw[zc];lia);refine Zb F.slot_list_extend ⟨_,e,rfl⟩ F.entry_list_extend ?_ (F.args_list_extend_2 _ _);show WH _ _ (Yg (.ref l) (.ref b) .none) _ _ s;unfold Yg;refine zv (wpAny_typeOf ⟨_,e2,rfl⟩ ?_);rw[Wf (by rw[show(YE "list" == YE "list")=true by decide,Bool.or_true,Bool.true_or])];refine zv (Y2 e2 rfl (zv (Y2 e rfl ?_)));have hsz:XC.toArray.size+its2.toArray.size<=WI:=by rw[yN,yN];lia
 rw[Wg (by rw[nP hsz,Bool.and_false];exact vV)];refine zv (listUpdate_at e rfl ?_ (hsz:=by rw[yN];lia) (hsz2:=by rw[Array.size_append];lia));exact yy ⟨_,rfl,.non,_,fin,rfl,q⟩
end
def sp8(f:V->V->V->V->V->V->V->V->Hp->VK->XK->Prop):Sp:=fun vs H Q E=>match vs with
 | [x,y,z,u,v,a,b,c]=>f x y z u v a b c H Q E
 |_=>False
def cU{X:Cx}{st:Stmt}:PS X st (fun _ _ _=>False):=fun _ _ _ _ _ _ h=>h.elim
end L2
namespace L2
open Lean Meta Simp PySem
def HK(e:Lean.Expr):MetaM (Option Lean.Expr):=do
 let .const n _:=e.getAppFn|return none
 let as:=e.getAppArgs
 match n with
 | `L2.jw=>
  if as.size<6 then return none
  let h (e:Lean.Expr):Name:=match e.getAppFn with | .const m _=>if m == `L2.T then `L2.V.str else m|_=>.anonymous
  let p:=(h as[2]!,h as[3]!)
  let some th:=[((`L2.V.int,`L2.V.int),`L2.DO),((`L2.V.bl,`L2.V.bl),`L2.Hb),((`L2.V.str,`L2.V.str),`L2.CU),((`L2.V.ref,`L2.V.ref),`L2.Du),((`L2.V.non,`L2.V.non),`L2.GL),((`L2.V.non,`L2.V.int),`L2.Hu),((`L2.V.int,`L2.V.non),`L2.Hz),((`L2.V.int,`L2.V.str),`L2.Gg),((`L2.V.str,`L2.V.int),`L2.Fi)].lookup p|return none
  let c <- mkConstWithFreshMVarLevels th
  let (_,_,b) <- forallMetaTelescope (<- inferType c)
  let some (_,l,r):=b.eq? | return none
  if <- isDefEq l e then return some (<- instantiateMVars r) else return none
 | `HSub.hSub | `HAdd.hAdd=>
  if as.size != 6 then return none
  unless as[0]!.isConstOf `Nat do return none
  let some a:=as[4]!.nat? | return none
  let some b:=as[5]!.nat? | return none
  return some (mkNatLit (if n == `HSub.hSub then a-b else a+b))
 | `id=>return if as.size==2 then some as[1]! else none
 | `List.length=>
  if as.size != 2 then return none
  let mut l:=as[1]!
  let mut k:=0
  while l.isAppOfArity `List.cons 3 do
   k:=k+1
   l:=l.appArg!
  if l.isAppOfArity `List.nil 1 then return some (mkNatLit k)
  if k==0 then return none
  let mut r:=mkApp (e.appFn!) l
  for _ in [0:k] do r:=mkNatAdd r (mkNatLit 1)
  return some r
 | `List.map | `List.set | `List.replicate | `L2.fg=>nl e
 | `HAppend.hAppend=>if as.size==6&&(as[0]!.isAppOf `List || as[0]!.isConstOf `L2.St) then nl e else return none
 | `Option.bind=>
  if as.size != 4 then return none
  if as[2]!.isAppOfArity `Option.some 2 then return some (mkApp as[3]! as[2]!.appArg!).headBeta
  if as[2]!.isAppOfArity `Option.none 1 then return some (mkApp (mkConst `Option.none [e.getAppFn.constLevels![1]!]) as[1]!)
  return none
 | `GetElem?.getElem?=>
  if as.size != 7 then return none
  unless as[0]!.isAppOf `List || as[0]!.isConstOf `L2.St do return none
  let some k:=as[6]!.nat? | return none
  let mut l:=as[5]!
  let mut k:=k
  while l.isAppOfArity `List.cons 3 do
   if k==0 then return some (mkApp2 (mkConst `Option.some [l.getAppFn.constLevels![0]!]) (l.getArg! 0) (l.getArg! 1))
   k:=k-1
   l:=l.appArg!
  if l.isAppOfArity `List.nil 1 then return some (mkApp (mkConst `Option.none [l.getAppFn.constLevels![0]!]) (l.getArg! 0))
  return none
 |_=>return none
where
 nl (e:Lean.Expr):MetaM (Option Lean.Expr):=do
  let r <- norm 200 e
  return if r.isAppOfArity `List.cons 3 || r.isAppOfArity `List.nil 1 then some r else none
 norm (k:Nat) (e:Lean.Expr):MetaM Lean.Expr:=do
  let k+1:=k|return e
  let r <- whnfD e
  if r.isAppOfArity `List.cons 3 then
   return mkApp3 r.getAppFn (r.getArg! 0) (r.getArg! 1).headBeta (<- norm k r.appArg!)
  if r.isAppOfArity `List.nil 1 then return r
  if e.isAppOfArity `List.append 3 then return <- mkAppM `HAppend.hAppend #[e.getArg! 1,e.getArg! 2]
  return e
def Fk:List Name:=[`L2.gLstU,`L2.tRaiseI,`L2.sFldE,`L2.gPutE,`L2.gCatU,`L2.gSlU,`L2.tSeqH,`L2.Io,`L2.EU,`L2.tFz,`L2.sFz,`L2.ET]
def Dz(e:Lean.Expr):MetaM (Option Lean.Expr):=do
 if let some r <- D3 e then return some r
 let .const n us:=e.getAppFn|return none
 unless Fk.contains n do return <- HK e
 let some (.defnInfo d):=(<- getEnv).find? n|return none
 let v:=d.value.instantiateLevelParams d.levelParams us
 if e.getAppNumArgs<v.getNumHeadLambdas then return none
 let b:=v.beta e.getAppArgs
 match <- reduceMatcher? b with
 | .reduced r=>return some r
 | .notMatcher=>return some b
 |_=>return none
dsimproc_decl qV (_):=fun e=>do
 match <- Dz e with
 |some r=>return .visit r
 |none=>return .continue
def rdY:(∀i j:Int,(V.int i=V.int j)=(i=j))/\(∀p q:WN,(V.ref p=V.ref q)=(p=q))/\(∀ {α:Type} (l:List α),l++[]=l)/\(∀ {α:Type} (a:α) (l:List α) (b:α) (m:List α),(a::l=b::m)=(a=b/\l=m))/\(∀ {α:Type} {p:α->Prop} {a':α},(∃a,a'=a/\p a)↔p a')/\(∀ {α:Type} {p:α->Prop} {a':α},(∃a,a=a'/\p a)↔p a')/\(∀ {α:Type} (a:α),(a=a)=True)/\(∀(p:Prop) [Decidable p] (x y:Prop),ite (¬ p) x y=ite p y x):=
 ⟨V.int.injEq,V.ref.injEq,Zs,List.cons.injEq,exists_eq_left',exists_eq_left,eq_self,ite_not⟩
end L2
namespace L2
def Ks{p q:Prop}{C:Prop}(z:p/\q)(k:p->q->C):C:=by obtain⟨h0,h1⟩:=z;exact k h0 h1
def Kz{p q r s t u:Prop}{C:Prop}(z:p/\q/\r/\s/\t/\u)(k:p->q->r->s->t->u->C):C:=by obtain⟨h0,h1,h2,h3,h4,h5⟩:=z;exact k h0 h1 h2 h3 h4 h5
def JZ{α β:Type}{p q r s:α->β->Prop}{C:Prop}(z:∃a b,p a b/\q a b/\r a b/\s a b)(k:∀a b,p a b->q a b->r a b->s a b->C):C:=by obtain⟨a,b,h0,h1,h2,h3⟩:=z;exact k a b h0 h1 h2 h3
def Ku{α β:Type}{p q r s t u v w x y:α->β->Prop}{C:Prop}(z:∃a b,p a b/\q a b/\r a b/\s a b/\t a b/\u a b/\v a b/\w a b/\x a b/\y a b)(k:∀a b,p a b->q a b->r a b->s a b->t a b->u a b->v a b->w a b->x a b->y a b->C):C:=by obtain⟨a,b,h0,h1,h2,h3,h4,h5,h6,h7,h8,h9⟩:=z;exact k a b h0 h1 h2 h3 h4 h5 h6 h7 h8 h9
def Kc{α β γ:Type}{p q:α->β->γ->Prop}{C:Prop}(z:∃a b c,p a b c/\q a b c)(k:∀a b c,p a b c->q a b c->C):C:=by obtain⟨a,b,c,h0,h1⟩:=z;exact k a b c h0 h1
def Bz{α β γ:Type}{p q r s:α->β->γ->Prop}{C:Prop}(z:∃a b c,p a b c/\q a b c/\r a b c/\s a b c)(k:∀a b c,p a b c->q a b c->r a b c->s a b c->C):C:=by obtain⟨a,b,c,h0,h1,h2,h3⟩:=z;exact k a b c h0 h1 h2 h3
def Kd{α β γ:Type}{p q r s t:α->β->γ->Prop}{C:Prop}(z:∃a b c,p a b c/\q a b c/\r a b c/\s a b c/\t a b c)(k:∀a b c,p a b c->q a b c->r a b c->s a b c->t a b c->C):C:=by obtain⟨a,b,c,h0,h1,h2,h3,h4⟩:=z;exact k a b c h0 h1 h2 h3 h4
def F7{α β γ:Type}{p q r s t u v w:α->β->γ->Prop}{C:Prop}(z:∃a b c,p a b c/\q a b c/\r a b c/\s a b c/\t a b c/\u a b c/\v a b c/\w a b c)(k:∀a b c,p a b c->q a b c->r a b c->s a b c->t a b c->u a b c->v a b c->w a b c->C):C:=by obtain⟨a,b,c,h0,h1,h2,h3,h4,h5,h6,h7⟩:=z;exact k a b c h0 h1 h2 h3 h4 h5 h6 h7
def Kq{α β γ:Type}{p q r s t u v w x y:α->β->γ->Prop}{C:Prop}(z:∃a b c,p a b c/\q a b c/\r a b c/\s a b c/\t a b c/\u a b c/\v a b c/\w a b c/\x a b c/\y a b c)(k:∀a b c,p a b c->q a b c->r a b c->s a b c->t a b c->u a b c->v a b c->w a b c->x a b c->y a b c->C):C:=by obtain⟨a,b,c,h0,h1,h2,h3,h4,h5,h6,h7,h8,h9⟩:=z;exact k a b c h0 h1 h2 h3 h4 h5 h6 h7 h8 h9
def IG{α β γ δ:Type}{p q:α->β->γ->δ->Prop}{C:Prop}(z:∃a b c d,p a b c d/\q a b c d)(k:∀a b c d,p a b c d->q a b c d->C):C:=by obtain⟨a,b,c,d,h0,h1⟩:=z;exact k a b c d h0 h1
def IN{α β γ δ:Type}{p q r:α->β->γ->δ->Prop}{C:Prop}(z:∃a b c d,p a b c d/\q a b c d/\r a b c d)(k:∀a b c d,p a b c d->q a b c d->r a b c d->C):C:=by obtain⟨a,b,c,d,h0,h1,h2⟩:=z;exact k a b c d h0 h1 h2
def xZ{α β γ δ:Type}{p q r s:α->β->γ->δ->Prop}{C:Prop}(z:∃a b c d,p a b c d/\q a b c d/\r a b c d/\s a b c d)(k:∀a b c d,p a b c d->q a b c d->r a b c d->s a b c d->C):C:=by obtain⟨a,b,c,d,h0,h1,h2,h3⟩:=z;exact k a b c d h0 h1 h2 h3
def zV{α β γ δ:Type}{p q r s t:α->β->γ->δ->Prop}{C:Prop}(z:∃a b c d,p a b c d/\q a b c d/\r a b c d/\s a b c d/\t a b c d)(k:∀a b c d,p a b c d->q a b c d->r a b c d->s a b c d->t a b c d->C):C:=by obtain⟨a,b,c,d,h0,h1,h2,h3,h4⟩:=z;exact k a b c d h0 h1 h2 h3 h4
def Js{α β γ δ:Type}{p q r s t u v:α->β->γ->δ->Prop}{C:Prop}(z:∃a b c d,p a b c d/\q a b c d/\r a b c d/\s a b c d/\t a b c d/\u a b c d/\v a b c d)(k:∀a b c d,p a b c d->q a b c d->r a b c d->s a b c d->t a b c d->u a b c d->v a b c d->C):C:=by obtain⟨a,b,c,d,h0,h1,h2,h3,h4,h5,h6⟩:=z;exact k a b c d h0 h1 h2 h3 h4 h5 h6
def KM{α β γ δ:Type}{p q r s t u v w x y:α->β->γ->δ->Prop}{C:Prop}(z:∃a b c d,p a b c d/\q a b c d/\r a b c d/\s a b c d/\t a b c d/\u a b c d/\v a b c d/\w a b c d/\x a b c d/\y a b c d)(k:∀a b c d,p a b c d->q a b c d->r a b c d->s a b c d->t a b c d->u a b c d->v a b c d->w a b c d->x a b c d->y a b c d->C):C:=by obtain⟨a,b,c,d,h0,h1,h2,h3,h4,h5,h6,h7,h8,h9⟩:=z;exact k a b c d h0 h1 h2 h3 h4 h5 h6 h7 h8 h9
def IK{α β γ δ ε:Type}{p q r s t:α->β->γ->δ->ε->Prop}{C:Prop}(z:∃a b c d e,p a b c d e/\q a b c d e/\r a b c d e/\s a b c d e/\t a b c d e)(k:∀a b c d e,p a b c d e->q a b c d e->r a b c d e->s a b c d e->t a b c d e->C):C:=by obtain⟨a,b,c,d,e,h0,h1,h2,h3,h4⟩:=z;exact k a b c d e h0 h1 h2 h3 h4
end L2
open L2 renaming T -> VZ
namespace K18
open PySem L2
noncomputable abbrev ms:List Str:=["_law_script","_law_base","_law_paths_here","_law_currencies_here","_law_bound","_law_made","_law_late","_law_k","_law_cell","_law_first_here","_law_last"]
structure Adr where
 eK:WN
 ra:WN
 zf:WN
 y1:WN
 Ao:WN
 vM:WN
 pc:WN
 yR:WN
 yo:WN
 uQ:WN
 C0:WN
 yw:WN
 vm:WN
 z8:WN
 Bl:WN
 tS:WN
 gn:WN
 Bd:WN
 yM:WN
 aS:WN
 aU:WN
 bQ:WN
 aX:WN
 ce:WN
 dJ:WN
 jF:WN
abbrev zzK(K:Wz)(a b:WN)(c:Bool):Prop:=Yt K (.ref a) (.ref b)=some c
abbrev zzX(K:Wz)(a:WN):Prop:=PySem.W.excIn K a [.type "ValueError",.type "Exception",.type "BaseException",.type "object"] "ValueError.__new__" = true
structure Txt(K:Wz)(mg:Str->Option WO)(a:Adr):Prop where
 v9:DfN K mg "is_whole" (top 21)
 vJ:DfN K mg "is_among" (top 22)
 uO:DfN K mg "signs_lie" (top 23)
 yk:DfN K mg "is_name" (top 24)
 yS:DfN K mg "is_note" (top 25)
 sx:DfN K mg "is_amount" (top 27)
 pF:DfN K mg "is_currency" (top 28)
 Cu:DfN K mg "is_row" (top 30)
 uU:DfN K mg "need_form" (top 31)
 oN:DfN K mg "need_account" (top 32)
 A1:DfN K mg "turned" (top 33)
 yY:DfN K mg "sums_of" (top 34)
 uv:DfN K mg "need_even" (top 35)
 sH:DfN K mg "need_rows" (top 36)
 sy:DfN K mg "are_names" (top 38)
 za:DfN K mg "is_path" (top 39)
 wk:DfN K mg "names_of" (top 40)
 Eh:DfN K mg "above" (top 41)
 zh:DfN K mg "rows_of" (top 43)
 kJ:DfN K mg "bookings_up_to" (top 44)
 AD:DfN K mg "lifted" (top 45)
 vS:DfN K mg "by_paths" (top 46)
 Cy:DfN K mg "report" (top 47)
 zC:DfN K mg "is_day" (top 50)
 FK:DfN K mg "is_month" (top 51)
 sC:DfN K mg "leap_days" (top 52)
 tX:DfN K mg "first_day" (top 53)
 uX:DfN K mg "last_day" (top 54)
 u8:DfN K mg "month_of" (top 55)
 ix:DfN K mg "need_note_and_gate" (top 61)
 Fs:DfN K mg "book" (top 62)
 FZ:DfN K mg "undo" (top 63)
 nY:DfN K mg "_law_cell_at" (top 70)
 rh:DfN K mg "_law_mixed" (top 71)
 qR:DfN K mg "_law_whole" (top 72)
 qA:DfN K mg "_law_names" (top 73)
 rn:DfN K mg "_law_paths" (top 74)
 jJ:DfN K mg "_law_currencies" (top 75)
 qN:DfN K mg "_law_holds" (top 76)
 rH:DfN K mg "_law_chart" (top 77)
 qO:DfN K mg "_law_first" (top 78)
 wj:DfN K mg "_law_day" om
 pi:DfN K mg "_law_amount" (top 80)
 uz:DfN K mg "_law_rows" (top 81)
 o5:DfN K mg "_law_undone" (top 82)
 sq:DfN K mg "_law_done" (top 83)
 mw:DfN K mg "_law_together" (top 84)
 qv:DfN K mg "_law_kinds" (top 85)
 ju:DfN K mg "_law_right_above" (top 86)
 qY:DfN K mg "_law_right" cH
 sZ:DfN K mg "_law_told" (top 88)
 Iu:∃fd,Fun K "law" "law" c9 a.eK fd
 js:DfM K a.aS "__init__" "Account.__init__" (bA (top 58) 0)
 i4:DfM K a.aS "stands_on" "Account.stands_on" (bA (top 58) 1)
 gO:DfM K a.aS "stands_later" "Account.stands_later" (bA (top 58) 2)
 kX:DfM K a.aU "__init__" "Chart.__init__" (bA (top 59) 0)
 mI:DfM K a.aU "add_top" "Chart.add_top" (bA (top 59) 1)
 sU:DfM K a.aU "add" "Chart.add" fP
 rC:DfM K a.aU "shut" "Chart.shut" (bA (top 59) 3)
 sY:DfM K a.aU "has" "Chart.has" (bA (top 59) 4)
 mK:DfM K a.aU "account" "Chart.account" (bA (top 59) 5)
 i7:DfM K a.aU "currency_of" "Chart.currency_of" (bA (top 59) 7)
 mL:DfM K a.aU "is_open" "Chart.is_open" (bA (top 59) 9)
 zx:DfM K a.aU "beneath" "Chart.beneath" (bA (top 59) 10)
 kh:DfM K a.aU "accounts" "Chart.accounts" (bA (top 59) 11)
 mD:DfM K a.bQ "__init__" "Gate.__init__" (bA (top 65) 0)
 pd:DfM K a.bQ "closed" "Gate.closed" (bA (top 65) 1)
 uB:DfM K a.bQ "lets" "Gate.lets" (bA (top 65) 2)
 yJ:DfM K a.bQ "need_next" "Gate.need_next" (bA (top 65) 3)
 E6:DfM K a.bQ "shut" "Gate.shut" (bA (top 65) 4)
 jm:DfM K a.aX "__init__" "Journal.__init__" (bA (top 66) 0)
 o4:DfM K a.aX "put" "Journal.put" (bA (top 66) 1)
 zB:DfM K a.aX "many" "Journal.many" (bA (top 66) 2)
 jP:DfM K a.aX "booking" "Journal.booking" (bA (top 66) 3)
 mJ:DfM K a.aX "every" "Journal.every" (bA (top 66) 4)
 i5:DfM K a.aX "undone_by" "Journal.undone_by" (bA (top 66) 5)
 mt:DfM K a.ce "__init__" "Sums.__init__" (bA (top 68) 0)
 wf:DfM K a.ce "put" "Sums.put" (bA (top 68) 1)
 lD:DfM K a.ce "months_of" "Sums.months_of" (bA (top 68) 2)
 v3:DfM K a.ce "own" "Sums.own" (bA (top 68) 3)
 xg:DfM K a.ce "currencies" "Sums.currencies" (bA (top 68) 5)
 D7:mg "HouseError" = some (.ref a.ra)
 HZ:mg "BadName" = some (.ref a.zf)
 HS:mg "BadNote" = some (.ref a.y1)
 Jr:mg "BadDay" = some (.ref a.Ao)
 F8:mg "BadMonth" = some (.ref a.vM)
 CC:mg "BadCurrency" = some (.ref a.pc)
 HX:mg "BadPath" = some (.ref a.yR)
 HY:mg "BadKind" = some (.ref a.yo)
 EX:mg "NoAccount" = some (.ref a.uQ)
 J8:mg "Twice" = some (.ref a.C0)
 HW:mg "NotOpen" = some (.ref a.yw)
 Gw:mg "HasBelow" = some (.ref a.vm)
 Ic:mg "BadRow" = some (.ref a.z8)
 Iy:mg "Uneven" = some (.ref a.Bl)
 EY:mg "NoBooking" = some (.ref a.tS)
 uT:mg "Undone" = some (.ref a.gn)
 Jo:mg "Closed" = some (.ref a.Bd)
 H_:mg "NotNext" = some (.ref a.yM)
 qd:mg "Account" = some (.ref a.aS)
 C_:mg "Chart" = some (.ref a.aU)
 HN:mg "Gate" = some (.ref a.bQ)
 yp:mg "Journal" = some (.ref a.aX)
 Hh:mg "Sums" = some (.ref a.ce)
 bt:Cls K a.aS
 iM:NoAttr K a.aS "kind"
 fj:NoAttr K a.aS "currency"
 eM:NoAttr K a.aS "first"
 cC:NoAttr K a.aS "until"
 eO:NoAttr K a.aS "below"
 oh:MkC K a.aS
 bH:Cls K a.aU
 bT:NoAttr K a.aU "by_path"
 Aa:MkC K a.aU
 jT:Cls K a.bQ
 cT:NoAttr K a.bQ "last_closed"
 C6:MkC K a.bQ
 bD:Cls K a.aX
 bW:NoAttr K a.aX "bookings"
 dC:NoAttr K a.aX "undoings"
 ww:MkC K a.aX
 gL:Cls K a.ce
 eN:NoAttr K a.ce "by_place"
 Dl:MkC K a.ce
 Cr:zzX K a.gn
 JQ:fm K a.gn
 mE:PySem.W.exmOne K (.ref a.gn) (.ref a.gn)=some true
 zt:mg "LENGTHS" = some (.ref a.dJ)
 dJ:∃(o:Obj) (XC:Array WO) (n:Nat),K.lookup a.dJ=some o/\o.cls = .type "tuple" /\ o.data = .seq XC n/\XC.size<=WI/\WW (([31,28,31,30,31,30,31,31,30,31,30,31]:List Int).map V.int) XC.toList
 Eg:mg "KINDS" = some (.ref a.jF)
 jF:∃(o:Obj) (XC:Array WO) (n:Nat),K.lookup a.jF=some o/\o.cls = .type "tuple" /\ o.data = .seq XC n/\XC.size<=WI/\WW (([[104,97,118,101],[111,119,101],[111,119,110],[103,97,105,110],[99,111,115,116]]:List (List Nat)).map T) XC.toList
 xD:mg "all" = none
 IZ:mg "any" = none
 Cl:mg "bool" = none
 lE:mg "enumerate" = none
 AS:mg "int" = none
 a_:mg "isinstance" = none
 dq:mg "len" = none
 fV:mg "list" = none
 Ja:mg "max" = none
 Ix:mg "min" = none
 eY:mg "range" = none
 iA:mg "sorted" = none
 pY:mg "str" = none
 EW:mg "sum" = none
 jR:mg "tuple" = none
def rE:Zc "all" = some (.builtin "all"):=by decide +kernel
def GV:Zc "any" = some (.builtin "any"):=by decide +kernel
def xI:Zc "bool" = some (.type "bool"):=by decide +kernel
def vz:Zc "int" = some (.type "int"):=by decide +kernel
def aZ:Zc "isinstance" = some (.builtin "isinstance"):=by decide +kernel
def cz:Zc "len" = some (.builtin "len"):=by decide +kernel
def d9:Zc "list" = some (.type "list"):=by decide +kernel
def HH:Zc "max" = some (.builtin "max"):=by decide +kernel
def Fu:Zc "min" = some (.builtin "min"):=by decide +kernel
def gh:Zc "sorted" = some (.builtin "sorted"):=by decide +kernel
def k8:Zc "str" = some (.type "str"):=by decide +kernel
def AO:Zc "sum" = some (.builtin "sum"):=by decide +kernel
def ii:Zc "tuple" = some (.type "tuple"):=by decide +kernel
def fU:df ["_law_script","_law_base","_law_paths_here","_law_currencies_here","_law_bound","_law_made","_law_late","_law_k","_law_cell","_law_first_here","_law_last"] ["_law_script"] (ay c9):=⟨rfl,rfl,rfl,by decide +kernel,rfl,by decide +kernel,by decide +kernel⟩
seal L2.PE L2.PT L2.PW L2.PA L2.PS L2.PSs L2.PI L2.PG L2.PGs L2.PO
open PySem L2 K19 K22
local macro_rules | `(tactic| walk_at "k") => `(tactic| exact ⟨rfl, by decide +kernel, rfl, by decide +kernel, rfl, bP rfl, rfl, aN rfl, aN (k := fun y => qI y _) rfl, bO rfl⟩)
local macro_rules | `(tactic| walk_at "c") => `(tactic| exact ⟨rfl, rfl, rfl, by decide +kernel, rfl, by decide +kernel, by decide +kernel⟩)
local macro_rules | `(tactic| walk_at "b") => `(tactic| (intro _ _ _ _ _ _ us hl; first | (obtain ⟨_, e⟩ := ex1 hl; subst e; rfl) | (obtain ⟨_, _, e⟩ := ex2 hl; subst e; rfl) | (obtain ⟨_, _, _, e⟩ := ex3 hl; subst e; rfl) | (obtain ⟨_, _, _, _, e⟩ := ex4 hl; subst e; rfl) | (obtain ⟨_, _, _, _, _, e⟩ := ex5 hl; subst e; rfl) | (obtain ⟨_, _, _, _, _, _, e⟩ := ex6 hl; subst e; rfl) | (obtain ⟨_, _, _, _, _, _, _, e⟩ := ex7 hl; subst e; rfl) | (obtain ⟨_, _, _, _, _, _, _, _, e⟩ := ex8 hl; subst e; rfl)))
local macro_rules | `(tactic| walk_at "d") => `(tactic| try simp only [qV, rdI, rdY, Int.reduceLT, Int.reduceLE, Int.reducePow, Int.reduceNeg, Nat.reducePow, if_false, if_true, ↓reduceIte, forall_const])
local macro_rules | `(tactic| walk_at "o") => `(tactic| first | exact r9 (by decide) (by assumption : 1000 <= WI) | lia)
local macro_rules | `(tactic| walk_at "z") => `(tactic| ((try with_reducible refine goH ?_); (try dsimp only [↓qV]); (try dsimp only [Int.reduceNeg, Int.reducePow, Nat.reducePow, qV])))
section
variable{pS:WN}{ns:List Int}{P:WL}{w:WK}{K:Wz}{mg:Str->Option WO}{base:WF}{a:Adr}
def szl:1000<=WI:=by rw[tV];decide
def Ka:1000<WI:=by rw[tV];decide
def itp{c:Prop}[Decidable c]{t e:Prop}(h:c)(x:t):ite c t e:=by rw[Wf h];exact x
def itn{c:Prop}[Decidable c]{t e:Prop}(h:¬ c)(x:e):ite c t e:=by rw[Wg h];exact x
def sp_lW:Sp:=sp1 fun x H Q _=>WS H/\asI x fun _=>Q (.bl true) H
def uu(T:Txt K mg a):Fo P w K mg base "is_whole" 1 sp_lW:=by
 refine T.v9.hg ["thing"] (gG1 fun x0 fA XD A XF s H Q E ND HU hr h=>?_);obtain⟨hN,h1⟩:=h;obtain⟨i,rfl,k⟩:=a9 h1;refine⟨hN,_,(af (aA (cZ (aB (cI K) rfl T.a_ aZ (fa2 (fv 0) (cF (v:=.ty "int") rfl T.AS vz rfl))) (dv (zT (aB (cI K) rfl T.a_ aZ (fa2 (fv 0) (cF (v:=.ty "bool") rfl T.Cl xI rfl)))))))),?_⟩;walk_at "d"
 first|exact k|exact iteT k
noncomputable def amg(x:V)(lo hi:Int):Bool:=match x with
 | .int i=>decide (lo<=i)&&decide (i<=hi)
 |_=>false
def sp_uR:Sp:=sp3 fun x y z H Q _=>WS H/\asI x fun i=>asI y fun lo=>asI z fun hi=>Q (.bl (amg (.int i) lo hi)) H
def iy(T:Txt K mg a):Fo P w K mg base "is_among" 2 sp_uR:=by
 refine T.vJ.hg ["thing","least","most"] (gG3 fun x0 x1 x2 fA XD A XF s H Q E ND HU hr h=>?_);obtain⟨hN,h1⟩:=h;obtain⟨i,rfl,h2⟩:=a9 h1;obtain⟨lo,rfl,h3⟩:=a9 h2;obtain⟨hi,rfl,k⟩:=a9 h3;refine⟨hN,_,(af (aA (cZ (aH (uu T) hr aq (fa1 (fv 0))) (dv (jC dX dX (fv 1) (fv 0) (fv 2)))))),?_⟩;walk_at "d";refine⟨hN,?_⟩;split
 .rename_i h1
  have e:amg (.int i) lo hi=decide (i<=hi):=by simp[amg,h1]
  rw[e]at k;exact k
 .rename_i h1
  have e:amg (.int i) lo hi=false:=by simp[amg,h1]
  rw[e]at k;exact k
def sp_xW:Sp:=sp1 fun x H Q _=>WS H/\asI x fun i=>Q (.bl (amg (.int i) 0 146096)) H
def iW(T:Txt K mg a):Fo P w K mg base "is_day" 3 sp_xW:=by
 refine T.zC.hg ["thing"] (gG1 fun x0 fA XD A XF s H Q E ND HU hr h=>?_);obtain⟨hN,h1⟩:=h;obtain⟨i,rfl,k⟩:=a9 h1;refine⟨hN,_,(af (aA (aH (iy T) hr aq (fa3 (fv 0) ad ad)))),?_⟩;walk_at "d";exact⟨hN,k⟩
def Ge(a b:Nat):leN [a] [b]=decide (a<=b):=by
 unfold leN;have h:([b]<[a])↔b<a:=by
  rw[List.cons_lt_cons_iff];simp
 rw[decide_eq_decide.mpr h];by_cases h2:b<a
 .rw[We h2,Wc (by walk_at "o")];rfl
 .rw[Wc h2,We (by walk_at "o")];rfl
def ok(l:List Nat):Prop:=(∀c∈l,c<128)/\l.length<=1000
def mO{l:List Nat}(h:ok l):l.length<=WI:=r9 h.2 (by rw[tV];decide)
noncomputable def lie(l:List Nat)(a b:Nat):Bool:=l.all fun c=>decide (a<=c)&&decide (c<=b)
def sp_rp:Sp:=sp3 fun x y z H Q _=>WS H/\asT x fun l=>asT y fun lo=>asT z fun hi=>ok l/\∃a b,lo=[a]/\hi=[b]/\Q (.bl (lie l a b)) H
def gG(T:Txt K mg a):Fo P w K mg base "signs_lie" 1 sp_rp:=by
 refine T.uO.hg ["text","least","most"] (gG3 fun x0 x1 x2 fA XD A XF s H Q E ND HU hr h=>?_);obtain⟨hN,h1⟩:=h;obtain⟨l,rfl,h2⟩:=bX h1;obtain⟨lo,rfl,h3⟩:=bX h2;obtain⟨hi,rfl,hl,a,b,rfl,rfl,k⟩:=bX h3;refine⟨hN,_,(af (aA (aB (mS K rfl) rfl T.xD rE (fa1 (bK rfl (cl:=_) (x:="sign") (xs:=["sign"]) (fr:=["least","most"]) (ks:=[1,2]) (by walk_at "k") rfl (Gu (fv 0)) (fun _ _ _ _ _=>(av (i:=0) (cQ (l:=["sign","least","most"]) (by decide)) rfl (Wi rfl))) (fun _ _ _ _ _=>cO) (fun _ _ _ _ _=>(jC dX dX (fv 1) (fv 0) (fv 2)))))))),?_⟩;walk_at "z";refine cmS (fun _=>True) (fun _ _ _=>trivial) l (fun _=>true) (fun c=>.bl (decide (a<=c)&&decide (c<=b))) (fun R r=>r) hl.1 (mO hl) (fun c _ H R _ r=>r) (fun c _ _ H R _ r=>?_) (fun D hD=>?_)
 .walk_at "d"
  simp only[Ge];by_cases h1:a<=c
  .simp only[h1,decide_true,Bool.true_and]at r |-
   exact r
  .simp only[h1,decide_false,Bool.false_and]at r |-
   exact r
 .refine⟨l.map fun c=>decide (a<=c)&&decide (c<=b),al (by rw[aa,Zo.mpr (by simp),uR];rfl),H,Gc.none (aj _ hD),?_⟩
  have e:(l.map fun c=>decide (a<=c)&&decide (c<=b)).all id=lie l a b:=by
   rw[List.all_map];rfl
  rw[e];exact k
noncomputable def cur(l:List Nat):Bool:=decide (l.length=3)&&lie l 65 90
def sp_zk:Sp:=sp1 fun x H Q _=>WS H/\asT x fun l=>cur l=true/\Q (.bl true) H
def Dt{l:List Nat}(h:cur l=true):l.length=3/\lie l 65 90=true:=by
 unfold cur at h
 simpa using h
def Hy{l:List Nat}{a b:Nat}(h:lie l a b=true)(hb:b<128)(hl:l.length<=1000):ok l:=by
 unfold lie at h;rw[Zv]at h;exact⟨fun c hc=>by have:=h c hc;simp at this;lia,hl⟩
def ie(T:Txt K mg a):Fo P w K mg base "is_currency" 2 sp_zk:=by
 refine T.pF.hg ["thing"] (gG1 fun x0 fA XD A XF s H Q E ND HU hr h=>?_);obtain⟨hN,h1⟩:=h;obtain⟨l,rfl,hc,k⟩:=bX h1;obtain⟨h3,hl⟩:=Dt hc;have ol:=Hy hl (by decide) (by lia);refine⟨hN,_,(af (aA (cZ (aB (cI K) rfl T.a_ aZ (fa2 (fv 0) (cF (v:=.ty "str") rfl T.pY k8 rfl))) (cZ (cX (cY K HU) (aB (bV K) rfl T.dq cz (fa1 (fv 0))) ad (dD _)) (dv (aH (gG T) hr aq (fa3 (fv 0) (ak [65]) (ak [90])))))))),?_⟩;walk_at "d";refine⟨mO ol,itp (by lia) ⟨hN,ol,65,90,rfl,rfl,?_⟩⟩;rw[hl];exact k
noncomputable def nm(l:List Nat):Bool:=decide (1<=l.length)&&decide (l.length<=12)&&lie l 97 122
def sp_vV:Sp:=sp1 fun x H Q _=>WS H/\asT x fun l=>ok l/\Q (.bl (nm l)) H
def nv(T:Txt K mg a):Fo P w K mg base "is_name" 2 sp_vV:=by
 refine T.yk.hg ["thing"] (gG1 fun x0 fA XD A XF s H Q E ND HU hr h=>?_);obtain⟨hN,h1⟩:=h;obtain⟨l,rfl,hl,k⟩:=bX h1;refine⟨hN,_,(af (aA (cZ (aB (cI K) rfl T.a_ aZ (fa2 (fv 0) (cF (v:=.ty "str") rfl T.pY k8 rfl))) (cZ (jC dX dX ad (aB (bV K) rfl T.dq cz (fa1 (fv 0))) ad) (dv (aH (gG T) hr aq (fa3 (fv 0) (ak [97]) (ak [122])))))))),?_⟩;walk_at "d";refine⟨mO hl,?_⟩;unfold nm at k;split
 .rename_i h1
  rw[We (by lia:1<=l.length)]at k;split
  .rename_i h2
   rw[We (by lia:l.length<=12)]at k;exact⟨hN,hl,97,122,rfl,rfl,k⟩
  .rename_i h2
   rw[Wc (by lia:¬ l.length<=12)]at k;exact k
 .rename_i h1
  rw[Wc (by lia:¬ 1<=l.length)]at k;exact k
def sp_q_(K:Wz):Sp:=sp1 fun x H Q _=>asR x fun p=>WS H/\∃ls:List (List Nat),SqL K H p (ls.map VZ)/\ls.length<=300/\(∀l∈ls,ok l)/\Q (.bl (decide (1<=ls.length)&&decide (ls.length<=6)&&ls.all nm)) H
def rP(T:Txt K mg a):Fo P w K mg base "are_names" 3 (sp_q_ K):=by
 refine T.sy.hg ["names"] (gG1 fun x0 fA XD A XF s H Q E ND HU hr h=>?_);refine h_ (aQ h) fun p yy1 hN yz=>bq yz fun ls hS hl hx k=>?_;subst yy1;refine⟨hN,_,(af (aA (cZ (jC dX dX ad (aB (bV K) rfl T.dq cz (fa1 (fv 0))) ad) (dv (aB (mS K rfl) rfl T.xD rE (fa1 (bK rfl (cl:=_) (x:="name") (xs:=["name"]) (fr:=[]) (ks:=[]) (by walk_at "k") rfl (a7 K (fv 0)) (fun _ _ _ _ _=>(av (i:=0) (cQ (l:=["name"]) (by decide)) rfl (Wi rfl))) (fun _ _ _ _ _=>cO) (fun _ _ _ _ _=>(aH (nv T) hr wS (fa1 (fv 0))))))))))),?_⟩;walk_at "d";refine⟨_,.inl hS,?_⟩;have sz:=szl;rw[zm];split
 .rename_i h1
  rw[We (by lia:1<=ls.length)]at k;split
  .rename_i h2
   rw[We (by lia:ls.length<=6)]at k;refine cmL p (ls.map VZ) (fun H'=>WS H'/\SqL K H' p (ls.map VZ)) (fun D ys hD=>⟨aE hN rfl,hS.same (aj _ hD)⟩) (fun H' c=>c.2) (fun _=>true) (fun x=>match x with | .str y=>.bl (nm y.cps.toList)|_=>.non) (fun R r=>r) hS (by rw[zm];lia) (fun x _ H' R _ r=>r) (fun x hx' _ H' R c r=>?_) (fun D hD=>?_)
   .obtain⟨l,ml,rfl⟩:=yI.mp hx'
    walk_at "z";exact⟨c.1,hx l ml,r⟩
   .refine⟨ls.map nm,al (by rw[aa,Zo.mpr (by simp),uR,uR];rfl),H,Gc.none (aj _ hD),?_⟩
    rw[List.all_map];exact k
  .rename_i h2
   rw[Wc (by lia:¬ ls.length<=6)]at k;exact k
 .rename_i h1
  rw[Wc (by lia:¬ 1<=ls.length)]at k;exact k
noncomputable def ir(l:List Nat):Bool:=decide (1<=(spN 58 l).length)&&decide ((spN 58 l).length<=6)&&(spN 58 l).all nm
def sp_vN:Sp:=sp1 fun x H Q _=>WS H/\asT x fun l=>((∀c∈l,c<128)/\l.length<=199)/\Q (.bl (ir l)) H
def nU(T:Txt K mg a):Fo P w K mg base "is_path" 4 sp_vN:=by
 refine T.za.hg ["thing"] (gG1 fun x0 fA XD A XF s H Q E ND HU hr h=>?_);obtain⟨hN,h1⟩:=h;obtain⟨l,rfl,hl,k⟩:=bX h1;refine⟨hN,_,(af (aA (cZ (aB (cI K) rfl T.a_ aZ (fa2 (fv 0) (cF (v:=.ty "str") rfl T.pY k8 rfl))) (dv (aH (rP T) hr aq (fa1 (bY K Zh Y7 Y6 j3 (fv 0) (fa1 (ak [58]))))))))),?_⟩;walk_at "d";have sz:=szl;have sl:=jG 58 l;refine⟨by walk_at "o",fun p hp=>⟨aE hN rfl,_,al aa,by lia,fun q hq=>?_,H,Gc.none (aj _ hp),k⟩⟩;obtain⟨m1,m2⟩:=iT 58 l q hq;exact⟨fun c hc=>hl.1 c (m2 c hc),by lia⟩
noncomputable def tx(ls:List (List Nat)):HO:=.lst (ls.map VZ)
def sp_tK:Sp:=sp1 fun x H Q _=>WS H/\asT x fun l=>((∀c∈l,c<128)/\l.length<=199)/\ir l=true/\∀p,H p=none->Q (.ref p) (upd H p (tx (spN 58 l)))
def uA(T:Txt K mg a):Fo P w K mg base "names_of" 5 sp_tK:=by
 refine T.wk.hg ["path"] (gG1 fun x0 fA XD A XF s H Q E ND HU hr h=>?_);obtain⟨hN,h1⟩:=h;refine bq (bX h1) fun l yy1 hl e k=>?_;subst yy1;refine⟨hN,_,(ae (bc (bG (bz (aH (nU T) hr aq (fa1 (fv 0))))) (af cU) aJ)
  (af (aA (bY K Zh Y7 Y6 j3 (fv 0) (fa1 (ak [58])))))),?_⟩
 walk_at "d";have sz:=szl;refine⟨hN,hl,itn (by rw[e];decide) ⟨by walk_at "o",fun p hp=>⟨_,Gc.one (aj _ hp) hp aa rfl,k p hp⟩⟩⟩
def HA{l:List Nat}(h:nm l=true):1<=l.length/\l.length<=12/\∀c∈l,97<=c/\c<=122:=by
 unfold nm lie at h;simp only[Za,decide_eq_true_eq,Zv]at h;exact⟨h.1.1,h.1.2,fun c hc=>h.2 c hc⟩
def IR(xs:List V){i:Int}(h:0<=i):ko xs none (some i)=xs.take i.toNat:=by
 unfold ko;have e:i=((i.toNat:Nat):Int):=by walk_at "o"
 rw[e,HT.sIx_none,HT.sIx_nat,List.drop_zero,Nat.sub_zero];by_cases hl:i.toNat<=xs.length
 .rw[Xz hl];rfl
 .rw[Nat.min_eq_right (by walk_at "o"),Zm (by walk_at "o"),Zm (by simp;lia)]
theorem xx(n:Nat):∀(ls:List (List Nat)),(∀l∈ls,l.length<=n)->(ls.map ZT).sum<=n*ls.length
 | [],_=>by simp
 |l::r,h=>by
  have:=xx n r fun x hx=>h x (tH _ hx);have h1:=h l (by simp);simp only[xY,Yb,sP,Nat.mul_add,Nat.mul_one];lia
def tW{ls:List (List Nat)}(h:∀l∈ls,l.length<=1000)(hl:ls.length<=1000):Ba [58] ls:=by
 have:=xx 1000 ls h;have h2:1000*ls.length<=1000*1000:=Nat.mul_le_mul_left _ hl;unfold Ba;simp only[sP,YM];lia
noncomputable def abN(l:List Nat):List (List Nat):=(lq ((spN 58 l).length-1)).map fun k=>cf [58] ((spN 58 l).take (k+1))
def sp_Bw:Sp:=sp1 fun x H Q _=>WS H/\asT x fun l=>((∀c∈l,c<128)/\l.length<=199)/\∀p,H p=none->Q (.ref p) (upd H p (tx (abN l)))
def sT(T:Txt K mg a):Fo P w K mg base "above" 1 sp_Bw:=by
 refine T.Eh.hg ["path","names"] (gG1 fun x0 fA XD A XF s H Q E ND HU hr h=>?_);obtain⟨hN,h1⟩:=h;obtain⟨l,rfl,hl,k⟩:=bX h1;refine⟨hN,_,(ae (aV 1 ND (bY K Zh Y7 Y6 j3 (fv 0) (fa1 (ak [58]))))
  (af (aA (bK rfl (cl:=_) (x:="many") (xs:=["many"]) (fr:=["names"]) (ks:=[1]) (by walk_at "k") rfl (p8 rfl T.eY (fa2 ad (aB (bV K) rfl T.dq cz (fa1 (fv 1))))) (fun _ _ _ _ _=>(av (i:=0) (cQ (l:=["many","names"]) (by decide)) rfl (Wi rfl))) (fun _ _ _ _ _=>cO) (fun _ _ _ _ _=>(E1 (bY K Zh PySem.F.slot_str_join PySem.F.type_str_join (oq K) (ak [58]) (fa1 (fL (uL K) (fv 1) gR (gS (fv 0))))))))))),?_⟩
 walk_at "d";have sz:=szl;have sl:=jG 58 l;refine⟨by walk_at "o",fun p hp=>?_⟩;have sm:=aj (HO.lst (List.map VZ (spN 58 l))) hp;have nb:((spN 58 l).length:Int)<2 ^ 62:=by
  have:(400:Int)<2 ^ 62:=by decide
  lia
 refine KJ (fun H'=>WS H'/\SqL K H' p (List.map VZ (spN 58 l))) (fun D ys hD=>⟨aE (aE hN rfl) rfl,SqL.same (aj _ hD) (al aa)⟩) 1 (spN 58 l).length ((spN 58 l).length-1) (by walk_at "o") (fun _=>true)
  (fun v=>match v with | .int i=>VZ (cf [58] ((spN 58 l).take i.toNat))|_=>.non) (fun R r=>?_) ⟨by decide,by decide,by walk_at "o",nb⟩ (by walk_at "o") (fun x _ H' R _ r=>r) (fun j hj _ H' R c r=>?_) (fun D hD=>?_)
 .walk_at "z"
  exact⟨_,.inl (al aa),by rw[zm];exact r⟩
 .walk_at "d"
  refine⟨c.1,p,_,rfl,c.2,fun q hq=>⟨(spN 58 l).take (1+(j:Int)).toNat,al (by rw[aa,IR _ (by walk_at "o"),List.map_take]),tW (fun x hx=>?_) (by rw[qF];lia),H',Gc.none (aj _ hq),r⟩⟩;have:=(iT 58 l x (ZA hx)).1;lia
 .refine⟨_,Gc.one (sm.trans (aj _ hD)) (sm.free hD) aa rfl,?_⟩
  have e:(List.map (fun v=>match v with|V.int i=>VZ (cf [58] (List.take i.toNat (spN 58 l)))|_=>V.non) (List.filter (fun _=>true) (List.map (fun k:Nat=>V.int (1+(k:Int))) (lq ((spN 58 l).length-1)))))=(abN l).map VZ:=by
   rw[Zo.mpr (by simp),uR];unfold abN;rw[uR];apply lW;intro k _;show VZ (cf [58] (List.take (1+(k:Int)).toNat (spN 58 l)))=VZ (cf [58] (List.take (k+1) (spN 58 l)));rw[show(1+(k:Int)).toNat=k+1 by walk_at "o"]
  rw[e];exact k D (sm.free hD)
def sp_qI:Sp:=sp1 fun x H Q _=>WS H/\asI x fun i=>Q (.bl (amg (.int i) (-1000000000000000) 1000000000000000)) H
def qG(T:Txt K mg a):Fo P w K mg base "is_amount" 3 sp_qI:=by
 refine T.sx.hg ["thing"] (gG1 fun x0 fA XD A XF s H Q E ND HU hr h=>?_);obtain⟨hN,h1⟩:=h;obtain⟨i,rfl,k⟩:=a9 h1;refine⟨hN,_,(af (aA (aH (iy T) hr aq (fa3 (fv 0) (nX jk (ah rA ad ad)) (ah rA ad ad))))),?_⟩;walk_at "d";have e15:(10:Int) ^ Int.toNat 15=1000000000000000:=by decide +kernel
 rw[e15];exact⟨by decide,by decide,hN,k⟩
def nt2(l:List Nat):Prop:=l=[98,111,111,107,101,100]\/l=[98,97,99,107]
def sp_wt:Sp:=sp1 fun x H Q _=>WS H/\asT x fun l=>nt2 l/\Q (.bl true) H
def FG{l:List Nat}(h:nt2 l):ok l/\l.length<=6/\qB l [32]=false/\l.getLast? ≠ some 32/\lie l 32 126=true:=by
 obtain rfl|rfl:=h <;> exact⟨by unfold ok;decide,by decide,by decide,by decide,by decide⟩
def vG(T:Txt K mg a):Fo P w K mg base "is_note" 2 sp_wt:=by
 refine T.yS.hg ["thing"] (gG1 fun x0 fA XD A XF s H Q E ND HU hr h=>?_);obtain⟨hN,h1⟩:=h;obtain⟨l,rfl,h2,k⟩:=bX h1;obtain⟨ol,l4,hp,hg,hl⟩:=FG h2;refine⟨hN,_,(ae (bc (L2.PW.pt (fJ (bG (bz (aB (cI K) rfl T.a_ aZ (fa2 (fv 0) (cF (v:=.ty "str") rfl T.pY k8 rfl))))) (eP (bf uy (aB (bV K) rfl T.dq cz (fa1 (fv 0))) ad)))) (af (aA cW)) aJ)
  (ae (bc (L2.PW.pt (fJ (bz (bY K Zh PySem.F.slot_str_startswith PySem.F.type_str_startswith m8 (fv 0) (fa1 (ak [32])))) (eP (bz (bY K Zh PySem.F.slot_str_endswith PySem.F.type_str_endswith tz (fv 0) (fa1 (ak [32]))))))) (af (aA cW)) aJ)
  (af (aA (aH (gG T) hr aq (fa3 (fv 0) (ak [32]) (ak [126]))))))),?_⟩
 walk_at "d";rw[<- hl]at k;refine⟨mO ol,itn (by lia) (itn (by rw[hp];decide) (itn (fun z=>hg (of_decide_eq_true z)) ⟨hN,ol,32,126,rfl,rfl,k⟩))⟩
end
section
variable{pS:WN}{ns:List Int}{P:WL}{w:WK}{K:Wz}{mg:Str->Option WO}{base:WF}{a:Adr}
open K3
def sp_qS:Sp:=sp1 fun x H Q _=>asI x fun y=>WS H/\Q (.int (LD y)) H
def jW(T:Txt K mg a):Fo P w K mg base "leap_days" 1 sp_qS:=by
 refine T.sC.hg ["years"] (gG1 fun x0 fA XD A XF s H Q E ND HU hr h=>?_);obtain⟨y,rfl,hN,k⟩:=a9 h;refine⟨hN,_,(af (aA (ah aT (ah fh (ah a8 (ah aT (fv 0) ad) ad) (ah a8 (ah aT (fv 0) ad) ad)) (ah a8 (ah aT (fv 0) ad) ad)))),?_⟩;walk_at "d";exact k
def BK(xs:List V){i:Int}(h:0<=i):ko xs none (some i)=xs.take i.toNat:=by
 unfold ko;have e:i=((i.toNat:Nat):Int):=by lia
 rw[e,HT.sIx_none,HT.sIx_nat,List.drop_zero,Nat.sub_zero];by_cases hl:i.toNat<=xs.length
 .rw[Xz hl];rfl
 .rw[Nat.min_eq_right (by lia),Zm (by lia),Zm (by simp;lia)]
noncomputable def LEN:List Int:=[31,28,31,30,31,30,31,31,30,31,30,31]
def Bb{i:Int}(h0:0<=i)(h1:i<12):(LEN.take i.toNat).sum=S i:=by
 obtain⟨n,rfl⟩:=Zk h0;exact(by decide:∀n:Nat,n<12->(LEN.take n).sum=S n) n (by lia)
def Id(T:Txt K mg a)(H:Hp):SqT K H a.dJ (LEN.map V.int):=.inr T.dJ
def sp_r9:Sp:=sp1 fun x H Q _=>asI x fun m=>WS H/\Q (.int (FD m)) H
def jA(T:Txt K mg a):Fo P w K mg base "first_day" 2 sp_r9:=by
 refine T.tX.hg ["month","years","ahead","leaps"] (gG1 fun x0 fA XD A XF s H Q E ND HU hr h=>?_);obtain⟨m,rfl,hN,k⟩:=a9 h;refine⟨hN,_,(ae (aV 1 ND (ah a8 (fv 0) ad))
  (ae (aV 2 ND (ah ba (fv 0) ad))
  (ae (aV 3 ND (A6 (bf uy (fv 2) ad) (aH (jW T) hr aq (fa1 (ah aT (fv 1) ad))) (aH (jW T) hr aq (fa1 (fv 1)))))
  (af (aA (ah aT (ah aT (ah dt ad (fv 1)) (fv 3)) (aB (xb K rfl) rfl T.EW AO (fa1 (fL (D_ K) (wY (v:=.ref a.dJ) rfl T.zt rfl) gR (gS (fv 2))))))))))),?_⟩
 walk_at "d";have b0:0<=m % 12:=ZH _ (by decide);have b1:m % 12<12:=ZN _ (by decide);have nw:¬ (HT.sIx (LEN.map V.int).length 0 none=0/\HT.sIx (LEN.map V.int).length (LEN.map V.int).length (some (m % 12))=(LEN.map V.int).length):=fun⟨_,z⟩=>by
  have e:m % 12=(((m % 12).toNat:Nat):Int):=by lia
  rw[e,HT.sIx_nat]at z;have l:(LEN.map V.int).length=12:=rfl;rw[l]at z;lia
 have fin:∀(p:WN),(upd H p (.tup (ko (LEN.map V.int) none (some (m % 12))))) p=some (.tup ((LEN.take (m % 12).toNat).map V.int)):=fun p=>by
  rw[aa,BK _ b0,List.map_take]
 split
 .rename_i h1
  refine⟨hN,a.dJ,_,rfl,Id T _,nw,fun p hp=>⟨LEN.take (m % 12).toNat,.inr (aY (fin p)),H,Gc.none (aj _ hp),?_⟩⟩;have e:365*(m / 12)+LD (m / 12+1)+(LEN.take (m % 12).toNat).sum=FD m:=by
   rw[Bb b0 b1];unfold FD;rw[Wf h1]
  rw[e];exact k
 .rename_i h1
  refine⟨hN,a.dJ,_,rfl,Id T _,nw,fun p hp=>⟨LEN.take (m % 12).toNat,.inr (aY (fin p)),H,Gc.none (aj _ hp),?_⟩⟩;have e:365*(m / 12)+LD (m / 12)+(LEN.take (m % 12).toNat).sum=FD m:=by
   rw[Bb b0 b1];unfold FD;rw[Wg h1]
  rw[e];exact k
def sp_tV:Sp:=sp1 fun x H Q _=>asI x fun m=>WS H/\Q (.int (FD (m+1)-1)) H
def uN(T:Txt K mg a):Fo P w K mg base "last_day" 3 sp_tV:=by
 refine T.uX.hg ["month"] (gG1 fun x0 fA XD A XF s H Q E ND HU hr h=>?_);obtain⟨m,rfl,hN,k⟩:=a9 h;refine⟨hN,_,(af (aA (ah fh (aH (jA T) hr aq (fa1 (ah aT (fv 0) ad))) ad))),?_⟩;walk_at "d";exact⟨hN,k⟩
def sp_uj:Sp:=sp1 fun x H Q _=>asI x fun d=>WS H/\(0<=d/\d<=146096)/\Q (.int (MO d)) H
def lI(T:Txt K mg a):Fo P w K mg base "month_of" 4 sp_uj:=by
 refine T.u8.hg ["day","month"] (gG1 fun x0 fA XD A XF s H Q E ND HU hr h=>?_);refine bq (a9 h) fun d yy1 hN yy2 k=>?_;subst yy1;obtain⟨d0,d1⟩:=yy2;refine⟨hN,_,(ae (aV 1 ND (ah a8 (ah dt (fv 0) ad) ad))
  (ae (sJ (by passes_own) (bf uy (aH (jA T) hr aq (fa1 (fv 1))) (fv 0)) (af (aV 1 ND (ah fh (fv 1) ad))))
  (ae (sJ (by passes_own) (bf pU (aH (uN T) hr aq (fa1 (fv 1))) (fv 0)) (af (aV 1 ND (ah aT (fv 1) ad))))
  (af (aA (fv 1)))))),?_⟩
 walk_at "d";refine⟨fun n σ H1=>∃m,σ=[some (.int d),some (.int m)]/\H=H1/\0<=m/\m<=4799/\n=m.toNat,⟨_,_,rfl,rfl,by lia,by lia,rfl⟩,?_⟩;rintro n σ H1 ⟨m,rfl,rfl,m0,m1,rfl⟩;walk_at "z";refine⟨hN,?_⟩;split
 .rename_i h2
  have hm:1<=m:=by
   by_cases z:m=0
   .rw[z,zR]at h2;lia
   .lia
  refine⟨_,fun σ' H' z=>z,(m-1).toNat,by lia,m-1,rfl,rfl,by lia,by lia,rfl⟩
 .rename_i h2
  refine⟨fun n σ H1=>∃m,σ=[some (.int d),some (.int m)]/\H=H1/\0<=m/\m<=4799/\FD m<=d/\n=(4800-m).toNat,⟨_,_,rfl,rfl,m0,m1,by lia,rfl⟩,?_⟩;rintro n σ H1 ⟨m',rfl,rfl,m0',m1',h3,rfl⟩;walk_at "d";refine⟨hN,?_⟩;split
  .rename_i h4
   have hm:m'+1<=4799:=by
    by_cases z:m'=4799
    .rw[z]at h4
     have e:(4799:Int)+1=4800:=by decide
     rw[e,vD]at h4;lia
    .lia
   exact⟨_,fun σ' H' z=>z,(4800-(m'+1)).toNat,by lia,m'+1,rfl,rfl,by lia,hm,by lia,rfl⟩
  .rename_i h4
   rw[E8 h3 (by lia)]at k;exact k
end
section
variable{pS:WN}{ns:List Int}{P:WL}{w:WK}{K:Wz}{mg:Str->Option WO}{base:WF}{a:Adr}
def WZ(S:List WN)(H H':Hp):Prop:=∀c z,H c=some z->c∉S->H' c=some z
def WZ.refl{S:List WN}{H:Hp}:WZ S H H:=fun _ _ e _=>e
def WZ.trans{S:List WN}{H H1 H2:Hp}(x:WZ S H H1)(y:WZ S H1 H2):WZ S H H2:=fun c z e n=>y c z (x c z e n) n
def WZ.mono{S S':List WN}{H H':Hp}(x:WZ S H H')(h:∀c,c∈S->c∈S'):WZ S' H H':=fun c z e n=>x c z e fun m=>n (h c m)
def WZ.new{S:List WN}{H H1:Hp}{p:WN}{o:HO}(x:WZ S H H1)(h:H1 p=none):WZ S H (upd H1 p o):=fun c z e n=>by
 rw[ag (aM (x c z e n) h)];exact x c z e n
def WZ.put{S:List WN}{H H1:Hp}{p:WN}{o:HO}(x:WZ S H H1)(h:p∈S):WZ S H (upd H1 p o):=fun c z e n=>by
 rw[ag (by rintro rfl;exact n h)];exact x c z e n
def bF{S:List WN}{H H':Hp}(x:XA H H'):WZ S H H':=fun c z e _=>x c z e
def dY{H:Hp}{p q:WN}{x y:HO}(h:H p=some x)(g:H q=some y)(n:x≠y:=by intro z;cases z):p≠q:=by
 rintro rfl;rw[h]at g;cases g;exact n rfl
noncomputable def cl:Option Int->V
 |none=>.non
 |some m=>.int m
structure Acc where
 pa:List Nat
 ob:WN
 bl:WN
 ki:V
 cu:V
 fi:Int
 un:Option Int
 be:List (List Nat)
noncomputable def fW(k c f u b:V):List (Str × V):=[("kind",k),("currency",c),("first",f),("until",u),("below",b)]
def fk(k c f u b:V):qI (zS "kind") (fW k c f u b)=some k:=ig
def ff(k c f u b:V):qI (zS "first") (fW k c f u b)=some f:=by unfold fW;rw[aW (by decide +kernel),aW (by decide +kernel)];exact ig
def fu(k c f u b:V):qI (zS "until") (fW k c f u b)=some u:=by unfold fW;rw[aW (by decide +kernel),aW,aW (by decide +kernel)];exact ig
def fb(k c f u b:V):qI (zS "below") (fW k c f u b)=some b:=by unfold fW;rw[aW (by decide +kernel),aW,aW (by decide +kernel),aW (by decide +kernel)];exact ig
def IP(k c f u b:V):qI (zS "stands_on") (fW k c f u b)=none:=by unfold fW;rw[aW (by decide +kernel),aW,aW (by decide +kernel),aW,aW (by decide +kernel)];rfl
def IH(k c f u b v:V):dL (zS "until") v (fW k c f u b)=fW k c f v b:=by
 have q1:¬ (zS "kind" = zS "until"):=by decide +kernel
 have q2:¬ (zS "currency" = zS "until"):=by decide +kernel
 have q3:¬ (zS "first" = zS "until"):=by decide +kernel
 simp[dL,fW,q1,q2,q3]
def HP(k c f u b:V):dL (zS "below") b (dL (zS "until") u (dL (zS "first") f (dL (zS "currency") c (dL (zS "kind") k []))))=fW k c f u b:=by
 have q1:¬ (zS "kind" = zS "until"):=by decide +kernel
 have q2:¬ (zS "currency" = zS "until"):=by decide +kernel
 have q3:¬ (zS "first" = zS "until"):=by decide +kernel
 have q4:¬ (zS "kind" = zS "first"):=by decide +kernel
 have q5:¬ (zS "currency" = zS "first"):=by decide +kernel
 have q6:¬ (zS "kind" = zS "currency"):=by decide +kernel
 have q7:¬ (zS "kind" = zS "below"):=by decide +kernel
 have q8:¬ (zS "currency" = zS "below"):=by decide +kernel
 have q9:¬ (zS "first" = zS "below"):=by decide +kernel
 have q0:¬ (zS "until" = zS "below"):=by decide +kernel
 simp[dL,fW,q1,q2,q3,q4,q5,q6,q7,q8,q9,q0]
def sp_zv(A:WN):Sp:=sp4 fun x k c f H Q _=>WS H/\asR x fun p=>∃dx,H p=some (.ins A dx [])/\∀b H',H b=none->H' p=some (.ins A dx (fW k c f .non (.ref b)))->H' b=some (.lst [])->WZ [p] H H'->WS H'->Q .non H'
def eT(T:Txt K mg a):Mo P w K mg base a.aS "__init__" 1 (sp_zv a.aS):=by
 refine T.js.hx ["self","kind","currency","first"] (gX4 fun x0 x1 x2 x3 fA XD A XF s H Q E ND HU hr h=>?_);obtain⟨hN,h1⟩:=h;obtain⟨p,rfl,dx,hp,k⟩:=aQ h1;refine⟨_,(ae (dQ K (fv 0) (fv 1))
  (ae (dQ K (fv 0) (fv 2))
  (ae (dQ K (fv 0) (fv 3))
  (ae (dQ K (fv 0) ky)
  (af (dQ K (fv 0) (cw (FA.pa cr)))))))),?_⟩
 walk_at "z";refine⟨_,_,_,hp,T.bt,T.iM,by decide,_,_,_,aa,T.bt,T.fj,by show 1<1000;decide,_,_,_,aa,T.bt,T.eM,by show 2<1000;decide,_,_,_,aa,T.bt,T.cC,by show 3<1000;decide,rp _,fun b hb=>?_⟩;rw[rl,rl,rl]at hb |-
 have np:p≠b:=fun q=>by rw[<- q,aa]at hb;cases hb
 have hb0:H b=none:=by rw[ag (Wj np)]at hb;exact hb
 refine⟨_,_,_,(ag np).trans aa,T.bt,T.eO,by show 4<1000;decide,?_⟩;rw[HP];refine k b _ hb0 aa ?_ ?_ ?_
 .rw[ag (Wj np),aa]
 .exact((WZ.refl.put (zw.2 rfl)).new hb).put (zw.2 rfl)
 .exact aE (aE (aE hN rfl) rfl) rfl
noncomputable def lat(u:Option Int)(d:Int):Bool:=match u with
 |none=>true
 |some t=>decide (d<t)
noncomputable def opn(f:Int)(u:Option Int)(d:Int):Bool:=decide (f<=d)&&lat u d
def sp_on(A:WN):Sp:=sp2 fun x y H Q _=>WS H/\asR x fun p=>asI y fun d=>∃dx k c f u b,H p=some (.ins A dx (fW k c (.int f) (cl u) b))/\Q (.bl (opn f u d)) H
def eI(T:Txt K mg a):Mo P w K mg base a.aS "stands_on" 1 (sp_on a.aS):=by
 refine T.i4.hg ["self","day"] (gG2 fun x0 x1 fA XD A XF s H Q E ND HU hr h=>?_);obtain⟨hN,h1⟩:=h;obtain⟨p,rfl,h2⟩:=aQ h1;obtain⟨d,rfl,dx,k,c,f,u,b,hp,q⟩:=a9 h2;refine⟨hN,_,(af (aA (cZ (cX dX (bx K (fv 0)) (fv 1) (dD _)) (dv (Cf (vq (BB (bx K (fv 0)))) (dv (cX pU (fv 1) (bx K (fv 0)) (dD _)))))))),?_⟩;walk_at "z";refine⟨_,_,_,_,hp,T.bt,T.eM,ff ..,?_⟩;walk_at "d";split
 .rename_i h1
  refine⟨_,_,_,_,hp,T.bt,T.cC,fu ..,?_⟩;have e:opn f u d=lat u d:=by unfold opn;rw[We h1];rfl
  rw[e]at q;cases u with
  |none=>exact q
  |some t=>
   rw[Wg (by intro z;cases z)];exact⟨_,_,_,_,hp,T.bt,T.cC,fu ..,⟨H,Gc.refl,q⟩⟩
 .rename_i h1
  have e:opn f u d=false:=by unfold opn;rw[Wc h1];rfl
  rw[e]at q;exact q
def sp_yf:Sp:=sp2 fun _ _ _ _ _=>False
def gp(T:Txt K mg a):Mo P w K mg base a.aS "stands_later" 1 sp_yf:=by
 refine T.gO.hg ["self","day"] (gG2 fun x0 x1 fA XD A XF s H Q E ND HU hr h=>?_);exact h.elim
noncomputable def kyA(c:Acc):Key × V:=(.inr ⟨⟨c.pa⟩⟩,.ref c.ob)
structure AAt(A:WN)(H:Hp)(c:Acc):Prop where
 ob:∃dx,H c.ob=some (.ins A dx (fW c.ki c.cu (.int c.fi) (cl c.un) (.ref c.bl)))
 ls:H c.bl=some (.lst (c.be.map VZ))
structure CAt(C A:WN)(H:Hp)(p d:WN)(cs:List Acc):Prop where
 ob:∃dx,H p=some (.ins C dx [("by_path",.ref d)])
 dc:H d=some (.dK (cs.map kyA))
 ac:∀c∈cs,AAt A H c
 np:(cs.map (·.pa)).Nodup
 na:(cs.map (·.ob)).Nodup
 nb:(cs.map (·.bl)).Nodup
def CAt.keep{C A:WN}{S:List WN}{H H':Hp}{p d:WN}{cs:List Acc}(j:CAt C A H p d cs)(x:WZ S H H')(hp:p∉S)(hd:d∉S)(hc:∀c∈cs,c.ob∉S/\c.bl∉S):CAt C A H' p d cs:=
 ⟨by obtain⟨dx,e⟩:=j.ob;exact⟨dx,x _ _ e hp⟩,x _ _ j.dc hd,fun c hm=>⟨by obtain⟨dx,e⟩:=(j.ac c hm).ob;exact⟨dx,x _ _ e (hc c hm).1⟩,x _ _ (j.ac c hm).ls (hc c hm).2⟩,j.np,j.na,j.nb⟩
def CAt.same{C A:WN}{H H':Hp}{p d:WN}{cs:List Acc}(j:CAt C A H p d cs)(x:XA H H'):CAt C A H' p d cs:=
 j.keep (S:=[]) (bF x) vO vO fun _ _=>⟨vO,vO⟩
noncomputable def fnd(cs:List Acc)(l:List Nat):Option Acc:=cs.find? fun c=>decide (c.pa=l)
theorem iO(l:List Nat):∀cs:List Acc,bw (cs.map kyA) (.inr ⟨⟨l⟩⟩)=(fnd cs l).map fun c=>.ref c.ob
 | []=>rfl
 |c::r=>by
  have ih:=iO l r;by_cases h:c.pa=l
  .rw[xY,b8 (by show Sum.inr _=Sum.inr _;rw[h])]
   simp[fnd,h,kyA]
  .rw[xY,bZ (fun z=>h (by simpa [kyA] using z)),ih]
   simp[fnd,h]
def CZ{cs:List Acc}{l:List Nat}{c:Acc}(h:fnd cs l=some c):c∈cs/\c.pa=l:=
 ⟨List.mem_of_find?_eq_some h,by simpa using List.find?_some h⟩
def nV{cs:List Acc}{l:List Nat}(h:fnd cs l=none):∀c∈cs,c.pa≠l:=fun c hc=>by
 simpa using Wo.mp h c hc
theorem iS{β:Type}{f:Acc->β}:∀ {cs:List Acc} {c c':Acc},(cs.map f).Nodup->c∈cs->c'∈cs->f c=f c'->c=c'
 | [],_,_,_,h,_,_=>nomatch h
 |x::r,c,c',hn,h,h',e=>by
  rw[xY,yE]at hn;obtain h1|h1:=zk.mp h
  .obtain h2|h2:=zk.mp h'
   .rw[h1,h2]
   .subst h1
    exact Wa (by rw[e];exact xW h2) hn.1
  .obtain h2|h2:=zk.mp h'
   .subst h2
    exact Wa (by rw[<- e];exact xW h1) hn.1
   .exact iS hn.2 h1 h2 e
def Cz{cs:List Acc}(hn:(cs.map (·.pa)).Nodup){c:Acc}(hc:c∈cs):fnd cs c.pa=some c:=by
 cases e:fnd cs c.pa with
 |none=>exact Wa rfl (nV e c hc)
 |some c'=>
  obtain⟨h1,h2⟩:=CZ e;rw[iS hn h1 hc h2]
def lkp(x:V):qI (zS "by_path") [(zS "by_path",x)]=some x:=ig
def sp_yB(C A:WN):Sp:=sp1 fun x H Q _=>WS H/\asR x fun p=>∃dx,H p=some (.ins C dx [])/\∀d H',H d=none->CAt C A H' p d []->WZ [p] H H'->WS H'->Q .non H'
def jS(T:Txt K mg a):Mo P w K mg base a.aU "__init__" 1 (sp_yB a.aU a.aS):=by
 refine T.kX.hx ["self"] (gX1 fun x0 fA XD A XF s H Q E ND HU hr h=>?_);obtain⟨hN,h1⟩:=h;obtain⟨p,rfl,dx,hp,k⟩:=aQ h1;refine⟨_,(af (dQ K (fv 0) gH)),?_⟩;walk_at "z";intro d hd;have np:p≠d:=aM hp hd;refine⟨_,_,_,(ag np).trans hp,T.bH,T.bT,by show 0<1000;decide,?_⟩;refine k d _ hd ⟨⟨dx,?_⟩,?_,(fun _ h=>nomatch h),.nil,.nil,.nil⟩ ?_ ?_
 .rw[aa];simp[dL]
 .rw[ag (Wj np),aa];rfl
 .exact(WZ.refl.new hd).put (zw.2 rfl)
 .exact aE (aE hN rfl) rfl
def sp_HM(C A:WN):Sp:=sp2 fun x y H Q _=>WS H/\asR x fun p=>asT y fun l=>∃d cs,CAt C A H p d cs/\Q (.bl (fnd cs l).isSome) H
def rj(T:Txt K mg a):Mo P w K mg base a.aU "has" 1 (sp_HM a.aU a.aS):=by
 refine T.sY.hg ["self","path"] (gG2 fun x0 x1 fA XD A XF s H Q E ND HU hr h=>?_);obtain⟨hN,h1⟩:=h;obtain⟨p,rfl,h2⟩:=aQ h1;refine br (bX h2) fun l yy1 yz=>C5 yz fun d cs J k=>?_;subst yy1;obtain⟨dx,hp⟩:=J.ob;refine⟨hN,_,(af (aA (cZ (aB (cI K) rfl T.a_ aZ (fa2 (fv 1) (cF (v:=.ty "str") rfl T.pY k8 rfl))) (dv (vq (u6 (Zz HU) (fv 1) (bx K (fv 0))) (by with_unfolding_all rfl)))))),?_⟩;walk_at "d";refine⟨_,_,_,_,hp,T.bH,T.bT,lkp _,d,_,rfl,DGet.k (k:=.inr ⟨⟨l⟩⟩) J.dc,?_⟩;rw[iO,Xq];exact k
def sp_v_(C A:WN):Sp:=sp2 fun x y H Q _=>WS H/\asR x fun p=>asT y fun l=>∃d cs c,CAt C A H p d cs/\c∈cs/\c.pa=l/\Q (.ref c.ob) H
def FW(x:V):qI (zS "has") [(zS "by_path",x)]=none:=by rw[aW (by decide +kernel)];rfl
def gA(x:V):qI (zS "account") [(zS "by_path",x)]=none:=by rw[aW (by decide +kernel)];rfl
def dm(T:Txt K mg a):Mo P w K mg base a.aU "account" 2 (sp_v_ a.aU a.aS):=by
 refine T.mK.hg ["self","path"] (gG2 fun x0 x1 fA XD A XF s H Q E ND HU hr h=>?_);obtain⟨hN,h1⟩:=h;obtain⟨p,rfl,h2⟩:=aQ h1;refine br (bX h2) fun l yy1 yz=>Bz yz fun d cs c J hc yy2 k=>?_;subst yy1 yy2;obtain⟨dx,hp⟩:=J.ob;refine⟨hN,_,(ae (bc (bG (bz (cK (fv 0) T.bH (rj T) hr.mono aq (fa1 (fv 1))))) (af cU) aJ)
  (af (aA (aP (Zz HU) (bx K (fv 0)) (fv 1) (fun _ _=>rfl))))),?_⟩
 walk_at "d";refine⟨_,_,hp,FW _,hN,d,cs,J,?_⟩;have g:=DGet.k (k:=.inr ⟨⟨c.pa⟩⟩) J.dc;rw[iO,Cz J.np hc]at g;rw[Cz J.np hc,Wg (by intro z;cases z)];exact⟨_,_,_,_,hp,T.bH,T.bT,lkp _,d,.ref c.ob,rfl,g,k⟩
def fcu(k c f u b:V):qI (zS "currency") (fW k c f u b)=some c:=by unfold fW;rw[aW (by decide +kernel)];exact ig
def sp_Ac(C A:WN):Sp:=sp2 fun x y H Q _=>WS H/\asR x fun p=>asT y fun l=>∃d cs c,CAt C A H p d cs/\c∈cs/\c.pa=l/\Q c.cu H
def eF(T:Txt K mg a):Mo P w K mg base a.aU "currency_of" 3 (sp_Ac a.aU a.aS):=by
 refine T.i7.hg ["self","path"] (gG2 fun x0 x1 fA XD A XF s H Q E ND HU hr h=>?_);obtain⟨hN,h1⟩:=h;obtain⟨p,rfl,h2⟩:=aQ h1;refine br (bX h2) fun l yy1 yz=>Bz yz fun d cs c J hc yy2 k=>?_;subst yy1 yy2;obtain⟨dx,hp⟩:=J.ob;refine⟨hN,_,(af (aA (bx K (cK (fv 0) T.bH (dm T) hr.mono aq (fa1 (fv 1)))))),?_⟩;walk_at "d";obtain⟨du,ho⟩:=(J.ac c hc).ob;exact⟨_,_,hp,gA _,hN,d,cs,c,J,hc,rfl,_,_,_,_,ho,T.bt,T.fj,fcu ..,k⟩
def sp_vO(C A:WN):Sp:=sp3 fun x y z H Q _=>WS H/\asR x fun p=>asT y fun l=>asI z fun t=>∃d cs c,CAt C A H p d cs/\c∈cs/\c.pa=l/\Q (.bl (opn c.fi c.un t)) H
def fY(T:Txt K mg a):Mo P w K mg base a.aU "is_open" 3 (sp_vO a.aU a.aS):=by
 refine T.mL.hg ["self","path","day"] (gG3 fun x0 x1 x2 fA XD A XF s H Q E ND HU hr h=>?_);obtain⟨hN,h1⟩:=h;obtain⟨p,rfl,h2⟩:=aQ h1;obtain⟨l,rfl,h3⟩:=bX h2;refine br (a9 h3) fun t yy1 yz=>Bz yz fun d cs c J hc yy2 k=>?_;subst yy1 yy2;obtain⟨dx,hp⟩:=J.ob;refine⟨hN,_,(af (aA (cK (cK (fv 0) T.bH (dm T) hr.mono aq (fa1 (fv 1))) T.bt (eI T) hr.mono aq (fa1 (fv 2))))),?_⟩;walk_at "d";obtain⟨du,ho⟩:=(J.ac c hc).ob;exact⟨_,_,hp,gA _,hN,d,cs,c,J,hc,rfl,_,_,ho,IP ..,hN,_,_,_,_,_,_,ho,k⟩
end
local macro_rules | `(tactic| walk_at "q") => `(tactic| ((try with_reducible refine goH ?_); (try dsimp only [↓qV]); walk_at "d"))
section
variable{pS:WN}{ns:List Int}{P:WL}{w:WK}{K:Wz}{mg:Str->Option WO}{base:WF}{a:Adr}
def d8{β:Type}{l:List β}{x:β}(h:l.Nodup)(n:x∉l):(l++[x]).Nodup:=
 ZW.mpr ⟨h,yE.mpr ⟨vO,Zu⟩,fun a ha b hb=>by rw[zw.mp hb];rintro rfl;exact n ha⟩
def CAt.bl_d{C A:WN}{H:Hp}{p d:WN}{cs:List Acc}(J:CAt C A H p d cs){c:Acc}(hc:c∈cs):c.bl≠d:=dY (J.ac c hc).ls J.dc
def CAt.ob_d{C A:WN}{H:Hp}{p d:WN}{cs:List Acc}(J:CAt C A H p d cs){c:Acc}(hc:c∈cs):c.ob≠d:=by
 obtain⟨dx,e⟩:=(J.ac c hc).ob;exact dY e J.dc
def CAt.p_d{C A:WN}{H:Hp}{p d:WN}{cs:List Acc}(J:CAt C A H p d cs):p≠d:=by
 obtain⟨dx,e⟩:=J.ob;exact dY e J.dc
def CAt.p_bl{C A:WN}{H:Hp}{p d:WN}{cs:List Acc}(J:CAt C A H p d cs){c:Acc}(hc:c∈cs):p≠c.bl:=by
 obtain⟨dx,e⟩:=J.ob;exact dY e (J.ac c hc).ls
def CAt.ob_bl{C A:WN}{H:Hp}{p d:WN}{cs:List Acc}(J:CAt C A H p d cs){c c':Acc}(hc:c∈cs)(hc':c'∈cs):c.ob≠c'.bl:=by
 obtain⟨dx,e⟩:=(J.ac c hc).ob;exact dY e (J.ac c' hc').ls
def uC{cs:List Acc}{l:List Nat}(h:fnd cs l=none)(c:Acc)(e:c.pa=l):bi (cs.map kyA) (.inr ⟨⟨l⟩⟩) (.ref c.ob)=(cs++[c]).map kyA:=by
 rw[iB _ (by rw[iO,h];rfl),yB,<- e];rfl
def CAt.more{C A:WN}{H H':Hp}{p d:WN}{cs:List Acc}(J:CAt C A H p d cs)(kp:WZ [] H H'){c:Acc}(hf:fnd cs c.pa=none)(h0:H c.ob=none)(h1:H c.bl=none)(hc:AAt A H' c) :
 CAt C A (upd H' d (.dK ((cs++[c]).map kyA))) p d (cs++[c]):=by
 have J1:=J.keep kp vO vO fun _ _=>⟨vO,vO⟩;have dn:=J1.dc;obtain⟨dc,eo⟩:=hc.ob;have n1:c.ob≠d:=dY eo dn;have n2:c.bl≠d:=dY hc.ls dn;refine⟨?_,aa,fun z hz=>?_,?_,?_,?_⟩
 .obtain⟨dx,e⟩:=J1.ob
  exact⟨dx,(ag J1.p_d).trans e⟩
 .obtain hz|hz:=yf.mp hz
  .obtain⟨dz,e⟩:=(J1.ac z hz).ob
   exact⟨⟨dz,(ag (J1.ob_d hz)).trans e⟩,(ag (J1.bl_d hz)).trans (J1.ac z hz).ls⟩
  .rw[zw.mp hz]
   exact⟨⟨dc,(ag n1).trans eo⟩,(ag n2).trans hc.ls⟩
 .rw[yB]
  refine d8 J.np fun h=>?_;obtain⟨z,hz,e⟩:=yI.mp h;exact nV hf z hz e
 .rw[yB]
  refine d8 J.na fun h=>?_;obtain⟨z,hz,e⟩:=yI.mp h;obtain⟨dz,eo⟩:=(J.ac z hz).ob;rw[e,h0]at eo;cases eo
 .rw[yB]
  refine d8 J.nb fun h=>?_;obtain⟨z,hz,e⟩:=yI.mp h;have eo:=(J.ac z hz).ls;rw[e,h1]at eo;cases eo
def e_{H H':Hp}{x dx:WN}{o o':HO}(hx:H x=none)(hd:H dx=none)(kp:WZ [x] (upd (upd H dx o) x o') H'):WZ [] H H':=fun c z e _=>by
 have n1:c≠x:=aM e hx;have n2:c≠dx:=aM e hd;exact kp c z (by rw[ag n1,ag n2];exact e) (by simpa using n1)
def d6{H:Hp}{x dx b:WN}{o o':HO}(h:upd (upd H dx o) x o' b=none):H b=none:=by
 have n1:b≠x:=fun z=>by rw[z,aa]at h;cases h
 rw[ag n1]at h;have n2:b≠dx:=fun z=>by rw[z,aa]at h;cases h
 rw[ag n2]at h;exact h
noncomputable abbrev KDS:List (List Nat):=[[104,97,118,101],[111,119,101],[111,119,110],[103,97,105,110],[99,111,115,116]]
def sp_vv(C A:WN):Sp:=sp3 fun x y z H Q _=>WS H/\asR x fun p=>asT y fun l=>nm l=true/\asT z fun kd=>kd∈KDS/\∃d cs,CAt C A H p d cs/\cs.length<=100/\fnd cs l=none /\
 (∀c H',c.pa=l->c.cu = .non->c.fi=0->c.un=none->c.be=[]->H c.ob=none->H c.bl=none->CAt C A H' p d (cs++[c])->WZ [d] H H'->WS H'->Q .non H')
def At{l:List Nat}(h:l∈KDS):inV (VZ l) (KDS.map VZ)=true:=by
 simp only[zk,vO,or_false]at h;obtain rfl|rfl|rfl|rfl|rfl:=h <;> decide
def IS{l:List Nat}(h:nm l=true):ok l:=by
 obtain⟨_,h2,h3⟩:=HA h;exact⟨fun c hc=>by have:=h3 c hc;lia,by lia⟩
def kK(T:Txt K mg a):Mo P w K mg base a.aU "add_top" 4 (sp_vv a.aU a.aS):=by
 refine T.mI.hx ["self","name","kind"] (gX3 fun x0 x1 x2 fA XD A XF s H Q E ND HU hr h=>?_);obtain⟨hN,h1⟩:=h;obtain⟨p,rfl,h2⟩:=aQ h1;obtain⟨l,rfl,e,h3⟩:=bX h2;refine h_ (bX h3) fun kd yy1 hz yz=>JZ yz fun d cs J len ef k=>?_;subst yy1;obtain⟨dx,hp⟩:=J.ob;refine⟨_,(ae (bc (bG (bz (aH (nv T) hr aq (fa1 (fv 1))))) (af cU) aJ)
  (ae (bc (oU (p7 K) (fv 2) (wY (v:=.ref a.jF) rfl T.Eg rfl) (by with_unfolding_all rfl)) (af cU) aJ)
  (ae (bc (jd (u6 (Zz HU) (fv 1) (bx K (fv 0))) (by with_unfolding_all rfl)) (af cU) aJ)
  (af (cE (Zz HU) (bx K (fv 0)) (fv 1) (EB T.oh (eT T) hr.mono rfl T.qd aq (fa3 (fv 2) ky ad)) rfl))))),?_⟩
 walk_at "q";refine⟨hN,IS e,itn (by rw[e];decide) ?_⟩;refine⟨_,.inr (.inr T.jF),rfl,by decide,?_⟩;rw[show inV (VZ kd) _=true from At hz,Wg (by decide)];refine⟨_,_,_,_,hp,T.bH,T.bT,lkp _,d,_,rfl,DGet.k (k:=.inr ⟨⟨l⟩⟩) J.dc,?_⟩;rw[iO,Xq,ef,Wg (by intro z;cases z)];intro x dx hx hdx ne;refine⟨aE (aE hN rfl) rfl,_,aa,fun b H' hb h1 h2 kp hN'=>?_⟩;have kp0:=e_ hx hdx kp;have J1:=J.keep kp0 vO vO fun _ _=>⟨vO,vO⟩;obtain⟨dx1,hp1⟩:=J1.ob
 let c:Acc:=⟨l,x,b,VZ kd,.non,0,none,[]⟩
 have smk:(cs.map kyA).length<WI:=by rw[zm,tV];lia
 refine⟨_,_,_,_,hp1,T.bH,T.bT,lkp _,d,_,rfl,DPut.k (k:=.inr ⟨⟨l⟩⟩) J1.dc smk,?_⟩;rw[uC ef c rfl];exact k c _ rfl rfl rfl rfl rfl hx (d6 hb) (J.more kp0 ef hx (d6 hb) ⟨⟨dx,h1⟩,h2⟩) ((kp0.mono (fun _ h=>nomatch h)).put (.head _)) (aE hN' rfl)
theorem nQ(s x:List Nat):∀(r:List (List Nat)),r≠[]->cf s (r++[x])=cf s r++s++x
 | [],h=>Wa rfl h
 | [y],_=>by simp[cf]
 |y::z::r,_=>by
  have:=nQ s x (z::r) (by simp);rw[Yy,Yy,cf,<- Yy,this,cf];simp
def gJ{v n:List Nat}(hn:58∉n):spN 58 (v++58::n)=spN 58 v++[n]:=by
 have h:=m_ 58 (spN 58 v++[n]) (by simp) fun p hp=>by
  obtain h|h:=yf.mp hp
  .exact iN 58 v p h
  .rw[zw.mp h];exact hn
 rw[nQ _ _ _ (iE 58 v),fX]at h;rw[<- h];simp
def mW{v n:List Nat}(hn:58∉n):abN (v++58::n)=abN v++[v]:=by
 unfold abN;rw[gJ hn,zc,wa,Nat.add_sub_cancel];have hp:0<(spN 58 v).length:=XZ.mpr (iE 58 v);obtain⟨m,hm⟩:∃m,(spN 58 v).length=m+1:=⟨(spN 58 v).length-1,by lia⟩;rw[hm,List.range_succ,yB,Nat.add_sub_cancel]
 congr 1
 .apply lW
  intro k hk;have:=List.mem_range.mp hk;rw[List.take_append_of_le_length (by lia)]
 .rw[Yw,<- hm,List.take_left',fX]
  rfl
noncomputable def eQ(cs:List Acc)(l:List Nat)(f:Acc->Acc):List Acc:=cs.map fun z=>if z.pa=l then f z else z
def cR{β:Type}{cs:List Acc}{l:List Nat}{f:Acc->Acc}(g:Acc->β)(h:∀z,g (f z)=g z):(eQ cs l f).map g=cs.map g:=by
 unfold eQ;rw[uR];apply lW;intro z _;show g (if z.pa=l then f z else z)=g z;split
 .exact h z
 .rfl
def dA{cs:List Acc}{l:List Nat}{f:Acc->Acc}{z:Acc}(h:z∈eQ cs l f):∃y∈cs,z=if y.pa=l then f y else y:=by
 obtain⟨y,hy,e⟩:=yI.mp h;exact⟨y,hy,e.symm⟩
noncomputable def grw(l:List Nat)(z:Acc):Acc:={ z with be:=z.be++[l] }
noncomputable def shu(t:Int)(z:Acc):Acc:={ z with un:=some t }
def CAt.grow{C A:WN}{H:Hp}{p d:WN}{cs:List Acc}(J:CAt C A H p d cs){u:Acc}(hu:u∈cs)(l:List Nat):CAt C A (upd H u.bl (.lst (u.be.map VZ++[VZ l]))) p d (eQ cs u.pa (grw l)):=by
 refine⟨?_,?_,fun z hz=>?_,?_,?_,?_⟩
 .obtain⟨dx,e⟩:=J.ob
  exact⟨dx,(ag (J.p_bl hu)).trans e⟩
 .rw[cR (f:=grw l) kyA fun _=>rfl,ag (Wj (J.bl_d hu))];exact J.dc
 .obtain⟨y,hy,e⟩:=dA hz
  obtain⟨dy,ho⟩:=(J.ac y hy).ob;by_cases h:y.pa=u.pa
  .have:y=u:=iS J.np hy hu h
   subst this;rw[Wf rfl]at e;subst e;exact⟨⟨dy,(ag (J.ob_bl hy hu)).trans ho⟩,by show upd H y.bl _ y.bl=some (.lst ((y.be++[l]).map VZ));rw[aa,yB];rfl⟩
  .rw[Wg h]at e
   subst e;have nb:z.bl≠u.bl:=fun q=>h (by rw[iS J.nb hy hu q]);exact⟨⟨dy,(ag (J.ob_bl hy hu)).trans ho⟩,(ag nb).trans (J.ac z hy).ls⟩
 .rw[cR (f:=grw l) _ fun _=>rfl];exact J.np
 .rw[cR (f:=grw l) _ fun _=>rfl];exact J.na
 .rw[cR (f:=grw l) _ fun _=>rfl];exact J.nb
def zI{cs:List Acc}{v l:List Nat}{f:Acc->Acc}(hf:∀z,(f z).pa=z.pa)(h:fnd cs l=none):fnd (eQ cs v f) l=none:=by
 refine Wo.mpr fun z hz=>?_;obtain⟨y,hy,e⟩:=dA hz;have:=nV h y hy;subst e;split
 .simpa [hf] using this
 .simpa using this
def Km{p q:Prop}(f:p->q)(x:p):q:=f x
def GS{x:V}{l:List Nat}{f:List Nat->Prop}(h:x=VZ l)(k:f l):asT x f:=by subst h;exact k
def sp_HJ(C A:WN):Sp:=sp4 fun x y z t H Q _=>WS H/\asR x fun p=>asT y fun l=>((∀c∈l,c<128)/\l.length<=199)/\(z = .non\/∃cl,z=VZ cl/\cur cl=true)/\asI t fun day=>(0<=day/\day<=146096)/\∃v n d cs u,l=v++58::n/\58∉n/\ir l=true/\CAt C A H p d cs/\cs.length<=100/\(∀c∈cs,c.be.length<=100) /\
 fnd cs l=none/\u∈cs/\u.pa=v/\u.un=none/\u.fi<=day /\
 ∀c H',c.pa=l->c.cu=z->c.fi=day->c.un=none->c.be=[]->H c.ob=none->H c.bl=none->CAt C A H' p d (eQ cs v (grw l)++[c])->WZ (d::cs.map (·.bl)) H H'->WS H'->Q .non H'
def jY(T:Txt K mg a):Mo P w K mg base a.aU "add" 7 (sp_HJ a.aU a.aS):=by
 refine T.sU.hx ["self","path","currency","day","upper"] (gX4 fun x0 x1 x2 x3 fA XD A XF s H Q E ND HU hr h=>?_);obtain⟨hN,h1⟩:=h;obtain⟨p,rfl,h2⟩:=aQ h1;refine bq (bX h2) fun l yy1 hl hz h3=>?_;subst yy1;obtain⟨day,rfl,hd,v,n,d,cs,u,el,hn,e,J,len,lb,ef,hu,pu,un,uf,k⟩:=a9 h3;obtain⟨dx,hp⟩:=J.ob
 skip
 have c4:∃z,PSs (c6 (XE P w) P w K mg base ["self","path","currency","day","upper"] "Chart.add" (ay fP) fA XD A XF s H E) (ZB 4 (bB fP)) z/\z { nx:=fun _ H'=>Q .non H',rt:=Q } [some (.ref p),some (VZ l),some x2,some (.int day),none] H:=by
  refine⟨_,(ae (aV 4 ND (cK (fv 0) T.bH (dm T) hr.mono aq (fa1 (E1 (aK K (aH (sT T) hr aq (fa1 (fv 1))) (nX jk ad))))))
   (ae (bc (L2.PW.pt (fJ (jd (fT (bx K (fv 4)))) (eP (bG (bz (cK (fv 4) T.bt (eI T) hr.mono aq (fa1 (fv 3)))))))) (af cU) aJ)
   (ae (bC (bY K qS Zq Zr cA (bx K (fv 4)) (fa1 (fv 1))))
   (af (cE (Zz HU) (bx K (fv 0)) (fv 1) (EB T.oh (eT T) hr.mono rfl T.qd aq (fa3 (bx K (fv 4)) (fv 2) (fv 3))) rfl))))),?_⟩
  walk_at "z";refine⟨_,_,hp,gA _,hN,hN,hl,fun q2 hq2=>⟨_,VZ v,.inl (al aa),?_,?_⟩⟩
  .rw[el,mW hn,yB];exact sD _ _
  refine⟨H,Gc.none (aj _ hq2),hN,?_⟩;walk_at "q";refine⟨d,cs,u,J,hu,pu,?_⟩;obtain⟨du,ho⟩:=(J.ac u hu).ob;refine⟨_,_,_,_,ho,T.bt,T.cC,fu ..,?_⟩;rw[un];have eo:opn u.fi u.un day=true:=by rw[un];unfold opn;rw[We uf];rfl
  refine itp rfl ⟨_,_,ho,IP ..,hN,_,_,_,_,_,_,ho,?_⟩;rw[eo];have sml:(u.be.map VZ).length<WI:=by have:=lb u hu;rw[zm,tV];lia
  refine itn (by decide) ⟨_,_,_,_,ho,T.bt,T.eO,fb ..,.inl ⟨rfl,_,al (J.ac u hu).ls⟩,u.bl,_,_,rfl,rfl,(J.ac u hu).ls,sml,?_⟩;have J1:=J.grow hu l;have N1:WS (upd H u.bl (.lst (u.be.map VZ++[VZ l]))):=aE hN rfl;have ho1:=(ag (o:=.lst (u.be.map VZ++[VZ l])) (J.ob_bl hu hu)).trans ho;have K1:WZ (d::cs.map (·.bl)) H (upd H u.bl (.lst (u.be.map VZ++[VZ l]))):=WZ.refl.put (.tail _ (xW hu));have n58:∀q,upd H u.bl (.lst (u.be.map VZ++[VZ l])) q=none->H q=none:=fun q hq=>by
   by_cases hc:q=u.bl
   .rw[hc,aa]at hq;cases hq
   .rw[ag hc]at hq;exact hq
  generalize upd H u.bl (.lst (u.be.map VZ++[VZ l]))=H1 at J1 N1 ho1 K1 n58 |-
  refine⟨_,_,_,_,ho1,T.bt,T.iM,fk ..,fun x dx1 hx hdx ne=>?_⟩;refine⟨aE (aE N1 rfl) rfl,_,aa,fun b H' hb h1 h2 kp hN'=>?_⟩;have kp0:=e_ hx hdx kp;have J2:=J1.keep kp0 vO vO fun _ _=>⟨vO,vO⟩;obtain⟨dx2,hp2⟩:=J2.ob
  let c:Acc:=⟨l,x,b,u.ki,x2,day,none,[]⟩
  have smk:((eQ cs u.pa (grw l)).map kyA).length<WI:=by rw[cR (f:=grw l) kyA fun _=>rfl,zm,tV];lia
  have ef1:fnd (eQ cs u.pa (grw l)) l=none:=zI (fun _=>rfl) ef;refine⟨_,_,_,_,hp2,T.bH,T.bT,lkp _,d,_,rfl,DPut.k (k:=.inr ⟨⟨l⟩⟩) J2.dc smk,?_⟩;rw[uC ef1 c rfl];have J3:=J1.more kp0 (c:=c) ef1 hx (d6 hb) ⟨⟨dx1,h1⟩,h2⟩;rw[pu]at J3 |-
  exact k c _ rfl rfl rfl rfl rfl (n58 _ hx) (n58 _ (d6 hb)) J3 ((K1.trans (kp0.mono (fun _ h=>nomatch h))).put (.head _)) (aE hN' rfl)
 obtain⟨u4,hu4,c4⟩:=c4;refine⟨_,(ae (bc (A8 (bf (cY K HU) (aB (bV K) rfl T.dq cz (fa1 (aH (uA T) hr aq (fa1 (fv 1))))) ad)) (af cU) aJ)
  (ae (bc (L2.PW.pt (nh (jd (fT (fv 2))) (jy (bG (bz (aH (ie T) hr aq (fa1 (fv 2)))))))) (af cU) aJ)
  (ae (bc (bG (bz (aH (iW T) hr aq (fa1 (fv 3))))) (af cU) aJ)
  (ae (bc (jd (u6 (Zz HU) (fv 1) (bx K (fv 0))) (by with_unfolding_all rfl)) (af cU) aJ)
  hu4)))),?_⟩
 walk_at "q";refine⟨hN,hN,hl,e,fun q hq=>?_⟩;refine⟨_,.inl (al aa),H,Gc.none (aj _ hq),?_⟩;rw[zm,el,gJ hn,zc,Wg (by
  have hp:0<(spN 58 v).length:=XZ.mpr (iE 58 v);simp only[wa];lia)]
 rw[<- el];refine' Km (fun key=>_) _
 rotate_left 1
 .obtain hz|⟨cl',hz,hcl⟩:=hz
  .exact itp hz key
  .exact itn (by rw[hz];intro z;cases z) ⟨hN,GS hz ⟨hcl,key⟩⟩
 have ed:amg (.int day) 0 146096=true:=by show(decide (0<=day)&&decide (day<=146096))=true;rw[We hd.1,We hd.2];rfl
 rw[ed];refine⟨hN,itn (by decide) ⟨_,_,_,_,hp,T.bH,T.bT,lkp _,d,_,rfl,DGet.k (k:=.inr ⟨⟨l⟩⟩) J.dc,?_⟩⟩;rw[iO,Xq,ef,Wg (by intro z;cases z)];exact c4
end
section
variable{P:WL}{w:WK}{K:Wz}{mg:Str->Option WO}{base:WF}{a:Adr}
def CAt.shutA{C A:WN}{H:Hp}{p d:WN}{cs:List Acc}(J:CAt C A H p d cs){u:Acc}(hu:u∈cs)(t:Int){dx:WN}(ho:H u.ob=some (.ins A dx (fW u.ki u.cu (.int u.fi) (cl u.un) (.ref u.bl)))):CAt C A (upd H u.ob (.ins A dx (fW u.ki u.cu (.int u.fi) (.int t) (.ref u.bl)))) p d (eQ cs u.pa (shu t)):=by
 have pob:p≠u.ob\/p=u.ob:=(Decidable.em _).symm;refine⟨?_,?_,fun z hz=>?_,?_,?_,?_⟩
 .obtain⟨dp,e⟩:=J.ob
  have:p≠u.ob:=dY e ho;exact⟨dp,(ag this).trans e⟩
 .rw[cR (f:=shu t) kyA fun _=>rfl,ag (Wj (J.ob_d hu))];exact J.dc
 .obtain⟨y,hy,e⟩:=dA hz
  obtain⟨dy,hoy⟩:=(J.ac y hy).ob;by_cases h:y.pa=u.pa
  .have:y=u:=iS J.np hy hu h
   subst this;rw[Wf rfl]at e;subst e;exact⟨⟨dx,aa⟩,(ag (Wj (J.ob_bl hy hu))).trans (J.ac y hy).ls⟩
  .rw[Wg h]at e
   subst e;have nb:z.ob≠u.ob:=fun q=>h (by rw[iS J.na hy hu q]);exact⟨⟨dy,(ag nb).trans hoy⟩,(ag (Wj (J.ob_bl hu hy))).trans (J.ac z hy).ls⟩
 .rw[cR (f:=shu t) _ fun _=>rfl];exact J.np
 .rw[cR (f:=shu t) _ fun _=>rfl];exact J.na
 .rw[cR (f:=shu t) _ fun _=>rfl];exact J.nb
def sp_Ek(C A:WN):Sp:=sp3 fun x y z H Q _=>WS H/\asR x fun p=>asT y fun l=>((∀c∈l,c<128)/\l.length<=199)/\asI z fun day=>(0<=day/\day<=146096)/\∃d cs u,CAt C A H p d cs/\u∈cs/\u.pa=l/\ir l=true/\u.un=none/\u.fi<day/\u.be=[] /\
 ∀H',CAt C A H' p d (eQ cs l (shu day))->WZ (cs.map (·.ob)) H H'->WS H'->Q .non H'
def py(T:Txt K mg a):Mo P w K mg base a.aU "shut" 6 (sp_Ek a.aU a.aS):=by
 refine T.rC.hx ["self","path","day","account"] (gX3 fun x0 x1 x2 fA XD A XF s H Q E ND HU hr h=>?_);obtain⟨hN,h1⟩:=h;obtain⟨p,rfl,h2⟩:=aQ h1;obtain⟨l,rfl,hl,h3⟩:=bX h2;refine h_ (a9 h3) fun day yy1 hd yz=>F7 yz fun d cs u J hu pu e un uf ub k=>?_;subst yy1;obtain⟨dx,hp⟩:=J.ob;refine⟨_,(ae (bc (bG (bz (aH (nU T) hr aq (fa1 (fv 1))))) (af cU) aJ)
  (ae (aV 3 ND (cK (fv 0) T.bH (dm T) hr.mono aq (fa1 (fv 1))))
  (ae (bc (L2.PW.pt (fJ (bG (bz (aH (iW T) hr aq (fa1 (fv 2))))) (eP (bf dX (fv 2) (bx K (fv 3)))))) (af cU) aJ)
  (ae (bc (jd (fT (bx K (fv 3)))) (af cU) aJ)
  (ae (bc (A8 (bz (aB (Dv K rfl) rfl T.IZ GV (fa1 (bK rfl (cl:=_) (x:="lower") (xs:=["lower"]) (fr:=["day","self"]) (ks:=[2,0]) (by walk_at "k") rfl (a7 K (bx K (fv 3))) (fun _ _ _ _ _=>(av (i:=0) (cQ (l:=["lower","day","self"]) (by decide)) rfl (Wi rfl))) (fun _ _ _ _ _=>cO) (fun _ _ _ _ _=>(cK (aP (Zz HU) (bx K (fv 2)) (fv 0) (fun _ _=>rfl)) T.bt (gp T) hr.mono wS (fa1 (fv 1))))))))) (af cU) aJ)
  (af (dQ K (fv 3) (fv 2)))))))),?_⟩
 walk_at "d";refine⟨hN,hl,itn (by rw[e];decide) ?_⟩;refine⟨_,_,hp,gA _,hN,d,cs,u,J,hu,pu,?_⟩;obtain⟨du,ho⟩:=(J.ac u hu).ob;refine⟨hN,?_⟩;have ed:amg (.int day) 0 146096=true:=by show(decide (0<=day)&&decide (day<=146096))=true;rw[We hd.1,We hd.2];rfl
 rw[ed];refine itn (by decide) ⟨_,_,_,_,ho,T.bt,T.eM,ff ..,?_⟩;walk_at "z";refine itn (by lia) ⟨_,_,_,_,ho,T.bt,T.cC,fu ..,?_⟩;rw[un];refine itp rfl ⟨hN,?_⟩;have hb:SqL K H u.bl []:=al (by rw[(J.ac u hu).ls,ub];rfl);refine cmL u.bl [] (fun H'=>SqL K H' u.bl []) (fun D ys hD=>hb.same (aj _ hD)) (fun H' c=>c) (fun _=>true) (fun x=>x) (fun R r=>?_) hb (rp _) (fun x hx=>nomatch hx) (fun x hx=>nomatch hx) (fun D hD=>?_)
 .walk_at "z"
  exact⟨_,_,_,_,ho,T.bt,T.eO,fb ..,r⟩
 .refine⟨[],al aa,H,Gc.none (aj _ hD),itn (by decide) ⟨_,_,_,ho,T.bt,T.cC,by show 5<1000;decide,?_⟩⟩
  rw[IH];have J1:=J.shutA hu day ho;rw[pu]at J1;exact k _ J1 (WZ.refl.put (xW hu)) (aE hN rfl)
end
section
variable{P:WL}{w:WK}{K:Wz}{mg:Str->Option WO}{base:WF}{a:Adr}
open K3
def mX(i lo hi:Int):amg (.int i) lo hi=(decide (lo<=i)&&decide (i<=hi)):=rfl
noncomputable def gq(C dx:WN)(v:V):HO:=.ins C dx [("last_closed",v)]
def sp_y_(C:WN):Sp:=sp1 fun x H Q _=>asR x fun p=>∃dx,H p=some (.ins C dx [])/\Q .non (upd H p (gq C dx .non))
def kF(T:Txt K mg a):Mo P w K mg base a.bQ "__init__" 1 (sp_y_ a.bQ):=by
 refine T.mD.hx ["self"] (gX1 fun x0 fA XD A XF s H Q E ND HU hr h=>?_);obtain⟨p,rfl,dx,hp,k⟩:=aQ h;refine⟨_,(af (dQ K (fv 0) ky)),?_⟩;walk_at "z";exact⟨_,_,_,hp,T.jT,T.cT,by decide,k⟩
def lk1(v:V):qI (zS "last_closed") [(zS "last_closed",v)]=some v:=by simp[qI]
def sp_tH(C:WN):Sp:=sp1 fun x H Q _=>WS H/\asR x fun p=>∃dx v,H p=some (gq C dx v)/\Q v H
def B2(T:Txt K mg a):Mo P w K mg base a.bQ "closed" 1 (sp_tH a.bQ):=by
 refine T.pd.hg ["self"] (gG1 fun x0 fA XD A XF s H Q E ND HU hr h=>?_);obtain⟨hN,h1⟩:=h;refine br (aQ h1) fun p yy1 yz=>C5 yz fun dx v hp k=>?_;subst yy1;refine⟨hN,_,(af (aA (bx K (fv 0)))),?_⟩;walk_at "d";exact⟨_,_,_,_,hp,T.jT,T.cT,lk1 v,k⟩
def sp_yN(C:WN):Sp:=sp2 fun x y H Q _=>WS H/\asR x fun p=>asI y fun d=>(0<=d/\d<=146096)/\∃dx o,H p=some (gq C dx (cl o))/\Q (.bl (match o with|none=>true|some m=>decide (m<MO d))) H
def rF(T:Txt K mg a):Mo P w K mg base a.bQ "lets" 5 (sp_yN a.bQ):=by
 refine T.uB.hg ["self","day"] (gG2 fun x0 x1 fA XD A XF s H Q E ND HU hr h=>?_);obtain⟨hN,h1⟩:=h;obtain⟨p,rfl,h2⟩:=aQ h1;refine h_ (a9 h2) fun d yy1 hd yz=>C5 yz fun dx o hp k=>?_;subst yy1;refine⟨hN,_,(af (aA (Cf (vq (BB (bx K (fv 0)))) (dv (cX uy (aH (lI T) hr aq (fa1 (fv 1))) (bx K (fv 0)) (dD _)))))),?_⟩;walk_at "d";refine⟨_,_,_,_,hp,T.jT,T.cT,lk1 _,?_⟩;cases o with
 |none=>exact k
 |some m=>
  rw[Wg (by intro z;cases z)];exact⟨hN,hd,_,_,_,_,hp,T.jT,T.cT,lk1 _,H,Gc.refl,k⟩
noncomputable def JX(C dx b u:WN):HO:=.ins C dx [("bookings",.ref b),("undoings",.ref u)]
def lkb(x y:V):qI (zS "bookings") [(zS "bookings",x),(zS "undoings",y)]=some x:=by simp[qI]
def lku(x y:V):qI (zS "undoings") [(zS "bookings",x),(zS "undoings",y)]=some y:=by rw[aW (by decide +kernel)];exact ig
structure JAt(C:WN)(H:Hp)(p b u:WN)(bs:List V)(XB:List (Key × V)):Prop where
 ob:∃dx,H p=some (JX C dx b u)
 ls:H b=some (.lst bs)
 dc:H u=some (.dK XB)
def JAt.keep{C:WN}{S:List WN}{H H':Hp}{p b u:WN}{bs:List V}{XB:List (Key × V)}(j:JAt C H p b u bs XB)(x:WZ S H H')(hp:p∉S)(hb:b∉S)(hu:u∉S):JAt C H' p b u bs XB:=
 ⟨by obtain⟨dx,e⟩:=j.ob;exact⟨dx,x _ _ e hp⟩,x _ _ j.ls hb,x _ _ j.dc hu⟩
def sp_zc(C:WN):Sp:=sp1 fun x H Q _=>WS H/\asR x fun p=>∃dx,H p=some (.ins C dx [])/\∀b u H',H b=none->H u=none->JAt C H' p b u [] []->WZ [p] H H'->WS H'->Q .non H'
def iZ(T:Txt K mg a):Mo P w K mg base a.aX "__init__" 1 (sp_zc a.aX):=by
 refine T.jm.hx ["self"] (gX1 fun x0 fA XD A XF s H Q E ND HU hr h=>?_);obtain⟨hN,h1⟩:=h;obtain⟨p,rfl,dx,hp,k⟩:=aQ h1;refine⟨_,(ae (dQ K (fv 0) (cw (FA.pa cr)))
  (af (dQ K (fv 0) gH))),?_⟩
 walk_at "z";refine⟨rp _,fun b hb=>?_⟩;have np:p≠b:=aM hp hb;refine⟨_,_,_,(ag np).trans hp,T.bD,T.bW,by show 0<1000;decide,fun u hu=>?_⟩;have nu:p≠u:=fun q=>by rw[<- q,aa]at hu;cases hu
 have nb:b≠u:=fun q=>by rw[<- q,ag (Wj np),aa]at hu;cases hu
 refine⟨_,_,_,(ag nu).trans aa,T.bD,T.dC,by show 1<1000;decide,?_⟩;have hu0:H u=none:=by
  rw[ag (Wj nu),ag (Wj nb)]at hu;exact hu
 refine k b u _ hb hu0 ⟨⟨dx,?_⟩,?_,?_⟩ ?_ ?_
 .rw[aa]
  have e:dL (zS "undoings") (V.ref u) (dL (zS "bookings") (V.ref b) [])=[(zS "bookings",.ref b),(zS "undoings",.ref u)]:=by
   have q:¬ (zS "bookings" = zS "undoings"):=by decide +kernel
   simp[dL,q]
  rw[e];rfl
 .rw[ag (Wj np),ag nb,ag (Wj np),aa]
 .rw[ag (Wj nu),aa]
 .exact(((WZ.refl.new hb).put (zw.2 rfl)).new hu).put (zw.2 rfl)
 .exact aE (aE (aE (aE hN rfl) rfl) rfl) rfl
def sp_zS(K:Wz)(C:WN):Sp:=sp5 fun x d n r o H Q _=>WS H/\asR x fun p=>asR r fun r=>∃b u bs XB rs,JAt C H p b u bs XB/\bs.length<=100/\XB.length<=100/\(SqL K H r rs\/H r=some (.tup rs))/\(o = .non\/∃i,o = .int i) /\
 ∀t q H',H t=none\/H t=some (.tup rs)->H' t=some (.tup rs)->H q=none->H' q=some (.tup [.int bs.length,d,n,.ref t,o])->JAt C H' p b u (bs++[.ref q]) (match o with | .int i=>bi XB (.inl i) (.int bs.length)|_=>XB)->WZ [b,u] H H'->WS H'->Q (.int bs.length) H'
def iH(T:Txt K mg a):Mo P w K mg base a.aX "put" 1 (sp_zS K a.aX):=by
 refine T.o4.hx ["self","day","note","rows","undoes","number"] (gX5 fun x0 x1 x2 x3 x4 fA XD A XF s H Q E ND HU hr h=>?_);obtain⟨hN,h1⟩:=h;obtain⟨p,rfl,h2⟩:=aQ h1;obtain⟨r,rfl,b,u,bs,XB,rs,J,l1,l2,hs,ho,k⟩:=aQ h2;obtain⟨dx,hp⟩:=J.ob;refine⟨_,(ae (aV 5 ND (aB (bV K) rfl T.dq cz (fa1 (bx K (fv 0)))))
  (ae (bC (bY K qS Zq Zr cA (bx K (fv 0)) (fa1 (bU (fa5 (fv 5) (fv 1) (fv 2) (de (tL K) rfl T.jR ii (fa1 (fv 3))) (fv 4))))))
  (ae (bc (jd (fT (fv 4))) (af (cE (Zz HU) (bx K (fv 0)) (fv 4) (fv 5) rfl)) aJ)
  (af (aA (fv 5)))))),?_⟩
 walk_at "d";refine⟨_,_,_,_,hp,T.bD,T.bW,lkb _ _,bs,.inl (.inl (.inl J.ls)),_,_,_,_,hp,T.bD,T.bW,lkb _ _,.inl ⟨rfl,bs,.inl (.inl J.ls)⟩,rs,?_⟩;have five:5<=WI:=by rw[tV];decide
 have sml:bs.length<WI:=by rw[tV];lia
 have smk:XB.length<WI:=by rw[tV];lia
 have nb:p≠b:=dY hp J.ls;have nu:p≠u:=dY hp J.dc;have bu:b≠u:=dY J.ls J.dc;have fin:∀t H1,H t=none\/H t=some (.tup rs)->H1 t=some (.tup rs)->XA H H1->WS H1->∀q,H1 q=none->∃l xs y,V.ref b=V.ref l/\V.ref q=y/\upd H1 q (HO.tup [.int bs.length,x1,x2,V.ref t,x4]) l=some (HO.lst xs)/\xs.length<WI /\
  if x4=V.non then Q (.int bs.length) (upd (upd H1 q (HO.tup [.int bs.length,x1,x2,V.ref t,x4])) l (HO.lst (xs++[y]))) else
   ∃C dx fs v,upd (upd H1 q (HO.tup [V.int bs.length,x1,x2,V.ref t,x4])) l (HO.lst (xs++[y])) p=some (HO.ins C dx fs)/\Cls K C/\NoAttr K C (zS "undoings")/\qI (zS "undoings") fs=some v /\
    ∃a H4,v=V.ref a/\DPut (upd (upd H1 q (HO.tup [V.int bs.length,x1,x2,V.ref t,x4])) l (HO.lst (xs++[y]))) a x4 (V.int bs.length) H4/\Q (V.int bs.length) H4:=by
  intro t H1 ht1 ht2 kp n1 q hq;have mb:b∈[b,u]:=.head _;have mu:u∈[b,u]:=.tail _ (.head _);have hp1:=kp _ _ hp;have hb1:=kp _ _ J.ls;have hu1:=kp _ _ J.dc;have qb:b≠q:=aM hb1 hq;have qu:u≠q:=aM hu1 hq;have qp:p≠q:=aM hp1 hq;have qt:t≠q:=aM ht2 hq;have tb:t≠b:=dY ht2 hb1;have tu:t≠u:=dY ht2 hu1;have q0:H q=none:=kp.free hq;generalize hz:HO.tup [V.int bs.length,x1,x2,V.ref t,x4]=z at *;have dz:cV z=true:=by rw[<- hz];rfl
  refine⟨b,bs,_,rfl,rfl,(ag qb).trans hb1,sml,?_⟩;have K2:WZ [b,u] H (upd (upd H1 q z) b (.lst (bs++[.ref q]))):=((bF kp).new hq).put mb;have N2:WS (upd (upd H1 q z) b (.lst (bs++[.ref q]))):=aE (aE n1 dz) rfl;obtain rfl|⟨i,rfl⟩:=ho
  .rw[Wf rfl]
   refine k t q _ ht1 ?_ q0 ?_ ⟨⟨dx,?_⟩,aa,?_⟩ K2 N2
   .rw[ag tb,ag qt];exact ht2
   .rw[ag (Wj qb),aa,hz]
   .rw[ag nb,ag qp];exact hp1
   .rw[ag (Wj bu),ag qu];exact hu1
  .rw[Wg (by intro z;cases z)]
   refine⟨_,dx,[(zS "bookings",.ref b),(zS "undoings",.ref u)],_,?_,T.bD,T.dC,lku _ _,u,_,rfl,DPut.k (k:=.inl i) (XB:=XB) ?_ smk,?_⟩
   .rw[ag nb,ag qp];exact hp1
   .rw[ag (Wj bu),ag qu];exact hu1
   .refine k t q _ ht1 ?_ q0 ?_ ⟨⟨dx,?_⟩,?_,aa⟩ (K2.put mu) (aE N2 rfl)
    .rw[ag tu,ag tb,ag qt];exact ht2
    .rw[ag (Wj qu),ag (Wj qb),aa,hz]
    .rw[ag nu,ag nb,ag qp];exact hp1
    .rw[ag bu,aa]
 obtain hs|hs:=hs
 .refine .inl ⟨hs,fun l hl=>⟨five,fin l _ (.inl hl) aa (aj _ hl) (aE hN rfl)⟩⟩
 .exact .inr ⟨.inl (.inl hs),five,fin r _ (.inr hs) hs (XA.refl _) hN⟩
def sp_qF(C:WN):Sp:=sp2 fun x y H Q _=>WS H/\asR x fun p=>asI y fun i=>∃b u bs XB,JAt C H p b u bs XB/\0<=i/\i<bs.length/\∀(n:Nat) v,i=n->bs[n]? = some v->Q v H
def cS(T:Txt K mg a):Mo P w K mg base a.aX "booking" 3 (sp_qF a.aX):=by
 refine T.jP.hg ["self","number"] (gG2 fun x0 x1 fA XD A XF s H Q E ND HU hr h=>?_);obtain⟨hN,h1⟩:=h;obtain⟨p,rfl,h2⟩:=aQ h1;refine br (a9 h2) fun i yy1 yz=>xZ yz fun b u bs XB J i0 k0 k=>?_;subst yy1;obtain⟨dx,hp⟩:=J.ob;refine⟨hN,_,(ae (bc (bG (bz (aH (iy T) hr aq (fa3 (fv 1) ad (ah fh (aB (bV K) rfl T.dq cz (fa1 (bx K (fv 0)))) ad))))) (af cU) aJ)
  (af (aA (aK K (bx K (fv 0)) (fv 1))))),?_⟩
 walk_at "z";refine⟨_,_,_,_,hp,T.bD,T.bW,lkb _ _,bs,.inl (.inl (.inl J.ls)),?_⟩;show gI _ (.int _) (.int 1) H _;walk_at "z";refine⟨hN,?_⟩;rw[mX,We i0];obtain⟨n,rfl⟩:=Zk i0;have hn:n<bs.length:=by lia
 rw[We (show(n:Int)<=(bs.length:Int)-1 by lia)];exact itn (by decide) ⟨_,_,_,_,hp,T.bD,T.bW,lkb _ _,bs,bs[n],.inl (.inl (.inl J.ls)),aI (Wr hn),H,Gc.refl,k n _ rfl (Wr hn)⟩
def sp_wb(C:WN):Sp:=sp1 fun x H Q _=>WS H/\asR x fun p=>∃b u bs XB,JAt C H p b u bs XB/\∀q,H q=none->Q (.ref q) (upd H q (.lst bs))
def kr(T:Txt K mg a):Mo P w K mg base a.aX "every" 1 (sp_wb a.aX):=by
 refine T.mJ.hg ["self"] (gG1 fun x0 fA XD A XF s H Q E ND HU hr h=>?_);obtain⟨hN,h1⟩:=h;refine br (aQ h1) fun p yy1 yz=>IG yz fun b u bs XB J k=>?_;subst yy1;obtain⟨dx,hp⟩:=J.ob;refine⟨hN,_,(af (aA (de (iU K) rfl T.fV d9 (fa1 (bx K (fv 0)))))),?_⟩;walk_at "z";exact⟨_,_,_,_,hp,T.bD,T.bW,lkb _ _,bs,.inl (.inl (.inl J.ls)),fun l hl=>⟨_,Gc.one (aj _ hl) hl aa rfl,k l hl⟩⟩
def sp_tR(C:WN):Sp:=sp2 fun x y H Q _=>WS H/\asR x fun p=>asI y fun i=>∃b u bs XB,JAt C H p b u bs XB/\∃(n:Nat) (q:WN) (l:List V),i=n/\bs[n]? = some (.ref q)/\H q=some (.tup (.int i::l))/\Q ((bw XB (.inl i)).getD .non) H
def iw(T:Txt K mg a):Mo P w K mg base a.aX "undone_by" 4 (sp_tR a.aX):=by
 refine T.i5.hg ["self","number"] (gG2 fun x0 x1 fA XD A XF s H Q E ND HU hr h=>?_);obtain⟨hN,h1⟩:=h;obtain⟨p,rfl,h2⟩:=aQ h1;refine br (a9 h2) fun _ yy1 yz=>IG yz fun b u bs XB J yz=>Bz yz fun n q l yy2 h3 h4 k=>?_;subst yy1 yy2;obtain⟨dx,hp⟩:=J.ob;refine⟨hN,_,(af (aA (BU (Zz HU) (bx K (fv 0)) (aK K (cK (fv 0) T.bD (cS T) hr.mono aq (fa1 (fv 1))) ad) ⟨rfl,rfl,rfl,rfl⟩))),?_⟩;walk_at "z";have hn:n<bs.length:=(Wu.mp h3).1;refine⟨_,_,_,_,hp,T.bD,T.dC,lku _ _,u,rfl,.inl ⟨_,.inl J.dc⟩,_,_,hp,?_,hN,b,u,bs,XB,J,by lia,by lia,fun n' v e1 e2=>?_⟩
 .rw[aW (by decide +kernel),aW (by decide +kernel)];rfl
 .have:n=n':=by lia
  subst this;rw[h3]at e2;cases e2;exact⟨_,.int n,.inr (.inl (.inl h4)),aI (j:=0) rfl,_,DGet.k (k:=.inl (n:Int)) J.dc,H,Gc.refl,k⟩
def d5{H H':Hp}{D:WN}{o:HO}(s:XA H H')(h:H D=none):XA H (upd H' D o):=fun c z e=>by
 rw[ag (aM e h)];exact s c z e
def WY(H:Hp)(v:V)(r:Row):Prop:=∃q,v = .ref q/\H q=some (.tup [VZ r.pa,VZ r.cu,.int r.am])
structure Bo where
 k:Int
 d:Int
 rs:List Row
 un:Option Int
def BkAt(H:Hp)(v:V)(b:Bo):Prop:=∃q t vs nt,v = .ref q/\H q=some (.tup [.int b.k,.int b.d,VZ nt,.ref t,cl b.un])/\H t=some (.tup vs)/\A2 (WY H) vs b.rs
def LW(W:List WN)(H:Hp):Prop:=∀s∈W,∃l,H s=some (.lst l)
def LW.nil{H:Hp}:LW [] H:=fun _ h=>nomatch h
def LW.one{H:Hp}{s:WN}{xs:List V}(h:H s=some (.lst xs)):LW [s] H:=fun z m=>by rw[zw.mp m];exact⟨_,h⟩
def LW.no{W:List WN}{H:Hp}(t:LW W H){q:WN}{o:HO}(h:H q=some o)(n:∀l,o ≠ .lst l):q∉W:=fun m=>by
 obtain⟨l,e⟩:=t q m;rw[h]at e;cases e;exact n _ rfl
def LW.tup{W:List WN}{H:Hp}(t:LW W H){q:WN}{l:List V}(h:H q=some (.tup l)):q∉W:=t.no h (by intro _ z;cases z)
section
variable{W:List WN}{H H':Hp}(x:WZ W H H')(t:LW W H)
include x t
def WY.keep{v:V}{r:Row}(h:WY H v r):WY H' v r:=by
 obtain⟨q,rfl,e⟩:=h;exact⟨q,rfl,x _ _ e (t.tup e)⟩
def ck{vs:List V}{rs:List Row}(h:A2 (WY H) vs rs):A2 (WY H') vs rs:=h.imp fun _ _ _ _ r=>r.keep x t
def BkAt.keep{v:V}{b:Bo}(h:BkAt H v b):BkAt H' v b:=by
 obtain⟨q,u,vs,nt,rfl,e1,e2,r⟩:=h;exact⟨q,u,vs,nt,rfl,x _ _ e1 (t.tup e1),x _ _ e2 (t.tup e2),ck x t r⟩
def AG{vs:List V}{bs:List Bo}(h:A2 (BkAt H) vs bs):A2 (BkAt H') vs bs:=h.imp fun _ _ _ _ r=>r.keep x t
end
def bh{H H':Hp}(s:XA H H'){vs:List V}{rs:List Row}(h:A2 (WY H) vs rs):A2 (WY H') vs rs:=ck (W:=[]) (bF s) LW.nil h
def rOk(r:Row):Prop:=cur r.cu=true/\(-1000000000000000<=r.am/\r.am<=1000000000000000)/\r.am≠0
def sp_ym:Sp:=sp1 fun x H Q _=>WS H/\∃r,WY H x r/\rOk r/\Q (.bl true) H
def yx(T:Txt K mg a):Fo P w K mg base "is_row" 4 sp_ym:=by
 refine T.Cu.hg ["thing"] (gG1 fun x0 fA XD A XF s H Q E ND HU hr h=>?_);obtain⟨hN,r,⟨q,rfl,hq⟩,⟨hc,ha,h0⟩,k⟩:=h;refine⟨hN,_,(ae (bc (L2.PW.pt (fJ (bG (bz (aB (cI K) rfl T.a_ aZ (fa2 (fv 0) (cF (v:=.ty "tuple") rfl T.jR ii rfl))))) (eP (bf (dw K HU) (aB (bV K) rfl T.dq cz (fa1 (fv 0))) ad)))) (af (aA cW)) aJ)
  (af (aA (cZ (aB (cI K) rfl T.a_ aZ (fa2 (aK K (fv 0) ad) (cF (v:=.ty "str") rfl T.pY k8 rfl))) (cZ (aH (ie T) hr aq (fa1 (aK K (fv 0) ad))) (cZ (aH (qG T) hr aq (fa1 (aK K (fv 0) ad))) (dv (cX (dw K HU) (aK K (fv 0) ad) ad (dD _))))))))),?_⟩
 have et:c_ H (.ref q)=some "tuple":=by simp[c_,hq]
 have hS:=aY (K:=K) hq;walk_at "d";simp only[et];refine itn (by decide) ⟨_,.inr hS,itp rfl ⟨_,_,.inr hS,aI (j:=0) rfl,?_⟩⟩;walk_at "z";refine⟨_,_,.inr hS,aI (j:=1) rfl,hN,hc,?_⟩;walk_at "z";refine⟨_,_,.inr hS,aI (j:=2) rfl,hN,?_⟩;walk_at "z";rw[mX,We ha.1,We ha.2];refine itp rfl ⟨_,_,.inr hS,aI (j:=2) rfl,?_⟩;walk_at "d";rw[Wc h0];exact k
def sp_Em:Sp:=sp1 fun x H Q _=>WS H/\asR x fun q=>∃vs rs,H q=some (.lst vs)/\A2 (WY H) vs rs/\(2<=rs.length/\rs.length<=200)/\(∀r∈rs,rOk r)/\Q .non H
def qw(T:Txt K mg a):Fo P w K mg base "need_form" 5 sp_Em:=by
 refine T.uU.hg ["rows","row"] (gG1 fun x0 fA XD A XF s H Q E ND HU hr h=>?_);obtain⟨hN,h1⟩:=h;refine br (aQ h1) fun q yy1 yz=>vk yz fun vs rs hq ha ln ho k=>?_;subst yy1;have lv:=ha.len;refine⟨hN,_,(ae (bc (L2.PW.pt (fJ (bG (bz (aB (cI K) rfl T.a_ aZ (fa2 (fv 0) (cF (v:=.ty "list") rfl T.fV d9 rfl))))) (eP (bG (nK dX dX ad (aB (bV K) rfl T.dq cz (fa1 (fv 0))) ad))))) (af cU) aJ)
  (af (b7 (by passes_own) rfl (a7 K (fv 0)) (av (i:=1) ND rfl (Wi rfl)) (af (bc (bG (bz (aH (yx T) hr aq (fa1 (fv 1))))) (af cU) aJ))))),?_⟩
 have et:c_ H (.ref q)=some "list":=by simp[c_,hq]
 walk_at "d";simp only[et];refine itn (by decide) ⟨_,.inl (al hq),itp (by lia) (itp (by lia) (b9 ?_))⟩;walk_at "z";refine cn (xs:=vs) (al hq) (cq (fun i σ' H'=>H'=H/\∃z,σ'=[some (.ref q),z]) ⟨rfl,none,rfl⟩ (fun i σ' H' _ h=>by rw[h.1];exact al hq) ?_ ?_)
 .rintro i x σ' H' hx ⟨rfl,z,rfl⟩
  obtain⟨r,hr,rr⟩:=ha.at_ hx;walk_at "d";refine⟨hN,r,rr,ho r (wt hr),_,rfl⟩
 .rintro σ' H' ⟨rfl,z,rfl⟩
  exact⟨H',Gc.none (XA.refl _),k⟩
def bR{α:Type}{l:List α}{i:Nat}{x:α}(h:l[i]? = some x):l.take (i+1)=l.take i++[x]:=by rw[Xj,h];rfl
def Dk(o:Option Int)(j:Int):(o.map V.int).getD (.int j) = .int (o.getD j):=by cases o <;> rfl
def KQ(H:Hp)(Q:VK)(rs:List Row):Prop:=∀out r ws H',out.Perm ((dk rs).map (·.1))->oA out->H r=none->H' r=some (.lst ws)->A2 (WY H') ws (res rs out)->XA H H'->WS H'->Q (.ref r) H'
noncomputable def flt(H H':Hp):Hp:=fun p=>match H p with
 |some o=>some o
 |none=>match H' p with
  |some o=>if jx o=true then some o else none
  |none=>none
def xG{H H':Hp}{p:WN}{o:HO}(h:H p=some o):flt H H' p=some o:=by unfold flt;rw[h]
def Cn{H H':Hp}(s:XA H H'){p:WN}{o:HO}(h:H' p=some o)(n:jx o=true):flt H H' p=some o:=by
 cases e:H p with
 |some z=>rw[s _ _ e]at h;cases h;exact xG e
 |none=>unfold flt;simp only[e,h,n,if_true]
def qm{H H':Hp}{p:WN}{o:HO}(h:flt H H' p=some o):H p=some o\/(H' p=some o/\jx o=true):=by
 unfold flt at h;cases e:H p with
 |some z=>rw[e]at h;exact .inl h
 |none=>
  simp only[e]at h;cases e2:H' p with
  |none=>rw[e2]at h;cases h
  |some z=>
   simp only[e2]at h;split at h
   .rename_i q;cases h;exact .inr ⟨rfl,q⟩
   .cases h
def Gc.flt{H H':Hp}(s:XA H H'):Gc H (flt H H') H':=⟨fun _ _ e=>xG e,fun p o e=>(qm e).elim (s p o) (·.1),fun p o e=>(qm e).imp id (·.2)⟩
def Dm{H H':Hp}(n:WS H):WS (flt H H'):=fun p o e=>by
 obtain q|⟨_,q⟩:=qm e
 .exact n p o q
 .cases o <;> first|rfl|cases q
def zU{H H':Hp}(s:XA H H'){vs:List V}{rs:List Row}(h:A2 (WY H') vs rs):A2 (WY (flt H H')) vs rs:=h.imp fun _ _ _ _ ⟨q,e,r⟩=>⟨q,e,Cn s r rfl⟩
def Am{H0 F:Hp}{D p:WN}{ys:List V}{rs:List Row}(r:Row)(s:XA H0 F)(fD:H0 D=none)(hD:F D=some (.lst ys))(hp:F p=none)(aw:A2 (WY F) ys rs) :
 upd F p (.tup [VZ r.pa,VZ r.cu,.int r.am]) D=some (.lst ys)/\XA H0 (upd (upd F p (.tup [VZ r.pa,VZ r.cu,.int r.am])) D (.lst (ys++[.ref p])))/\A2 (WY (upd (upd F p (.tup [VZ r.pa,VZ r.cu,.int r.am])) D (.lst (ys++[.ref p])))) (ys++[.ref p]) (rs++[r]):=by
 have s1:=aj (HO.tup [VZ r.pa,VZ r.cu,.int r.am]) hp;have hD1:=s1 _ _ hD;have kp:WZ [D] (upd F p (.tup [VZ r.pa,VZ r.cu,.int r.am])) (upd (upd F p (.tup [VZ r.pa,VZ r.cu,.int r.am])) D (.lst (ys++[.ref p]))):=WZ.refl.put (.head _);exact⟨hD1,d5 (s.trans s1) fD,(ck kp (LW.one hD1) (bh s1 aw)).snoc ⟨p,rfl,(ag (Wj (aM hD hp))).trans aa⟩⟩
def sp_DK:Sp:=sp1 fun x H Q _=>WS H/\asR x fun p=>∃vs rs,H p=some (.lst vs)/\A2 (WY H) vs rs/\rs.length<=1000/\(dk rs).length<64/\KQ H Q rs
def Co(d:List (Pt × Int)):(d.map kg).map (·.1)=(d.map (·.1)).map kP:=by rw[uR,uR];rfl
def oy(T:Txt K mg a):Fo P w K mg base "sums_of" 1 sp_DK:=by
 refine T.yY.hg ["rows","together","path","currency","amount"] (gG1 fun x0 fA XD A XF s H Q E ND HU hr h=>?_);obtain⟨hN,h1⟩:=h;refine br (aQ h1) fun p yy1 yz=>vk yz fun vs rs hp ha len l64 k=>?_;subst yy1;have sz:=szl;refine⟨hN,_,(ae (aV 1 ND sW)
  (ae (b7 (by passes_own) rfl (a7 K (fv 0)) (cN K (n:=3) rfl (aO (av (i:=2) ND rfl (Wi rfl)) (aO (av (i:=3) ND rfl (Wi rfl)) (aO (av (i:=4) ND rfl (Wi rfl)) cL)))) (af (cE (Zz HU) (fv 1) (bU (fa2 (fv 2) (fv 3))) (ah aT (gg (Zz HU) (fv 1) (bU (fa2 (fv 2) (fv 3))) ad ⟨rfl,rfl,rfl,rfl⟩) (fv 4)) rfl)))
  (af (aA (bK rfl (cl:=_) (x:="path") (xs:=["path","currency"]) (fr:=["together"]) (ks:=[1]) (by walk_at "k") rfl (a7 K (aB (yi rfl) rfl T.iA gh (fa1 (fv 1)))) (fun _ _ _ _ _=>(cN K (n:=2) rfl (aO (av (i:=0) (cQ (l:=["path","currency","together"]) (by decide)) rfl (Wi rfl)) (aO (av (i:=1) (cQ (l:=["path","currency","together"]) (by decide)) rfl (Wi rfl)) cL)))) (fun _ _ _ _ _=>(gB (bf (dw K HU) (aP (Zz HU) (fv 2) (bU (fa2 (fv 0) (fv 1))) (fun _ _=>rfl)) ad))) (fun _ _ _ _ _=>(bU (fa3 (fv 0) (fv 1) (aP (Zz HU) (fv 2) (bU (fa2 (fv 0) (fv 1))) (fun _ _=>rfl)))))))))),?_⟩
 walk_at "z";intro d hd;refine b9 ?_;walk_at "z";refine cn (al ((aj _ hd) _ _ hp)) (cq (fun i σ' H'=>XA H H'/\∃x2 x3 x4,H' d=some (.dT ((dk (rs.take i)).map kg))/\σ'=[some (.ref p),some (.ref d),x2,x3,x4]) ⟨aj _ hd,none,none,none,aa,rfl⟩ (fun i σ' H' _ h=>al (h.1 _ _ hp)) ?_ ?_)
 .rintro i x σ' H' hx ⟨sm,x2,x3,x4,hd',rfl⟩
  refine br (ha.at_ hx) fun r hr yz=>br yz fun q yy1 hq=>?_;subst yy1;have hq':=sm _ _ hq;walk_at "z";refine⟨_,_,rfl,aY hq',rfl,_,_,rfl,_,_,rfl,_,_,rfl,rfl,?_⟩;walk_at "q";have l1:=(sO (rs.take i)).2.2;have l2:(rs.take i).length<=1000:=by rw[qF];lia
  refine⟨.inr ⟨_,.inl hd'⟩,by walk_at "o",fun p1 hp1=>⟨_,DGet.t (k:=kP (r.pa,r.cu)) ((aj _ hp1) _ _ hd') aa,?_⟩⟩;rw[iz,Dk];walk_at "z";have s1:=aj (HO.tup [VZ r.pa,VZ r.cu]) hp1;refine⟨by walk_at "o",fun p2 hp2=>?_⟩;have s2:=s1.trans (aj (HO.tup [VZ r.pa,VZ r.cu]) hp2);refine⟨d,_,rfl,DPut.t (k:=kP (r.pa,r.cu)) (s2 _ _ hd') aa (by rw[zm,tV];lia),?_⟩;rw[uw];refine⟨d5 (sm.trans s2) hd,_,_,_,?_,rfl,rfl,rfl⟩;rw[aa,bR hr,qk];rfl
 .rintro σ' H' ⟨sm,x2,x3,x4,hd',rfl⟩
  rw[ha.len,Zx]at hd';walk_at "z";refine fM ?_;walk_at "q";refine⟨_,(dk rs).map (·.1),hd',Co _,by rw[zm];exact l64,fun out as po oo ao l hl=>?_⟩;have sl:=aj (HO.lst (as.map V.ref)) hl;have lo:=po.length_eq;rw[zm]at lo;have la:=ao.len;refine⟨⟨_,al aa⟩,uJ l (as.map V.ref) (fun D i ys G=>XA (upd H' l (.lst (as.map V.ref))) G/\G D=some (.lst ys)/\upd H' l (.lst (as.map V.ref)) D=none/\A2 (WY G) ys (res rs (out.take i))) (by rw[zm,tV];lia) (fun D hD=>⟨aj _ hD,aa,hD,.nil⟩) (fun D i ys G h=>⟨h.2.1,al (h.1 _ _ aa),?_⟩) ?_ ?_⟩
  .rw[h.2.2.2.len]
   exact r9 (Da _ _) (by rw[qF];lia)
  .rintro D i y ys G zs N1 N0 hy ⟨sG,hD,fD,aG⟩ hz n1 n0
   rw[Ws]at hy;obtain⟨b,hb,rfl⟩:=Zn.mp hy;obtain⟨e,he,kb⟩:=ao.at_ hb;have kG:=sG _ _ (sl _ _ kb);have dG:=sG _ _ (sl _ _ hd');have ve:=GY (po.mem_iff.mp (wt he));obtain⟨z1,z2,rfl⟩:=ex2 hz;walk_at "z";refine⟨_,_,rfl,aY kG,rfl,_,_,rfl,_,_,rfl,rfl,?_⟩;walk_at "z";have gd:∀(F:Hp) (q:WN),KAt F q e->F d=some (.dT ((dk (rs)).map kg))->DGet F d (.ref q) (some (.int (val (rs) e))):=fun F q h1 h2=>by
    have g:=DGet.t (k:=kP e) h2 h1
    rwa [iz,ve]at g
   rw[bR he,Ad]at n1 n0;refine⟨⟨[some (VZ e.1),some (VZ e.2)],rfl,rfl⟩,by walk_at "o",fun p1 hp1=>?_⟩;have s1:=aj (HO.tup (tP e)) hp1;refine⟨d,_,rfl,gd _ p1 aa (s1 _ _ dG),?_⟩;walk_at "q";by_cases hv:val rs e=0
   .rw[Wg fun z=>z hv,Zs]at n0
    exact itp hv (n0 _ ⟨sG.trans s1,s1 _ _ hD,fD,bh s1 aG⟩)
   .rw[Wf hv]at n1
    refine itn hv ⟨by walk_at "o",fun p2 hp2=>?_⟩;have s2:=s1.trans (aj (HO.tup (tP e)) hp2);refine⟨d,_,rfl,gd _ p2 aa (s2 _ _ dG),by walk_at "o",fun p3 hp3=>?_⟩;obtain⟨m1,m2,m3⟩:=Am ⟨e.1,e.2,val rs e⟩ (sG.trans s2) fD (s2 _ _ hD) hp3 (bh s2 aG);exact n1 _ _ m1 ⟨m2,aa,fD,m3⟩
  .rintro D ys G ⟨sG,hD,fD,aG⟩
   rw[zm,la,Zx]at aG;have sg:=(sm.trans sl).trans sG;exact⟨_,Gc.flt sg,k out D ys _ po oo ((sm.trans sl).free fD) (Cn sg hD rfl) (zU sg aG) (Gc.flt sg).a (Dm hN)⟩
noncomputable def ev(rs:List Row):List Row:=rs.map fun r=>⟨[],r.cu,r.am⟩
def EvR(rs:List Row):Prop:=∀c,sm (ev rs) ([],c)=0
def WY.mv(G G':Hp)(v:V)(r:Row)(k:∀t l,G t=some (.tup l)->G' t=some (.tup l))(h:WY G v r):WY G' v r:=by
 obtain⟨q,e,h⟩:=h;exact⟨q,e,k _ _ h⟩
def Fg{rs:List Row}{out:List Pt}(po:out.Perm ((dk (ev rs)).map (·.1))):res (ev rs) out=[]↔EvR rs:=by
 constructor
 .intro h c
  by_cases m:([],c)∈out
  .by_cases z:val (ev rs) ([],c)=0
   .rw[<- n8];exact z
   .unfold res at h
    have:=List.map_eq_nil_iff.mp h;have:=Yi.mp this _ m;exact Wa (by simpa using this) z
  .exact iV fun r mr e=>m (po.mem_iff.mpr (by rw[<- e];exact Ae r mr))
 .intro h
  unfold res;rw[List.map_eq_nil_iff,Yi];intro e me;obtain⟨r,mr,rfl⟩:=(sO (ev rs)).2.1 e (po.mem_iff.mp me);obtain⟨r',m',rfl⟩:=yI.mp mr;have:=h r'.cu;rw[<- n8]at this
  simpa using this
def sp_C8:Sp:=sp1 fun x H Q _=>WS H/\asR x fun p=>∃vs rs,H p=some (.lst vs)/\A2 (WY H) vs rs/\rs.length<=40/\EvR rs/\∀H',XA H H'->WS H'->Q .non H'
def rO(T:Txt K mg a):Fo P w K mg base "need_even" 4 sp_C8:=by
 refine T.uv.hx ["rows","uneven"] (gX1 fun x0 fA XD A XF s H Q E ND HU hr h=>?_);obtain⟨hN,h1⟩:=h;refine br (aQ h1) fun p yy1 yz=>vk yz fun vs rs hp ha len ee k=>?_;subst yy1;have lv:=ha.len;have sz:=szl;refine⟨_,(ae (aV 1 ND (aH (oy T) hr aq (fa1 (bK rfl (cl:=_) (x:="row") (xs:=["row"]) (fr:=[]) (ks:=[]) (by walk_at "k") rfl (a7 K (fv 0)) (fun _ _ _ _ _=>(av (i:=0) (cQ (l:=["row"]) (by decide)) rfl (Wi rfl))) (fun _ _ _ _ _=>cO) (fun _ _ _ _ _=>(bU (fa3 (ak []) (aK K (fv 0) ad) (aK K (fv 0) ad))))))))
  (af (bc (bf uy (aB (bV K) rfl T.dq cz (fa1 (fv 1))) ad) (af cU) aJ))),?_⟩
 walk_at "z";refine fM ?_;walk_at "q";refine⟨⟨vs,al hp⟩,ceA WY.mv p vs rs (WY H) (fun _=>true) (fun r=>⟨[],r.cu,r.am⟩) hp hN ha (by lia) (fun v b mb rb G zs N1 N0 sG nG hz n1 n0=>?_) fun D ws G hD sG nG gD aG=>?_⟩
 .obtain⟨q,rfl,hq⟩:=rb
  have hq:=sG _ _ hq;obtain⟨z1,rfl⟩:=ex1 hz;walk_at "z";exact⟨⟨[_],rfl,rfl⟩,_,_,.inr (aY hq),aI (j:=1) rfl,_,_,.inr (aY hq),aI (j:=2) rfl,by walk_at "o",fun p1 hp1=>n1 rfl _ _ (aj _ hp1) (aE nG rfl) ⟨p1,rfl,aa⟩⟩
 .walk_at "z"
  rw[Zo.mpr (fun _ _=>rfl)]at aG;have le:(ev rs).length<=40:=by unfold ev;rw[zm];exact len
  refine⟨nG,ws,ev rs,gD,aG,by lia,ZD (sO _).2.2 (by lia),fun out r ws' H' po _ fr hr' ar s' n'=>?_⟩;walk_at "z";refine⟨_,.inl (al hr'),?_⟩;rw[(Fg po).mpr ee]at ar;cases ar;exact k H' (sG.trans s') n'
def sp_yE:Sp:=sp1 fun x H Q _=>WS H/\asR x fun p=>∃vs rs,H p=some (.tup vs)/\A2 (WY H) vs rs/\rs.length<=1000/\∀t ws H',H t=none->H' t=some (.tup ws)->A2 (WY H') ws (trn rs)->XA H H'->WS H'->Q (.ref t) H'
def yd(T:Txt K mg a):Fo P w K mg base "turned" 1 sp_yE:=by
 refine T.A1.hx ["rows"] (gX1 fun x0 fA XD A XF s H Q E ND HU hr h=>?_);obtain⟨hN,h1⟩:=h;refine br (aQ h1) fun p yy1 yz=>JZ yz fun vs rs hp ha len k=>?_;subst yy1;have sz:=szl;have sz1:=Ka;refine⟨_,(af (aA (de (tL K) rfl T.jR ii (fa1 (bK rfl (cl:=_) (x:="path") (xs:=["path","currency","amount"]) (fr:=[]) (ks:=[]) (by walk_at "k") rfl (mU K (fv 0)) (fun _ _ _ _ _=>(cN K (n:=3) rfl (aO (av (i:=0) (cQ (l:=["path","currency","amount"]) (by decide)) rfl (Wi rfl)) (aO (av (i:=1) (cQ (l:=["path","currency","amount"]) (by decide)) rfl (Wi rfl)) (aO (av (i:=2) (cQ (l:=["path","currency","amount"]) (by decide)) rfl (Wi rfl)) cL))))) (fun _ _ _ _ _=>cO) (fun _ _ _ _ _=>(bU (fa3 (fv 0) (fv 1) (nX jk (fv 2)))))))))),?_⟩;walk_at "z";have lv:=ha.len;refine E4 ?_;walk_at "q";refine⟨⟨vs,aY hp⟩,Jl WY.mv p vs rs (WY H) (fun _=>true) (fun r=>⟨r.pa,r.cu,-r.am⟩) hp hN ha (by lia) (fun v b mb rb G zs N1 N0 sG nG hz n1 n0=>?_) fun D ws G hD sG nG gD aG=>?_⟩
 .obtain⟨q,rfl,hq⟩:=rb
  have hq:=sG _ _ hq;obtain⟨z1,z2,z3,rfl⟩:=ex3 hz;walk_at "z";refine⟨_,_,rfl,aY hq,rfl,_,_,rfl,_,_,rfl,_,_,rfl,rfl,?_⟩;walk_at "z";exact⟨⟨[_,_,_],rfl,rfl⟩,by walk_at "o",fun p1 hp1=>n1 rfl _ _ (aj _ hp1) (aE nG rfl) ⟨p1,rfl,aa⟩⟩
 .walk_at "z"
  rw[Zo.mpr (fun _ _=>rfl)]at aG;exact⟨ws,.inl ⟨al gD,fun t ht=>k t ws _ (sG.free ht) aa (bh (aj _ ht) aG) (sG.trans (aj _ ht)) (aE nG rfl)⟩⟩
def sp_CJ(a:Adr):Sp:=sp4 fun x y z u H Q _=>WS H/\asR x fun p=>asI y fun t=>asT z fun l=>asT u fun cy=>∃d cs c,CAt a.aU a.aS H p d cs/\c∈cs/\c.pa=l/\opn c.fi c.un t=true/\(c.cu = .non\/c.cu=VZ cy)/\Q .non H
def mM(T:Txt K mg a):Fo P w K mg base "need_account" 4 (sp_CJ a):=by
 refine T.oN.hg ["chart","day","path","currency"] (gG4 fun x0 x1 x2 x3 fA XD A XF s H Q E ND HU hr h=>?_);obtain⟨hN,h1⟩:=h;obtain⟨p,rfl,h2⟩:=aQ h1;obtain⟨t,rfl,h3⟩:=a9 h2;obtain⟨l,rfl,h4⟩:=bX h3;obtain⟨cy,rfl,d,cs,c,J,hc,rfl,ho,hcu,k⟩:=bX h4;have sz:=szl;obtain⟨dx,hp⟩:=J.ob;refine⟨hN,_,(ae (bc (bG (bz (cK (fv 0) T.bH (fY T) hr.mono aq (fa2 (fv 2) (fv 1))))) (af cU) aJ)
  (af (bc (L2.PW.pt (nh (jd (fT (cK (fv 0) T.bH (eF T) hr.mono aq (fa1 (fv 2))))) (jy (bf (dw K HU) (cK (fv 0) T.bH (eF T) hr.mono aq (fa1 (fv 2))) (fv 3))))) (af cU) aJ))),?_⟩
 walk_at "d";refine⟨_,_,hp,aW,hN,d,cs,c,J,hc,rfl,itn (by rw[ho];decide) ⟨_,_,hp,aW,hN,d,cs,c,J,hc,rfl,?_⟩⟩;obtain e|e:=hcu
 .exact itp e k
 .refine itn (by rw[e];intro z;cases z) ⟨_,_,hp,aW,hN,d,cs,c,J,hc,rfl,?_⟩
  rw[e];walk_at "d";exact k
def acT(cs:List Acc)(t:Int)(r:Row):Prop:=∃c∈cs,c.pa=r.pa/\opn c.fi c.un t=true/\(c.cu = .non\/c.cu=VZ r.cu)
def sp_Aj(a:Adr):Sp:=sp3 fun x y z H Q _=>WS H/\asR x fun p=>asI y fun t=>asR z fun q=>∃d cs vs rs,CAt a.aU a.aS H p d cs/\H q=some (.lst vs)/\A2 (WY H) vs rs/\(2<=rs.length/\rs.length<=40)/\(∀r∈rs,rOk r/\acT cs t r)/\EvR rs /\
 ∀H',XA H H'->WS H'->Q .non H'
def qj(T:Txt K mg a):Fo P w K mg base "need_rows" 6 (sp_Aj a):=by
 refine T.sH.hx ["chart","day","rows","path","currency","amount"] (gX3 fun x0 x1 x2 fA XD A XF s H Q E ND HU hr h=>?_);obtain⟨hN,h1⟩:=h;obtain⟨p,rfl,h2⟩:=aQ h1;obtain⟨t,rfl,h3⟩:=a9 h2;refine br (aQ h3) fun q yy1 yz=>Js yz fun d cs vs rs J hq ha ln ho hev k=>?_;subst yy1;have sz:=szl;refine⟨_,(ae (bC (aH (qw T) hr aq (fa1 (fv 2))))
  (ae (b7 (by passes_own) rfl (a7 K (fv 2)) (cN K (n:=3) rfl (aO (av (i:=3) ND rfl (Wi rfl)) (aO (av (i:=4) ND rfl (Wi rfl)) (aO (av (i:=5) ND rfl (Wi rfl)) cL)))) (af (bC (aH (mM T) hr aq (fa4 (fv 0) (fv 1) (fv 3) (fv 4))))))
  (af (bC (aH (rO T) hr aq (fa1 (fv 2))))))),?_⟩
 walk_at "z";refine⟨hN,vs,rs,hq,ha,by lia,fun r m=>(ho r m).1,?_⟩;refine b9 ?_;walk_at "z";refine cn (xs:=vs) (al hq) (cq (fun i σ' H'=>H'=H/\∃x3 x4 x5,σ'=[some (.ref p),some (.int t),some (.ref q),x3,x4,x5]) ⟨rfl,none,none,none,rfl⟩ (fun i σ' H' _ h=>by rw[h.1];exact al hq) ?_ ?_)
 .rintro i x σ' H' hx ⟨rfl,x3,x4,x5,rfl⟩
  refine br (ha.at_ hx) fun r hr yz=>br yz fun q1 yy1 hq1=>?_;subst yy1;refine Ks (ho r (wt hr)) fun _ yz=>bq yz fun c mc ec h1 h2=>?_;walk_at "z";refine⟨_,_,rfl,aY hq1,rfl,_,_,rfl,_,_,rfl,_,_,rfl,rfl,?_⟩;walk_at "d";exact⟨hN,d,cs,c,J,mc,ec,h1,h2,_,_,_,rfl,rfl,rfl⟩
 .rintro σ' H' ⟨rfl,x3,x4,x5,rfl⟩
  walk_at "z";exact⟨hN,vs,rs,hq,ha,ln.2,hev,k⟩
def sp_Av(a:Adr):Sp:=sp3 fun x y z H Q _=>WS H/\asR x fun p=>asI y fun d=>asT z fun l=>nt2 l/\(0<=d/\d<=146096)/\∃dx,H p=some (gq a.bQ dx .non)/\Q .non H
def dW(T:Txt K mg a):Fo P w K mg base "need_note_and_gate" 6 (sp_Av a):=by
 refine T.ix.hg ["gate","day","note"] (gG3 fun x0 x1 x2 fA XD A XF s H Q E ND HU hr h=>?_);obtain⟨hN,h1⟩:=h;obtain⟨p,rfl,h2⟩:=aQ h1;obtain⟨d,rfl,h3⟩:=a9 h2;refine bq (bX h3) fun l yy1 hl hd yz=>br yz fun dx hp k1=>?_;subst yy1;have sz:=szl;refine⟨hN,_,(ae (bc (bG (bz (aH (vG T) hr aq (fa1 (fv 2))))) (af cU) aJ)
  (af (bc (bG (bz (cK (fv 0) T.jT (rF T) hr.mono aq (fa1 (fv 1))))) (af cU) aJ))),?_⟩
 walk_at "d";exact⟨hN,hl,_,_,hp,aW,hN,hd,dx,none,hp,k1⟩
def B1(x y:V):qI (zS "put") [(zS "bookings",x),(zS "undoings",y)]=none:=by rw[aW (by decide +kernel),aW (by decide +kernel)];rfl
def IA(a:Adr)(H H':Hp)(j b u:WN)(bs:List V)(XB:List (Key × V))(d nt:V)(vs:List V)(o:V):Prop:=∃q t,H q=none/\H' q=some (.tup [.int bs.length,d,nt,.ref t,o])/\H' t=some (.tup vs)/\JAt a.aX H' j b u (bs++[.ref q]) XB/\WZ [b,u] H H'/\WS H'
def sp_Ed(a:Adr):Sp:=sp6 fun x y z u v r H Q _=>WS H/\asR x fun p=>asR y fun g=>asR z fun j=>asI u fun t=>asT v fun nt=>asR r fun q=>nt2 nt/\(0<=t/\t<=146096) /\
 ∃d cs vs rs dx b u bs XB,CAt a.aU a.aS H p d cs/\H q=some (.lst vs)/\A2 (WY H) vs rs/\(2<=rs.length/\rs.length<=40)/\(∀r∈rs,rOk r/\acT cs t r)/\EvR rs/\H g=some (gq a.bQ dx .non)/\JAt a.aX H j b u bs XB/\bs.length<=100/\XB.length<=100 /\
 ∀H',IA a H H' j b u bs XB (.int t) (VZ nt) vs .non->Q (.int bs.length) H'
def Dd(T:Txt K mg a):Fo P w K mg base "book" 7 (sp_Ed a):=by
 refine T.Fs.hx ["chart","gate","journal","day","note","rows"] (gX6 fun x0 x1 x2 x3 x4 x5 fA XD A XF s H Q E ND HU hr h=>?_);obtain⟨hN,h1⟩:=h;obtain⟨p,rfl,h2⟩:=aQ h1;obtain⟨g,rfl,h3⟩:=aQ h2;obtain⟨j,rfl,h4⟩:=aQ h3;obtain⟨t,rfl,h5⟩:=a9 h4;obtain⟨nt,rfl,h6⟩:=bX h5;obtain⟨q,rfl,hnt,ht,d,cs,vs,rs,dx,b,u,bs,XB,J,hq,ha,ln,ho,hev,hg,JJ,l1,l2,k1⟩:=aQ h6;have sz:=szl;refine⟨_,(ae (bc (bG (bz (aH (iW T) hr aq (fa1 (fv 3))))) (af cU) aJ)
  (ae (bC (aH (dW T) hr aq (fa3 (fv 1) (fv 3) (fv 4))))
  (ae (bC (aH (qj T) hr aq (fa3 (fv 0) (fv 3) (fv 5))))
  (af (aA (cK (fv 2) T.bD (iH T) hr.mono aq (fa4 (fv 3) (fv 4) (fv 5) ky))))))),?_⟩
 walk_at "d";rw[mX,We ht.1,We ht.2];refine⟨hN,itn (by decide) ⟨hN,hnt,ht,dx,hg,?_⟩⟩;refine⟨hN,d,cs,vs,rs,J,hq,ha,ln,ho,hev,fun H1 s1 n1=>?_⟩;have J1:=JJ.keep (S:=[]) (bF s1) vO vO vO;obtain⟨dj,hj⟩:=J1.ob;exact⟨_,_,hj,B1 _ _,n1,b,u,bs,XB,vs,J1,l1,l2,.inl (al (s1 _ _ hq)),fun t' q' H' _ h2 h3 h4 h5 h6 h7=>k1 H' ⟨q',t',s1.free h3,h4,h2,h5,fun c z e n=>h6 c z (s1 c z e) n,h7⟩⟩
def B9(x y:V):qI (zS "booking") [(zS "bookings",x),(zS "undoings",y)]=none:=by rw[aW (by decide +kernel),aW (by decide +kernel)];rfl
def Jp(x y:V):qI (zS "undone_by") [(zS "bookings",x),(zS "undoings",y)]=none:=by rw[aW (by decide +kernel),aW (by decide +kernel)];rfl
def JAt.tup{C:WN}{H:Hp}{p b u:WN}{bs:List V}{XB:List (Key × V)}(J:JAt C H p b u bs XB){t:WN}{l:List V}(h:H t=some (.tup l)):t∉[b,u]:=fun m=>by
 obtain e|e:=zk.mp m
 .rw[e,J.ls]at h;cases h
 .rw[zw.mp e,J.dc]at h;cases h
def FV{ws:List V}{bs:List Row}(h:A2 (fun v (_:Row)=>v = .bl true) ws bs):ws=(bs.map fun _=>true).map .bl:=by
 induction h with
 |nil=>rfl
 |cons e _ ih=>rw[e,ih];rfl
def sp_CS(a:Adr):Sp:=sp6 fun x y z u v r H Q E=>WS H/\asR x fun p=>asR y fun g=>asR z fun j=>asI u fun i=>asI v fun t=>asT r fun nt=>nt2 nt /\
 ∃d cs dx b u bs XB bk,∃(n:Nat) (x:Bo),CAt a.aU a.aS H p d cs/\H g=some (gq a.bQ dx .non)/\JAt a.aX H j b u bs XB/\bs.length<=100/\XB.length<=100/\A2 (BkAt H) bs bk/\i=n/\bk[n]? = some x/\x.k=n/\x.rs.length<=40/\(∀r∈x.rs,∃c∈cs,c.pa=r.pa/\opn c.fi c.un t=true)/\x.d<=t/\(0<=t/\t<=146096) /\
 ((x.un≠none\/(bw XB (.inl n)).getD .non ≠ .non)->E (.ref a.gn) none H)/\(x.un=none->(bw XB (.inl n)).getD .non = .non->∀ws H',A2 (WY H') ws (trn x.rs)->IA a H H' j b u bs (bi XB (.inl n) (.int bs.length)) (.int t) (VZ nt) ws (.int n)->Q (.int bs.length) H')
def D0(T:Txt K mg a):Fo P w K mg base "undo" 7 (sp_CS a):=by
 refine T.FZ.hx ["chart","gate","journal","number","day","note","booking"] (gX6 fun x0 x1 x2 x3 x4 x5 fA XD A XF s H Q E ND HU hr h=>?_);obtain⟨hN,h1⟩:=h;obtain⟨p,rfl,h2⟩:=aQ h1;obtain⟨g,rfl,h3⟩:=aQ h2;obtain⟨j,rfl,h4⟩:=aQ h3;obtain⟨i,rfl,h5⟩:=a9 h4;obtain⟨t,rfl,h6⟩:=a9 h5;refine h_ (bX h6) fun nt yy1 hnt yz=>IT yz fun d cs dx b u bs XB bk yz=>Ku yz fun n x J hg JJ l1 l2 hb yy2 hx xk yz=>Kz yz fun xl xc hd ht k0 k1=>?_;subst yy1 yy2;have sz:=szl;obtain⟨dj,hj⟩:=JJ.ob;refine⟨_,(ae (aV 6 ND (cK (fv 2) T.bD (cS T) hr.mono aq (fa1 (fv 3))))
  (ae (bc (L2.PW.pt (fJ (jd (fT (aK K (fv 6) ad))) (eP (jd (fT (cK (fv 2) T.bD (iw T) hr.mono aq (fa1 (fv 3)))))))) (af (Ia T.Cr T.uT Dg)) aJ)
  (ae (bc (L2.PW.pt (fJ (bG (bz (aH (iW T) hr aq (fa1 (fv 4))))) (eP (bf pU (fv 4) (aK K (fv 6) ad))))) (af cU) aJ)
  (ae (bC (aH (dW T) hr aq (fa3 (fv 1) (fv 4) (fv 5))))
  (ae (bc (A8 (bG (bz (aB (mS K rfl) rfl T.xD rE (fa1 (bK rfl (cl:=_) (x:="row") (xs:=["row"]) (fr:=["day","chart"]) (ks:=[4,0]) (by walk_at "k") rfl (mU K (aK K (fv 6) ad)) (fun _ _ _ _ _=>(av (i:=0) (cQ (l:=["row","day","chart"]) (by decide)) rfl (Wi rfl))) (fun _ _ _ _ _=>cO) (fun _ _ _ _ _=>(cK (fv 2) T.bH (fY T) hr.mono wS (fa2 (aK K (fv 0) ad) (fv 1)))))))))) (af cU) aJ)
  (af (aA (cK (fv 2) T.bD (iH T) hr.mono aq (fa4 (fv 4) (fv 5) (aH (yd T) hr aq (fa1 (aK K (fv 6) ad))) (fv 3)))))))))),?_⟩
 walk_at "d";have lb:=hb.len;have ln:n<bk.length:=(Wu.mp hx).1;refine⟨_,_,hj,B9 _ _,hN,b,u,bs,XB,JJ,by lia,by lia,fun n' v e1 e2=>?_⟩;have e1:n=n':=by lia
 subst e1;refine br (hb.at_ e2) fun x' hx' yz=>xZ yz fun q tq vs nq yy1 hq htq hr=>?_;subst yy1;rw[hx]at hx';cases hx';walk_at "d";refine⟨_,_,.inr (aY hq),aI (j:=4) rfl,?_⟩;by_cases un:x.un=none
 .refine itp (by rw[un];rfl) ⟨_,_,hj,Jp _ _,hN,b,u,bs,XB,JJ,n,q,_,rfl,e2,by rw[hq,xk],?_⟩
  by_cases hv:(bw XB (.inl (n:Int))).getD .non = .non
  .refine itp hv ⟨hN,?_⟩
   rw[mX,We ht.1,We ht.2];refine itn (by decide) ⟨_,_,.inr (aY hq),aI (j:=1) rfl,?_⟩;walk_at "d";refine itn (by lia) ⟨hN,hnt,ht,dx,hg,⟨hN,E4 ?_⟩⟩;walk_at "d";have lv:=hr.len;refine⟨_,_,.inr (aY hq),aI (j:=3) rfl,tq,rfl,⟨vs,aY htq⟩,Jl (S:=fun _ v (_:Row)=>v = .bl true) (fun _ _ _ _ _ h=>h) tq vs x.rs (WY H) (fun _=>true) id htq hN hr (by lia) (fun v r mr rr G zs N1 N0 sG nG hz n1 n0=>?_) fun D ws G hD sG nG gD aG=>?_⟩
   .refine br rr fun q1 yy1 hq1=>?_;clear rr;subst yy1
    have hq1:=sG _ _ hq1;obtain⟨z1,rfl⟩:=ex1 hz;refine h_ (xc r mr) fun c mc ec oc=>?_;have J1:=J.same sG;obtain⟨dp,hp⟩:=J1.ob;walk_at "d";refine⟨⟨[_],rfl,rfl⟩,_,_,hp,aW,_,_,.inr (aY hq1),aI (j:=0) rfl,nG,⟨d,cs,c,J1,mc,ec,n1 rfl _ _ (XA.refl _) nG (by rw[oc])⟩⟩
   .walk_at "d"
    rw[Zo.mpr (fun _ _=>rfl),Ye]at aG;rw[FV aG]at gD;refine⟨_,al gD,H,Gc.none sG,?_⟩;refine itn (by rw[Zv.mpr fun z m=>by obtain⟨_,_,rfl⟩:=yI.mp m;rfl];decide) ⟨_,_,hj,B1 _ _,_,_,.inr (aY hq),aI (j:=3) rfl,hN,?_⟩;walk_at "d";refine⟨vs,x.rs,htq,hr,by lia,fun t1 ws1 H1 f1 h1 a1 s1 N1=>?_⟩;have J1:=JJ.keep (S:=[]) (bF s1) vO vO vO;refine⟨N1,b,u,bs,XB,ws1,J1,l1,l2,.inr h1,.inr ⟨_,rfl⟩,fun t2 q2 H2 _ g2 g3 g4 g5 g6 g7=>?_⟩;have kp:WZ [b,u] H H2:=fun c z e m=>g6 c z (s1 c z e) m;refine k1 un hv ws1 H2 ?_ ⟨q2,t2,s1.free g3,g4,g2,g5,kp,g7⟩;exact a1.imp fun v r _ _ h=>WY.mv _ _ v r (fun t l e=>g6 _ _ e (J1.tup e)) h
  .exact itn hv ⟨by walk_at "o",k0 (.inr hv)⟩
 .refine itn (fun z=>un ?_) ⟨by walk_at "o",k0 (.inl un)⟩
  cases h:x.un with
  |none=>rfl
  |some m=>rw[h]at z;cases z
end
section
variable{pS:WN}{ns:List Int}{P:WL}{w:WK}{K:Wz}{mg:Str->Option WO}{base:WF}{a:Adr}
open K3
def iD{ta:TA}{g:TG}{tb:TS}{D:gl}{σ:St}{H:Hp}(h:ta σ H fun vs H1=>∃j:Int,vs=[.int j] /\ -(2 ^ 62)<=j/\j<2 ^ 62/\FE (Itr 0 j.toNat) g tb D σ H1):sS (AC ta) g tb D σ H:=h
def zq{ta:TA}{g:TG}{tb:TS}{D:gl}{σ:St}{H:Hp}(h:ta σ H fun vs H1=>∃i j:Int,vs=[.int i,.int j]/\(-(2 ^ 62)<=i/\i<2 ^ 62 /\ -(2 ^ 62)<=j/\j<2 ^ 62)/\FE (Itr i (j-i).toNat) g tb D σ H1):sS (Bp ta) g tb D σ H:=h
def xr{l:List Nat}{i:Int}(h:0<=i):hX l none (some i)=l.take i.toNat:=by
 unfold hX;obtain⟨j,rfl⟩:=Zk h;rw[HT.sIx_none,HT.sIx_nat,List.drop_zero,Nat.sub_zero,ZV];by_cases hl:j<=l.length
 .rw[Xz hl]
 .rw[Nat.min_eq_right (by walk_at "o"),Zm (by walk_at "o"),Zm (by walk_at "o")]
def wQ(l:List Nat)(lo hi:Option Int):(hX l lo hi).length<=l.length:=by
 unfold hX;rw[qF,Xc];exact r9 (Nat.min_le_right _ _) (Nat.sub_le _ _)
def pW{l:List Nat}{i:Int}(h:0<=i):hX l (some i) none=l.drop i.toNat:=by
 unfold hX;obtain⟨j,rfl⟩:=Zk h;rw[HT.sIx_none,HT.sIx_nat,ZV];by_cases hl:j<=l.length
 .rw[Xz hl,Zm (by simp)]
 .rw[Nat.min_eq_right (by walk_at "o"),List.drop_of_length_le (by walk_at "o"),List.drop_of_length_le (by walk_at "o")];simp
def pG(T:Txt K mg a):Fo P w K mg base "_law_whole" 1 sp_lW:=by
 refine T.qR.hg ["_law_found"] (gG1 fun x0 fA XD A XF s H Q E ND HU hr h=>?_);obtain⟨hN,h1⟩:=h;obtain⟨i,rfl,k⟩:=a9 h1;refine⟨hN,_,(af (aA (cZ (aB (cI K) rfl T.a_ aZ (fa2 (fv 0) (cF (v:=.ty "int") rfl T.AS vz rfl))) (dv (zT (aB (cI K) rfl T.a_ aZ (fa2 (fv 0) (cF (v:=.ty "bool") rfl T.Cl xI rfl)))))))),?_⟩;walk_at "d"
 first|exact k|exact iteT k
noncomputable def MX(c k:Int):Int:=(c*48271+7919*k*k+104729*k+12345) % 2147483647
def BY(c k:Int):0<=MX c k/\MX c k<2147483647:=⟨ZH _ (by decide),ZN _ (by decide)⟩
def sp_Bn:Sp:=sp2 fun x y H Q _=>WS H/\asI x fun c=>asI y fun k=>(0<=k/\k<=1000)/\Q (.int (MX c k)) H
def bM(T:Txt K mg a):Fo P w K mg base "_law_mixed" 1 sp_Bn:=by
 refine T.rh.hg ["_law_cell","_law_k"] (gG2 fun x0 x1 fA XD A XF s H Q E ND HU hr h=>?_);obtain⟨hN,h1⟩:=h;obtain⟨c,rfl,h2⟩:=a9 h1;obtain⟨k,rfl,hk,q⟩:=a9 h2;refine⟨hN,_,(af (aA (ah ba (ah aT (ah aT (ah aT (ah dt (fv 0) ad) (ah dt (ah dt ad (fv 1)) (fv 1))) (ah dt ad (fv 1))) ad) ad))),?_⟩;walk_at "d";exact⟨.inr (by walk_at "o"),q⟩
def sp_at(K:Wz):Sp:=sp2 fun x y H Q _=>asR x fun p=>asI y fun k=>∃ns:List Int,SqL K H p (ns.map V.int)/\0<=k/\Q (.int (ns.getD k.toNat 0)) H
def cB(T:Txt K mg a):Fo P w K mg base "_law_cell_at" 1 (sp_at K):=by
 refine T.nY.hx ["_law_script","_law_k"] (gX2 fun x0 x1 fA XD A XF s H Q E ND HU hr h=>?_);obtain⟨p,rfl,h1⟩:=aQ h;refine br (a9 h1) fun k yy1 yz=>h_ yz fun ns hp k0 q=>?_;subst yy1;refine⟨_,(ae (bc (bf pU (fv 1) (aB (bV K) rfl T.dq cz (fa1 (fv 0)))) (af (aA (aK K (fv 0) (fv 1)))) aJ)
  (af (aA ad))),?_⟩
 walk_at "d";refine⟨_,.inl hp,?_⟩;rw[zm];by_cases hk:k<ns.length
 .exact itp hk ⟨_,_,.inl hp,Cg k0 hk,q⟩
 .have g:ns.getD k.toNat 0=0:=by
   have l:ns.length<=k.toNat:=by lia
   simp[List.getD,l]
  rw[g]at q;exact itn hk q
noncomputable def LET:List Nat:=[97,98,99,100,101,102,103,104,105,106,107,108,109,110,111,112,113,114,115,116,117,118,119,120,121,122]
def AR{i:Int}(h0:0<=i)(h1:i<26):atI LET i=some (97+i.toNat):=by
 obtain⟨j,rfl⟩:∃j:Nat,i=j:=⟨i.toNat,by lia⟩;refine aI ?_;have hb:∀k,k<26->LET[k]? = some (97+k):=by decide
 exact hb j (by lia)
def sp_yy:Sp:=sp1 fun x H Q _=>WS H/\asI x fun c=>∀p,H p=none->Q (.ref p) (upd H p (.lst ((lq 7).map fun k=>VZ (nms c k))))
def pz(T:Txt K mg a):Fo P w K mg base "_law_names" 1 sp_yy:=by
 refine T.qA.hg ["_law_cell","_law_letters","_law_size","_law_step","_law_word","_law_at","_law_names_here","_law_k","_law_sign"] (gG1 fun x0 fA XD A XF s H Q E ND HU hr h=>?_);obtain⟨hN,h1⟩:=h;obtain⟨c,rfl,q⟩:=a9 h1;have sz:=szl;refine⟨hN,_,(ae (aV 1 ND (ak [97,98,99,100,101,102,103,104,105,106,107,108,109,110,111,112,113,114,115,116,117,118,119,120,121,122]))
  (ae (aV 2 ND (ah aT ad (ah ba (fv 0) ad)))
  (ae (aV 3 ND (ah aT ad (ah ba (ah a8 (fv 0) ad) ad)))
  (ae (aV 4 ND (bY K Zh PySem.F.slot_str_join PySem.F.type_str_join (oq K) (ak []) (fa1 (bK rfl (cl:=_) (x:="_law_k") (xs:=["_law_k"]) (fr:=["_law_letters","_law_cell","_law_step"]) (ks:=[1,0,3]) (by walk_at "k") rfl (d4 rfl T.eY (fa1 (fv 2))) (fun _ _ _ _ _=>(av (i:=0) (cQ (l:=["_law_k","_law_letters","_law_cell","_law_step"]) (by decide)) rfl (Wi rfl))) (fun _ _ _ _ _=>cO) (fun _ _ _ _ _=>(aK K (fv 1) (ah ba (ah aT (ah a8 (fv 2) ad) (ah dt (fv 3) (fv 0))) ad)))))))
  (ae (aV 5 ND (ah ba (ah a8 (fv 0) ad) (ah aT (fv 2) ad)))
  (ae (aV 6 ND (cw (FA.pa cr)))
  (ae (b7 (by passes_own) rfl (d4 rfl T.eY (fa1 ad)) (av (i:=7) ND rfl (Wi rfl)) (ae (aV 8 ND (aK K (fv 1) (ah ba (ah aT (ah a8 (fv 0) ad) (ah dt ad (fv 7))) ad)))
  (af (bC (bY K qS Zq Zr cA (fv 6) (fa1 (ah aT (ah aT (fL qU (fv 4) gR (gS (fv 5))) (fv 8)) (fL qU (fv 4) (gS (fv 5)) gR))))))))
  (af (aA (ah lg (fv 6) (cw (fa1 (fv 4))))))))))))),?_⟩
 walk_at "d";refine cmR (fun _=>True) (fun _ _ _=>trivial) (1+c % 10).toNat (fun _=>true) (fun j:Nat=>VZ [sg (c / 250) (1+c / 10 % 25) j]) (fun R r=>?_) (by walk_at "o") (fun j hj H R _ r=>r) (fun j hj _ H' R _ r=>?_) (fun D hD=>?_)
 .walk_at "z"
  rw[show((1+c % 10).toNat:Int)=1+c % 10 by walk_at "o"]at r;exact r
 .walk_at "d"
  refine⟨.inl (by walk_at "o"),by walk_at "o",?_⟩;show match atI LET ((c / 250+(1+c / 10 % 25)*(j:Int)) % 26) with|some c=>R (VZ [c]) H'|none=>False
  rw[AR (by walk_at "o") (by walk_at "o")];exact r
 .refine AW (lq (1+c % 10).toNat) (fun j:Nat=>sg (c / 250) (1+c / 10 % 25) j) (by rw[aa,Zo.mpr (by simp)]) (by rw[List.length_range];lia) ?_
  show 0<1+c % 10+1/\_;refine⟨by walk_at "o",by walk_at "o",fun p hp=>?_⟩;have hw:(wd (c / 250) (1+c / 10 % 25) (1+c % 10).toNat).length<=10:=by simp[wd];lia
  have s1:=aj (HO.lst (List.map (fun j:Nat=>VZ [sg (c / 250) (1+c / 10 % 25) j]) (List.filter (fun _=>true) (lq (1+c % 10).toNat)))) hD;generalize upd H D (HO.lst (List.map (fun j:Nat=>VZ [sg (c / 250) (1+c / 10 % 25) j]) (List.filter (fun _=>true) (lq (1+c % 10).toNat))))=H1 at s1 hp |-
  have p0:H p=none:=s1.free hp;have a0:0<=c / 6500 % (1+c % 10+1):=ZH _ (by walk_at "o");have a1:c / 6500 % (1+c % 10+1)<1+c % 10+1:=ZN _ (by walk_at "o");have en:∀k:Nat,nms c k=if k<6 then (wd (c / 250) (1+c / 10 % 25) (1+c % 10).toNat).take (c / 6500 % (1+c % 10+1)).toNat++[97+((c / 71500+3*k) % 26).toNat]++(wd (c / 250) (1+c / 10 % 25) (1+c % 10).toNat).drop (c / 6500 % (1+c % 10+1)).toNat else wd (c / 250) (1+c / 10 % 25) (1+c % 10).toNat:=fun _=>rfl
  have ew:List.map (fun j:Nat=>sg (c / 250) (1+c / 10 % 25) j) (lq (1+c % 10).toNat)=wd (c / 250) (1+c / 10 % 25) (1+c % 10).toNat:=rfl;rw[ew];generalize wd (c / 250) (1+c / 10 % 25) (1+c % 10).toNat=w at hw en |-
  generalize c / 6500 % (1+c % 10+1)=t at a0 a1 en |-
  refine iD ?_;walk_at "d";refine eZ (lo:=0) (n:=6) (fun i σ' H'=>XA H H'/\H' p=some (.lst ((lq i).map fun k=>VZ (nms c k)))/\∃x7 x8,σ'=[some (.int c),some (VZ LET),some (.int (1+c % 10)),some (.int (1+c / 10 % 25)),some (VZ w),some (.int t),some (.ref p),x7,x8]) ⟨s1.trans (aj _ hp),aa,none,none,rfl⟩ ?_ ?_
  .rintro i σ' H' hi ⟨sm,hp',x7,x8,rfl⟩
   walk_at "d";refine⟨by show 26<=WI;lia,?_⟩;show match atI LET ((c / 71500+3*(0+(i:Int))) % 26) with|some c_1=>_|none=>False
   rw[AR (by walk_at "o") (by walk_at "o")];walk_at "z";refine⟨.inl ⟨_,al hp'⟩,by walk_at "o",?_⟩;rw[xr a0,pW a0];walk_at "z";have ni:nms c i=List.take t.toNat w++[97+((c / 71500+3*(0+(i:Int))) % 26).toNat]++ZB t.toNat w:=by rw[en i,Wf hi,Yj]
   rw[<- ni];refine⟨by simp;lia,by walk_at "o",by simp;lia,p,_,_,rfl,rfl,hp',by simp;lia,d5 sm p0,?_,_,_,rfl,rfl⟩;rw[aa,List.range_succ,yB];rfl
  .rintro σ' H' ⟨sm,hp',x7,x8,rfl⟩
   walk_at "z";refine⟨by walk_at "o",fun q1 h1=>⟨_,_,(ag (aM hp' h1)).trans hp',aa,by simp;lia,fun q2 h2=>?_⟩⟩;have s2:=(sm.trans (aj (HO.lst [VZ w]) h1)).trans (aj (HO.lst (List.map (fun k=>VZ (nms c k)) (lq 6)++[VZ w])) h2);refine⟨_,Gc.one s2 ((sm.trans (aj _ h1)).free h2) aa rfl,?_⟩;have e:List.map (fun k=>VZ (nms c k)) (lq 6)++[VZ w]=(lq 7).map fun k=>VZ (nms c k):=by
    rw[List.range_succ (n:=6),yB,Yw,en 6,Wg (by decide)]
   rw[e];exact q q2 ((sm.trans (aj _ h1)).free h2)
noncomputable def UPP:List Nat:=[65,66,67,68,69,70,71,72,73,74,75,76,77,78,79,80,81,82,83,84,85,86,87,88,89,90]
def GO{z1 z2 g:Nat}{i:Int}(h1:65<=z1/\z1<=90)(h2:65<=z2/\z2<=90)(h3:65<=g/\g<=90)(hi:0<=i/\i<3):cur (hX [z1,z2] none (some i)++[g]++hX [z1,z2] (some i) none)=true:=by
 rw[xr hi.1,pW hi.1];obtain h|h|h:i.toNat=0\/i.toNat=1\/i.toNat=2:=by lia
 all_goals
  rw[h];simp[cur,lie,h1,h2,h3]
def AA{i:Int}(h0:0<=i)(h1:i<26):atI UPP i=some (65+i.toNat):=by
 obtain⟨j,rfl⟩:=Zk h0;have hb:∀k,k<26->UPP[k]? = some (65+k):=by decide
 exact aI (hb j (by lia))
def vp{A B:List Nat}{x y:Nat}(h:x≠y):A++[x]++B≠A++[y]++B:=fun e=>h (by simpa using e)
def sp_Dy:Sp:=sp1 fun x H Q _=>WS H/\asI x fun c=>∀cu:List (List Nat),cu.length=3->cu.Nodup->(∀l∈cu,cur l=true)->∀q,H q=none->Q (.ref q) (upd H q (.lst (cu.map VZ)))
def jg(T:Txt K mg a):Fo P w K mg base "_law_currencies" 1 sp_Dy:=by
 refine T.jJ.hg ["_law_cell","_law_letters","_law_word","_law_at"] (gG1 fun x0 fA XD A XF s H Q E ND HU hr h=>?_);obtain⟨hN,h1⟩:=h;obtain⟨c,rfl,q⟩:=a9 h1;have sz:=szl;refine⟨hN,_,(ae (aV 1 ND (ak [65,66,67,68,69,70,71,72,73,74,75,76,77,78,79,80,81,82,83,84,85,86,87,88,89,90]))
  (ae (aV 2 ND (ah aT (aK K (fv 1) (ah ba (ah a8 (fv 0) ad) ad)) (aK K (fv 1) (ah ba (ah a8 (fv 0) ad) ad))))
  (ae (aV 3 ND (ah ba (fv 0) ad))
  (af (aA (bK rfl (cl:=_) (x:="_law_k") (xs:=["_law_k"]) (fr:=["_law_word","_law_letters","_law_at","_law_cell"]) (ks:=[2,1,3,0]) (by walk_at "k") rfl (d4 rfl T.eY (fa1 ad)) (fun _ _ _ _ _=>(av (i:=0) (cQ (l:=["_law_k","_law_word","_law_letters","_law_at","_law_cell"]) (by decide)) rfl (Wi rfl))) (fun _ _ _ _ _=>cO) (fun _ _ _ _ _=>(ah aT (ah aT (fL qU (fv 1) gR (gS (fv 3))) (aK K (fv 2) (ah ba (ah aT (ah a8 (fv 4) ad) (ah dt ad (fv 0))) ad))) (fL qU (fv 1) (gS (fv 3)) gR))))))))),?_⟩
 walk_at "d";have e1:=AA (i:=c / 3 % 26) (by walk_at "o") (by walk_at "o");have e2:=AA (i:=c / 78 % 26) (by walk_at "o") (by walk_at "o");have i1:65<=65+(c / 3 % 26).toNat/\65+(c / 3 % 26).toNat<=90:=by lia
 have i2:65<=65+(c / 78 % 26).toNat/\65+(c / 78 % 26).toNat<=90:=by lia
 generalize 65+(c / 3 % 26).toNat=z1 at e1 i1;generalize 65+(c / 78 % 26).toNat=z2 at e2 i2;refine⟨by walk_at "o",?_⟩;rw[show [65,66,67,68,69,70,71,72,73,74,75,76,77,78,79,80,81,82,83,84,85,86,87,88,89,90]=UPP from rfl,e1];refine⟨by walk_at "o",?_⟩;rw[e2];refine⟨by walk_at "o",?_⟩;obtain⟨gz,egz⟩:∃gz:Nat->Nat,gz=fun j:Nat=>65+((c / 2028+3*(j:Int)) % 26).toNat:=⟨_,rfl⟩;have hgz:∀j:Nat,(65<=gz j/\gz j<=90)/\atI UPP ((c / 2028+3*(j:Int)) % 26)=some (gz j):=fun j=>by
  rw[egz];exact⟨by dsimp only;lia,AA (by walk_at "o") (by walk_at "o")⟩
 refine cmR (fun _=>True) (fun _ _ _=>trivial) 3 (fun _=>true) (fun j:Nat=>VZ (hX [z1,z2] none (some (c % 3))++[gz j]++hX [z1,z2] (some (c % 3)) none)) (fun R r=>r) (by walk_at "o") (fun j hj H R _ r=>r) (fun j hj _ H' R _ r=>?_) (fun D hD=>?_)
 .walk_at "d"
  refine⟨by walk_at "o",by walk_at "o",?_⟩;rw[(hgz j).2];walk_at "z";have l1:=wQ [z1,z2] none (some (c % 3));have l2:=wQ [z1,z2] (some (c % 3)) none;simp only[zc,sP,YM]at *;exact⟨by walk_at "o",by walk_at "o",by walk_at "o",r⟩
 .have e:((lq 3).filter fun _=>true).map (fun j:Nat=>VZ (hX [z1,z2] none (some (c % 3))++[gz j]++hX [z1,z2] (some (c % 3)) none))=((lq 3).map fun j:Nat=>hX [z1,z2] none (some (c % 3))++[gz j]++hX [z1,z2] (some (c % 3)) none).map VZ:=by
   rw[Zo.mpr (by simp),uR];rfl
  rw[e];refine⟨_,Gc.one (aj _ hD) hD aa rfl,q _ rfl ?_ (fun l hl=>?_) D hD⟩
  .have n01:gz 0≠gz 1:=by rw[egz];dsimp only;lia
   have n02:gz 0≠gz 2:=by rw[egz];dsimp only;lia
   have n12:gz 1≠gz 2:=by rw[egz];dsimp only;lia
   refine yE.mpr ⟨fun m=>?_,yE.mpr ⟨fun m=>?_,yE.mpr ⟨(fun m=>nomatch m),Zu⟩⟩⟩
   .obtain m|m:=zk.mp m
    .exact vp n01 m
    .exact vp n02 (zw.mp m)
   .exact vp n12 (zw.mp m)
  obtain⟨j,_,rfl⟩:=yI.mp hl;exact GO i1 i2 (hgz j).1 (by lia)
open K3
noncomputable abbrev L11:List Int:=[31,28,31,30,31,30,31,31,30,31,30]
def zN(y:Int):LD (y+1)-LD y=if (y % 4=0/\y % 100≠0)\/y % 400=0 then 1 else 0:=by
 rw[wJ];lia
noncomputable def PL(y:Int)(i:Nat):Int:=((31::(28+(LD (y+1)-LD y))::R10).take i).sum
def DU(y:Int):∀i:Nat,i<11->PL y (i+1)=PL y i+(L11.getD i 0+if i=1 then LD (y+1)-LD y else 0):=by
 intro i hi;have hc:=(by decide:∀i,i<11->i=0\/i=1\/i=2\/i=3\/i=4\/i=5\/i=6\/i=7\/i=8\/i=9\/i=10) i hi;unfold PL;obtain h|h|h|h|h|h|h|h|h|h|h:=hc <;> subst h <;> simp[R10,List.take,List.sum] <;> lia
def sp_Ay:Sp:=sp1 fun x H Q _=>WS H/\asI x fun m=>Q (.int (FD m)) H
def cJ(T:Txt K mg a):Fo P w K mg base "_law_first" 1 sp_Ay:=by
 refine T.qO.hg ["_law_month","_law_year","_law_day_here","_law_long_year","_law_place"] (gG1 fun x0 fA XD A XF s H Q E ND HU hr h=>?_);obtain⟨hN,h1⟩:=h;obtain⟨m,rfl,q⟩:=a9 h1
 skip
 have c3:∃u,PSs (c6 (XE P w) P w K mg base ["_law_month","_law_year","_law_day_here","_law_long_year","_law_place"] "_law_first" (ay (top 78)) fA XD A XF s H (gcE H E)) (ZB 3 (bB (top 78))) u/\∀(bb:Bool),(if bb=true then (1:Int) else 0)=LD (m / 12+1)-LD (m / 12)->u { nx:=fun _ H'=>∃G,Gc H G H'/\Q .non G,rt:=fun v H'=>∃G,Gc H G H'/\Q v G } [some (.int m),some (.int (m / 12)),some (.int (365*(m / 12)+(m / 12+3) / 4-(m / 12+99) / 100+(m / 12+399) / 400)),some (.bl bb),none] H:=by
  refine⟨_,(ae (b7 (by passes_own) rfl (d4 rfl T.eY (fa1 (ah ba (fv 0) ad))) (av (i:=4) ND rfl (Wi rfl)) (af (aV 2 ND (ah aT (ah aT (fv 2) (tB (FA.pa (bj ad (bj ad (bj ad (bj ad (bj ad (bj ad (bj ad (bj ad (bj ad (bj ad (bj ad cr)))))))))))) (fv 4) (fun _ _=>rfl))) (de Ej rfl T.AS vz (fa1 (cZ (cX (cY K HU) (fv 4) ad (dD _)) (dv (fv 3)))))))))
   (af (aA (fv 2)))),fun bb hbb=>?_⟩
  walk_at "z";refine iD ?_;walk_at "d";have m0:0<=m % 12/\m % 12<12:=by walk_at "o"
  refine⟨by walk_at "o",by walk_at "o",eZ (lo:=0) (n:=(m % 12).toNat) (fun i σ' H'=>H'=H/\∃x4,σ'=[some (.int m),some (.int (m / 12)),some (.int (365*(m / 12)+LD (m / 12)+PL (m / 12) i)),some (.bl bb),x4]) ⟨rfl,none,?_⟩ ?_ ?_⟩
  .have e:365*(m / 12)+(m / 12+3) / 4-(m / 12+99) / 100+(m / 12+399) / 400=365*(m / 12)+LD (m / 12)+PL (m / 12) 0:=by unfold LD PL;simp;lia
   rw[e]
  .rintro i σ' H' hi ⟨rfl,x4,rfl⟩
   have i11:i<11:=by walk_at "o"
   have st:=DU (m / 12) i i11;walk_at "d";refine⟨hN,by rw[tV];decide,fun p hp=>yK (ns:=L11) (by walk_at "o") (by show _<(11:Int);lia) ?_⟩;rw[show((0:Int)+(i:Int)).toNat=i by lia];walk_at "d";by_cases h1:(0:Int)+(i:Int)=1
   .refine itp h1 ⟨_,?_,rfl⟩
    have i1:i=1:=by walk_at "o"
    rw[Wf i1,<- hbb]at st;rw[st,<- Z3,<- Z3]
   .refine itn h1 ⟨_,?_,rfl⟩
    have i1:¬ i=1:=by walk_at "o"
    rw[Wg i1]at st;rw[st,<- Z3,<- Z3]
  .rintro σ' H' ⟨rfl,x4,rfl⟩
   walk_at "d";have e:365*(m / 12)+LD (m / 12)+PL (m / 12) (m % 12).toNat=FD m:=J7 m;rw[e];exact q
 obtain⟨u3,hu3,c3⟩:=c3;refine⟨hN,_,(ae (aV 1 ND (ah a8 (fv 0) ad))
  (ae (aV 2 ND (ah aT (ah fh (ah aT (ah dt ad (fv 1)) (ah a8 (ah aT (fv 1) ad) ad)) (ah a8 (ah aT (fv 1) ad) ad)) (ah a8 (ah aT (fv 1) ad) ad)))
  (ae (aV 3 ND (cZ (cX (cY K HU) (ah ba (fv 1) ad) ad (dD _)) (dv (Cf (cX (dw K HU) (ah ba (fv 1) ad) ad (dD _)) (dv (cX (cY K HU) (ah ba (fv 1) ad) ad (dD _)))))))
  hu3))),?_⟩
 walk_at "d";have lo:=zN (m / 12);by_cases h4:m / 12 % 4=0
 .refine itp h4 ?_
  by_cases h1:m / 12 % 100=0
  .refine itp h1 (c3 _ ?_)
   rw[lo];by_cases h5:m / 12 % 400=0
   .rw[Wf (We h5),Wf (.inr h5)]
   .rw[Wg (fun z=>h5 (of_decide_eq_true z)),Wg (by lia)]
  .refine itn h1 (c3 _ ?_)
   exact(lo.trans (Wf (.inl ⟨h4,h1⟩))).symm
 .refine itn h4 (c3 _ ?_)
  exact(lo.trans (Wg (by lia))).symm
def sp_GX:Sp:=sp2 fun x y H Q _=>WS H/\asI x fun c=>asI y fun m=>∀d,FD m<=d->d<FD (m+1)->Q (.int d) H
def fO(T:Txt K mg a):Fo P w K mg base "_law_day" 2 sp_GX:=by
 refine T.wj.hg ["_law_cell","_law_month"] (gG2 fun x0 x1 fA XD A XF s H Q E ND HU hr h=>?_);obtain⟨hN,h1⟩:=h;obtain⟨c,rfl,h2⟩:=a9 h1;obtain⟨m,rfl,q⟩:=a9 h2;have fl:=xQ m;refine⟨hN,_,(ae (bc (bf (cY K HU) (ah ba (fv 0) ad) ad) (af (aA (aH (cJ T) hr aq (fa1 (fv 1))))) aJ)
  (ae (bc (bf (cY K HU) (ah ba (fv 0) ad) ad) (af (aA (ah fh (aH (cJ T) hr aq (fa1 (ah aT (fv 1) ad))) ad))) aJ)
  (af (aA (ah aT (aH (cJ T) hr aq (fa1 (fv 1))) (ah ba (ah a8 (fv 0) ad) ad)))))),?_⟩
 walk_at "d";split
 .exact⟨hN,q _ (Xl _) (by walk_at "o")⟩
 .split
  .exact⟨hN,q _ (by walk_at "o") (by walk_at "o")⟩
  .exact⟨hN,q _ (by walk_at "o") (by walk_at "o")⟩
end
section
def rT(c:Int)(k:Nat):nm (nms c k)=true:=by
 obtain⟨h1,h2,h3⟩:=iI (c:=c) (k:=k);unfold nm lie;rw[We h1,We (by lia:(nms c k).length<=12),Bool.true_and,Bool.true_and,Zv];intro x hx;have:=h3 x hx;simp;lia
def c8(c:Int)(k:Nat):58∉nms c k:=fun h=>by have:=(iI (c:=c) (k:=k)).2.2 58 h;lia
structure POk(l:List Nat):Prop where
 pn:ir l=true
 lo:∀c∈l,c<128
 ln:l.length+1<=13*(spN 58 l).length
def POk.len{l:List Nat}(h:POk l):l.length<=100:=by
 have:=h.pn;unfold ir at this;simp only[Za,decide_eq_true_eq]at this;have:=h.ln;lia
def POk.top{c:Int}{k:Nat}:POk (nms c k):=by
 have e:=f_ 58 _ (c8 c k);obtain⟨h1,h2,h3⟩:=iI (c:=c) (k:=k);refine⟨?_,fun x hx=>by have:=h3 x hx;lia,by rw[e];simp;lia⟩;unfold ir;rw[e];simp[rT]
def POk.ext{c:Int}{k:Nat}{u:List Nat}(h:POk u)(l5:(spN 58 u).length<=5):POk (u++58::nms c k):=by
 have e:=gJ (v:=u) (c8 c k);obtain⟨h1,h2,h3⟩:=iI (c:=c) (k:=k);have hp:=h.pn;unfold ir at hp;simp only[Za,decide_eq_true_eq]at hp;refine⟨?_,fun x hx=>?_,?_⟩
 .unfold ir
  rw[e,zc,List.all_append];simp only[Za,decide_eq_true_eq];exact⟨⟨by lia,by simp;lia⟩,hp.2,by simp[rT]⟩
 .obtain m|m:=yf.mp hx
  .exact h.lo x m
  .obtain rfl|m:=zk.mp m
   .decide
   .have:=h3 x m;lia
 .have:=h.ln
  rw[e,zc,zc,wa,sP];lia
namespace Pths
variable{c:Int}{ps:List (List Nat)}
def ok(h:Pths c ps):∀p∈ps,POk p:=by
 induction h with
 |two=>
  intro p hp;simp only[zk,vO,or_false]at hp;obtain rfl|rfl:=hp <;> exact POk.top
 |more _ hu _ l5 ih=>
  intro p hp;obtain m|m:=yf.mp hp
  .exact ih p m
  .rw[zw.mp m];exact(ih _ hu).ext l5
def len2(h:Pths c ps):2<=ps.length:=by
 induction h with
 |two=>exact ym _
 |more _ _ _ _ ih=>simp;lia
end Pths
end
section
variable{pS:WN}{ns:List Int}{P:WL}{w:WK}{K:Wz}{mg:Str->Option WO}{base:WF}{a:Adr}
open K3
def vf{ps:List (List Nat)}(x:Int)(h:0<ps.length):∃u∈ps,atI (ps.map VZ) (x % ((ps.map VZ).length:Nat))=some (VZ u):=by
 have b0:0<=x % ((ps.map VZ).length:Nat):=ZH _ (by rw[zm];lia);have b1:x % ((ps.map VZ).length:Nat)<((ps.map VZ).length:Nat):=ZN _ (by rw[zm];lia);obtain⟨j,e⟩:=Zk b0;rw[e]at b1 |-
 have hj:j<ps.length:=by rw[zm]at b1;lia
 exact⟨ps[j],List.getElem_mem hj,aI (by simp[hj])⟩
def CM{cu:List (List Nat)}(x:Int)(h:cu.length=3):∃u∈cu,atI (cu.map VZ) (x % 3)=some (VZ u):=by
 have:=vf (ps:=cu) x (by walk_at "o");rw[zm,h]at this;exact this
def Fn(c x:Int):∃k,atI ((lq 7).map fun k=>VZ (nms c k)) (x / 13 % 7)=some (VZ (nms c k)):=by
 have b0:0<=x / 13 % 7:=by walk_at "o"
 have b1:x / 13 % 7<7:=by walk_at "o"
 obtain⟨j,e⟩:=Zk b0;rw[e]at b1 |-
 exact⟨j,aI (by simp[show j<7 by walk_at "o"])⟩
def EJ(l:List Nat)(ps:List (List Nat)):inV (VZ l) (ps.map VZ)=decide (l∈ps):=by
 unfold inV;rw[List.any_map,YL,YY,decide_eq_true_eq];constructor
 .rintro⟨x,hx,e⟩
  have e':x=l:=by simpa [eqV,Function.comp] using e
  exact e' ▸ hx
 .intro h;exact⟨l,h,by simp[eqV]⟩
def sp_AJ(K:Wz):Sp:=sp2 fun x y H Q _=>asR x fun p=>asI y fun m=>WS H/\∃ns:List Int,SqL K H p (ns.map V.int)/\(0<=m/\m<=8)/\∀c (ps:List (List Nat)) q,Pths c ps->ps.length<=10->H q=none->Q (.ref q) (upd H q (.lst (ps.map VZ)))
def o8(T:Txt K mg a):Fo P w K mg base "_law_paths" 3 (sp_AJ K):=by
 refine T.rn.hg ["_law_script","_law_many","_law_names_here","_law_paths_here","_law_k","_law_cell","_law_ahead","_law_path"] (gG2 fun x0 x1 fA XD A XF s H Q E ND HU hr h=>?_);obtain⟨p,rfl,h1⟩:=aQ h;refine h_ (a9 h1) fun m yy1 hN yz=>h_ yz fun ns hS hm k=>?_;subst yy1;have sz:=szl;refine⟨hN,_,(ae (aV 2 ND (aH (pz T) hr aq (fa1 (aH (cB T) hr aq (fa2 (fv 0) ad)))))
  (ae (aV 3 ND (cw (fa2 (aK K (fv 2) ad) (aK K (fv 2) ad))))
  (ae (b7 (by passes_own) rfl (d4 rfl T.eY (fa1 (fv 1))) (av (i:=4) ND rfl (Wi rfl)) (ae (aV 5 ND (aH (bM T) hr aq (fa2 (aH (cB T) hr aq (fa2 (fv 0) ad)) (fv 4))))
  (ae (aV 6 ND (aK K (fv 3) (ah ba (fv 5) (aB (bV K) rfl T.dq cz (fa1 (fv 3))))))
  (ae (aV 7 ND (ah aT (ah aT (fv 6) (ak [58])) (aK K (fv 2) (ah ba (ah a8 (fv 5) ad) ad))))
  (af (bc (L2.PW.pt (nh (oU (p7 K) (fv 7) (fv 3) (by with_unfolding_all rfl)) (jy (bf pU (bY K Zh PySem.F.slot_str_count PySem.F.type_str_count AV (fv 6) (fa1 (ak [58]))) ad)))) (af (bC (bY K qS Zq Zr cA (fv 3) (fa1 (fv 7))))) aJ))))))
  (af (aA (fv 3)))))),?_⟩
 walk_at "d";refine⟨ns,hS,hN,fun q hq=>⟨_,_,.inl (al aa),aI (j:=0) rfl,_,_,.inl (al aa),aI (j:=6) rfl,by walk_at "o",fun r hr=>?_⟩⟩;have e1:(ns.getD (Int.toNat 1) 0)=ns.getD 1 0:=rfl;rw[e1]at hr |-
 generalize ns.getD 1 0=c at hr k |-
 have s1:=aj (HO.lst (List.map (fun k=>VZ (nms c k)) (lq 7))) hq;have qr:q≠r:=aM aa hr;have r0:H r=none:=s1.free hr;refine iD ?_;walk_at "d";refine⟨by walk_at "o",by walk_at "o",eZ (lo:=0) (n:=m.toNat) (fun i σ' H'=>XA H H'/\WS H'/\H' q=some (.lst ((lq 7).map fun k=>VZ (nms c k)))/\∃ps x4 x5 x6 x7,Pths c ps/\ps.length<=2+i/\H' r=some (.lst (ps.map VZ))/\σ'=[some (.ref p),some (.int m),some (.ref q),some (.ref r),x4,x5,x6,x7]) ⟨s1.trans (aj _ hr),aE (aE hN rfl) rfl,(ag qr).trans aa,_,none,none,none,none,Pths.two,by simp,aa,rfl⟩ ?_ ?_⟩
 .rintro i σ' H' hi ⟨sm,nT,hq',ps,x4,x5,x6,x7,hP,lp,hr',rfl⟩
  have l2:=(K18.Pths.len2 hP);walk_at "d";refine⟨ns,hS.same sm,nT,⟨by walk_at "o",by walk_at "o"⟩,_,.inl (al hr'),?_⟩;walk_at "z";generalize MX (ns.getD (Int.toNat 2) 0) (0+(i:Int))=x;refine br (vf (ps:=ps) x (by walk_at "o")) fun u hu eu=>?_;obtain⟨k7,e7⟩:=Fn c x;have pu:=K18.Pths.ok hP u hu;have lu:=pu.len;have l7:=iI (c:=c) (k:=k7);refine⟨by rw[zm];lia,_,_,.inl (al hr'),eu,?_⟩;walk_at "z";refine⟨by walk_at "o",_,_,.inl (al hq'),e7,?_⟩;walk_at "d";refine⟨by simp;lia,_,.inl (al hr'),rfl,by simp[dB],?_⟩;have el:u++[58]++nms c k7=u++58::nms c k7:=by simp
  by_cases hm:u++58::nms c k7∈ps
  .exact itn (by rw[EJ,el,We hm];decide) ⟨sm,nT,hq',ps,_,_,_,_,hP,by walk_at "o",hr',rfl,rfl,rfl,rfl⟩
  .refine itp (by rw[EJ,el,Wc hm]) ⟨by decide,?_,?_⟩
   .intro z
    have:=pu.pn;rw[show u=[] from z]at this;exact Wa this (by decide)
   .by_cases h5:((spN 58 u).length:Int)-1<5
    .refine itp h5 ⟨.inl ⟨_,al hr'⟩,r,_,_,rfl,rfl,hr',by rw[zm];lia,d5 sm r0,aE nT rfl,(ag qr).trans hq',_,_,_,_,_,.more hP hu hm (by walk_at "o"),by simp;lia,?_,rfl,rfl,rfl,rfl⟩
     rw[aa,yB,<- el];rfl
    .exact itn h5 ⟨sm,nT,hq',ps,_,_,_,_,hP,by walk_at "o",hr',rfl,rfl,rfl,rfl⟩
 .rintro σ' H' ⟨sm,nT,hq',ps,x4,x5,x6,x7,hP,lp,hr',rfl⟩
  walk_at "z";refine⟨_,Gc.one sm r0 hr' rfl,k _ ps r hP (by walk_at "o") r0⟩
end
section
variable{P:WL}{w:WK}{K:Wz}{mg:Str->Option WO}{base:WF}{a:Adr}
open K3
def Bh(x y:V):qI (zS "every") [(zS "bookings",x),(zS "undoings",y)]=none:=by rw[aW (by decide +kernel),aW (by decide +kernel)];rfl
def sp_wa:Sp:=sp1 fun x H Q _=>WS H/\asR x fun p=>∃vs bs,H p=some (.lst vs)/\A2 (BkAt H) vs bs/\bs.length<=100/\(∀b∈bs,b.rs.length<=7)/\∀r ws H',H r=none->H' r=some (.lst ws)->A2 (WY H') ws (bs.flatMap (·.rs))->XA H H'->WS H'->Q (.ref r) H'
theorem j0:∀ {bs:List Bo},(∀b∈bs,b.rs.length<=7)->(bs.flatMap (·.rs)).length<=7*bs.length
 | [],_=>ym _
 |b::r,h=>by
  have ih:=j0 (bs:=r) fun x m=>h x (.tail _ m);have hb:=h b (.head _);rw[ZI,zc,sP];lia
def vR(T:Txt K mg a):Fo P w K mg base "rows_of" 1 sp_wa:=by
 refine T.zh.hx ["bookings","rows","booking"] (gX1 fun x0 fA XD A XF s H Q E ND HU hr h=>?_);obtain⟨hN,h1⟩:=h;refine br (aQ h1) fun p yy1 yz=>vk yz fun vs bs hp ha len ok k=>?_;subst yy1;have sz:=szl;refine⟨_,(ae (aV 1 ND (cw (FA.pa cr)))
  (ae (b7 (by passes_own) rfl (a7 K (fv 0)) (av (i:=2) ND rfl (Wi rfl)) (af (bC (bY K qS XW XX D4 (fv 1) (fa1 (aK K (fv 2) ad))))))
  (af (aA (fv 1))))),?_⟩
 walk_at "z";refine⟨rp _,fun r hr=>b9 ?_⟩;walk_at "z";refine cn (al ((aj _ hr) _ _ hp)) (cq (fun i σ' H'=>XA H H'/\WS H'/\∃ws x2,H' r=some (.lst ws)/\A2 (WY H') ws ((bs.take i).flatMap (·.rs))/\σ'=[some (.ref p),some (.ref r),x2]) ⟨aj _ hr,aE hN rfl,[],none,aa,.nil,rfl⟩ (fun i σ' H' _ h=>al (h.1 _ _ hp)) ?_ ?_)
 .rintro i x σ' H' hx ⟨sm,nT,ws,x2,hr',aw,rfl⟩
  refine br (ha.at_ hx) fun b hb yz=>xZ yz fun q u us nt yy1 e1 e2 ar=>?_;subst yy1;have e1':=sm _ _ e1;have e2':=sm _ _ e2;have lw:=aw.len;have lf:=j0 (bs:=bs.take i) fun x m=>ok x (ZA m);rw[qF]at lf;have lb:=ok b (wt hb);have lu:=ar.len;walk_at "d";refine⟨.inl ⟨_,al hr'⟩,_,_,.inr (aY e1'),aI (j:=3) rfl,r,u,ws,us,rfl,rfl,hr',e2',by rw[tV];lia,d5 sm hr,aE nT rfl,_,_,aa,?_,rfl⟩;have kp:WZ [r] H' (upd H' r (.lst (ws++us))):=WZ.refl.put (.head _);rw[bR hb,Z7,ZI,Xb,Zs];exact(ck kp (LW.one hr') aw).app (ck kp (LW.one hr') (bh sm ar))
 .rintro σ' H' ⟨sm,nT,ws,x2,hr',aw,rfl⟩
  rw[ha.len,Zx]at aw;walk_at "z";exact k r ws H' hr hr' aw sm nT
def sp_Br(J:WN):Sp:=sp2 fun x y H Q _=>WS H/\asR x fun j=>asI y fun t=>∃b u vs XB bs,JAt J H j b u vs XB/\A2 (BkAt H) vs bs/\bs.length<=100/\∀r ws H',H r=none->H' r=some (.lst ws)->A2 (BkAt H') ws (bs.filter fun b=>decide (b.d<=t))->XA H H'->WS H'->Q (.ref r) H'
def ka(T:Txt K mg a):Fo P w K mg base "bookings_up_to" 2 (sp_Br a.aX):=by
 refine T.kJ.hx ["journal","day"] (gX2 fun x0 x1 fA XD A XF s H Q E ND HU hr h=>?_);obtain⟨hN,h1⟩:=h;obtain⟨j,rfl,h2⟩:=aQ h1;obtain⟨t,rfl,b,u,vs,XB,bs,JJ,hv,len,k⟩:=a9 h2;have sz:=szl;refine⟨_,(af (aA (bK rfl (cl:=_) (x:="booking") (xs:=["booking"]) (fr:=["day"]) (ks:=[1]) (by walk_at "k") rfl (a7 K (zA (fv 0) T.bD (kr T) hr.mono aq)) (fun _ _ _ _ _=>(av (i:=0) (cQ (l:=["booking","day"]) (by decide)) rfl (Wi rfl))) (fun _ _ _ _ _=>(gB (bf dX (aK K (fv 0) ad) (fv 1)))) (fun _ _ _ _ _=>(fv 0))))),?_⟩;obtain⟨dj,hj⟩:=JJ.ob;walk_at "z";refine fM ?_;walk_at "d";refine⟨_,_,hj,Bh _ _,hN,b,u,vs,XB,JJ,fun l hl=>?_⟩;have sl:=aj (HO.lst vs) hl;have lv:=hv.len;refine⟨⟨_,al aa⟩,uJ l vs (fun D i ys G=>XA (upd H l (.lst vs)) G/\WS G/\G D=some (.lst ys)/\upd H l (.lst vs) D=none/\A2 (BkAt G) ys ((bs.take i).filter fun b=>decide (b.d<=t))) (by rw[tV];lia) (fun D hD=>⟨aj _ hD,aE (aE hN rfl) rfl,aa,hD,.nil⟩) (fun D i ys G h=>⟨h.2.2.1,al (h.1 _ _ aa),?_⟩) ?_ ?_⟩
 .rw[h.2.2.2.2.len]
  exact r9 (Zj _ _) (by rw[qF];lia)
 .rintro D i y ys G zs N1 N0 hy ⟨sG,nG,hD,fD,aG⟩ hz n1 n0
  obtain⟨bb,hb1,hb2⟩:=hv.at_ hy;have hb3:=hb2.keep (W:=[]) (bF (sl.trans sG)) LW.nil;refine xZ (id hb3) fun qb tb vb nt yy1 e1 e2 rw_=>?_;subst yy1;obtain⟨z1,rfl⟩:=ex1 hz;walk_at "z";refine⟨⟨[some (.ref qb)],rfl,rfl⟩,_,_,.inr (aY e1),aI (j:=1) rfl,?_⟩;walk_at "d";rw[bR hb1,Zp]at n1 n0;by_cases h:bb.d<=t
  .rw[tR (by simpa using h)]at n1
   have kp:WZ [D] G (upd G D (.lst (ys++[.ref qb]))):=WZ.refl.put (.head _);exact itp h (n1 _ _ hD ⟨d5 sG fD,aE nG rfl,aa,fD,(AG kp (LW.one hD) aG).snoc (hb3.keep kp (LW.one hD))⟩)
  .rw[tK (by simpa using h),Ym,Zs]at n0
   exact itn h (n0 _ ⟨sG,nG,hD,fD,aG⟩)
 .rintro D ys G ⟨sG,nG,hD,fD,aG⟩
  rw[lv,Zx]at aG;exact k D ys G (sl.free fD) hD aG (sl.trans sG) nG
noncomputable def lup(l:List Nat):List (List Nat):=abN l++[l]
noncomputable def wq(r:Row):List Row:=(lup r.pa).map fun p=>⟨p,r.cu,r.am⟩
noncomputable def dU(rs:List Row):List Row:=rs.flatMap wq
def rwL(r:Row):Prop:=((∀c∈r.pa,c<128)/\r.pa.length<=199)/\(lup r.pa).length<=6
theorem nJ:∀ {rs:List Row},(∀r∈rs,rwL r)->(dU rs).length<=6*rs.length
 | [],_=>ym _
 |b::r,h=>by
  have ih:=nJ (rs:=r) fun x m=>h x (.tail _ m);have hb:=(h b (.head _)).2;unfold dU at ih |-
  rw[ZI,zc,sP];have e:(wq b).length=(lup b.pa).length:=by unfold wq;rw[zm]
  lia
def bo{H:Hp}{p:WN}{o:HO}(h:H p=none)(n:WS H)(ho:cV o=true):∃H1,upd H p o=H1/\XA H H1/\H1 p=some o/\WS H1:=⟨_,rfl,aj _ h,aa,aE n ho⟩
def iX{H:Hp}{p:WN}{o:HO}(n:WS H)(ho:cV o=true):∃H1,upd H p o=H1/\H1 p=some o/\WZ [p] H H1/\WS H1:=⟨_,rfl,aa,WZ.refl.put (.head _),aE n ho⟩
def sp_yI:Sp:=sp1 fun x H Q _=>WS H/\asR x fun p=>∃vs rs,H p=some (.lst vs)/\A2 (WY H) vs rs/\rs.length<=100/\(∀r∈rs,rwL r)/\∀r ws H',H r=none->H' r=some (.lst ws)->A2 (WY H') ws (dU rs)->XA H H'->WS H'->Q (.ref r) H'
def yF(T:Txt K mg a):Fo P w K mg base "lifted" 2 sp_yI:=by
 refine T.AD.hx ["rows","told","path","currency","amount","place"] (gX1 fun x0 fA XD A XF s H Q E ND HU hr h=>?_);obtain⟨hN,h1⟩:=h;refine br (aQ h1) fun p yy1 yz=>vk yz fun vs rs hp ha len ok k=>?_;subst yy1;have sz:=szl;refine⟨_,(ae (aV 1 ND (cw (FA.pa cr)))
  (ae (b7 (by passes_own) rfl (a7 K (fv 0)) (cN K (n:=3) rfl (aO (av (i:=2) ND rfl (Wi rfl)) (aO (av (i:=3) ND rfl (Wi rfl)) (aO (av (i:=4) ND rfl (Wi rfl)) cL)))) (af (b7 (by passes_own) rfl (a7 K (ah lg (aH (sT T) hr aq (fa1 (fv 2))) (cw (fa1 (fv 2))))) (av (i:=5) ND rfl (Wi rfl)) (af (bC (bY K qS Zq Zr cA (fv 1) (fa1 (bU (fa3 (fv 5) (fv 3) (fv 4))))))))))
  (af (aA (fv 1))))),?_⟩
 walk_at "z";refine⟨rp _,fun r hr=>b9 ?_⟩;walk_at "z";refine cn (al ((aj _ hr) _ _ hp)) (cq (fun i σ' H'=>XA H H'/\WS H'/\∃ws x2 x3 x4 x5,H' r=some (.lst ws)/\A2 (WY H') ws (dU (rs.take i))/\σ'=[some (.ref p),some (.ref r),x2,x3,x4,x5]) ⟨aj _ hr,aE hN rfl,[],none,none,none,none,aa,.nil,rfl⟩ (fun i σ' H' _ h=>al (h.1 _ _ hp)) ?_ ?_)
 .rintro i x σ' H' hx ⟨sm,nT,ws,x2,x3,x4,x5,hr',aw,rfl⟩
  refine br (ha.at_ hx) fun r0 hr0 yz=>br yz fun q yy1 hq=>?_;subst yy1;have hq':=sm _ _ hq;walk_at "z";refine⟨q,_,rfl,aY hq',rfl,_,_,rfl,_,_,rfl,_,_,rfl,rfl,b9 ?_⟩;walk_at "z";have ok0:=ok r0 (wt hr0);refine⟨nT,ok0.1,fun q1 hq1=>⟨?_,fun q2 hq2=>?_⟩⟩
  .walk_at "o"
  refine bq (bo (o:=tx (abN r0.pa)) hq1 nT rfl) fun G1 e1 s1 g1 N1=>?_;rw[e1]at hq2 |-
  refine bq (bo (o:=HO.lst [VZ r0.pa]) hq2 N1 rfl) fun G2 e2 s2 g2 N2=>?_;rw[e2];have la:(abN r0.pa).length+1<=6:=by have:=ok0.2;unfold lup at this;rw[zc]at this;exact this
  refine⟨(abN r0.pa).map VZ,[VZ r0.pa],s2 _ _ g1,g2,by rw[zm,wa];lia,fun q3 hq3=>b9 ?_⟩;refine bq (bo (o:=HO.lst ((abN r0.pa).map VZ++[VZ r0.pa])) hq3 N2 rfl) fun G3 e3 s3 g3 N3=>?_;rw[e3];have s03:=(s1.trans s2).trans s3;have lw:=aw.len;have ll:=nJ (rs:=rs.take i) fun x m=>ok x (ZA m);rw[qF]at ll;have el:(abN r0.pa).map VZ++[VZ r0.pa]=(lup r0.pa).map VZ:=by unfold lup;rw[yB];rfl
  rw[el]at g3;walk_at "z";refine cn (al g3) (cq (xs:=(lup r0.pa).map VZ) (fun j σ' (G:Hp)=>WZ [r] G3 G/\WS G/\∃ws' x5,G r=some (.lst ws')/\A2 (WY G) ws' (dU (rs.take i)++((lup r0.pa).take j).map fun p=>⟨p,r0.cu,r0.am⟩)/\σ'=[some (.ref p),some (.ref r),some (VZ r0.pa),some (VZ r0.cu),some (.int r0.am),x5]) ⟨WZ.refl,N3,ws,_,s03 _ _ hr',by rw[List.take_zero,ZR,Zs];exact bh s03 aw,rfl⟩ (fun j σ' G _ h=>?_) ?_ ?_)
  .refine al (h.1 _ _ g3 fun m=>?_)
   rw[zw.mp m,(s1.trans s2) _ _ hr']at hq3;cases hq3
  .rintro j y σ' G hy ⟨kp,nG,ws',y5,hG,aG,rfl⟩
   rw[Ws]at hy;refine br (Zn.mp hy) fun l0 hl0 yy1=>?_;subst yy1;have lG:=aG.len;rw[zc,zm,qF]at lG;have l6:=ok0.2;walk_at "d";refine⟨.inl ⟨_,al hG⟩,by walk_at "o",fun p1 hp1=>⟨r,ws',_,rfl,rfl,(aj _ hp1) _ _ hG,by rw[tV];lia,?_⟩⟩;refine bq (bo (o:=HO.tup [VZ l0,VZ r0.cu,V.int r0.am]) hp1 nG rfl) fun G4 e4 s4 g4 N4=>?_;rw[e4];refine bq (iX (p:=r) (o:=HO.lst (ws'++[V.ref p1])) N4 rfl) fun G5 e5 g5 k5 N5=>?_;rw[e5];refine⟨(kp.trans (bF s4)).trans k5,N5,_,_,g5,?_,rfl⟩;rw[bR hl0,yB,<- YI];exact(ck k5 (LW.one (s4 _ _ hG)) (bh s4 aG)).snoc ⟨p1,rfl,k5 _ _ g4 fun m=>by rw[zw.mp m,s4 _ _ hG]at g4;cases g4⟩
  .rintro σ' G ⟨kp,nG,ws',y5,hG,aG,rfl⟩
   rw[zm,Zx]at aG;walk_at "d";refine⟨(fun c z e=>kp _ _ (s03 _ _ (sm _ _ e)) fun m=>by rw[zw.mp m,hr]at e;cases e),nG,ws',_,_,_,_,hG,?_,rfl,rfl,rfl,rfl⟩;rw[bR hr0];unfold dU;rw[Z7,ZI,Xb,Zs];exact aG
 .rintro σ' H' ⟨sm,nT,ws,x2,x3,x4,x5,hr',aw,rfl⟩
  rw[ha.len,Zx]at aw;walk_at "z";exact k r ws H' hr hr' aw sm nT
def WU(H:Hp)(v:V)(c:List Nat × Int):Prop:=∃q,v = .ref q/\H q=some (.tup [VZ c.1,.int c.2])
noncomputable def prs(R:List Row)(l:List Nat):List (List Nat × Int):=(R.filter fun r=>decide (r.pa=l)).map fun r=>(r.cu,r.am)
noncomputable def kyP(e:List Nat × WN):Key × V:=(.inr ⟨⟨e.1⟩⟩,.ref e.2)
structure GAt(H0 H:Hp)(d:WN)(ks:List (List Nat × WN))(R:List Row):Prop where
 dc:H d=some (.dK (ks.map kyP))
 nk:(ks.map (·.1)).Nodup
 na:(d::ks.map (·.2)).Nodup
 fr:∀c∈d::ks.map (·.2),H0 c=none
 has:∀r∈R,r.pa∈ks.map (·.1)
 ls:∀e∈ks,∃vs,H e.2=some (.lst vs)/\A2 (WU H) vs (prs R e.1)
theorem uq{α β:Type}{f:α->β}:∀ {cs:List α} {c c':α},(cs.map f).Nodup->c∈cs->c'∈cs->f c=f c'->c=c'
 | [],_,_,_,h,_,_=>nomatch h
 |x::r,c,c',hn,h,h',e=>by
  rw[xY,yE]at hn;obtain h1|h1:=zk.mp h
  .obtain h2|h2:=zk.mp h'
   .rw[h1,h2]
   .subst h1
    exact Wa (by rw[e];exact xW h2) hn.1
  .obtain h2|h2:=zk.mp h'
   .subst h2
    exact Wa (by rw[<- e];exact xW h1) hn.1
   .exact uq hn.2 h1 h2 e
def sV(R:List Row)(r:Row)(l:List Nat):prs (R++[r]) l=prs R l++if r.pa=l then [(r.cu,r.am)] else []:=by
 unfold prs;rw[Zp,yB];by_cases h:r.pa=l
 .rw[tR (by simpa using h),Wf h];rfl
 .rw[tK (by simpa using h),Wg h];rfl
def WU.keep{S:List WN}{H H':Hp}{v:V}{c:List Nat × Int}(x:WZ S H H')(t:LW S H)(h:WU H v c):WU H' v c:=by
 obtain⟨q,rfl,hq⟩:=h;exact⟨q,rfl,x _ _ hq fun m=>by obtain⟨_,e⟩:=t _ m;rw[hq]at e;cases e⟩
def bJ{S:List WN}{H H':Hp}{vs:List V}{cs:List (List Nat × Int)}(x:WZ S H H')(t:LW S H)(h:A2 (WU H) vs cs):A2 (WU H') vs cs:=h.imp fun _ _ _ _ r=>r.keep x t
def GAt.same{H0 H H':Hp}{d:WN}{ks:List (List Nat × WN)}{R:List Row}(s:XA H H')(g:GAt H0 H d ks R):GAt H0 H' d ks R:=
 ⟨s _ _ g.dc,g.nk,g.na,g.fr,g.has,fun e m=>let ⟨vs,h1,h2⟩:=g.ls e m;⟨vs,s _ _ h1,bJ (S:=[]) (bF s) LW.nil h2⟩⟩
def GAt.app{H0 G G4 G5:Hp}{d p:WN}{ks:List (List Nat × WN)}{R:List Row}{e:List Nat × WN}{r:Row}{vs:List V}(g:GAt H0 G d ks R)(me:e∈ks)(ep:e.1=r.pa)(hl:G e.2=some (.lst vs))
 (s4:XA G G4) (g4:G4 p=some (.tup [VZ r.cu,.int r.am])) (k5:WZ [e.2] G4 G5) (g5:G5 e.2=some (.lst (vs++[.ref p]))):GAt H0 G5 d ks (R++[r]):=by
 have nd:=yE.mp g.na;have lw:=LW.one (s4 _ _ hl);refine⟨k5 _ _ (s4 _ _ g.dc) fun m=>nd.1 (by rw[zw.mp m];exact xW me),g.nk,g.na,g.fr,fun z m=>?_,fun z m=>?_⟩
 .obtain m|m:=yf.mp m
  .exact g.has z m
  .rw[zw.mp m,<- ep];exact xW me
 .obtain⟨ws,h1,h2⟩:=g.ls z m
  by_cases ez:z=e
  .subst ez
   rw[hl]at h1;cases h1;refine⟨_,g5,?_⟩;rw[sV,Wf ep.symm];exact(bJ k5 lw (bJ (S:=[]) (bF s4) LW.nil h2)).snoc ⟨p,rfl,k5 _ _ g4 fun m=>by rw[zw.mp m,s4 _ _ hl]at g4;cases g4⟩
  .refine⟨ws,k5 _ _ (s4 _ _ h1) fun m'=>ez (uq nd.2 m me (zw.mp m')),?_⟩
   rw[sV,Wg (fun q=>ez (uq g.nk m me (by rw[ep,q]))),Zs];exact bJ k5 lw (bJ (S:=[]) (bF s4) LW.nil h2)
def nD{R:List Row}{l:List Nat}(h:∀r∈R,r.pa≠l):prs R l=[]:=by
 unfold prs;rw[Yi.mpr fun r m=>by simpa using h r m];rfl
def GAt.new{H0 G G3 G4:Hp}{d p:WN}{ks:List (List Nat × WN)}{R:List Row}{l:List Nat}(g:GAt H0 G d ks R)(nl:l∉ks.map (·.1))(f0:H0 p=none)(fp:G p=none)(s3:XA G G3)(g3:G3 p=some (.lst []))
 (k4:WZ [d] G3 G4) (g4:G4 d=some (.dK ((ks++[(l,p)]).map kyP))):GAt H0 G4 d (ks++[(l,p)]) R:=by
 have nd:=yE.mp g.na;have dp:d≠p:=fun z=>by rw[<- z,g.dc]at fp;cases fp
 have np:p∉ks.map (·.2):=fun m=>by
  obtain⟨e,me,ee⟩:=yI.mp m;obtain⟨ws,h1,_⟩:=g.ls e me;rw[ee,fp]at h1;cases h1
 have kd:∀ {c z},G3 c=some z->(∀kv,z ≠ .dK kv)->G4 c=some z:=fun {c z} e n=>k4 _ _ e fun m=>n _ (by rw[zw.mp m,s3 _ _ g.dc]at e;cases e;rfl);refine⟨g4,?_,?_,?_,fun r m=>?_,fun e m=>?_⟩
 .rw[yB,xY,ZR]
  exact ZW.mpr ⟨g.nk,yE.mpr ⟨(fun m=>nomatch m),Zu⟩,fun x mx y my z=>nl ((show x=l from z.trans (zw.mp my)) ▸ mx)⟩
 .rw[yB,xY,ZR]
  refine yE.mpr ⟨fun m=>?_,ZW.mpr ⟨nd.2,yE.mpr ⟨(fun m=>nomatch m),Zu⟩,fun x mx y my z=>np ((show x=p from z.trans (zw.mp my)) ▸ mx)⟩⟩;obtain m|m:=yf.mp m
  .exact nd.1 m
  .exact dp (zw.mp m)
 .intro c m
  rw[yB,xY,ZR]at m;obtain m|m:=zk.mp m
  .rw[m];exact g.fr _ (.head _)
  .obtain m|m:=yf.mp m
   .exact g.fr _ (.tail _ m)
   .rw[zw.mp m];exact f0
 .rw[yB];exact uj _ (g.has r m)
 .have mv:∀ {vs cs},A2 (WU G) vs cs->A2 (WU G4) vs cs:=fun h=>h.imp fun _ _ _ _ r=>by
   obtain⟨q,e1,hq⟩:=r;exact⟨q,e1,kd (s3 _ _ hq) (by intro _ z;cases z)⟩
  obtain m|m:=yf.mp m
  .obtain⟨ws,h1,h2⟩:=g.ls e m
   exact⟨ws,kd (s3 _ _ h1) (by intro _ z;cases z),mv h2⟩
  .rw[zw.mp m]
   refine⟨[],kd g3 (by intro _ z;cases z),?_⟩;rw[nD fun r mr z=>nl ((show r.pa=l from z) ▸ g.has r mr)];exact .nil
noncomputable def fK(ks:List (List Nat × WN))(l:List Nat):Option (List Nat × WN):=ks.find? fun e=>decide (e.1=l)
theorem ji(l:List Nat):∀ks:List (List Nat × WN),bw (ks.map kyP) (.inr ⟨⟨l⟩⟩)=(fK ks l).map fun e=>.ref e.2
 | []=>rfl
 |c::r=>by
  have ih:=ji l r;by_cases h:c.1=l
  .rw[xY,b8 (by show Sum.inr _=Sum.inr _;rw[h])]
   simp[fK,h,kyP]
  .rw[xY,bZ (fun z=>h (by simpa [kyP] using z)),ih]
   simp[fK,h]
def ow{ks:List (List Nat × WN)}{l:List Nat}{e:List Nat × WN}(h:fK ks l=some e):e∈ks/\e.1=l:=⟨List.mem_of_find?_eq_some h,by simpa using List.find?_some h⟩
def mT{ks:List (List Nat × WN)}{l:List Nat}(h:fK ks l=none):l∉ks.map (·.1):=fun m=>by
 obtain⟨e,me,ee⟩:=yI.mp m;exact Wa (Wo.mp h e me) (by simpa using ee)
def sp_by(K:Wz):Sp:=sp1 fun x H Q _=>WS H/\asR x fun p=>∃vs rs,H p=some (.lst vs)/\A2 (WY H) vs rs/\rs.length<=1000/\(dk rs).length<64 /\
 ∀out d ks H',out.Perm ((dk rs).map (·.1))->oA out->GAt H H' d ks (res rs out)->XA H H'->WS H'->Q (.ref d) H'
def lH(T:Txt K mg a):Fo P w K mg base "by_paths" 2 (sp_by K):=by
 refine T.vS.hx ["rows","told","path","currency","amount","amounts"] (gX1 fun x0 fA XD A XF s H Q E ND HU hr h=>?_);obtain⟨hN,h1⟩:=h;refine br (aQ h1) fun p yy1 yz=>vk yz fun vs rs hp ha len l64 k=>?_;subst yy1;have sz:=szl;refine⟨_,(ae (aV 1 ND gH)
  (ae (b7 (by passes_own) rfl (a7 K (aH (oy T) hr aq (fa1 (fv 0)))) (cN K (n:=3) rfl (aO (av (i:=2) ND rfl (Wi rfl)) (aO (av (i:=3) ND rfl (Wi rfl)) (aO (av (i:=4) ND rfl (Wi rfl)) cL)))) (ae (aV 5 ND (xm (Zz HU) (fv 1) (fv 2) (cw (FA.pa cr)) ⟨rfl,rfl,rfl,rfl⟩))
  (af (bC (bY K qS Zq Zr cA (fv 5) (fa1 (bU (fa2 (fv 3) (fv 4)))))))))
  (af (aA (fv 1))))),?_⟩
 walk_at "z";intro d fd;refine bq (bo (o:=HO.dK []) fd hN rfl) fun H1 e1 s1 g1 N1=>?_;rw[e1];refine b9 ?_;walk_at "z";refine⟨N1,vs,rs,s1 _ _ hp,bh s1 ha,len,l64,fun out r ws H2 po oo fr hr ar s2 N2=>?_⟩;have lo:=po.length_eq;rw[zm]at lo;have lR:(res rs out).length<=out.length:=by unfold res;rw[zm];exact Zj _ _
 have lw:=ar.len;refine cn (al hr) (cq (xs:=ws) (fun i σ' (G:Hp)=>XA H G/\WS G/\G r=some (.lst ws)/\A2 (WY G) ws (res rs out)/\∃ks x2 x3 x4 x5,ks.length<=i/\(∀e∈ks,e.2≠r)/\GAt H G d ks ((res rs out).take i)/\σ'=[some (.ref p),some (.ref d),x2,x3,x4,x5]) ⟨s1.trans s2,N2,hr,ar,[],none,none,none,none,rp _,(fun e m=>nomatch m),?_,rfl⟩ (fun i σ' H' _ h=>al h.2.2.1) ?_ ?_)
 .exact⟨s2 _ _ g1,Zu,yE.mpr ⟨(fun m=>nomatch m),Zu⟩,fun c m=>by rw[zw.mp m];exact fd,fun r m=>(by rw[List.take_zero]at m;cases m),(fun e m=>nomatch m)⟩
 .rintro i x σ' G hx ⟨sG,nG,hG,aG,ks,x2,x3,x4,x5,lk,nr,GA,rfl⟩
  refine br (aG.at_ hx) fun r0 hr0 yz=>br yz fun q yy1 hq=>?_;subst yy1;walk_at "z";refine⟨q,_,rfl,aY hq,rfl,_,_,rfl,_,_,rfl,_,_,rfl,rfl,?_⟩;unfold Bf;walk_at "d";refine⟨.inl ⟨_,.inl GA.dc⟩,rp _,fun q1 fq1=>?_⟩;refine bq (bo (o:=HO.lst []) fq1 nG rfl) fun G3 e3 s3 g3 N3=>?_;rw[e3];have lR2:i<(res rs out).length:=(Wu.mp hr0).1;have fin:∀(G1:Hp) e ks' vs,GAt H G1 d ks' ((res rs out).take i)->e∈ks'->e.1=r0.pa->G1 e.2=some (.lst vs)->XA H G1->WS G1->G1 r=some (.lst ws)->A2 (WY G1) ws (res rs out)->(∀e∈ks',e.2≠r)->vs.length<=i->ks'.length<=i+1 ->
   tyV K "list" (V.ref e.2) G1/\2<=WI/\∀p1,G1 p1=none->∃l xs y,V.ref e.2=V.ref l/\V.ref p1=y/\upd G1 p1 (HO.tup [VZ r0.cu,V.int r0.am]) l=some (HO.lst xs)/\xs.length<WI /\
    XA H (upd (upd G1 p1 (HO.tup [VZ r0.cu,V.int r0.am])) l (HO.lst (xs++[y])))/\WS (upd (upd G1 p1 (HO.tup [VZ r0.cu,V.int r0.am])) l (HO.lst (xs++[y]))) /\
    upd (upd G1 p1 (HO.tup [VZ r0.cu,V.int r0.am])) l (HO.lst (xs++[y])) r=some (HO.lst ws)/\A2 (WY (upd (upd G1 p1 (HO.tup [VZ r0.cu,V.int r0.am])) l (HO.lst (xs++[y])))) ws (res rs out) /\
    ∃ks x2 x3 x4 x5,ks.length<=i+1/\(∀e∈ks,e.2≠r)/\GAt H (upd (upd G1 p1 (HO.tup [VZ r0.cu,V.int r0.am])) l (HO.lst (xs++[y]))) d ks ((res rs out).take (i+1))/\some (VZ r0.pa)=x2/\some (VZ r0.cu)=x3/\some (V.int r0.am)=x4/\some (V.ref e.2)=x5:=by
   intro G1 e ks' vs g me ep hl sG1 nG1 hr1 ar1 ner lv lks;refine⟨.inl ⟨rfl,_,al hl⟩,by walk_at "o",fun p1 fp1=>⟨e.2,vs,_,rfl,rfl,(aj _ fp1) _ _ hl,by rw[tV];lia,?_⟩⟩;refine bq (bo (o:=HO.tup [VZ r0.cu,V.int r0.am]) fp1 nG1 rfl) fun G4 e4 s4 g4 N4=>?_;rw[e4];refine bq (iX (p:=e.2) (o:=HO.lst (vs++[V.ref p1])) N4 rfl) fun G5 e5 g5 k5 N5=>?_;rw[e5];have fe:H e.2=none:=g.fr _ (.tail _ (xW me));refine⟨(fun c z ec=>k5 _ _ (s4 _ _ (sG1 _ _ ec)) fun m=>by rw[zw.mp m,fe]at ec;cases ec),N5,k5 _ _ (s4 _ _ hr1) (fun m=>ner e me (zw.mp m).symm),ck k5 (LW.one (s4 _ _ hl)) (bh s4 ar1),ks',_,_,_,_,lks,ner,?_,rfl,rfl,rfl,rfl⟩;rw[bR hr0];exact g.app me ep hl s4 g4 k5 g5
  have dg:=DGet.k (k:=.inr ⟨⟨r0.pa⟩⟩) (s3 _ _ GA.dc);rw[ji]at dg;have lp:∀l,(prs ((res rs out).take i) l).length<=i:=fun l=>by unfold prs;rw[zm];exact r9 (Zj _ _) (by rw[qF];lia)
  cases ef:fK ks r0.pa with
  |some e=>
   rw[ef]at dg;obtain⟨me,ee⟩:=ow ef;refine br (GA.ls e me) fun us hu au=>?_;refine .inl ⟨_,dg,fin G3 e ks us (GA.same s3) me ee (s3 _ _ hu) (sG.trans s3) N3 (s3 _ _ hG) (bh s3 aG) nr (by rw[au.len];exact lp _) (by lia)⟩
  |none=>
   rw[ef]at dg;refine .inr ⟨dg,_,DPut.k (k:=.inr ⟨⟨r0.pa⟩⟩) (s3 _ _ GA.dc) (by rw[zm,tV];lia),?_⟩;refine bq (iX (p:=d) (o:=HO.dK (bi (ks.map kyP) (.inr ⟨⟨r0.pa⟩⟩) (V.ref q1))) N3 rfl) fun G4 e4 g4 k4 N4=>?_;rw[e4];have vn:bw (ks.map kyP) (.inr ⟨⟨r0.pa⟩⟩)=none:=by rw[ji,ef];rfl
   rw[iB _ vn]at g4;have nd:∀ {c z},G3 c=some z->(∀kv,z ≠ .dK kv)->G4 c=some z:=fun {c z} e n=>k4 _ _ e fun m=>n _ (by rw[zw.mp m,s3 _ _ GA.dc]at e;cases e;rfl);have fd':H d=none:=GA.fr _ (.head _);obtain⟨_,f2,f3⟩:=fin G4 (r0.pa,q1) (ks++[(r0.pa,q1)]) [] (GA.new (mT ef) (sG.free fq1) fq1 s3 g3 k4 (by rw[g4,yB];rfl)) (uD _ (.head _)) rfl (nd g3 (by intro _ z;cases z))
    (fun c z ec=>k4 _ _ (s3 _ _ (sG _ _ ec)) fun m=>by rw[zw.mp m,fd']at ec;cases ec) N4 (nd (s3 _ _ hG) (by intro _ z;cases z))
    ((bh s3 aG).imp fun _ _ _ _ r=>by obtain⟨q,e1,hq⟩:=r;exact⟨q,e1,nd hq (by intro _ z;cases z)⟩)
    (fun e m=>by
     obtain m|m:=yf.mp m
     .exact nr e m
     .rw[zw.mp m];exact fun z=>by rw[show q1=r from z,hG]at fq1;cases fq1) (rp _) (by rw[zc,wa];lia)
   refine⟨.inl ⟨_,al (nd g3 (by intro _ z;cases z))⟩,f2,fun p1 fp1=>?_⟩;refine Kc (f3 p1 fp1) fun l xs y e1 rest=>?_;exact⟨l,xs,y,V.ref.inj e1,rest⟩
 .rintro σ' G ⟨sG,nG,hG,aG,ks,x2,x3,x4,x5,lk,nr,GA,rfl⟩
  rw[lw,Zx]at GA;walk_at "z";exact k out d ks G po oo GA sG nG
def sp_sP(C A:WN):Sp:=sp1 fun x H Q _=>WS H/\asR x fun p=>∃d cs,CAt C A H p d cs/\cs.length<64/\∀out:List (List Nat),out.Perm (cs.map (·.pa))->InO out->∀q,H q=none->Q (.ref q) (upd H q (.lst (out.map VZ)))
def jB(T:Txt K mg a):Mo P w K mg base a.aU "accounts" 1 (sp_sP a.aU a.aS):=by
 refine T.kh.hg ["self"] (gG1 fun x0 fA XD A XF s H Q E ND HU hr h=>?_);obtain⟨hN,h1⟩:=h;obtain⟨p,rfl,d,cs,J,h64,k⟩:=aQ h1;obtain⟨dx,hp⟩:=J.ob;refine⟨hN,_,(af (aA (aB (tF rfl) rfl T.iA gh (fa1 (bx K (fv 0)))))),?_⟩;walk_at "d";refine⟨_,_,_,_,hp,T.bH,T.bT,lkp _,_,cs.map (·.pa),J.dc,by rw[uR,uR];rfl,by rw[zm];exact h64,fun out h1 h2 q hq=>⟨_,Gc.one (aj _ hq) hq aa rfl,k out h1 h2 q hq⟩⟩
structure Rp where
 l:List Nat
 o:WN
 i:WN
def RpAt(H:Hp)(Ro Rw:List Row)(v:V)(x:Rp):Prop:=∃q,v = .ref q/\H q=some (.tup [VZ x.l,.ref x.o,.ref x.i])/\(∃us,H x.o=some (.lst us)/\A2 (WU H) us (prs Ro x.l))/\∃us,H x.i=some (.lst us)/\A2 (WU H) us (prs Rw x.l)
noncomputable def btw(f t:Int)(bs:List Bo):List Bo:=(bs.filter fun b=>decide (b.d<=t)).filter fun b=>decide (f<=b.d)
noncomputable def dN(bs:List Bo):List Row:=bs.flatMap (·.rs)
noncomputable def adR(xs:List Rp):List WN:=xs.map (·.o)++xs.map (·.i)
def RpAt.keep{S:List WN}{H H':Hp}{Ro Rw:List Row}{v:V}{x:Rp}(k:WZ S H H')(t:LW S H)(no:x.o∉S)(ni:x.i∉S)(h:RpAt H Ro Rw v x):RpAt H' Ro Rw v x:=by
 obtain⟨q,e,hq,⟨us,h1,h2⟩,ws,h3,h4⟩:=h;exact⟨q,e,k _ _ hq fun m=>(by obtain⟨_,z⟩:=t _ m;rw[hq]at z;cases z),⟨us,k _ _ h1 no,bJ k t h2⟩,ws,k _ _ h3 ni,bJ k t h4⟩
structure RpI(ks1 ks2:List (List Nat × WN))(H0 G:Hp)(Ro Rw:List Row)(D:WN)(ls:List (List Nat))(ys:List V)(xs:List Rp):Prop where
 a:A2 (RpAt G Ro Rw) ys xs
 l:xs.map (·.l)=ls
 so:∀x∈xs,(x.l,x.o)∈ks1\/H0 x.o=none
 si:∀x∈xs,(x.l,x.i)∈ks2\/H0 x.i=none
 nd:(D::adR xs).Nodup
def on(xs:List Rp)(x:Rp)(c:WN):c∈adR (xs++[x])↔c∈adR xs\/c=x.o\/c=x.i:=by
 unfold adR;simp only[yB,yf,xY,ZR,zw];constructor
 .rintro((h|h)|h|h)
  .exact .inl (.inl h)
  .exact .inr (.inl h)
  .exact .inl (.inr h)
  .exact .inr (.inr h)
 .rintro((h|h)|h|h)
  .exact .inl (.inl h)
  .exact .inr (.inl h)
  .exact .inl (.inr h)
  .exact .inr (.inr h)
def Cw{xs:List Rp}{x:Rp}(n:(adR xs).Nodup)(h1:x.o∉adR xs)(h2:x.i∉adR xs)(h3:x.o≠x.i):(adR (xs++[x])).Nodup:=by
 have p:(adR (xs++[x])).Perm (x.o::x.i::adR xs):=by
  unfold adR;rw[yB,yB,xY,ZR,xY,ZR];refine(List.Perm.append_right _ (List.perm_append_comm (l₂:=[x.o]))).trans ?_;refine .cons _ ?_;show(xs.map (·.o)++(xs.map (·.i)++[x.i])).Perm _;rw[<- YI];exact List.perm_append_comm
 rw[p.nodup_iff];exact yE.mpr ⟨fun m=>by obtain e|m:=zk.mp m;exact h3 e;exact h1 m,yE.mpr ⟨h2,n⟩⟩
def xS{α β:Type}{R:α->β->Prop}{vs:List α}{xs:List β}(h:A2 R vs xs):∀ {x:β},x∈xs->∃v,v∈vs/\R v x:=by
 induction h with
 |nil=>intro x m;cases m
 |cons r _ ih=>
  intro x m;obtain e|m:=zk.mp m
  .exact⟨_,.head _,e ▸ r⟩
  .obtain⟨v,mv,h⟩:=ih m
   exact⟨v,.tail _ mv,h⟩
def RpI.lst{ks1 ks2:List (List Nat × WN)}{H0 G:Hp}{Ro Rw:List Row}{D:WN}{ls:List (List Nat)}{ys:List V}{xs:List Rp}(I:RpI ks1 ks2 H0 G Ro Rw D ls ys xs){c:WN}(m:c∈adR xs):∃us,G c=some (.lst us):=by
 have mm:∀x∈xs,∃v,RpAt G Ro Rw v x:=fun x mx=>by
  obtain⟨v,_,h⟩:=xS I.a mx;exact⟨v,h⟩
 unfold adR at m;obtain m|m:=yf.mp m
 .obtain⟨x,mx,rfl⟩:=yI.mp m
  obtain⟨v,q,_,_,⟨us,h,_⟩,_⟩:=mm x mx;exact⟨us,h⟩
 .obtain⟨x,mx,rfl⟩:=yI.mp m
  obtain⟨v,q,_,_,_,us,h,_⟩:=mm x mx;exact⟨us,h⟩
def RpI.step{ks1 ks2:List (List Nat × WN)}{H0 G G3 G4:Hp}{Ro Rw:List Row}{D:WN}{ls:List (List Nat)}{ys:List V}{xs:List Rp}{x:Rp}{v:V}(I:RpI ks1 ks2 H0 G Ro Rw D ls ys xs)(s:XA G G3)(hD:G3 D=some (.lst ys))(k:WZ [D] G3 G4)
 (hv:RpAt G3 Ro Rw v x) (so:(x.l,x.o)∈ks1\/H0 x.o=none) (si:(x.l,x.i)∈ks2\/H0 x.i=none) (h1:x.o∉D::adR xs) (h2:x.i∉D::adR xs) (h3:x.o≠x.i):RpI ks1 ks2 H0 G4 Ro Rw D (ls++[x.l]) (ys++[v]) (xs++[x]):=by
 have nd:=yE.mp I.nd;have inD:∀ {c},c∉D::adR xs->c∉[D]:=fun h m=>h (by rw[zw.mp m];exact .head _);refine⟨?_,by rw[yB,I.l];rfl,fun z m=>?_,fun z m=>?_,?_⟩
 .refine A2.snoc (I.a.imp fun v' x' _ mx h=>?_) (hv.keep k (LW.one hD) (inD h1) (inD h2))
  have h':=h.keep (S:=[]) (bF s) LW.nil (fun m=>nomatch m) (fun m=>nomatch m);refine h'.keep k (LW.one hD) (fun m=>nd.1 ?_) (fun m=>nd.1 ?_)
  .rw[<- zw.mp m];exact uj _ (xW mx)
  .rw[<- zw.mp m];exact uD _ (xW mx)
 .obtain m|m:=yf.mp m
  .exact I.so z m
  .rw[zw.mp m];exact so
 .obtain m|m:=yf.mp m
  .exact I.si z m
  .rw[zw.mp m];exact si
 .refine yE.mpr ⟨fun m=>?_,Cw nd.2 (fun m=>h1 (.tail _ m)) (fun m=>h2 (.tail _ m)) h3⟩
  rcases(on _ _ _).mp m with m|m|m
  .exact nd.1 m
  .exact h1 (by rw[<- m];exact .head _)
  .exact h2 (by rw[<- m];exact .head _)
def jz{ps:List (List Nat)}{i:Nat}{l:List Nat}(h:ps.Nodup)(e:ps[i]? = some l):l∉ps.take i:=fun m=>by
 obtain⟨j,hj⟩:=List.getElem?_of_mem m;have hi:=(Wu.mp hj).1;rw[qF]at hi;rw[List.getElem?_take_of_lt (by lia)]at hj;have:=(List.getElem?_inj (by lia) h).mp (hj.trans e.symm);lia
def sp_lq(a:Adr):Sp:=sp4 fun x y z u H Q _=>WS H/\asR x fun p=>asR y fun j=>asI z fun f=>asI u fun t=>∃d cs b ud vs XB bs,CAt a.aU a.aS H p d cs/\cs.length<64/\JAt a.aX H j b ud vs XB/\A2 (BkAt H) vs bs/\bs.length<=10/\(∀b∈bs,b.rs.length<=7/\∀r∈b.rs,rwL r) /\
 (dk (dN (btw f t bs))).length<64/\(dk (dU (dN (btw f t bs)))).length<64 /\
 ∀out o1 o2 D ws xs H',out.Perm (cs.map (·.pa))->InO out->o1.Perm ((dk (dN (btw f t bs))).map (·.1))->oA o1->o2.Perm ((dk (dU (dN (btw f t bs)))).map (·.1))->oA o2 ->
  H D=none->H' D=some (.lst ws)->A2 (RpAt H' (res (dN (btw f t bs)) o1) (res (dU (dN (btw f t bs))) o2)) ws xs->xs.map (·.l)=out->(D::adR xs).Nodup->(∀c∈adR xs,H c=none)->XA H H'->WS H'->Q (.ref D) H'
def gm(T:Txt K mg a):Fo P w K mg base "report" 4 (sp_lq a):=by
 refine T.Cy.hx ["chart","journal","first","last","rows","own","within"] (gX4 fun x0 x1 x2 x3 fA XD A XF s H Q E ND HU hr h=>?_);obtain⟨hN,h1⟩:=h;obtain⟨p,rfl,h2⟩:=aQ h1;obtain⟨j,rfl,h3⟩:=aQ h2;obtain⟨f,rfl,h4⟩:=a9 h3;refine br (a9 h4) fun t yy1 yz=>Kk yz fun d cs b ud vs XB bs CA lc JJ hv lb hb l1 l2 k=>?_;subst yy1;have sz:=szl;refine⟨_,(ae (aV 4 ND (aH (vR T) hr aq (fa1 (bK rfl (cl:=_) (x:="booking") (xs:=["booking"]) (fr:=["first"]) (ks:=[2]) (by walk_at "k") rfl (a7 K (aH (ka T) hr aq (fa2 (fv 1) (fv 3)))) (fun _ _ _ _ _=>(av (i:=0) (cQ (l:=["booking","first"]) (by decide)) rfl (Wi rfl))) (fun _ _ _ _ _=>(gB (bf dX (fv 1) (aK K (fv 0) ad)))) (fun _ _ _ _ _=>(fv 0))))))
  (ae (aV 5 ND (aH (lH T) hr aq (fa1 (fv 4))))
  (ae (aV 6 ND (aH (lH T) hr aq (fa1 (aH (yF T) hr aq (fa1 (fv 4))))))
  (af (aA (bK rfl (cl:=_) (x:="path") (xs:=["path"]) (fr:=["own","within"]) (ks:=[5,6]) (by walk_at "k") rfl (a7 K (zA (fv 0) T.bH (jB T) hr.mono aq)) (fun _ _ _ _ _=>(av (i:=0) (cQ (l:=["path","own","within"]) (by decide)) rfl (Wi rfl))) (fun _ _ _ _ _=>cO) (fun _ _ _ _ _=>(bU (fa3 (fv 0) (gg (Zz HU) (fv 1) (fv 0) (cw (FA.pa cr)) ⟨rfl,rfl,rfl,rfl⟩) (gg (Zz HU) (fv 2) (fv 0) (cw (FA.pa cr)) ⟨rfl,rfl,rfl,rfl⟩)))))))))),?_⟩
 walk_at "d";refine fM ?_;walk_at "d";refine⟨hN,b,ud,vs,XB,bs,JJ,hv,by lia,fun r1 ws1 H1 f1 g1 a1 s1 N1=>⟨⟨ws1,al g1⟩,?_⟩⟩;have lw1:=a1.len;have lf1:=Zj (fun b:Bo=>decide (b.d<=t)) bs;refine ceA (S:=BkAt) (fun G G' v b km h=>?_) r1 ws1 (bs.filter fun b=>decide (b.d<=t)) (BkAt H1) (fun b=>decide (f<=b.d)) id g1 N1 a1 (by lia) (fun v b0 mb rb G zs n1 n0 sG nG hz k1 k0=>?_) fun D2 ws2 H2 f2 s2 N2 g2 a2=>?_
 .obtain⟨q,t1,us,nt,e,h1,h2,h3⟩:=h
  exact⟨q,t1,us,nt,e,km _ _ h1,km _ _ h2,h3.imp fun _ _ _ _ r=>WY.mv _ _ _ _ km r⟩
 .refine xZ (id rb) fun q t1 us nt yy1 e1 e2 _=>?_;subst yy1
  obtain⟨z1,rfl⟩:=ex1 hz;have rb':=rb.keep (W:=[]) (bF sG) LW.nil;walk_at "d";refine⟨⟨[_],rfl,rfl⟩,_,_,.inr (aY (sG _ _ e1)),aI (j:=1) rfl,?_⟩;walk_at "d";by_cases hf:f<=b0.d
  .exact itp hf (k1 (We hf) _ _ (XA.refl _) nG rb')
  .exact itn hf (k0 (Wc hf) _ (XA.refl _) nG)
 .rw[Ye]at a2
  have e2:(bs.filter fun b=>decide (b.d<=t)).filter (fun b=>decide (f<=b.d))=btw f t bs:=rfl;rw[e2]at a2;have mB:∀x∈btw f t bs,x∈bs:=fun x m=>(Zf.mp (Zf.mp m).1).1;have lB:(btw f t bs).length<=bs.length:=r9 (Zj _ _) lf1;have lF:=j0 (bs:=btw f t bs) fun x m=>(hb x (mB x m)).1;walk_at "d";refine⟨N2,ws2,btw f t bs,g2,a2,by lia,fun x m=>(hb x (mB x m)).1,fun r3 ws3 H3 f3 g3 a3 s3 N3=>?_⟩;have e3:(btw f t bs).flatMap (·.rs)=dN (btw f t bs):=rfl;rw[e3]at a3;have lR:(dN (btw f t bs)).length<=70:=by rw[e3]at lF;lia
  have hL:∀r∈dN (btw f t bs),rwL r:=fun r m=>by
   obtain⟨x,mx,mr⟩:=YZ.mp m;exact(hb x (mB x mx)).2 r mr
  have lL:=nJ hL;refine⟨N3,ws3,dN (btw f t bs),g3,a3,by lia,l1,fun o1 d1 ks1 H4 po1 oo1 G1 s4 N4=>⟨N4,ws3,dN (btw f t bs),s4 _ _ g3,bh s4 a3,by lia,hL,fun r5 ws5 H5 f5 g5 a5 s5 N5=>⟨N5,ws5,dU (dN (btw f t bs)),g5,a5,by lia,l2,fun o2 d2 ks2 H6 po2 oo2 G2 s6 N6=>fM ?_⟩⟩⟩;have s06:=((((s1.trans s2).trans s3).trans s4).trans s5).trans s6;obtain⟨dx,hp⟩:=CA.ob;walk_at "d";refine⟨_,_,s06 _ _ hp,aW,N6,d,cs,CA.same s06,lc,fun out po oo q fq=>⟨⟨_,al aa⟩,?_⟩⟩;refine bq (bo (o:=HO.lst (out.map VZ)) fq N6 rfl) fun H7 e7 s7 g7 N7=>?_;rw[e7];have lo:=po.length_eq;rw[zm]at lo;refine uJ q (out.map VZ) (fun D i ys G=>XA H7 G/\WS G/\G D=some (.lst ys)/\H7 D=none/\ys.length<=i/\∃xs,RpI ks1 ks2 H7 G (res (dN (btw f t bs)) o1) (res (dU (dN (btw f t bs))) o2) D (out.take i) ys xs) (by rw[zm,tV];lia) (fun D hD=>⟨aj _ hD,aE N7 rfl,aa,hD,ym _,[],.nil,rfl,(fun x m=>nomatch m),(fun x m=>nomatch m),yE.mpr ⟨(fun m=>nomatch m),Zu⟩⟩) ?_ ?_ ?_
  .rintro D i ys G ⟨sG,nG,hD,fD,ly,xs,I⟩
   exact⟨hD,al (sG _ _ g7),ly⟩
  .rintro D i y ys G zs N1 N0 hy ⟨sG,nG,hD,fD,ly,xs,I⟩ hz n1 n0
   rw[Ws]at hy;obtain⟨l,hl,rfl⟩:=Zn.mp hy;obtain⟨z1,rfl⟩:=ex1 hz;walk_at "d";have s47:=(s5.trans s6).trans s7;have G1':=G1.same (s47.trans sG);have G2':=G2.same (s7.trans sG);refine⟨⟨[_],rfl,rfl⟩,.inl ⟨_,.inl G1'.dc⟩,rp _,fun q1 fq1=>?_⟩;refine bq (bo (o:=HO.lst []) fq1 nG rfl) fun G8 e8 s8 g8 N8=>?_;rw[e8];refine⟨_,DGet.k (k:=.inr ⟨⟨l⟩⟩) (s8 _ _ G1'.dc),.inl ⟨_,.inl (s8 _ _ G2'.dc)⟩,rp _,fun q2 fq2=>?_⟩;refine bq (bo (o:=HO.lst []) fq2 N8 rfl) fun G9 e9 s9 g9 N9=>?_;rw[e9];refine⟨_,DGet.k (k:=.inr ⟨⟨l⟩⟩) (s9 _ _ (s8 _ _ G2'.dc)),by walk_at "o",fun q3 fq3=>?_⟩;rw[ji,ji];have lns:l∉out.take i:=jz (po.nodup_iff.mpr CA.np) hl;obtain⟨co,eo,so,po',ho⟩:∃co,((fK ks1 l).map fun e=>V.ref e.2).getD (V.ref q1)=V.ref co/\((l,co)∈ks1\/(co=q1))/\(G9 co=none->False)/\∃us,G9 co=some (.lst us)/\A2 (WU G9) us (prs (res (dN (btw f t bs)) o1) l):=by
    cases ef:fK ks1 l with
    |none=>
     refine⟨q1,rfl,.inr rfl,(fun z=>by rw[s9 _ _ g8]at z;cases z),[],s9 _ _ g8,?_⟩;rw[nD fun r mr z=>mT ef ((show r.pa=l from z) ▸ G1.has r mr)];exact .nil
    |some e=>
     obtain⟨me,rfl⟩:=ow ef;obtain⟨us,h1,h2⟩:=G1'.ls e me;exact⟨e.2,rfl,.inl me,(fun z=>by rw[s9 _ _ (s8 _ _ h1)]at z;cases z),us,s9 _ _ (s8 _ _ h1),bJ (S:=[]) (bF (s8.trans s9)) LW.nil h2⟩
   obtain⟨ci,ei,si,pi',hi⟩:∃ci,((fK ks2 l).map fun e=>V.ref e.2).getD (V.ref q2)=V.ref ci/\((l,ci)∈ks2\/(ci=q2))/\(G9 ci=none->False)/\∃us,G9 ci=some (.lst us)/\A2 (WU G9) us (prs (res (dU (dN (btw f t bs))) o2) l):=by
    cases ef:fK ks2 l with
    |none=>
     refine⟨q2,rfl,.inr rfl,(fun z=>by rw[g9]at z;cases z),[],g9,?_⟩;rw[nD fun r mr z=>mT ef ((show r.pa=l from z) ▸ G2.has r mr)];exact .nil
    |some e=>
     obtain⟨me,rfl⟩:=ow ef;obtain⟨us,h1,h2⟩:=G2'.ls e me;exact⟨e.2,rfl,.inl me,(fun z=>by rw[s9 _ _ (s8 _ _ h1)]at z;cases z),us,s9 _ _ (s8 _ _ h1),bJ (S:=[]) (bF (s8.trans s9)) LW.nil h2⟩
   rw[eo,ei];refine bq (bo (o:=HO.tup [VZ l,V.ref co,V.ref ci]) fq3 N9 rfl) fun G10 e10 s10 g10 N10=>?_;rw[e10];have sGA:=(s8.trans s9).trans s10;refine bq (iX (p:=D) (o:=HO.lst (ys++[V.ref q3])) N10 rfl) fun G11 e11 g11 k11 N11=>?_;refine n1 _ _ (sGA _ _ hD) ?_;rw[e11];have k1s:∀ {l' c},(l',c)∈ks1->∃us,H4 c=some (.lst us):=fun m=>let ⟨us,h,_⟩:=G1.ls _ m;⟨us,h⟩;have k2s:∀ {l' c},(l',c)∈ks2->H5 c=none/\∃us,H6 c=some (.lst us):=fun {l' c} m=>⟨G2.fr _ (.tail _ (xW (f:=(·.2)) m)),let ⟨us,h,_⟩:=G2.ls _ m;⟨us,h⟩⟩;have a12:∀ {l1 l2 c},(l1,c)∈ks1->(l2,c)∈ks2->False:=fun m1 m2=>by
    obtain⟨us,h⟩:=k1s m1;have:=(k2s m2).1;rw[s5 _ _ h]at this;cases this
   have i1:∀ {l' c},(l',c)∈ks1->∃us,H7 c=some (.lst us):=fun m=>let ⟨us,h⟩:=k1s m;⟨us,s47 _ _ h⟩;have i2:∀ {l' c},(l',c)∈ks2->∃us,H7 c=some (.lst us):=fun m=>let ⟨us,h⟩:=(k2s m).2;⟨us,s7 _ _ h⟩;have ho1:co∉D::adR xs:=fun m=>by
    obtain so|rfl:=so
    .obtain⟨us,h7⟩:=i1 so
     obtain m|m:=zk.mp m
     .rw[<- m,h7]at fD;cases fD
     .obtain m|m:=yf.mp m
      .obtain⟨x,mx,e⟩:=yI.mp m
       obtain z|z:=I.so x mx
       .have:=uq (yE.mp G1.na).2 so z e.symm
        cases this;exact lns (by rw[<- I.l];exact xW mx)
       .rw[e,h7]at z;cases z
      .obtain⟨x,mx,e⟩:=yI.mp m
       obtain z|z:=I.si x mx
       .rw[e]at z;exact a12 so z
       .rw[e,h7]at z;cases z
    .obtain m|m:=zk.mp m
     .rw[m,hD]at fq1;cases fq1
     .obtain⟨us,h⟩:=I.lst m
      rw[h]at fq1;cases fq1
   have hi1:ci∉D::adR xs:=fun m=>by
    obtain si|rfl:=si
    .obtain⟨us,h7⟩:=i2 si
     obtain m|m:=zk.mp m
     .rw[<- m,h7]at fD;cases fD
     .obtain m|m:=yf.mp m
      .obtain⟨x,mx,e⟩:=yI.mp m
       obtain z|z:=I.so x mx
       .rw[e]at z;exact a12 z si
       .rw[e,h7]at z;cases z
      .obtain⟨x,mx,e⟩:=yI.mp m
       obtain z|z:=I.si x mx
       .have:=uq (yE.mp G2.na).2 si z e.symm
        cases this;exact lns (by rw[<- I.l];exact xW mx)
       .rw[e,h7]at z;cases z
    .obtain m|m:=zk.mp m
     .rw[m,s8 _ _ hD]at fq2;cases fq2
     .obtain⟨us,h⟩:=I.lst m
      rw[s8 _ _ h]at fq2;cases fq2
   have oi:co≠ci:=fun z=>by
    obtain so|rfl:=so
    .obtain⟨us,h7⟩:=i1 so
     obtain si|rfl:=si
     .rw[<- z]at si;exact a12 so si
     .rw[<- z,s8 _ _ (sG _ _ h7)]at fq2;cases fq2
    .obtain si|rfl:=si
     .obtain⟨us,h7⟩:=i2 si
      rw[z,sG _ _ h7]at fq1;cases fq1
     .rw[<- z,g8]at fq2;cases fq2
   have fo:(l,co)∈ks1\/H7 co=none:=so.imp_right fun e=>by rw[e];exact sG.free fq1
   have fi:(l,ci)∈ks2\/H7 ci=none:=si.imp_right fun e=>by rw[e];exact(sG.trans s8).free fq2
   have st:=I.step (x:=⟨l,co,ci⟩) (v:=V.ref q3) sGA (sGA _ _ hD) k11 ⟨q3,rfl,g10,(let ⟨us,h1,h2⟩:=ho;⟨us,s10 _ _ h1,bJ (S:=[]) (bF s10) LW.nil h2⟩),(let ⟨us,h1,h2⟩:=hi;⟨us,s10 _ _ h1,bJ (S:=[]) (bF s10) LW.nil h2⟩)⟩ fo fi ho1 hi1 oi;rw[<- bR hl]at st;exact⟨(fun c z e=>k11 _ _ (sGA _ _ (sG _ _ e)) fun m=>by rw[zw.mp m,fD]at e;cases e),N11,g11,fD,by rw[zc,wa];lia,_,st⟩
  .rintro D ys G ⟨sG,nG,hD,fD,ly,xs,I⟩
   rw[zm,Zx]at I;have s07:=s06.trans s7;refine k out o1 o2 D ys xs G po oo po1 oo1 po2 oo2 (s07.free fD) hD I.a I.l I.nd (fun c m=>?_) (s07.trans sG) nG;obtain m|m:=yf.mp m
   .obtain⟨x,mx,rfl⟩:=yI.mp m
    obtain e|e:=I.so x mx
    .exact((s1.trans s2).trans s3).free (G1.fr _ (.tail _ (xW (f:=(·.2)) e)))
    .exact s07.free e
   .obtain⟨x,mx,rfl⟩:=yI.mp m
    obtain e|e:=I.si x mx
    .exact((((s1.trans s2).trans s3).trans s4).trans s5).free (G2.fr _ (.tail _ (xW (f:=(·.2)) e)))
    .exact s07.free e
def sp_zm:Sp:=sp1 fun x H Q _=>WS H/\asI x fun c=>(0<=c/\c<2147483647)/\∀i:Int,i≠0->i.natAbs<=100000000000000->Q (.int i) H
def oX(T:Txt K mg a):Fo P w K mg base "_law_amount" 1 sp_zm:=by
 refine T.pi.hg ["_law_cell","_law_some"] (gG1 fun x0 fA XD A XF s H Q E ND HU hr h=>?_);obtain⟨hN,h1⟩:=h;obtain⟨c,rfl,hc,q⟩:=a9 h1;have fin:∀s:Int,1<=s->s<=100000000000000->Q (.int (s*(1-2*(c / 3 % 2)))) H:=fun s a b=>by
  have h2:c / 3 % 2=0\/c / 3 % 2=1:=by lia
  obtain e|e:=h2 <;> rw[e] <;> refine q _ ?_ ?_ <;> lia
 have z:-18446744073709551616<1-2*(c / 3 % 2)/\1-2*(c / 3 % 2)<18446744073709551616:=by lia
 have y:Int.natAbs 10<18446744073709551616:=by decide
 have e:(10:Int) ^ Int.toNat 14=100000000000000:=by decide
 refine⟨hN,_,(ae (aV 1 ND (ah aT ad (ah ba (ah a8 (fv 0) ad) ad)))
  (ae (bc (bf (cY K HU) (ah ba (fv 0) ad) ad) (af (aV 1 ND (ah aT ad (ah ba (ah dt (fv 0) (fv 0)) (ah rA ad ad))))) aJ)
  (ae (bc (bf (cY K HU) (ah ba (fv 0) ad) ad) (af (aV 1 ND (ah fh (ah rA ad ad) (ah ba (ah a8 (fv 0) ad) ad)))) aJ)
  (af (aA (ah dt (fv 1) (ah fh ad (ah dt ad (ah ba (ah a8 (fv 0) ad) ad))))))))),?_⟩
 walk_at "d";rw[e];split
 .refine⟨.inl (by lia),y,by decide,?_⟩
  split
  .exact⟨y,.inr z,fin _ (by lia) (by lia)⟩
  .exact⟨.inr z,fin _ (by have:=ZH (c*c) (b:=100000000000000) (by decide);lia) (by have:=ZN (c*c) (b:=100000000000000) (by decide);lia)⟩
 .split
  .exact⟨y,.inr z,fin _ (by lia) (by lia)⟩
  .exact⟨.inr z,fin _ (by lia) (by lia)⟩
def zd(xs:List V)(h:0<xs.length):ko xs none (some (-1))=xs.dropLast:=by
 unfold ko;have e:HT.sIx xs.length xs.length (some (-1))=xs.length-1:=by unfold HT.sIx;simp;lia
 rw[HT.sIx_none,e,List.drop_zero,Nat.sub_zero,List.dropLast_eq_take]
def sp_F9:Sp:=sp1 fun x H Q _=>WS H/\asT x fun l=>((∀c∈l,c<128)/\l.length<=199)/\Q (VZ (cf [58] (spN 58 l).dropLast)) H
def i6(T:Txt K mg a):Fo P w K mg base "_law_right_above" 1 sp_F9:=by
 refine T.ju.hg ["_law_path","_law_names_here"] (gG1 fun x0 fA XD A XF s H Q E ND HU hr h=>?_);obtain⟨hN,h1⟩:=h;obtain⟨l,rfl,hl,q⟩:=bX h1;have sz:=szl;have sl:=jG 58 l;have s0:0<(spN 58 l).length:=XZ.mpr (iE 58 l);refine⟨hN,_,(ae (aV 1 ND (bY K Zh Y7 Y6 j3 (fv 0) (fa1 (ak [58]))))
  (af (aA (bY K Zh PySem.F.slot_str_join PySem.F.type_str_join (oq K) (ak [58]) (fa1 (fL (uL K) (fv 1) gR (gS (nX jk ad)))))))),?_⟩
 walk_at "d";refine⟨by walk_at "o",fun p hp=>⟨p,_,rfl,al aa,fun q1 hq1=>⟨(spN 58 l).dropLast,al (by rw[aa,zd _ (by rw[zm];exact s0),List.map_dropLast]),tW (fun x hx=>?_) (by rw[List.length_dropLast];lia),H,Gc.none ((aj _ hp).trans (aj _ hq1)),q⟩⟩⟩;have:=(iT 58 l x (List.dropLast_subset _ hx)).1;lia
abbrev Pr:=List Nat × Int
noncomputable def psm(cs:List Pr)(c:List Nat):Int:=((cs.filter fun x=>decide (x.1=c)).map (·.2)).sum
def tE(cs:List Pr)(x:Pr)(c:List Nat):psm (cs++[x]) c=psm cs c+if x.1=c then x.2 else 0:=by
 unfold psm;rw[Zp,yB,List.sum_append];by_cases h:x.1=c
 .rw[tR (by simpa using h),Wf h];simp
 .rw[tK (by simpa using h),Wg h];simp
noncomputable def kyI(e:Pr):Key × V:=(.inr ⟨⟨e.1⟩⟩,.int e.2)
structure DI(cs d:List Pr):Prop where
 nd:(d.map (·.1)).Nodup
 has:∀x∈cs,x.1∈d.map (·.1)
 of:∀c∈d.map (·.1),∃x∈cs,x.1=c
 sm:∀e∈d,e.2=psm cs e.1
noncomputable def fI(d:List Pr)(c:List Nat):Option Pr:=d.find? fun e=>decide (e.1=c)
theorem ou(c:List Nat):∀d:List Pr,bw (d.map kyI) (.inr ⟨⟨c⟩⟩)=(fI d c).map fun e=>.int e.2
 | []=>rfl
 |e::r=>by
  have ih:=ou c r;by_cases h:e.1=c
  .rw[xY,b8 (by show Sum.inr _=Sum.inr _;rw[h])]
   simp[fI,h,kyI]
  .rw[xY,bZ (fun z=>h (by simpa [kyI] using z)),ih]
   simp[fI,h]
def BJ{d:List Pr}{c:List Nat}{e:Pr}(h:fI d c=some e):e∈d/\e.1=c:=⟨List.mem_of_find?_eq_some h,by simpa using List.find?_some h⟩
def xt{d:List Pr}{c:List Nat}(h:fI d c=none):c∉d.map (·.1):=fun m=>by
 obtain⟨e,me,ee⟩:=yI.mp m;exact Wa (Wo.mp h e me) (by simpa using ee)
def t6{cs:List Pr}{c:List Nat}(h:∀x∈cs,x.1≠c):psm cs c=0:=by
 unfold psm;rw[Yi.mpr fun r m=>by simpa using h r m];rfl
def DI.step{cs d:List Pr}(D:DI cs d)(x:Pr):∃d',bi (d.map kyI) (.inr ⟨⟨x.1⟩⟩) (.int (((fI d x.1).map (·.2)).getD 0+x.2))=d'.map kyI/\DI (cs++[x]) d'/\d'.length<=d.length+1:=by
 cases ef:fI d x.1 with
 |none=>
  have nk:=xt ef;have vn:bw (d.map kyI) (.inr ⟨⟨x.1⟩⟩)=none:=by rw[ou,ef];rfl
  refine⟨d++[(x.1,x.2)],by rw[iB _ vn,yB];simp[kyI],⟨?_,fun z m=>?_,fun c m=>?_,fun e m=>?_⟩,by rw[zc];exact ym _⟩
  .rw[yB,xY,ZR]
   exact ZW.mpr ⟨D.nd,yE.mpr ⟨(fun m=>nomatch m),Zu⟩,fun u mu y my z=>nk ((show u=x.1 from z.trans (zw.mp my)) ▸ mu)⟩
  .rw[yB]
   obtain m|m:=yf.mp m
   .exact uj _ (D.has z m)
   .rw[zw.mp m];exact uD _ (.head _)
  .rw[yB]at m
   obtain m|m:=yf.mp m
   .obtain⟨y,my,e⟩:=D.of c m
    exact⟨y,uj _ my,e⟩
   .exact⟨x,uD _ (.head _),(zw.mp m).symm⟩
  .rw[tE]
   obtain m|m:=yf.mp m
   .rw[Wg fun z=>nk (by rw[z];exact xW m),ZQ];exact D.sm e m
   .rw[zw.mp m,Wf rfl,t6 fun y my z=>nk ((show y.1=x.1 from z) ▸ D.has y my),Yj]
 |some e0=>
  obtain⟨m0,e0x⟩:=BJ ef;have ek:(d.map fun e=>if e.1=x.1 then (e.1,e.2+x.2) else e).map (·.1)=d.map (·.1):=by
   rw[uR];exact lW fun e _=>by show(if e.1=x.1 then (e.1,e.2+x.2) else e).1=e.1;split <;> rfl
  refine⟨d.map fun e=>if e.1=x.1 then (e.1,e.2+x.2) else e,?_,⟨?_,fun z m=>?_,fun c m=>?_,fun e m=>?_⟩,by rw[zm];exact Xm _⟩
  .unfold bi
   rw[Wf (by rw[fF,ou,ef];rfl),uR,uR];refine lW fun e me=>?_;show(if (Sum.inr ⟨⟨e.1⟩⟩:Key) = .inr ⟨⟨x.1⟩⟩ then ((Sum.inr ⟨⟨e.1⟩⟩:Key),V.int (e0.2+x.2)) else kyI e)=kyI (if e.1=x.1 then (e.1,e.2+x.2) else e);by_cases h:e.1=x.1
   .have:e=e0:=uq D.nd me m0 (h.trans e0x.symm)
    subst this;rw[Wf (by rw[h]),Wf h];rfl
   .rw[Wg (fun z=>h (by simpa using z)),Wg h]
  .rw[ek];exact D.nd
  .rw[ek]
   obtain m|m:=yf.mp m
   .exact D.has z m
   .rw[zw.mp m,<- e0x];exact xW m0
  .rw[ek]at m
   obtain⟨y,my,e⟩:=D.of c m;exact⟨y,uj _ my,e⟩
  .obtain⟨e',me,rfl⟩:=yI.mp m
   rw[tE];by_cases h:e'.1=x.1
   .rw[Wf h,Wf h.symm];exact Wb (· + x.2) (D.sm e' me)
   .rw[Wg h,Wg fun z=>h z.symm,ZQ];exact D.sm e' me
noncomputable def tog(cs:List Pr)(out:List (List Nat)):List Pr:=(out.filter fun c=>decide (psm cs c≠0)).map fun c=>(c,psm cs c)
theorem Fl:∀out:List (List Nat),A2 (fun(v:V) c=>v=VZ c) (out.map VZ) out
 | []=>.nil
 |c::r=>.cons rfl (Fl r)
def WU.mv(G G':Hp)(v:V)(c:Pr)(k:∀t l,G t=some (.tup l)->G' t=some (.tup l))(h:WU G v c):WU G' v c:=by
 obtain⟨q,e,h⟩:=h;exact⟨q,e,k _ _ h⟩
def sp_GQ(K:Wz):Sp:=sp1 fun x H Q _=>WS H/\asR x fun p=>∃vs cs,H p=some (.lst vs)/\A2 (WU H) vs cs/\cs.length<=500/\(∀d,DI cs d->d.length<64) /\
 ∀out r ws H',out.Nodup->(∀c,c∈out↔∃x∈cs,x.1=c)->InO out->H r=none->H' r=some (.lst ws)->A2 (WU H') ws (tog cs out)->XA H H'->WS H'->Q (.ref r) H'
def d7(T:Txt K mg a):Fo P w K mg base "_law_together" 1 (sp_GQ K):=by
 refine T.mw.hx ["_law_pairs","_law_found","_law_currency","_law_amount_here"] (gX1 fun x0 fA XD A XF s H Q E ND HU hr h=>?_);obtain⟨hN,h1⟩:=h;refine br (aQ h1) fun p yy1 yz=>vk yz fun vs cs hp ha len l64 k=>?_;subst yy1;have sz:=szl;refine⟨_,(ae (aV 1 ND gH)
  (ae (b7 (by passes_own) rfl (a7 K (fv 0)) (cN K (n:=2) rfl (aO (av (i:=2) ND rfl (Wi rfl)) (aO (av (i:=3) ND rfl (Wi rfl)) cL))) (af (cE (Zz HU) (fv 1) (fv 2) (ah aT (gg (Zz HU) (fv 1) (fv 2) ad ⟨rfl,rfl,rfl,rfl⟩) (fv 3)) rfl)))
  (af (aA (bK rfl (cl:=_) (x:="_law_currency") (xs:=["_law_currency"]) (fr:=["_law_found"]) (ks:=[1]) (by walk_at "k") rfl (a7 K (aB (tF rfl) rfl T.iA gh (fa1 (fv 1)))) (fun _ _ _ _ _=>(av (i:=0) (cQ (l:=["_law_currency","_law_found"]) (by decide)) rfl (Wi rfl))) (fun _ _ _ _ _=>(gB (bf (dw K HU) (aP (Zz HU) (fv 1) (fv 0) (fun _ _=>rfl)) ad))) (fun _ _ _ _ _=>(bU (fa2 (fv 0) (aP (Zz HU) (fv 1) (fv 0) (fun _ _=>rfl)))))))))),?_⟩
 walk_at "z";intro d fd;refine bq (bo (o:=HO.dK []) fd hN rfl) fun H1 e1 s1 g1 N1=>?_;rw[e1];refine b9 ?_;walk_at "z";refine cn (al (s1 _ _ hp)) (cq (xs:=vs) (fun i σ' (G:Hp)=>WZ [d] H1 G/\WS G/\∃es x2 x3,es.length<=i/\DI (cs.take i) es/\G d=some (.dK (es.map kyI))/\σ'=[some (.ref p),some (.ref d),x2,x3]) ⟨WZ.refl,N1,[],none,none,rp _,⟨Zu,fun x m=>(by rw[List.take_zero]at m;cases m),(fun c m=>nomatch m),(fun e m=>nomatch m)⟩,g1,rfl⟩ (fun i σ' G _ h=>?_) ?_ ?_)
 .exact al (h.1 _ _ (s1 _ _ hp) fun m=>by rw[zw.mp m,fd]at hp;cases hp)
 .rintro i x σ' G hx ⟨kp,nG,es,x2,x3,le,DD,gd,rfl⟩
  refine br (ha.at_ hx) fun c0 hc0 yz=>br yz fun q yy1 hq=>?_;subst yy1;have hq':=kp _ _ (s1 _ _ hq) fun m=>by rw[zw.mp m,fd]at hq;cases hq
  have li:i<cs.length:=(Wu.mp hc0).1;walk_at "d";refine⟨q,_,rfl,aY hq',rfl,_,_,rfl,_,_,rfl,rfl,.inl ⟨_,.inl gd⟩,_,DGet.k (k:=.inr ⟨⟨c0.1⟩⟩) gd,?_⟩;rw[ou];have eg:((fI es c0.1).map fun e=>V.int e.2).getD (V.int 0)=V.int (((fI es c0.1).map (·.2)).getD 0):=by cases fI es c0.1 <;> rfl
  rw[eg];walk_at "z";refine h_ (DD.step c0) fun d' ep DD' ld=>?_;exact⟨d,_,rfl,DPut.k (k:=.inr ⟨⟨c0.1⟩⟩) gd (by rw[zm,tV];lia),kp.put (.head _),aE nG rfl,d',_,_,by lia,by rw[bR hc0];exact DD',by rw[aa,ep],rfl,rfl⟩
 .rintro σ' G ⟨kp,nG,es,x2,x3,le,DD,gd,rfl⟩
  rw[ha.len,Zx]at DD;have l6:=l64 es DD;walk_at "z";refine fM ?_;walk_at "d";have sHG:XA H G:=fun c z e=>kp _ _ (s1 _ _ e) fun m=>by rw[zw.mp m,fd]at e;cases e
  refine⟨_,es.map (·.1),gd,by rw[uR,uR];rfl,by rw[zm];exact l6,fun out po oo l fl=>⟨⟨_,al aa⟩,?_⟩⟩;refine bq (bo (o:=HO.lst (out.map VZ)) fl nG rfl) fun G1 e2 s2 g2 N2=>?_;rw[e2];have lo:=po.length_eq;rw[zm]at lo;refine ceA (S:=WU) WU.mv l (out.map VZ) out (fun v c=>v=VZ c) (fun c=>decide (psm cs c≠0)) (fun c=>(c,psm cs c)) g2 N2 (Fl out) (by rw[zm];lia) (fun v c mc rb G3 zs n1 n0 s3 N3 hz k1 k0=>?_) fun D2 ws2 G3 f2 s3 N3 g3 a3=>?_
  .subst rb
   obtain⟨z1,rfl⟩:=ex1 hz;have g3d:=s3 _ _ (s2 _ _ gd);obtain⟨e,me,ee⟩:=yI.mp (po.mem_iff.mp mc);have dg:=DGet.k (k:=.inr ⟨⟨c⟩⟩) g3d;rw[ou]at dg;have fe:fI es c=some e:=by
    cases ef:fI es c with
    |none=>exact Wa (yI.mpr ⟨e,me,ee⟩) (xt ef)
    |some e'=>
     obtain⟨m',e1'⟩:=BJ ef;rw[uq DD.nd m' me (e1'.trans ee.symm)]
   rw[fe]at dg;have dg:DGet G3 d (VZ c) (some (.int e.2)):=dg;have es':e.2=psm cs c:=by rw[<- ee];exact DD.sm e me
   walk_at "z";refine⟨⟨[_],rfl,rfl⟩,d,_,rfl,dg,?_⟩;show jw K true (.int e.2) (.int 0) G3 _;walk_at "d";rw[es']at dg |-
   by_cases h0:psm cs c=0
   .exact itp h0 (k0 (by simpa using h0) _ (XA.refl _) N3)
   .refine itn h0 ⟨d,_,rfl,dg,by walk_at "o",fun p1 fp1=>k1 (by simpa using h0) _ _ (aj _ fp1) (aE N3 rfl) ⟨p1,rfl,aa⟩⟩
  .exact k out D2 ws2 G3 (po.nodup_iff.mpr DD.nd) (fun c=>⟨fun m=>DD.of c (po.mem_iff.mp m),fun⟨x,mx,ex⟩=>po.mem_iff.mpr (ex ▸ DD.has x mx)⟩) oo (sHG.free (s2.free f2)) g3 a3 (sHG.trans (s2.trans s3)) N3
abbrev Hd:=List Nat × Option (List Nat)
noncomputable def cuH:Option (List Nat)->V
 |none=>.non
 |some c=>VZ c
noncomputable def kyH(e:Hd):Key × V:=(.inr ⟨⟨e.1⟩⟩,cuH e.2)
structure HdOk(cu ps:List (List Nat))(hs:List Hd):Prop where
 pa:hs.map (·.1)=ps
 cu:∀e∈hs,∀c,e.2=some c->c∈cu/\58∈e.1
theorem AL{α:Type}{f:α->Key × V}{k:Key}:∀ {hs:List α},(∀e∈hs,(f e).1≠k)->bw (hs.map f) k=none
 | [],_=>rfl
 |e::r,h=>by rw[xY,bZ (h e (.head _))];exact AL fun x m=>h x (.tail _ m)
def Ar{A:List (Key × V)}{k:Key}{v0 v:V}(h:∀e∈A,e.1≠k):bi (A++[(k,v0)]) k v=A++[(k,v)]:=by
 unfold bi;rw[Wf (by rw[List.any_append];simp),yB]
 congr 1
 .exact(lW fun e m=>Wg (h e m)).trans (Ye _)
 .simp
def HdOk.snoc{cu ps:List (List Nat)}{hs:List Hd}{l:List Nat}{o:Option (List Nat)}(h:HdOk cu ps hs)(ho:∀c,o=some c->c∈cu/\58∈l):HdOk cu (ps++[l]) (hs++[(l,o)]):=
 ⟨by rw[yB,h.pa];rfl,fun e m=>by
  obtain m|m:=yf.mp m
  .exact h.cu e m
  .rw[zw.mp m];exact ho⟩
def sp_z_(K:Wz):Sp:=sp3 fun x y z H Q _=>WS H/\asR x fun p=>asR y fun q=>asI z fun c=>∃ps cu:List (List Nat),H p=some (.lst (ps.map VZ))/\H q=some (.lst (cu.map VZ))/\ps.Nodup/\ps.length<=20/\(∀l∈ps,l.length<=100)/\cu.length=3 /\
 ∀d hs H',H d=none->H' d=some (.dK (hs.map kyH))->HdOk cu ps hs->XA H H'->WS H'->Q (.ref d) H'
def o0(T:Txt K mg a):Fo P w K mg base "_law_holds" 2 (sp_z_ K):=by
 refine T.qN.hx ["_law_paths_here","_law_currencies_here","_law_cell","_law_found","_law_k","_law_path"] (gX3 fun x0 x1 x2 fA XD A XF s H Q E ND HU hr h=>?_);obtain⟨hN,h1⟩:=h;obtain⟨p,rfl,h2⟩:=aQ h1;obtain⟨q,rfl,h3⟩:=aQ h2;obtain⟨c,rfl,ps,cu,hp,hq,nd,lp,l1,lc,k⟩:=a9 h3;have sz:=szl;refine⟨_,(ae (aV 3 ND gH)
  (ae (b7 (by passes_own) rfl (xM K rfl T.lE (fa1 (fv 0))) (cN K (n:=2) rfl (aO (av (i:=4) ND rfl (Wi rfl)) (aO (av (i:=5) ND rfl (Wi rfl)) cL))) (ae (cE (Zz HU) (fv 3) (fv 5) ky rfl)
  (af (bc (L2.PW.pt (nh (oU EM (ak [58]) (fv 5) (by with_unfolding_all rfl)) (jy (bf (cY K HU) (ah ba (aH (bM T) hr aq (fa2 (fv 2) (fv 4))) ad) ad)))) (af (cE (Zz HU) (fv 3) (fv 5) (aK K (fv 1) (ah ba (ah a8 (aH (bM T) hr aq (fa2 (fv 2) (fv 4))) ad) ad)) rfl)) aJ))))
  (af (aA (fv 3))))),?_⟩
 walk_at "z";intro d fd;refine bq (bo (o:=HO.dK []) fd hN rfl) fun H1 e1 s1 g1 N1=>?_;rw[e1];refine wX ?_;walk_at "d";refine⟨⟨_,al (s1 _ _ hp)⟩,xq (xs:=ps.map VZ) (fun i σ' (G:Hp)=>WZ [d] H1 G/\WS G/\∃hs x4 x5,HdOk cu (ps.take i) hs/\G d=some (.dK (hs.map kyH))/\σ'=[some (.ref p),some (.ref q),some (.int c),some (.ref d),x4,x5]) ⟨WZ.refl,N1,[],none,none,⟨rfl,fun _ m=>nomatch m⟩,g1,rfl⟩ (fun i σ' G _ h=>?_) ?_ ?_⟩
 .exact al (h.1 _ _ (s1 _ _ hp) fun m=>by rw[zw.mp m,fd]at hp;cases hp)
 .rintro i y σ' G r hy hr ⟨kp,nG,hs,x4,x5,HO_,gd,rfl⟩
  rw[Ws]at hy;refine br (Zn.mp hy) fun l hl yy1=>?_;subst yy1;have ml:=wt hl;have li:i<ps.length:=(Wu.mp hl).1;have lh:hs.length<=i:=by rw[<- zm (f:=(·.1)),HO_.pa,qF];lia
  have nk:∀e∈hs,(kyH e).1 ≠ .inr ⟨⟨l⟩⟩:=fun e m z=>jz nd hl (by
   rw[<- HO_.pa];have:e.1=l:=by simpa [kyH] using z
   rw[<- this];exact xW m)
  have nk':∀e∈hs.map kyH,e.1≠(.inr ⟨⟨l⟩⟩:Key):=fun e m=>by
   obtain⟨x,mx,rfl⟩:=yI.mp m;exact nk x mx
  refine bq (bo (o:=HO.tup [V.int i,VZ l]) hr nG rfl) fun G2 e2 s2 g2 N2=>?_;rw[e2];walk_at "z";refine⟨r,_,rfl,aY g2,rfl,_,_,rfl,_,_,rfl,rfl,d,_,rfl,DPut.k (k:=.inr ⟨⟨l⟩⟩) (s2 _ _ gd) (by rw[zm,tV];lia),?_⟩;refine bq (iX (p:=d) (o:=HO.dK (bi (hs.map kyH) (.inr ⟨⟨l⟩⟩) V.non)) N2 rfl) fun G3 e3 g3 k3 N3=>?_;rw[e3];rw[iB _ (AL nk)]at g3;have kp3:=(kp.trans (bF s2)).trans k3;have none_:WZ [d] H1 G3/\WS G3/\∃hs x4 x5,HdOk cu (ps.take (i+1)) hs/\G3 d=some (.dK (hs.map kyH))/\some (V.int i)=x4/\some (VZ l)=x5:=
   ⟨kp3,N3,hs++[(l,none)],_,_,by rw[bR hl];exact HO_.snoc (fun _ z=>nomatch z),by rw[g3,yB];rfl,rfl,rfl⟩
  show gIn false (VZ [58]) (VZ l) G3 _;walk_at "d";by_cases h58:58∈l
  .refine itp (We h58) ⟨N3,⟨by lia,by lia⟩,?_⟩
   by_cases hm:MX c i % 4=1
   .refine br (CM (cu:=cu) (MX c i / 4) lc) fun u mu eu=>?_
    have hq3:G3 q=some (.lst (cu.map VZ)):=kp3 _ _ (s1 _ _ hq) fun m=>by rw[zw.mp m,fd]at hq;cases hq
    refine itp hm ⟨N3,⟨by lia,by lia⟩,_,_,.inl (al hq3),eu,d,_,rfl,DPut.k (k:=.inr ⟨⟨l⟩⟩) g3 (by rw[zc,zm,wa,tV];lia),kp3.put (.head _),aE N3 rfl,hs++[(l,some u)],_,_,by rw[bR hl];exact HO_.snoc (fun c z=>by cases z;exact⟨mu,h58⟩),?_,rfl,rfl⟩;rw[aa,Ar nk',yB];rfl
   .exact itn hm none_
  .exact itn (fun z=>h58 (of_decide_eq_true z)) none_
 .rintro σ' G ⟨kp,nG,hs,x4,x5,HO_,gd,rfl⟩
  rw[zm,Zx]at HO_;walk_at "z";exact k d hs G fd gd HO_ (fun c z e=>kp _ _ (s1 _ _ e) fun m=>by rw[zw.mp m,fd]at e;cases e) nG
def WZ.toSame{S:List WN}{H H1 H2:Hp}(s:XA H H1)(x:WZ S H1 H2)(f:∀c∈S,H c=none):XA H H2:=fun c z e=>x c z (s c z e) fun m=>by
 rw[f c m]at e;cases e
namespace Pths
variable{c:Int}{ps:List (List Nat)}
def nd(h:Pths c ps):ps.Nodup:=by
 induction h with
 |two=>exact yE.mpr ⟨by simpa using GG c,by simp⟩
 |more _ _ hn _ ih=>exact d8 ih hn
def up(h:Pths c ps):∀i p,ps[i]? = some p->(58∉p/\∃k,p=nms c k)\/∃u k,p=u++58::nms c k/\u∈ps.take i:=by
 induction h with
 |two=>
  intro i p hp
  match i with
  |0=>cases hp;exact .inl ⟨c8 c 0,0,rfl⟩
  |1=>cases hp;exact .inl ⟨c8 c 6,6,rfl⟩
  |i+2=>simp at hp
 | @more ps u k _ hu hn _ ih=>
  intro i p hp;obtain lt|ge:=Yu i ps.length
  .rw[Wq lt]at hp
   obtain h|⟨u',k',e,m⟩:=ih i p hp
   .exact .inl h
   .exact .inr ⟨u',k',e,by rw[List.take_append_of_le_length (ZK lt)];exact m⟩
  .have:i=ps.length:=by
    have:=(Wu.mp hp).1;simp at this;lia
   subst this;rw[Wp]at hp;cases hp;exact .inr ⟨u,k,rfl,by rw[List.take_left'];exact hu;rfl⟩
def cut{u n u' n':List Nat}(hn:58∉n)(hn':58∉n')(e:u++58::n=u'++58::n'):u=u'/\n=n':=by
 have h:=Wb (spN 58) e;rw[gJ hn,gJ hn']at h;obtain⟨h1,h2⟩:=List.append_inj' h rfl;have:=Wb (cf [58]) h1;rw[fX,fX]at this;exact⟨this,by simpa using h2⟩
def beneath(h:Pths c ps){u n:List Nat}(hn:58∉n)(m:u++58::n∈ps):u∈ps/\∃k,n=nms c k:=by
 obtain⟨i,hi⟩:=List.getElem?_of_mem m;obtain⟨h1,_⟩|⟨u',k,e,m'⟩:=K18.Pths.up h i _ hi
 .exact Wa (by simp) h1
 .obtain⟨rfl,rfl⟩:=cut hn (c8 c k) e
  exact⟨ZA m',k,rfl⟩
def last(h:Pths c ps){n:List Nat}(hn:58∉n){l:List Nat}(hl:ps.getLast? = some l):l++58::n∉ps:=by
 cases h with
 |two=>
  intro m;simp at hl;subst hl;simp only[zk,vO,or_false]at m;obtain m|m:=m
  .exact c8 c 0 (by rw[<- m];simp)
  .exact c8 c 6 (by rw[<- m];simp)
 | @more ps u k h hu hw _=>
  rw[List.getLast?_concat]at hl;cases hl;intro m;obtain m|m:=yf.mp m
  .exact hw (K18.Pths.beneath h hn m).1
  .have:=Wb ZT (zw.mp m)
   simp at this
def head(h:Pths c ps):ps[0]? = some (nms c 0):=by
 induction h with
 |two=>rfl
 | @more ps u k h _ _ _ ih=>rw[Wq (by have:=(Wu.mp ih).1;lia)];exact ih
end Pths
structure CG(hs:List Hd)(cs:List Acc)(ps:List (List Nat)):Prop where
 pa:cs.map (·.pa)=ps
 st:∀c∈cs,c.un=none/\c.fi=0/\c.be.length<=cs.length
 cu:∀c∈cs,∃o,(c.pa,o)∈hs/\c.cu=cuH o
 be:∀c∈cs,∀b∈c.be,b∈ps/\∃n,58∉n/\b=c.pa++58::n
def CG.top{hs:List Hd}{cs:List Acc}{ps:List (List Nat)}{l:List Nat}{z:Acc}{o:Option (List Nat)}(h:CG hs cs ps)(e1:z.pa=l)(e2:z.fi=0)(e3:z.un=none)(e4:z.be=[])(e5:(l,o)∈hs)(e6:z.cu=cuH o):CG hs (cs++[z]) (ps++[l]):=by
 refine⟨by rw[yB,h.pa,<- e1];rfl,fun y m=>?_,fun y m=>?_,fun y m b mb=>?_⟩
 .obtain m|m:=yf.mp m
  .have:=h.st y m
   exact⟨this.1,this.2.1,by rw[zc];lia⟩
  .rw[zw.mp m]
   exact⟨e3,e2,by rw[e4];simp⟩
 .obtain m|m:=yf.mp m
  .exact h.cu y m
  .rw[zw.mp m,e1];exact⟨o,e5,e6⟩
 .obtain m|m:=yf.mp m
  .exact⟨uj _ (h.be y m b mb).1,(h.be y m b mb).2⟩
  .rw[zw.mp m,e4]at mb;cases mb
def CG.ext{hs:List Hd}{cs:List Acc}{ps:List (List Nat)}{l v n:List Nat}{z:Acc}{o:Option (List Nat)}(h:CG hs cs ps)(hn:58∉n)(el:l=v++58::n)(e1:z.pa=l)(e2:z.fi=0)(e3:z.un=none)(e4:z.be=[])(e5:(l,o)∈hs)(e6:z.cu=cuH o):CG hs (eQ cs v (grw l)++[z]) (ps++[l]):=by
 have ln:(eQ cs v (grw l)).length=cs.length:=by unfold eQ;rw[zm]
 refine⟨by rw[yB,cR (f:=grw l) _ fun _=>rfl,h.pa,<- e1];rfl,fun y m=>?_,fun y m=>?_,fun y m b mb=>?_⟩
 .rw[zc,ln,wa]
  obtain m|m:=yf.mp m
  .obtain⟨x,hx,rfl⟩:=dA m
   have:=h.st x hx;split
   .exact⟨this.1,this.2.1,by show(x.be++[l]).length<=_;rw[zc,wa];lia⟩
   .exact⟨this.1,this.2.1,by lia⟩
  .rw[zw.mp m]
   exact⟨e3,e2,by rw[e4];simp⟩
 .obtain m|m:=yf.mp m
  .obtain⟨x,hx,rfl⟩:=dA m
   have:=h.cu x hx;split <;> exact this
  .rw[zw.mp m,e1];exact⟨o,e5,e6⟩
 .obtain m|m:=yf.mp m
  .obtain⟨x,hx,rfl⟩:=dA m
   by_cases hv:x.pa=v
   .rw[Wf hv]at mb |-
    obtain mb|mb:=yf.mp (show b∈x.be++[l] from mb)
    .exact⟨uj _ (h.be x hx b mb).1,(h.be x hx b mb).2⟩
    .rw[zw.mp mb];exact⟨uD _ (.head _),n,hn,by rw[el,<- hv];rfl⟩
   .rw[Wg hv]at mb |-
    exact⟨uj _ (h.be x hx b mb).1,(h.be x hx b mb).2⟩
  .rw[zw.mp m,e4]at mb;cases mb
def CG.none_{hs:List Hd}{cs:List Acc}{ps:List (List Nat)}{l:List Nat}(h:CG hs cs ps)(m:l∉ps):fnd cs l=none:=Wo.mpr fun c hc e=>m (by
 rw[<- h.pa,<- (by simpa using e:c.pa=l)];exact xW hc)
def GE(x:V):qI (zS "add_top") [(zS "by_path",x)]=none:=by rw[aW (by decide +kernel)];rfl
def Aw(x:V):qI (zS "add") [(zS "by_path",x)]=none:=by rw[aW (by decide +kernel)];rfl
def Bs{hs:List Hd}(nd:(hs.map (·.1)).Nodup){e:Hd}(m:e∈hs):bw (hs.map kyH) (.inr ⟨⟨e.1⟩⟩)=some (cuH e.2):=by
 induction hs with
 |nil=>cases m
 |cons x r ih=>
  rw[xY]at nd |-
  have nd:=yE.mp nd;obtain rfl|m:=zk.mp m
  .exact b8 rfl
  .rw[bZ fun z=>nd.1 (by
    have:x.1=e.1:=by simpa [kyH] using z
    rw[this];exact xW m)]
   exact ih nd.2 m
def Fd{cu ps:List (List Nat)}{hs:List Hd}(h:HdOk cu ps hs)(hc:∀l∈cu,cur l=true){e:Hd}(m:e∈hs):cuH e.2 = .non\/∃cl,cuH e.2=VZ cl/\cur cl=true:=by
 cases h2:e.2 with
 |none=>exact .inl rfl
 |some c=>exact .inr ⟨c,rfl,hc c (h.cu e m c h2).1⟩
def sp_AZ(C A:WN):Sp:=sp2 fun x y H Q _=>WS H/\asR x fun q=>asR y fun dh=>∃c cu ps hs,H q=some (.lst (ps.map VZ))/\Pths c ps/\ps.length<=10/\HdOk cu ps hs/\(∀l∈cu,cur l=true)/\H dh=some (.dK (hs.map kyH)) /\
 ∀p d cs H',CAt C A H' p d cs->CG hs cs ps->H p=none->(∀z∈cs,H z.bl=none/\H z.ob=none)->H d=none->XA H H'->WS H'->Q (.ref p) H'
def pA(T:Txt K mg a):Fo P w K mg base "_law_chart" 9 (sp_AZ a.aU a.aS):=by
 refine T.rH.hx ["_law_paths_here","_law_bound","_law_chart_here","_law_k","_law_path"] (gX2 fun x0 x1 fA XD A XF s H Q E ND HU hr h=>?_);obtain⟨hN,h1⟩:=h;obtain⟨q,rfl,h2⟩:=aQ h1;refine br (aQ h2) fun dh yy1 yz=>Js yz fun c cu ps hs hq hP len HO_ hcu hdh k=>?_;subst yy1;have hnd:(hs.map (·.1)).Nodup:=by rw[HO_.pa];exact K18.Pths.nd hP
 refine⟨_,(ae (aV 2 ND (qz T.Aa (jS T) hr.mono rfl T.C_ aq))
  (ae (b7 (by passes_own) rfl (xM K rfl T.lE (fa1 (fv 0))) (cN K (n:=2) rfl (aO (av (i:=3) ND rfl (Wi rfl)) (aO (av (i:=4) ND rfl (Wi rfl)) cL))) (af (bc (oU EM (ak [58]) (fv 4) (by with_unfolding_all rfl)) (af (bC (cK (fv 2) T.bH (jY T) hr.mono aq (fa3 (fv 4) (aP (Zz HU) (fv 1) (fv 4) (fun _ _=>rfl)) ad)))) (af (bC (cK (fv 2) T.bH (kK T) hr.mono aq (fa2 (fv 4) (tB (fa2 (ak [104,97,118,101]) (ak [103,97,105,110])) (ah ba (fv 3) ad) (fun _ _=>rfl)))))))))
  (af (aA (fv 2))))),?_⟩
 walk_at "d";intro x dx hx hdx ne;refine⟨aE (aE hN rfl) rfl,_,aa,fun d H1 hd J0 K0 N0=>wX ?_⟩;have k0:=e_ hx hdx K0;have s0:XA H H1:=fun c z e=>k0 c z e vO;have d0:H d=none:=d6 hd;walk_at "d";refine⟨⟨_,al (s0 _ _ hq)⟩,xq (xs:=ps.map VZ) (fun i σ' H'=>XA H H'/\WS H'/\∃cs x2 x3,CAt a.aU a.aS H' x d cs/\CG hs cs (ps.take i)/\(∀z∈cs,H z.bl=none/\H z.ob=none)/\σ'=[some (.ref q),some (.ref dh),some (.ref x),x2,x3]) ⟨s0,N0,[],none,none,J0,⟨rfl,(fun _ m=>nomatch m),(fun _ m=>nomatch m),(fun _ m=>nomatch m)⟩,(fun _ m=>nomatch m),rfl⟩ (fun i σ' H' _ h=>al (h.1 _ _ hq)) ?_ ?_⟩
 .rintro i y σ' H' r hy hr ⟨sm,nT,cs,x2,x3,J,cg,fb_,rfl⟩
  rw[Ws]at hy;refine br (Zn.mp hy) fun l hl yy1=>?_;subst yy1;have ml:=wt hl;refine bq (bo (o:=HO.tup [V.int i,VZ l]) hr nT rfl) fun G e2 s2 g2 n2=>?_;rw[e2];have J2:=J.same s2;have sm2:=sm.trans s2;walk_at "z";refine⟨_,_,rfl,aY g2,rfl,_,_,rfl,_,_,rfl,rfl,?_⟩;show gIn false (VZ [58]) (VZ l) G _;walk_at "d";have nf:=cg.none_ (jz (K18.Pths.nd hP) hl);have lc:cs.length<=10:=by rw[<- zm (f:=(·.pa)),cg.pa,qF];lia
  obtain⟨dx2,hp2⟩:=J2.ob;have pl:=K18.Pths.ok hP l ml;have fbx:∀ {cs':List Acc} {z:Acc},(∀y∈cs',H y.bl=none/\H y.ob=none)->G z.bl=none->G z.ob=none->∀y∈cs'++[z],H y.bl=none/\H y.ob=none:=fun h1 h2 h3 y m=>by
   obtain m|m:=yf.mp m
   .exact h1 y m
   .rw[zw.mp m];exact⟨sm2.free h2,sm2.free h3⟩
  obtain⟨o,mo⟩:∃o,(l,o)∈hs:=by
   rw[<- HO_.pa]at ml;obtain⟨e,me,rfl⟩:=yI.mp ml;exact⟨e.2,me⟩
  rw[bR hl];by_cases h58:58∈l
  .refine itp (We h58) ?_
   obtain⟨z,_⟩|⟨v,kk,el,mv⟩:=K18.Pths.up hP i l hl
   .exact Wa h58 z
   .rw[<- cg.pa]at mv
    refine br (yI.mp mv) fun u hu pu=>?_;have su:=cg.st u hu;have dg:=DGet.k (k:=.inr ⟨⟨l⟩⟩) (sm2 _ _ hdh);rw[Bs hnd mo]at dg;refine⟨_,_,hp2,Aw _,dh,_,rfl,dg,n2,⟨pl.lo,by have:=pl.len;lia⟩,Fd HO_ hcu mo,v,nms c kk,d,cs,u,el,c8 c kk,pl.pn,J2,by lia,fun y m=>by have:=(cg.st y m).2.2;lia,nf,hu,pu,su.1,by rw[su.2.1];exact Xl _,fun z H2 e1 e5 e2 e3 e4 o1 o2 J3 K3 N3=>?_⟩;refine⟨WZ.toSame sm2 K3 fun y m=>?_,N3,_,_,_,J3,cg.ext (c8 c kk) el e1 e2 e3 e4 mo e5,fbx (fun y m=>?_) o2 o1,rfl,rfl⟩
    .obtain rfl|m:=zk.mp m
     .exact d0
     .obtain⟨y,my,rfl⟩:=yI.mp m
      exact(fb_ y my).1
    .obtain⟨y,my,rfl⟩:=dA m
     split <;> exact fb_ y my
  .have eo:o=none:=by
    cases o with
    |none=>rfl
    |some c=>exact Wa ((HO_.cu _ mo c rfl).2) h58
   subst eo;refine itn (fun z=>h58 (of_decide_eq_true z)) ⟨_,_,hp2,GE _,n2,by rw[tV];decide,fun p hp=>zn (ls:=[[104,97,118,101],[103,97,105,110]]) (by lia) (by show _<(2:Int);lia) fun kd mk=>⟨n2,?_,?_,d,cs,J2,by lia,nf,fun z H2 e1 e5 e2 e3 e4 o1 o2 J3 K3 N3=>?_⟩⟩
   .obtain⟨_,kk,rfl⟩|⟨v,kk,rfl,_⟩:=K18.Pths.up hP i l hl
    .exact rT c kk
    .exact Wa (by simp) h58
   .simp only[zk,vO,or_false]at mk
    obtain rfl|rfl:=mk <;> decide
   .exact⟨WZ.toSame sm2 K3 fun y m=>(by rw[zw.mp m];exact d0),N3,_,_,_,J3,cg.top e1 e2 e3 e4 mo e5,fbx fb_ o2 o1,rfl,rfl⟩
 .rintro σ' H' ⟨sm,nT,cs,x2,x3,J,cg,fb_,rfl⟩
  rw[zm,Zx]at cg;walk_at "z";exact k x d cs H' J cg hx fb_ d0 sm nT
noncomputable def sc(rs:List Row)(c:List Nat):Int:=sm (ev rs) ([],c)
def rR(r:Row)(c:List Nat):sm (ev [r]) ([],c)=if r.cu=c then r.am else 0:=by
 unfold ev;by_cases h:r.cu=c <;> simp[sm,h]
def jo(x y:List Row)(c:List Nat):sc (x++y) c=sc x c+sc y c:=by
 unfold sc ev;rw[yB,kA]
def Ef(rs:List Row)(r:Row)(c:List Nat):sc (rs++[r]) c=sc rs c+if r.cu=c then r.am else 0:=by
 rw[jo];unfold sc;rw[rR]
def GJ(rs:List Row)(n:Nat)(r:Row)(c:List Nat):sc (rs.take n++r::rs.drop n) c=sc rs c+if r.cu=c then r.am else 0:=by
 have e:sc rs c=sc (rs.take n) c+sc (rs.drop n) c:=by rw[<- jo,List.take_append_drop]
 rw[show rs.take n++r::rs.drop n=rs.take n++([r]++rs.drop n) from rfl,jo,jo,e];rw[show sc [r] c=if r.cu=c then r.am else 0 from rR r c];lia
def Gh(c:List Nat):sc [] c=0:=rfl
structure RG(cu ps:List (List Nat))(hs:List Hd)(r:Row):Prop where
 pa:r.pa∈ps
 cu:r.cu∈cu
 fit:∀o,(r.pa,o)∈hs->o=none\/o=some r.cu
 am:r.am≠0/\r.am.natAbs<=400000000000000
theorem ES{B:Nat}{c:List Nat}:∀rs:List Row,(∀r∈rs,r.am.natAbs<=B)->(sc rs c).natAbs<=rs.length*B
 | [],_=>by rw[Gh];exact rp _
 |r::t,h=>by
  have ih:=ES (c:=c) t fun x m=>h x (.tail _ m);have h0:=h r (.head _);rw[show r::t=[r]++t from rfl,jo,show sc [r] c=if r.cu=c then r.am else 0 from rR r c,zc,Nat.add_mul,wa,Nat.one_mul];refine r9 (Int.natAbs_add_le _ _) (Nat.add_le_add ?_ ih);split
  .exact h0
  .exact rp _
def Fw{cu ps:List (List Nat)}{hs:List Hd}{rs:List Row}{c:List Nat}(h:∀r∈rs,RG cu ps hs r)(n:c∉cu):sc rs c=0:=by
 unfold sc;refine iV fun r m e=>n ?_;obtain⟨z,mz,rfl⟩:=yI.mp m;rw[<- (Zg e).2];exact(h z mz).cu
def ID{α:Type}{q:Prop}{c T:α->Prop}(f:(∀M,c M->T M)->q)(x:∀M,c M->T M):q:=f x
noncomputable def rst(rs:List Row)(c0 c1 c2:List Nat):List V:=[.int (-sc rs c0),.int (-sc rs c1),.int (-sc rs c2)]
def wU{n j:Nat}(h:j<n):ixN n (j:Int)=some j:=by
 unfold ixN;rw[Wf (Int.natCast_nonneg _),Wf (Int.ofNat_lt.mpr h),ZV]
def zY{rs:List Row}{c0 c1 c2 cj:List Nat}{j:Nat}(hj:[c0,c1,c2][j]? = some cj):(rst rs c0 c1 c2)[j]? = some (.int (-sc rs cj)):=by
 match j,hj with
 |0,h=>cases h;rfl
 |1,h=>cases h;rfl
 |2,h=>cases h;rfl
def CK{rs:List Row}{c0 c1 c2 cj l:List Nat}{j:Nat}{am:Int}(nd:[c0,c1,c2].Nodup)(hj:[c0,c1,c2][j]? = some cj):(rst rs c0 c1 c2).set j (.int (-sc rs cj-am))=rst (rs++[⟨l,cj,am⟩]) c0 c1 c2:=by
 obtain⟨n1,nd⟩:=yE.mp nd;obtain⟨n2,_⟩:=yE.mp nd;have n01:c0≠c1:=fun z=>n1 (by rw[z];exact .head _);have n02:c0≠c2:=fun z=>n1 (by rw[z];exact .tail _ (.head _));have n12:c1≠c2:=fun z=>n2 (by rw[z];exact .head _);have e:∀x:Int,-(x+am) = -x-am:=fun x=>by lia
 unfold rst;simp only[Ef]
 match j,hj with
 |0,h=>cases h;rw[Wf rfl,Wg n01,Wg n02,ZQ,ZQ,e];rfl
 |1,h=>cases h;rw[Wf rfl,Wg (Wj n01),Wg n12,ZQ,ZQ,e];rfl
 |2,h=>cases h;rw[Wf rfl,Wg (Wj n02),Wg (Wj n12),ZQ,ZQ,e];rfl
def Fq{α β:Type}{R:α->β->Prop}{x:α}{y:β}(hx:R x y){vs:List α}{rs:List β}(h:A2 R vs rs):∀n:Nat,A2 R (vs.take n++x::vs.drop n) (rs.take n++y::rs.drop n):=by
 induction h with
 |nil=>intro n;rw[List.take_nil,List.drop_nil,List.take_nil,List.drop_nil];exact .cons hx .nil
 |cons r t ih=>
  intro n;cases n with
  |zero=>exact .cons hx (.cons r t)
  |succ n=>exact .cons r (ih n)
def Pths.snd{c:Int}{ps:List (List Nat)}(h:Pths c ps):ps[1]? = some (nms c 6):=by
 induction h with
 |two=>rfl
 |more h _ _ _ ih=>rw[Wq (by have:=(Wu.mp ih).1;lia)];exact ih
def Pths.top2{c:Int}{ps:List (List Nat)}(h:Pths c ps)(x:Int):∃l∈ps,58∉l/\atI (ps.map VZ) (x % 2)=some (VZ l):=by
 have:x % 2=0\/x % 2=1:=by lia
 obtain e|e:=this
 .exact⟨_,wt (K18.Pths.head h),c8 c 0,by rw[e];exact aI (j:=0) (by rw[Ws,K18.Pths.head h];rfl)⟩
 .exact⟨_,wt (K18.Pths.snd h),c8 c 6,by rw[e];exact aI (j:=1) (by rw[Ws,K18.Pths.snd h];rfl)⟩
def sp_Bx(K:Wz):Sp:=sp4 fun x y z u H Q _=>WS H/\asI x fun c=>asR y fun p=>asR z fun d=>asR u fun q=>∃e cu ps hs,0<=c/\H p=some (.lst (ps.map VZ))/\H q=some (.lst (cu.map VZ))/\H d=some (.dK (hs.map kyH))/\Pths e ps/\ps.length<=10/\HdOk cu ps hs/\cu.length=3/\cu.Nodup /\
 ∀r ws rs H',H r=none->H' r=some (.lst ws)->A2 (WY H') ws rs->rs.length<=7->(∀x∈rs,RG cu ps hs x)->EvR rs->XA H H'->WS H'->Q (.ref r) H'
def qD(T:Txt K mg a):Fo P w K mg base "_law_rows" 2 (sp_Bx K):=by
 refine T.uz.hx ["_law_cell","_law_paths_here","_law_bound","_law_currencies_here","_law_rows_here","_law_rest","_law_k","_law_path","_law_at","_law_amount_here"] (gX4 fun x0 x1 x2 x3 fA XD A XF s H Q E ND HU hr h=>?_);obtain⟨hN,h1⟩:=h;obtain⟨c,rfl,h2⟩:=a9 h1;obtain⟨p,rfl,h3⟩:=aQ h2;obtain⟨d,rfl,h4⟩:=aQ h3;refine br (aQ h4) fun q yy1 yz=>KM yz fun e cu ps hs c0_ hp hq hd hP lps HO_ lcu ncu k=>?_;subst yy1;obtain⟨c0,c1,c2,rfl⟩:∃c0 c1 c2,cu=[c0,c1,c2]:=by
  match cu,lcu with
  | [c0,c1,c2],_=>exact⟨c0,c1,c2,rfl⟩
 have sz:=szl;have hnd:(hs.map (·.1)).Nodup:=by rw[HO_.pa];exact K18.Pths.nd hP
 have p2:=K18.Pths.len2 hP;refine⟨_,(ae (aV 4 ND (cw (FA.pa cr)))
  (ae (aV 5 ND (cw (fa3 ad ad ad)))
  (ae (b7 (by passes_own) rfl (d4 rfl T.eY (fa1 (ah aT ad (ah ba (fv 0) ad)))) (av (i:=6) ND rfl (Wi rfl)) (ae (aV 7 ND (aK K (fv 1) (ah ba (aH (bM T) hr aq (fa2 (fv 0) (ah aT (ah dt ad (fv 6)) ad))) (aB (bV K) rfl T.dq cz (fa1 (fv 1))))))
  (ae (aV 8 ND (ah ba (ah a8 (aH (bM T) hr aq (fa2 (fv 0) (ah aT (ah dt ad (fv 6)) ad))) ad) ad))
  (ae (bc (jd (fT (aP (Zz HU) (fv 2) (fv 7) (fun _ _=>rfl)))) (af (aV 8 ND (bY K qS PySem.F.slot_list_index PySem.F.type_list_index (Dr K) (fv 3) (fa1 (aP (Zz HU) (fv 2) (fv 7) (fun _ _=>rfl)))))) aJ)
  (ae (aV 9 ND (aH (oX T) hr aq (fa1 (aH (bM T) hr aq (fa2 (fv 0) (ah aT (ah dt ad (fv 6)) ad))))))
  (ae (uY (ah fh (aK K (fv 5) (fv 8)) (fv 9)) (A7 (fv 5) (fv 8) uk))
  (af (bC (bY K qS Zq Zr cA (fv 4) (fa1 (bU (fa3 (fv 7) (aK K (fv 3) (fv 8)) (fv 9)))))))))))))
  (ae (b7 (by passes_own) rfl (d4 rfl T.eY (fa1 ad)) (av (i:=8) ND rfl (Wi rfl)) (af (bc (bf (dw K HU) (aK K (fv 5) (fv 8)) ad) (af (bC (bY K qS PySem.F.slot_list_insert PySem.F.type_list_insert Gr (fv 4) (fa2 (ah ba (ah a8 (fv 0) ad) (ah aT (aB (bV K) rfl T.dq cz (fa1 (fv 4))) ad)) (bU (fa3 (aK K (fv 1) (ah ba (ah a8 (fv 0) ad) ad)) (aK K (fv 3) (fv 8)) (aK K (fv 5) (fv 8)))))))) aJ)))
  (af (aA (fv 4))))))),?_⟩
 walk_at "z";refine⟨rp _,fun r fr=>⟨by lia,fun s fs=>iD ?_⟩⟩;refine bq (bo (o:=HO.lst []) fr hN rfl) fun H1 e1 s1 g1 N1=>?_;rw[e1]at fs |-
 refine bq (bo (o:=HO.lst [V.int 0,V.int 0,V.int 0]) fs N1 rfl) fun H2 e2 s2 g2 N2=>?_;rw[e2];have s02:=s1.trans s2;have Hs:H s=none:=s1.free fs;have rs_:r≠s:=fun z=>by rw[<- z,g1]at fs;cases fs
 walk_at "q";refine⟨by lia,by lia,eZ (lo:=0) (n:=(1+c % 4).toNat) (fun i σ' H'=>XA H H'/\WS H'/\∃ws rs x6 x7 x8 x9,H' r=some (.lst ws)/\A2 (WY H') ws rs/\H' s=some (.lst (rst rs c0 c1 c2))/\rs.length=i/\(∀x∈rs,RG [c0,c1,c2] ps hs x/\x.am.natAbs<=100000000000000)/\σ'=[some (.int c),some (.ref p),some (.ref d),some (.ref q),some (.ref r),some (.ref s),x6,x7,x8,x9]) ⟨s02,N2,[],[],none,none,none,none,s2 _ _ g1,.nil,g2,rfl,(fun _ m=>nomatch m),rfl⟩ ?_ ?_⟩
 .rintro i σ' G li ⟨sG,nG,ws,rs,x6,x7,x8,x9,gr,aG,gs,lrs,hG,rfl⟩
  walk_at "q";have hpG:=sG _ _ hp;have hqG:=sG _ _ hq;have mx:=BY c (3*(0+(i:Int))+3);refine br (vf (ps:=ps) (MX c (3*(0+(i:Int))+1)) (by lia)) fun l ml el=>?_;obtain⟨o,mo⟩:∃o,(l,o)∈hs:=by
   rw[<- HO_.pa]at ml;obtain⟨e,me,rfl⟩:=yI.mp ml;exact⟨e.2,me⟩
  have dg:=DGet.k (k:=.inr ⟨⟨l⟩⟩) (sG _ _ hd);rw[Bs hnd mo]at dg;refine⟨nG,⟨by lia,by lia⟩,_,.inl (al hpG),by rw[zm];lia,_,_,.inl (al hpG),el,nG,⟨by lia,by lia⟩,d,_,rfl,dg,?_⟩;refine' ID (α:=Int) (c:=fun t=>∃(j:Nat) (cj:List Nat),t=j/\[c0,c1,c2][j]? = some cj/\(o=none\/o=some cj)) (fun key=>_) _
  rotate_left 1
  .by_cases ho:o=none
   .refine itp (by rw[ho];rfl) ?_
    have ht:∃(j:Nat) (cj:List Nat),MX c (3*(0+(i:Int))+2) / 7 % 3=j/\[c0,c1,c2][j]? = some cj/\(o=none\/o=some cj):=by
     have:MX c (3*(0+(i:Int))+2) / 7 % 3=0\/MX c (3*(0+(i:Int))+2) / 7 % 3=1\/MX c (3*(0+(i:Int))+2) / 7 % 3=2:=by lia
     obtain e|e|e:=this
     .exact⟨0,c0,e,rfl,.inl ho⟩
     .exact⟨1,c1,e,rfl,.inl ho⟩
     .exact⟨2,c2,e,rfl,.inl ho⟩
    generalize MX c (3*(0+(i:Int))+2) / 7 % 3=t at ht |-
    exact key t ht
   .obtain⟨u,hu⟩:=Option.ne_none_iff_exists'.mp ho
    obtain⟨j,hj⟩:=List.getElem?_of_mem (HO_.cu _ mo u hu).1;have jl:=(Wu.mp hj).1;refine itn (by rw[hu];intro z;cases z) ⟨.inl ⟨_,al hqG⟩,d,_,rfl,dg,q,[c0,c1,c2],u,j,rfl,by rw[hu];rfl,al hqG,hj,fun i' hi' z=>?_,?_⟩
    .have:=(List.getElem?_inj (by lia) ncu).mp (z.trans hj.symm)
     lia
    .have ht:∃(j':Nat) (cj:List Nat),(j:Int)=j'/\[c0,c1,c2][j']? = some cj/\(o=none\/o=some cj):=⟨j,u,rfl,hj,.inr hu⟩
     generalize (j:Int)=t at ht |-
     exact key t ht
  .rintro t ⟨j,cj,rfl,hj,hf⟩
   refine⟨nG,⟨by lia,by lia⟩,nG,mx,fun am ha hb=>?_⟩;have hj':=zY (rs:=rs) hj;have jl:=(Wu.mp hj).1;refine⟨_,_,.inl (al gs),aI hj',?_⟩;walk_at "z";refine⟨s,_,_,j,rfl,rfl,gs,wU jl,?_⟩;rw[CK (l:=l) ncu hj];refine bq (iX (p:=s) (o:=HO.lst (rst (rs++[⟨l,cj,am⟩]) c0 c1 c2)) nG rfl) fun G1 e3 g3 k3 N3=>?_;rw[e3];have nq:q∉[s]:=fun m=>by rw[zw.mp m,Hs]at hq;cases hq
   have gr1:=k3 _ _ gr fun m=>rs_ (zw.mp m);have lw:=aG.len;refine⟨.inl ⟨_,al gr1⟩,_,_,.inl (al (k3 _ _ hqG nq)),aI (j:=j) (by rw[Ws,hj];rfl),by lia,fun p1 fp1=>?_⟩;refine bq (bo (o:=HO.tup [VZ l,VZ cj,V.int am]) fp1 N3 rfl) fun G2 e4 s4 g4 N4=>?_;rw[e4];refine⟨r,ws,_,rfl,rfl,s4 _ _ gr1,by lia,?_⟩;refine bq (iX (p:=r) (o:=HO.lst (ws++[V.ref p1])) N4 rfl) fun G3 e5 g5 k5 N5=>?_;rw[e5];refine⟨(fun z o e=>k5 _ _ (s4 _ _ (k3 _ _ (sG _ _ e) fun m=>by rw[zw.mp m,Hs]at e;cases e)) fun m=>by rw[zw.mp m,fr]at e;cases e),N5,_,rs++[⟨l,cj,am⟩],_,_,_,_,g5,(ck k5 (LW.one (s4 _ _ gr1)) (bh s4 (ck k3 (LW.one gs) aG))).snoc ⟨p1,rfl,k5 _ _ g4 fun m=>by rw[zw.mp m,s4 _ _ gr1]at g4;cases g4⟩,k5 _ _ (s4 _ _ g3) (fun m=>rs_ (zw.mp m).symm),by rw[zc,lrs];rfl,fun x m=>?_,rfl,rfl,rfl,rfl⟩;obtain m|m:=yf.mp m
   .exact hG x m
   .rw[zw.mp m]
    refine⟨⟨ml,wt hj,fun o' mo'=>?_,ha,by show am.natAbs<=_;lia⟩,hb⟩;have:=uq hnd mo' mo rfl;rw[(Zg this).2];exact hf
 .rintro σ' G ⟨sG,nG,ws,rs,x6,x7,x8,x9,gr,aG,gs,lrs,hG,rfl⟩
  walk_at "z";refine iD ?_;walk_at "q";refine eZ (lo:=0) (n:=3) (fun i σ' H'=>XA H H'/\WS H'/\∃ws rs' x6 x7 x8 x9,H' r=some (.lst ws)/\A2 (WY H') ws rs'/\H' s=some (.lst (rst rs c0 c1 c2))/\rs'.length<=4+i/\(∀x∈rs',RG [c0,c1,c2] ps hs x)/\(∀j cj,[c0,c1,c2][j]? = some cj->sc rs' cj=if j<i then 0 else sc rs cj)/\σ'=[some (.int c),some (.ref p),some (.ref d),some (.ref q),some (.ref r),some (.ref s),x6,x7,x8,x9]) ⟨sG,nG,ws,rs,_,_,_,_,gr,aG,gs,by lia,(fun x m=>(hG x m).1),(fun j cj h=>(Wg (Nat.not_lt_zero _)).symm),rfl⟩ ?_ ?_
  .rintro i σ' F li ⟨sF,nF,vs,rs',y6,y7,y8,y9,fr',aF,fs',lF,hF,zF,rfl⟩
   walk_at "z";obtain⟨ci,hci⟩:∃ci,[c0,c1,c2][i]? = some ci:=⟨_,Wr (show i<[c0,c1,c2].length from li)⟩;have hi':=zY (rs:=rs) hci;have at_:∀ {xs:List V} {v:V},xs[i]? = some v->atI xs (0+(i:Int))=some v:=fun h=>by rw[Yj];exact aI h
   refine⟨_,_,.inl (al fs'),at_ hi',?_⟩;walk_at "q";have step:∀rs2,(∀cc,sc rs2 cc=sc rs' cc+if ci=cc then -sc rs ci else 0)->∀j cj,[c0,c1,c2][j]? = some cj->sc rs2 cj=if j<i+1 then 0 else sc rs cj:=fun rs2 h2 j cj hj=>by
    rw[h2,zF j cj hj];by_cases e:ci=cj
    .subst e
     have:j=i:=(List.getElem?_inj (Wu.mp hj).1 ncu).mp (hj.trans hci.symm);subst this;rw[Wg (ZM _),Wf rfl,Wf (Nat.lt_succ_self _)];lia
    .have:j≠i:=fun z=>e (by rw[z,hci]at hj;cases hj;rfl)
     rw[Wg e,ZQ];by_cases h:j<i
     .rw[Wf h,Wf (by lia)]
     .rw[Wg h,Wg (by lia)]
   by_cases h0:-sc rs ci=0
   .exact itp h0 ⟨sF,nF,vs,rs',_,_,_,_,fr',aF,fs',by lia,hF,step rs' (fun cc=>by rw[h0];split <;> lia),rfl,rfl,rfl,rfl⟩
   .refine h_ (K18.Pths.top2 hP (c / 20)) fun lp mp np ep=>?_
    have n0:0<=c / 4 % ((vs.length:Int)+1):=ZH _ (by lia);have n1:c / 4 % ((vs.length:Int)+1)<(vs.length:Int)+1:=ZN _ (by lia);have lv:=aF.len;refine itn h0 ⟨.inl ⟨_,al fr'⟩,_,.inl (al fr'),by lia,_,_,.inl (al (sF _ _ hp)),ep,_,_,.inl (al (sF _ _ hq)),at_ (by rw[Ws,hci];rfl),_,_,.inl (al fs'),at_ hi',by lia,fun p1 fp1=>?_⟩;refine bq (bo (o:=HO.tup [VZ lp,VZ ci,V.int (-sc rs ci)]) fp1 nF rfl) fun F2 e4 s4 g4 N4=>?_;rw[e4];refine⟨r,vs,(c / 4 % ((vs.length:Int)+1)).toNat,_,rfl,⟨(Int.toNat_of_nonneg n0).symm,rfl⟩,s4 _ _ fr',by lia,by lia,?_⟩;generalize (c / 4 % ((vs.length:Int)+1)).toNat=n;refine bq (iX (p:=r) (o:=HO.lst (vs.take n++V.ref p1::vs.drop n)) N4 rfl) fun F3 e5 g5 k5 N5=>?_;rw[e5];have b1:=ES (c:=ci) rs fun x m=>(hG x m).2;refine⟨(fun z o e=>k5 _ _ (s4 _ _ (sF _ _ e)) fun m=>by rw[zw.mp m,fr]at e;cases e),N5,_,rs'.take n++⟨lp,ci,-sc rs ci⟩::rs'.drop n,_,_,_,_,g5,Fq ⟨p1,rfl,k5 _ _ g4 fun m=>by rw[zw.mp m,s4 _ _ fr']at g4;cases g4⟩ (ck k5 (LW.one (s4 _ _ fr')) (bh s4 aF)) n,k5 _ _ (s4 _ _ fs') (fun m=>rs_ (zw.mp m).symm),?_,fun x m=>?_,step _ fun cc=>GJ _ _ _ _,rfl,rfl,rfl,rfl⟩
    .rw[zc,sP,qF,Xc];lia
    .have hx:x∈rs'\/x=⟨lp,ci,-sc rs ci⟩:=by
      obtain m|m:=yf.mp m
      .exact .inl (ZA m)
      .obtain m|m:=zk.mp m
       .exact .inr m
       .exact .inl (List.mem_of_mem_drop m)
     obtain m|rfl:=hx
     .exact hF x m
     .refine⟨mp,wt hci,fun o mo=>?_,h0,by show(-sc rs ci).natAbs<=_;rw[Int.natAbs_neg];exact r9 b1 (Nat.mul_le_mul_right 100000000000000 (show rs.length<=4 by lia))⟩
      cases o with
      |none=>exact .inl rfl
      |some u=>exact Wa (HO_.cu _ mo u rfl).2 np
  .rintro σ' F ⟨sF,nF,vs,rs',y6,y7,y8,y9,fr',aF,fs',lF,hF,zF,rfl⟩
   walk_at "z";refine k r vs rs' F fr fr' aF (by lia) hF (fun cc=>?_) sF nF;by_cases mc:cc∈[c0,c1,c2]
   .obtain⟨j,hj⟩:=List.getElem?_of_mem mc
    have jl:=(Wu.mp hj).1;exact(zF j cc hj).trans (Wf jl)
   .exact Fw hF mc
def NoB(b:WN)(H:Hp):Prop:=∀c o,H c=some o->c≠b->cV o=true
def NoB.frz{b:WN}{H:Hp}(n:NoB b H)(o:Obj)(u:HO):WS (upd H b (.frz o u)):=fun c z e=>by
 by_cases h:c=b
 .rw[h,aa]at e;cases e;rfl
 .rw[ag h]at e;exact n c z e h
def NoB.thw{b:WN}{H:Hp}(n:WS H)(u:HO):NoB b (upd H b u):=fun c z e h=>by
 rw[ag h]at e;exact n c z e
def NoB.upd{b c:WN}{H:Hp}{o:HO}(n:NoB b H)(d:cV o=true):NoB b (upd H c o):=fun e z h nb=>by
 by_cases q:e=c
 .rw[q,aa]at h;cases h;exact d
 .rw[ag q]at h;exact n e z h nb
def dO{b:WN}{H:Hp}{u z:HO}(h:H b=some u):upd (upd H b z) b u=H:=by
 funext c;by_cases e:c=b
 .rw[e,aa,h]
 .rw[ag e,ag e]
def lM{H:Hp}{b e:WN}{XB:List (List Key × V)}{o:HO}(h:Rd H b (.dT XB))(he:H e=some o)(n:cV o=true)(nf:∀x u,o ≠ .frz x u):b≠e:=fun z=>by
 subst z;obtain h|⟨x,h⟩:=h
 .rw[h]at he;cases he;cases n
 .rw[h]at he;cases he;exact nf _ _ rfl
def Hf{H:Hp}{b e:WN}{u o:HO}(h:Rd H b u)(n:b≠e):Rd (upd H e o) b u:=by
 obtain h|⟨x,h⟩:=h
 .exact .inl ((ag n).trans h)
 .exact .inr ⟨x,(ag n).trans h⟩
def fp(XB:List (List Key × V))(p:WN):Prop:=∃k,(k,V.ref p)∈XB
structure BP(H:Hp)(b:WN)(XB:List (List Key × V))(R:List PR)(n:Nat):Prop where
 at_:Rd H b (.dT XB)
 nd:(XB.map (·.1)).Nodup
 len:XB.length<=n
 inj:∀k k' v,(k,v)∈XB->(k',v)∈XB->k=k'
 to:∀k v,(k,v)∈XB->∃x y e m,k=kP (x,y)/\v = .ref e/\H e=some (.dK m)/\m.length<=n/\MM m x y R
 fr:∀z∈R,∃v,(kP (z.2.1,z.2.2.1),v)∈XB
def BP.mv{H H':Hp}{b:WN}{XB:List (List Key × V)}{R:List PR}{n:Nat}(h:BP H b XB R n)(rd:Rd H' b (.dT XB))(k:∀p m,H p=some (.dK m)->fp XB p->H' p=some (.dK m)):BP H' b XB R n:=
 ⟨rd,h.nd,h.len,h.inj,fun k1 v m1=>let ⟨x,y,e,m,e1,e3,e4,e5⟩:=h.to k1 v m1;⟨x,y,e,m,e1,e3,k _ _ e4 ⟨k1,e3 ▸ m1⟩,e5⟩,h.fr⟩
def BP.put{H:Hp}{b e:WN}{XB:List (List Key × V)}{R:List PR}{n:Nat}{x y:List Nat}{m:List (Key × V)}{d am:Int}(h:BP H b XB R n)(me:(kP (x,y),V.ref e)∈XB)(he:H e=some (.dK m)) :
 BP (upd H e (.dK (bi m (.inl d) (.int (gM m d+am))))) b XB (R++[(d,x,y,am)]) (n+1):=by
 refine⟨Hf h.at_ (lM h.at_ he rfl (by intro _ _ z;cases z)),h.nd,Xp h.len,h.inj,fun k v m1=>?_,fun z mz=>?_⟩
 .refine zV (h.to k v m1) fun x' y' e' m' yy1 yy2 h4 h5 h6=>?_;subst yy1 yy2
  by_cases ee:e'=e
  .subst ee
   rw[he]at h4;cases h4;obtain⟨rfl,rfl⟩:=Zg (ip (h.inj _ _ _ m1 me));exact⟨x',y',e',_,rfl,rfl,aa,r9 (jh _ _ _) (Xd h5),h6.put d am⟩
  .refine⟨x',y',e',m',rfl,rfl,(ag ee).trans h4,Xp h5,h6.other fun z=>ee ?_⟩
   obtain⟨z1,z2⟩:=z;have z1:x=x':=z1;have z2:y=y':=z2;subst z1;subst z2;exact V.ref.inj (Gb h.nd m1 me)
 .obtain mz|mz:=yf.mp mz
  .exact h.fr z mz
  .rw[zw.mp mz];exact⟨_,me⟩
def BP.add{H:Hp}{b e:WN}{XB:List (List Key × V)}{R:List PR}{n:Nat}{x y:List Nat}{d am:Int}(h:BP H b XB R n)(no:bw XB (kP (x,y))=none)(ne:¬ fp XB e)(eb:e≠b) :
 BP (upd (upd H b (.dT (bi XB (kP (x,y)) (.ref e)))) e (.dK (bi [] (.inl d) (.int (gM [] d+am))))) b (bi XB (kP (x,y)) (.ref e)) (R++[(d,x,y,am)]) (n+1):=by
 have nr:∀z∈R,¬ (z.2.1=x/\z.2.2.1=y):=fun z mz ⟨e1,e2⟩=>by
  obtain⟨v,mv⟩:=h.fr z mz;rw[e1,e2]at mv;exact wL no mv
 refine⟨.inl ((ag (Wj eb)).trans aa),EZ h.nd,r9 (jh _ _ _) (Xd h.len),fun k k' v m1 m2=>?_,fun k v m1=>?_,fun z mz=>?_⟩
 .obtain e1|⟨m1,n1⟩:=iK.mp m1
  .obtain⟨rfl,rfl⟩:=Zg e1
   obtain e2|⟨m2,n2⟩:=iK.mp m2
   .exact(Zg e2).1.symm
   .exact Wa ⟨_,m2⟩ ne
  .obtain e2|⟨m2,n2⟩:=iK.mp m2
   .obtain⟨rfl,rfl⟩:=Zg e2
    exact Wa ⟨_,m1⟩ ne
   .exact h.inj _ _ _ m1 m2
 .obtain e1|⟨m1,n1⟩:=iK.mp m1
  .obtain⟨rfl,rfl⟩:=Zg e1
   exact⟨x,y,e,_,rfl,rfl,aa,r9 (jh _ _ _) (Nat.le_add_left _ _),(MM.nil nr).put d am⟩
  .refine zV (h.to k v m1) fun x' y' e' m' e1 e2 h4 h5 h6=>?_
   have e3:e'≠e:=fun z=>ne ⟨k,by rw[<- z,<- e2];exact m1⟩;refine⟨x',y',e',m',e1,e2,(ag e3).trans ((ag (Wj (lM h.at_ h4 rfl (by intro _ _ z;cases z)))).trans h4),Xp h5,h6.other fun z=>n1 ?_⟩;obtain⟨z1,z2⟩:=z;have z1:x=x':=z1;have z2:y=y':=z2;rw[z1,z2];exact e1
 .obtain mz|mz:=yf.mp mz
  .obtain⟨v,mv⟩:=h.fr z mz
   exact⟨v,iK.mpr (.inr ⟨mv,fun q=>nr z mz (Zg (ip q))⟩)⟩
  .rw[zw.mp mz];exact⟨_,iK.mpr (.inl rfl)⟩
noncomputable abbrev Jb(C dx b:WN):HO:=.ins C dx [("by_place",.ref b)]
structure SA(C:WN)(H:Hp)(r b:WN)(XB:List (List Key × V))(R:List PR)(n:Nat):Prop where
 ob:∃dx,H r=some (Jb C dx b)
 bp:BP H b XB R n
def SA.mv{C:WN}{H H':Hp}{r b:WN}{XB:List (List Key × V)}{R:List PR}{n:Nat}(h:SA C H r b XB R n)(rd:Rd H' b (.dT XB))(k:∀p o,H p=some o->p≠b->(p=r\/fp XB p)->H' p=some o):SA C H' r b XB R n:=by
 obtain⟨dx,h1⟩:=h.ob;have nb:∀ {e o},H e=some o->cV o=true->(∀x u,o ≠ .frz x u)->e≠b:=fun e n nf=>Wj (lM h.bp.at_ e n nf);exact⟨⟨dx,k _ _ h1 (nb h1 rfl (by intro _ _ z;cases z)) (.inl rfl)⟩,h.bp.mv rd fun p m e q=>k p _ e (nb e rfl (by intro _ _ z;cases z)) (.inr q)⟩
def SA.same{C:WN}{H H':Hp}{r b:WN}{XB:List (List Key × V)}{R:List PR}{n:Nat}(h:SA C H r b XB R n)(s:XA H H'):SA C H' r b XB R n:=
 h.mv (h.bp.at_.imp (fun e=>s _ _ e) fun⟨o,e⟩=>⟨o,s _ _ e⟩) fun p o e _ _=>s p o e
def SA.dct{C:WN}{H:Hp}{r b:WN}{XB:List (List Key × V)}{R:List PR}{n:Nat}(h:SA C H r b XB R n){p:WN}(hp:fp XB p):∃m,H p=some (.dK m):=by
 obtain⟨k,m⟩:=hp;obtain⟨_,_,e,_,_,e1,e2,_⟩:=h.bp.to _ _ m;cases e1;exact⟨_,e2⟩
def JP(x:V):qI (zS "by_place") [(zS "by_place",x)]=some x:=ig
def Kh(x:V):qI (zS "months_of") [(zS "by_place",x)]=none:=by rw[aW (by decide +kernel)];rfl
def HR(x:V):qI (zS "own") [(zS "by_place",x)]=none:=by rw[aW (by decide +kernel)];rfl
def xu(x:V):qI (zS "put") [(zS "by_place",x)]=none:=by rw[aW (by decide +kernel)];rfl
def sp_A4(C:WN):Sp:=sp1 fun x H Q _=>asR x fun r=>∃dx,H r=some (.ins C dx [])/\∀b H',H b=none->H' b=some (.dT [])->SA C H' r b [] [] 0->WZ [r] H H'->(WS H->NoB b H')->Q .non H'
def kQ(T:Txt K mg a):Mo P w K mg base a.ce "__init__" 1 (sp_A4 a.ce):=by
 refine T.mt.hx ["self"] (gX1 fun x0 fA XD A XF s H Q E ND HU hr h=>?_);obtain⟨r,rfl,dx,hr0,k⟩:=aQ h;refine⟨_,(af (dQ K (fv 0) sW)),?_⟩;walk_at "z";intro b hb;have np:r≠b:=aM hr0 hb;refine⟨_,_,_,(ag np).trans hr0,T.gL,T.eN,by show 0<1000;decide,?_⟩;have eb:upd (upd H b (HO.dT [])) r (HO.ins a.ce dx (dL (zS "by_place") (V.ref b) [])) b=some (.dT []):=(ag (Wj np)).trans aa;refine k b _ hb eb ⟨⟨dx,aa⟩,.inl eb,Zu,rp _,(fun _ _ _ z=>nomatch z),(fun _ _ z=>nomatch z),(fun _ z=>nomatch z)⟩ ((WZ.refl.new hb).put (.head _)) fun n=>?_;intro c o e nb;by_cases h:c=r
 .rw[h,aa]at e;cases e;rfl
 .rw[ag h,ag nb]at e;exact n c o e
def sp_xY(C:WN):Sp:=sp3 fun s x y H Q _=>asR s fun r=>asT x fun pa=>asT y fun cu=>∃b XB R n,SA C H r b XB R n/\n<=500/\∀c m H',XA H H'->H' c=some (.dK m)->m.length<=n->MM m pa cu R->Q (.ref c) H'
def jE(T:Txt K mg a):Mo P w K mg base a.ce "months_of" 1 (sp_xY a.ce):=by
 refine T.lD.hx ["self","path","currency"] (gX3 fun x0 x1 x2 fA XD A XF s H Q E ND HU hr h=>?_);obtain⟨r,rfl,h1⟩:=aQ h;obtain⟨pa,rfl,h2⟩:=bX h1;refine br (bX h2) fun cu yy1 yz=>IN yz fun b XB R n SS nn k=>?_;subst yy1;obtain⟨dx,hr0⟩:=SS.ob;have B:=SS.bp;refine⟨_,(af (aA (gg (Zz HU) (bx K (fv 0)) (bU (fa2 (fv 1) (fv 2))) gH ⟨rfl,rfl,rfl,rfl⟩))),?_⟩;walk_at "z";refine⟨_,_,_,_,hr0,T.gL,T.eN,JP _,b,rfl,.inr ⟨_,B.at_⟩,by rw[tV];decide,fun p hp p1 hp1=>?_⟩;have s1:=aj (HO.tup [VZ pa,VZ cu]) hp;have s2:=s1.trans (aj (HO.dK []) hp1);have g:DGet (upd (upd H p (HO.tup [VZ pa,VZ cu])) p1 (HO.dK [])) b (.ref p) (bw XB (kP (pa,cu))):=.inr ⟨XB,kP (pa,cu),p,(SS.same s2).bp.at_,rfl,aj (HO.dK []) hp1 _ _ aa,rfl⟩;refine⟨_,g,?_⟩;cases e:bw XB (kP (pa,cu)) with
 |none=>
  refine k p1 [] _ s2 aa (rp _) (MM.nil fun z mz ⟨e1,e2⟩=>?_);obtain⟨v,mv⟩:=B.fr z mz;rw[e1,e2]at mv;exact wL e mv
 |some v=>
  refine zV (B.to _ _ (jO e)) fun x' y' e' m' e1 yy1 h4 h5 h6=>?_;subst yy1;obtain⟨rfl,rfl⟩:=Zg (ip e1);exact k e' m' _ s2 (s2 _ _ h4) h5 h6
noncomputable def btM(lo hi:Int):Int->Bool:=fun m=>decide (lo<=m)&&decide (m<=hi)
def sp_Hj(C:WN):Sp:=sp5 fun s x y f l H Q _=>WS H/\asR s fun r=>asT x fun pa=>asT y fun cu=>asI f fun lo=>asI l fun hi=>∃b XB R n,SA C H r b XB R n/\n<=500/\Q (.int (sR pa cu (btM lo hi) R)) H
def uE(T:Txt K mg a):Mo P w K mg base a.ce "own" 2 (sp_Hj a.ce):=by
 refine T.v3.hg ["self","path","currency","first","last"] (gG5 fun x0 x1 x2 x3 x4 fA XD A XF s H Q E ND HU hr h=>?_);obtain⟨hN,h0⟩:=h;obtain⟨r,rfl,h1⟩:=aQ h0;obtain⟨pa,rfl,h2⟩:=bX h1;obtain⟨cu,rfl,h3⟩:=bX h2;obtain⟨lo,rfl,h4⟩:=a9 h3;refine br (a9 h4) fun hi yy1 yz=>IN yz fun b XB R n SS nn k=>?_;subst yy1;have sz:1000<WI:=by rw[tV];decide
 obtain⟨dx,hr0⟩:=SS.ob;refine⟨hN,_,(af (aA (aB (xb K rfl) rfl T.EW AO (fa1 (zO (bK rfl (cl:=_) (x:="month") (xs:=["month","amount"]) (fr:=["first","last"]) (ks:=[3,4]) (by walk_at "k") rfl (BM (cK (fv 0) T.gL (jE T) hr.mono aq (fa2 (fv 1) (fv 2)))) (fun _ _ _ _ _=>(cN K (n:=2) rfl (aO (av (i:=0) (cQ (l:=["month","amount","first","last"]) (by decide)) rfl (Wi rfl)) (aO (av (i:=1) (cQ (l:=["month","amount","first","last"]) (by decide)) rfl (Wi rfl)) cL)))) (fun _ _ _ _ _=>(gB (nK dX dX (fv 2) (fv 0) (fv 3)))) (fun _ _ _ _ _=>(fv 1)))))))),?_⟩;walk_at "z";refine Hl ?_;walk_at "q";refine⟨dx,_,hr0,Kh _,b,XB,R,n,SS,nn,fun b1 m H1 s1 hb1 lm mm=>cmI b1 m (fun x _=>decide (lo<=vI x)&&decide (vI x<=hi)) (fun _ v=>v) s1 hb1 (by lia) (fun k1 v1 mk G R r=>?_) (fun k1 v1 mk _ G R r=>r) fun D H2 s2 hD e2=>?_⟩
 .refine C5 (mm.it k1 v1 mk) fun d x yy1 yy2=>?_;subst yy1 yy2
  have ek:kV (.inl d) = .int d:=rfl;rw[ek]at r |-
  walk_at "q";by_cases c:lo<=d
  .refine itp c ?_
   rw[show(decide (lo<=vI (V.int d))&&decide (vI (V.int d)<=hi))=decide (d<=hi) from by rw[show vI (V.int d)=d from rfl,We c,Bool.true_and]]at r;exact r
  .refine itn c ?_
   rw[show(decide (lo<=vI (V.int d))&&decide (vI (V.int d)<=hi))=false from by rw[show vI (V.int d)=d from rfl,Wc c,Bool.false_and]]at r;exact r
 .rw[tM (fun z=>decide (lo<=z)&&decide (z<=hi)) mm.it]at e2
  refine⟨_,.inl (al e2),H,Gc.none s2,?_⟩;have e:=mm.own fun z=>decide (lo<=z)&&decide (z<=hi)
  try dsimp only at e
  rw[e];exact k
def xL{K:Wz}{tl:TE}{g:TG}{tb:TS}{D:gl}{σ:St}{H:Hp}(h:tl σ H fun v H1=>∃a,v = .ref a/\(∃xs,SqT K H1 a xs)/\FE (Itt K a) g tb D σ H1):sS (Ea K tl) g tb D σ H:=h
def xT{K:Wz}{a:WN}{xs:List V}{g:TG}{tb:TS}{D:gl}{σ:St}{H:Hp}(Pv:Nat->St->Hp->Prop)(h0:Pv 0 σ H)(hl:∀i σ H,Pv i σ H->SqT K H a xs)
 (hs:∀i x σ H,xs[i]? = some x->Pv i σ H->g x σ H fun σ2 H2=>tb { D with nx:=Pv (i+1),ct:=Pv (i+1),bk:=D.nx } σ2 H2) (hd:∀σ H,Pv xs.length σ H->D.nx σ H):FE (Itt K a) g tb D σ H:=by
 refine⟨fun i m σ H=>m=xs.length-i/\i<=xs.length/\Pv i σ H,⟨_,rfl,rp _,h0⟩,?_⟩;rintro i m σ H ⟨rfl,hi,p⟩;have q:=hl i σ H p;obtain lt|ge:=Yu i xs.length
 .refine .inr ⟨⟨xs,xs[i],q,by simp[lt]⟩,Pv (i+1),fun σ' H' p'=>⟨_,by lia,rfl,lt,p'⟩,?_⟩
  rintro x H' ⟨rfl,hy⟩;exact hs i x σ _ (hy xs q) p
 .obtain rfl:i=xs.length:=XR hi ge
  exact .inl ⟨⟨xs,q,ym _⟩,hd σ H p⟩
noncomputable def prO(d:Int)(r:Row):PR:=(MO d,r.pa,r.cu,r.am)
def Kb(b:WN)(XB:List (List Key × V))(H H':Hp):Prop:=∀p o,H p=some o->p≠b -> ¬ fp XB p->H' p=some o
def sp_DA(C:WN):Sp:=sp2 fun s x H Q _=>asR s fun r=>asR x fun bk=>∃b XB R n d t vs rs,∃x0 x2 x4:V,SA C H r b XB R n/\H b=some (.dT XB)/\NoB b H/\n+10<=500/\H bk=some (.tup [x0,.int d,x2,.ref t,x4])/\(0<=d/\d<=146096)/\H t=some (.tup vs)/\A2 (WY H) vs rs/\rs.length<=7 /\
 ∀kvs' H',SA C H' r b kvs' (R++rs.map (prO d)) (n+rs.length)->H' b=some (.dT kvs')->NoB b H'->(∀p,fp kvs' p->fp XB p\/H p=none)->Kb b XB H H'->Q .non H'
def mi(T:Txt K mg a):Mo P w K mg base a.ce "put" 5 (sp_DA a.ce):=by
 refine T.wf.hx ["self","booking","month","path","currency","amount","by_month"] (gX2 fun x0 x1 fA XD A XF s H Q E ND HU hr h=>?_);obtain⟨r,rfl,h1⟩:=aQ h;refine br (aQ h1) fun bk yy1 yz=>IT yz fun b kvs0 R n d t vs rs yz=>Kq yz fun x0 x2 x4 SS hb0 nB nn hbk hd ht ha lr k=>?_;subst yy1;have sz:1000<WI:=by rw[tV];decide
 refine⟨_,(ae (iG (aV 2 ND (aH (lI T) hr aq (fa1 (aK K (fv 1) ad)))))
  (af (b7 (by passes_own) rfl (mU K (aK K (fv 1) ad)) (cN K (n:=3) rfl (aO (av (i:=3) ND rfl (Wi rfl)) (aO (av (i:=4) ND rfl (Wi rfl)) (aO (av (i:=5) ND rfl (Wi rfl)) cL)))) (ae (aV 6 ND (xm (Zz HU) (bx K (fv 0)) (bU (fa2 (fv 3) (fv 4))) gH ⟨rfl,rfl,rfl,rfl⟩))
  (af (cE (Zz HU) (fv 6) (fv 2) (ah aT (gg (Zz HU) (fv 6) (fv 2) ad ⟨rfl,rfl,rfl,rfl⟩) (fv 5)) rfl)))))),?_⟩
 walk_at "z";have tb:∀ {c l},H c=some (.tup l)->c≠b:=fun e=>dY e hb0;have tf:∀ {c l},H c=some (.tup l) -> ¬ fp kvs0 c:=fun e q=>by
  obtain⟨m,z⟩:=SS.dct q;rw[e]at z;cases z
 refine⟨b,.dT kvs0,rfl,hb0,fun o=>⟨_,_,.inr (aY ((ag (tb hbk)).trans hbk)),aI (j:=1) rfl,?_⟩⟩;walk_at "z";refine⟨nB.frz _ _,hd,aa,?_⟩;rw[dO hb0];refine xL ?_;walk_at "z";refine⟨_,_,.inr (aY hbk),aI (j:=3) rfl,t,rfl,⟨_,aY ht⟩,xT (xs:=vs) (fun i σ' H'=>∃XB x3 x4 x5 x6,SA a.ce H' r b XB (R++(rs.take i).map (prO d)) (n+i)/\H' b=some (.dT XB)/\NoB b H'/\(∀p,fp XB p->fp kvs0 p\/H p=none)/\Kb b kvs0 H H'/\σ'=[some (.ref r),some (.ref bk),some (.int (MO d)),x3,x4,x5,x6]) ⟨kvs0,none,none,none,none,?_,hb0,nB,fun p h=>.inl h,fun p o e _ _=>e,rfl⟩ (fun i σ' H' ⟨_,_,_,_,_,_,_,_,_,K',_⟩=>aY (K' _ _ ht (tb ht) (tf ht))) ?_ ?_⟩
 .rw[List.take_zero,ZR,Zs];exact SS
 .rintro i x σ' H' hx ⟨XB,x3,x4',x5,x6,S1,hb1,nB1,hf,K',rfl⟩
  refine br (ha.at_ hx) fun row hrow yz=>br yz fun tt yy1 htt=>?_;subst yy1;have htt':=K' _ _ htt (tb htt) (tf htt);obtain⟨dx,hr0⟩:=S1.ob;have B:=S1.bp;walk_at "z";refine⟨_,_,rfl,aY htt',rfl,_,_,rfl,_,_,rfl,_,_,rfl,rfl,?_⟩;unfold Bf;walk_at "q";have li:i<rs.length:=(Wu.mp hrow).1;have et:R++(rs.take (i+1)).map (prO d)=(R++(rs.take i).map (prO d))++[(MO d,row.pa,row.cu,row.am)]:=by
   rw[Xj,hrow,yB,YI];rfl
  rw[et];have l1:=B.len;refine⟨_,_,_,_,hr0,T.gL,T.eN,JP _,b,rfl,.inr ⟨_,.inl hb1⟩,by lia,fun p hp p1 hp1=>?_⟩;have s2:=aj (HO.tup [VZ row.pa,VZ row.cu]) hp;have s3:=s2.trans (aj (HO.dK []) hp1);have p0:H' p1=none:=s2.free hp1;have htp:upd (upd H' p (HO.tup [VZ row.pa,VZ row.cu])) p1 (HO.dK []) p=some (.tup ((kP (row.pa,row.cu)).map kV)):=aj (HO.dK []) hp1 _ _ aa;have h1p:upd (upd H' p (HO.tup [VZ row.pa,VZ row.cu])) p1 (HO.dK []) p1=some (.dK []):=aa;have nB3:NoB b (upd (upd H' p (HO.tup [VZ row.pa,VZ row.cu])) p1 (HO.dK [])):=(nB1.upd rfl).upd rfl;generalize upd (upd H' p (HO.tup [VZ row.pa,VZ row.cu])) p1 (HO.dK [])=G at s3 htp h1p nB3 |-
  have S3:=S1.same s3;have B3:=S3.bp;have hb3:=s3 _ _ hb1;have g:=DGet.t (k:=kP (row.pa,row.cu)) hb3 htp;have fin:∀(kvs':List (List Key × V)) (H4:Hp),BP H4 b kvs' ((R++(rs.take i).map (prO d))++[(MO d,row.pa,row.cu,row.am)]) (n+(i+1))->H4 b=some (.dT kvs')->NoB b H4->(∀q,fp kvs' q->fp XB q\/q=p1)->(∀q o,G q=some o->q≠b -> ¬ fp XB q->q≠p1->H4 q=some o) ->
   ∃kvs' x3 x4 x5 x6,SA a.ce H4 r b kvs' ((R++(rs.take i).map (prO d))++[(MO d,row.pa,row.cu,row.am)]) (n+(i+1))/\H4 b=some (.dT kvs')/\NoB b H4/\(∀q,fp kvs' q->fp kvs0 q\/H q=none)/\Kb b kvs0 H H4/\some (VZ row.pa)=x3/\some (VZ row.cu)=x4/\some (V.int row.am)=x5/\x6=x6:=fun kvs' H4 B4 b4 n4 f4 k4=>by
   have nwb:∀q o,H q=some o->q≠b -> ¬ fp kvs0 q -> ¬ fp XB q/\q≠p1:=fun q o e n1 n2=>by
    exact⟨fun z=>(hf q z).elim n2 fun z=>(by rw[e]at z;cases z),aM (K' q o e n1 n2) p0⟩
   refine⟨kvs',_,_,_,some (V.int 0),⟨⟨dx,?_⟩,B4⟩,b4,n4,fun q h=>?_,fun q o e n1 n2=>?_,rfl,rfl,rfl,rfl⟩
   .refine k4 _ _ (s3 _ _ hr0) (dY hr0 hb1) (fun q=>?_) (aM hr0 p0)
    obtain⟨m,z⟩:=S1.dct q;rw[hr0]at z;cases z
   .obtain h|h:=f4 q h
    .exact hf q h
    .by_cases w1:fp kvs0 q
     .exact .inl w1
     .refine .inr ?_
      cases e:H q with
      |none=>rfl
      |some o=>
       have qb:q≠b:=fun z=>by rw[<- h,z,hb1]at p0;cases p0
       exact Wa h (nwb q o e qb w1).2
   .obtain⟨c2,c3⟩:=nwb q o e n1 n2
    exact k4 q o (s3 _ _ (K' q o e n1 n2)) n1 c2 c3
  cases e:bw XB (kP (row.pa,row.cu)) with
  |some v=>
   rw[e]at g;have mv:=jO e;refine zV (B3.to _ _ mv) fun x' y' e' m' e1 yy1 h4 h5 h6=>?_;subst yy1;have eg:(bw m' (.inl (MO d))).getD (.int 0) = .int (gM m' (MO d)):=by
    unfold gM;cases ev:bw m' (.inl (MO d)) with
    |none=>rfl
    |some v2=>
     obtain⟨_,x9,_,rfl⟩:=h6.it _ _ (jO ev)
     rfl
   have eb:b≠e':=lM B3.at_ h4 rfl (by intro _ _ z;cases z);obtain⟨kvs',y3,y4,y5,y6,S2,b2,n2,hf2,K2,e3,e4,e5,_⟩:=fin XB _ (B3.put (d:=MO d) (am:=row.am) mv h4) ((ag eb).trans hb3) (nB3.upd rfl) (fun q h=>.inl h) fun q o z _ c2 _=>by
    rw[ag fun z=>c2 ⟨_,z ▸ mv⟩];exact z
   refine .inl ⟨_,g,e',rfl,.inl ⟨_,.inl h4⟩,_,DGet.k (k:=.inl (MO d)) h4,?_⟩;rw[eg];walk_at "q";exact⟨e',_,rfl,DPut.k (k:=.inl (MO d)) h4 (by lia),kvs',_,_,_,_,S2,b2,n2,hf2,K2,rfl,rfl,rfl,rfl⟩
  |none=>
   rw[e]at g;have nf:¬ fp XB p1:=fun q=>by
    obtain⟨m,z⟩:=S1.dct q;rw[p0]at z;cases z
   have eb:p1≠b:=Wj (aM hb1 p0);have bE:upd (upd G b (.dT (bi XB (kP (row.pa,row.cu)) (.ref p1)))) p1 (.dK (bi [] (.inl (MO d)) (.int (gM [] (MO d)+row.am)))) b=some (.dT (bi XB (kP (row.pa,row.cu)) (.ref p1))):=(ag (Wj eb)).trans aa;obtain⟨kvs',y3,y4,y5,y6,S2,b2,n2,hf2,K2,e3,e4,e5,_⟩:=fin _ _ (B3.add (d:=MO d) (am:=row.am) e nf eb) bE (by
    intro c o h nb;by_cases q:c=p1
    .rw[q,aa]at h;cases h;rfl
    .rw[ag q,ag nb]at h;exact nB3 c o h nb) (fun q ⟨k1,m1⟩=>by
    obtain e1|⟨m1,_⟩:=iK.mp m1
    .exact .inr (V.ref.inj (Zg e1).2)
    .exact .inl ⟨k1,m1⟩) fun q o z c1 _ c3=>by rw[ag c3,ag c1];exact z
   have h2p:upd G b (.dT (bi XB (kP (row.pa,row.cu)) (.ref p1))) p1=some (.dK []):=(ag eb).trans h1p;exact .inr ⟨g,_,DPut.t hb3 htp (by lia),.inl ⟨_,.inl h2p⟩,_,DGet.k (k:=.inl (MO d)) h2p,p1,_,rfl,DPut.k (k:=.inl (MO d)) h2p (by show 0<_;lia),kvs',_,_,_,_,S2,b2,n2,hf2,K2,rfl,rfl,rfl,rfl⟩
 .rintro σ' H' ⟨XB,x3,x4',x5,x6,S1,hb1,nB1,hf,K',rfl⟩
  rw[ha.len,Zx]at S1;exact k XB H' S1 hb1 nB1 hf K'
end
section
open K3
structure Sl(f:List Nat->Int)(L:List Pr):Prop where
 io:InO (L.map (·.1))
 nd:(L.map (·.1)).Nodup
 it:∀x∈L,x.2=f x.1/\x.2≠0
 all:∀c,f c≠0->c∈L.map (·.1)
def Sl.uniq{f:List Nat->Int}{L L':List Pr}(h:Sl f L)(h':Sl f L'):L=L':=by
 have r:∀ {L:List Pr},Sl f L->L=(L.map (·.1)).map fun c=>(c,f c):=fun {L} h=>by
  rw[uR];exact(Ye L).symm.trans (lW fun x m=>Prod.ext rfl (h.it x m).1)
 have s:∀ {L L':List Pr},Sl f L->Sl f L'->∀c,c∈L.map (·.1)->c∈L'.map (·.1):=fun {L L'} h h' c m=>by
  obtain⟨x,mx,rfl⟩:=yI.mp m;have:=h.it x mx;exact h'.all _ (by rw[<- this.1];exact this.2)
 rw[r h,r h',GN h.io h'.io h.nd h'.nd fun c=>⟨s h h' c,s h' h c⟩]
def sN(x:Pr)(L:List Pr)(c:List Nat):psm (x::L) c=(if x.1=c then x.2 else 0)+psm L c:=by
 unfold psm;by_cases h:x.1=c
 .rw[tR (by simpa using h),Wf h];simp
 .rw[tK (by simpa using h),Wg h];simp
def wC(A B:List Pr)(c:List Nat):psm (A++B) c=psm A c+psm B c:=by
 unfold psm;rw[Zp,yB,List.sum_append]
theorem A5{f:List Nat->Int}{c:List Nat}:∀ {L:List Pr},(L.map (·.1)).Nodup->(∀x∈L,x.2=f x.1)->psm L c=if c∈L.map (·.1) then f c else 0
 | [],_,_=>rfl
 |x::L,nd,h=>by
  rw[xY]at nd |-
  obtain⟨n1,n2⟩:=yE.mp nd;rw[sN,A5 n2 fun y m=>h y (.tail _ m),h x (.head _)];by_cases e:x.1=c
  .subst e
   rw[Wf rfl,Wg n1,Wf (.head _),ZQ]
  .rw[Wg e,Yj]
   by_cases m:c∈L.map (·.1)
   .rw[Wf m,Wf (.tail _ m)]
   .rw[Wg m,Wg fun z=>(zk.mp z).elim (fun z=>e z.symm) m]
def Sl.psm{f:List Nat->Int}{L:List Pr}(h:Sl f L)(c:List Nat):psm L c=f c:=by
 rw[A5 h.nd fun x m=>(h.it x m).1];by_cases m:c∈L.map (·.1)
 .rw[Wf m]
 .rw[Wg m]
  by_cases z:f c=0
  .exact z.symm
  .exact Wa (h.all c z) m
def Sl.of{f:List Nat->Int}{out:List (List Nat)}(io:InO out)(nd:out.Nodup)(all:∀c,f c≠0->c∈out):Sl f ((out.filter fun c=>decide (f c≠0)).map fun c=>(c,f c)):=by
 have e:((out.filter fun c=>decide (f c≠0)).map fun c=>(c,f c)).map (·.1)=out.filter fun c=>decide (f c≠0):=by
  rw[uR];exact Ye _
 refine⟨by rw[e];exact Xg _ io,by rw[e];exact Xg _ nd,fun x m=>?_,fun c h=>by rw[e];exact Zf.mpr ⟨all c h,We h⟩⟩;obtain⟨c,mc,rfl⟩:=yI.mp m;exact⟨rfl,of_decide_eq_true (Zf.mp mc).2⟩
def Sl.tog{cs:List Pr}{out:List (List Nat)}(io:InO out)(nd:out.Nodup)(h:∀c,c∈out↔∃x∈cs,x.1=c):Sl (K18.psm cs) (K18.tog cs out):=
 Sl.of io nd fun c z=>(h c).mpr (Z8 fun n=>z (t6 fun x m e=>n ⟨x,m,e⟩))
def Sl.cong{f g:List Nat->Int}{L:List Pr}(e:∀c,f c=g c)(h:Sl f L):Sl g L:=(funext e:f=g) ▸ h
def yU{a b:List Nat}(h:a<b):¬ b<a:=fun z=>Xi _ (List.lt_trans h z)
def Sl.prs{rs:List Row}{o:List Pt}(po:o.Perm ((dk rs).map (·.1)))(oo:oA o)(l:List Nat):Sl (fun c=>sm rs (l,c)) (K18.prs (res rs o) l):=by
 have e:K18.prs (res rs o) l=(((o.filter fun k=>decide (k.1=l)).map (·.2)).filter fun c=>decide (sm rs (l,c)≠0)).map fun c=>(c,sm rs (l,c)):=by
  unfold K18.prs res;clear po oo
  induction o with
  |nil=>rfl
  |cons k o ih=>
   by_cases h1:k.1=l
   .subst h1
    rw[tR (p:=fun q:Pt=>decide (q.1=k.1)) (by simp),xY];by_cases h2:sm rs (k.1,k.2)=0
    .rw[tK (by simpa [n8] using h2),tK (by simpa using h2),ih]
    .rw[tR (by simpa [n8] using h2),tR (by simpa using h2),xY,xY,tR (by simp),xY,ih,n8]
   .rw[tK (p:=fun q:Pt=>decide (q.1=l)) (by simpa using h1)]
    by_cases h2:val rs k=0
    .rw[tK (by simpa using h2),ih]
    .rw[tR (by simpa using h2),xY,tK (by simpa using h1),ih]
 rw[e];have pw:((o.filter fun k=>decide (k.1=l)).map (·.2)).Pairwise fun a b=>a<b:=by
  refine List.pairwise_map.mpr (XV (fun {x y} mx my h=>?_) (Xg _ oo));have ex:x.1=l:=of_decide_eq_true (Zf.mp mx).2;have ey:y.1=l:=of_decide_eq_true (Zf.mp my).2;obtain h|h:=h
  .rw[ex,ey]at h;exact Wa h (Xi _)
  .exact h.2
 refine Sl.of (pw.imp fun h=>yU h) (pw.imp fun h z=>by rw[z]at h;exact Xi _ h) fun c z=>?_;refine yI.mpr ⟨(l,c),Zf.mpr ⟨?_,by simp⟩,rfl⟩;exact Z8 fun n=>z (Fa po n)
noncomputable def raN(l:List Nat):List Nat:=cf [58] (spN 58 l).dropLast
def wI{n:List Nat}(h:58∉n):lup n=[n]:=by
 unfold lup abN;rw[f_ 58 n h];rfl
def wE{n:List Nat}(h:58∉n):raN n=[]:=by
 unfold raN;rw[f_ 58 n h];rfl
def qX{u n:List Nat}(h:58∉n):raN (u++58::n)=u:=by
 unfold raN;rw[gJ h,List.dropLast_concat,fX]
structure Pk(l:List Nat):Prop where
 nd:(lup l).Nodup
 ne:[]∉lup l
 mp:(lup l).map raN=[]::abN l
 ln:∀x∈lup l,x.length<=l.length
def Pk.top{n:List Nat}(h:58∉n)(h1:1<=n.length):Pk n:=by
 have e:=wI h;have ea:abN n=[]:=by
  have:=Wb List.dropLast e;unfold lup at this;rw[List.dropLast_concat]at this;exact this
 refine⟨by rw[e];exact yE.mpr ⟨(fun m=>nomatch m),Zu⟩,by rw[e];intro m;rw[<- zw.mp m]at h1;exact Wa h1 (by decide),by rw[e,ea,Yw,wE h],fun x m=>?_⟩;rw[e]at m;rw[zw.mp m];exact ym _
def Pk.ext{u n:List Nat}(k:Pk u)(h:58∉n):Pk (u++58::n):=by
 have e:lup (u++58::n)=lup u++[u++58::n]:=by
  show abN (u++58::n)++_=_;rw[mW h];rfl
 have nl:u++58::n∉lup u:=fun m=>by
  have:=k.ln _ m;rw[zc,sP]at this;lia
 refine⟨by rw[e];exact d8 k.nd nl,by rw[e];intro m;obtain m|m:=yf.mp m;exact k.ne m;have:=zw.mp m;simp at this,?_,fun x m=>?_⟩
 .rw[e,yB,k.mp,Yw,qX h,mW h];rfl
 .rw[e]at m
  obtain m|m:=yf.mp m
  .have:=k.ln x m
   rw[zc];lia
  .rw[zw.mp m];exact ym _
def Pths.pk{c:Int}{ps:List (List Nat)}(h:Pths c ps):∀p∈ps,Pk p/\∀x∈lup p,x∈ps:=by
 have tp:∀ {k:Nat} {qs:List (List Nat)},nms c k∈qs->Pk (nms c k)/\∀x∈lup (nms c k),x∈qs:=fun {k qs} m=>⟨Pk.top (c8 c k) (iI (c:=c) (k:=k)).1,fun x mx=>by
  rw[wI (c8 c k)]at mx;rw[zw.mp mx];exact m⟩
 induction h with
 |two=>
  intro p m;simp only[zk,vO,or_false]at m;obtain rfl|rfl:=m
  .exact tp (.head _)
  .exact tp (.tail _ (.head _))
 | @more ps u k h hu _ _ ih=>
  intro p m;obtain m|m:=yf.mp m
  .exact⟨(ih p m).1,fun x mx=>uj _ ((ih p m).2 x mx)⟩
  .rw[zw.mp m]
   refine⟨(ih u hu).1.ext (c8 c k),fun x mx=>?_⟩;have mx:x∈abN (u++58::nms c k)++[u++58::nms c k]:=mx;rw[mW (c8 c k)]at mx;obtain mx|mx:=yf.mp mx
   .exact uj _ ((ih u hu).2 x mx)
   .exact uD _ mx
theorem iJ{α:Type}{g:α->Int}:∀ {l:List α},(∀x∈l,g x=0)->(l.map g).sum=0
 | [],_=>rfl
 |x::l,h=>by rw[xY,Yb,h x (.head _),iJ fun y m=>h y (.tail _ m)];rfl
theorem qT{α:Type}{f g:α->Int}:∀l:List α,(l.map fun x=>f x+g x).sum=(l.map f).sum+(l.map g).sum
 | []=>rfl
 |x::l=>by rw[xY,xY,xY,Yb,Yb,Yb,qT l];lia
theorem j9{α:Type}{g:α->Int}{k:α}{v:Int}:∀ {l:List α},l.Nodup->k∈l->g k=v->(∀x∈l,x≠k->g x=0)->(l.map g).sum=v
 |x::l,nd,m,e,h=>by
  obtain⟨n1,n2⟩:=yE.mp nd;rw[xY,Yb];obtain q|m:=zk.mp m
  .subst q
   rw[e,iJ fun y my=>h y (.tail _ my) fun z=>n1 (z ▸ my),ZQ]
  .rw[h x (.head _) (fun z=>n1 (z ▸ m)),j9 n2 m e fun y my=>h y (.tail _ my),Yj]
def mV{r:Row}(nd:(lup r.pa).Nodup)(l c:List Nat):sm (wq r) (l,c)=if l∈lup r.pa/\r.cu=c then r.am else 0:=by
 unfold wq;generalize lup r.pa=ps at nd
 induction ps with
 |nil=>simp[sm]
 |cons p q ih=>
  obtain⟨n1,n2⟩:=yE.mp nd;rw[xY,sm,ih n2];show(if (p,r.cu)=(l,c) then r.am else 0)+_=_;by_cases e2:r.cu=c
  .by_cases e1:p=l
   .subst e1
    rw[Wf (by rw[e2]),Wg fun z=>n1 z.1,Wf ⟨.head _,e2⟩,ZQ]
   .rw[Wg fun z=>e1 (Zg z).1,Yj]
    by_cases m:l∈q
    .rw[Wf ⟨m,e2⟩,Wf ⟨.tail _ m,e2⟩]
    .rw[Wg fun z=>m z.1,Wg fun z=>(zk.mp z.1).elim (fun z=>e1 z.symm) m]
  .rw[Wg fun z=>e2 (Zg z).2,Wg fun z=>e2 z.2,Wg fun z=>e2 z.2];rfl
noncomputable def kid(out:List (List Nat))(l:List Nat):List (List Nat):=out.filter fun k=>decide (raN k=l)
def IJ{out:List (List Nat)}{r:Row}(nd:out.Nodup)(k:Pk r.pa)(sub:∀x∈lup r.pa,x∈out)(l c:List Nat) :
 ((kid out l).map fun x=>sm (wq r) (x,c)).sum=if (l=[]\/l∈abN r.pa)/\r.cu=c then r.am else 0:=by
 have nk:(kid out l).Nodup:=Xg _ nd;have ndm:((lup r.pa).map raN).Nodup:=by
  rw[k.mp];refine yE.mpr ⟨fun m=>k.ne (uj _ m),?_⟩;have:=k.nd;unfold lup at this;exact(ZW.mp this).1
 by_cases h:(l=[]\/l∈abN r.pa)/\r.cu=c
 .rw[Wf h]
  have ml:l∈(lup r.pa).map raN:=by
   rw[k.mp];obtain e|m:=h.1
   .rw[e];exact .head _
   .exact .tail _ m
  obtain⟨x,mx,ex⟩:=yI.mp ml;refine j9 nk (k:=x) (Zf.mpr ⟨sub x mx,We ex⟩) (by rw[mV k.nd,Wf ⟨mx,h.2⟩]) fun y my ny=>?_;rw[mV k.nd,Wg fun z=>ny ?_];exact uq ndm z.1 mx ((of_decide_eq_true (Zf.mp my).2).trans ex.symm)
 .rw[Wg h]
  refine iJ fun y my=>?_;rw[mV k.nd,Wg fun z=>h ⟨?_,z.2⟩];have ml:=xW (f:=raN) z.1;rw[of_decide_eq_true (Zf.mp my).2,k.mp]at ml;obtain e|m:=zk.mp ml
  .exact .inl e
  .exact .inr m
def pI(r:Row)(R:List Row):dU (r::R)=wq r++dU R:=ZI
theorem mh{out:List (List Nat)}(nd:out.Nodup){l:List Nat}(hl:l≠[])(c:List Nat):∀ {R:List Row},(∀r∈R,Pk r.pa/\∀x∈lup r.pa,x∈out)->sm (dU R) (l,c)=sm R (l,c)+((kid out l).map fun x=>sm (dU R) (x,c)).sum
 | [],_=>by rw[iJ (g:=fun x=>sm (dU []) (x,c)) fun _ _=>rfl];rfl
 |r::R,h=>by
  obtain⟨k,sub⟩:=h r (.head _);have ih:=mh nd hl c fun x m=>h x (.tail _ m);simp only[pI,kA];rw[qT,IJ nd k sub,ih,sm,mV k.nd];have na:r.pa∉abN r.pa:=fun m=>(ZW.mp (show(abN r.pa++[r.pa]).Nodup from k.nd)).2.2 _ m _ (.head _) rfl;have e:(if l∈lup r.pa/\r.cu=c then r.am else 0)=(if (r.pa,r.cu)=(l,c) then r.am else 0)+if (l=[]\/l∈abN r.pa)/\r.cu=c then r.am else 0:=by
   by_cases e2:r.cu=c
   .by_cases e1:r.pa=l
    .subst e1
     rw[Wf ⟨uD _ (.head _),e2⟩,Wf (by rw[e2]),Wg fun z=>z.1.elim hl na,ZQ]
    .rw[Wg (c:=(r.pa,r.cu)=(l,c)) fun z=>e1 (Zg z).1,Yj]
     by_cases m:l∈abN r.pa
     .rw[Wf ⟨uj _ m,e2⟩,Wf ⟨.inr m,e2⟩]
     .rw[Wg fun z=>(yf.mp z.1).elim m fun z=>e1 (zw.mp z).symm,Wg fun z=>z.1.elim hl m]
   .rw[Wg fun z=>e2 z.2,Wg fun z=>e2 (Zg z).2,Wg fun z=>e2 z.2];rfl
  rw[e];lia
theorem sA{out:List (List Nat)}(nd:out.Nodup)(c:List Nat):∀ {R:List Row},(∀r∈R,Pk r.pa/\∀x∈lup r.pa,x∈out)->((kid out []).map fun x=>sm (dU R) (x,c)).sum=sc R c
 | [],_=>by rw[iJ (g:=fun x=>sm (dU []) (x,c)) fun _ _=>rfl];rfl
 |r::R,h=>by
  obtain⟨k,sub⟩:=h r (.head _);have ih:=sA nd c fun x m=>h x (.tail _ m);simp only[pI,kA];rw[qT,IJ nd k sub,ih,show r::R=[r]++R from rfl,jo,show sc [r] c=if r.cu=c then r.am else 0 from rR r c]
  congr 1
  by_cases e2:r.cu=c
  .rw[Wf ⟨.inl rfl,e2⟩,Wf e2]
  .rw[Wg fun z=>e2 z.2,Wg e2]
theorem oM{F:List Nat->List Pr}{g:List Nat->Int}{c:List Nat}:∀ {ks:List (List Nat)},(∀k∈ks,psm (F k) c=g k)->psm (ks.flatMap F) c=(ks.map g).sum
 | [],_=>rfl
 |k::ks,h=>by rw[ZI,wC,xY,Yb,h k (.head _),oM fun x m=>h x (.tail _ m)]
end
section
variable{P:WL}{w:WK}{K:Wz}{mg:Str->Option WO}{base:WF}{a:Adr}
open K3
def DW{ws:List V}{ls:List (List Nat)}(h:A2 (fun v c=>v=VZ c) ws ls):ws=ls.map VZ:=by
 induction h with
 |nil=>rfl
 |cons e _ ih=>rw[e,ih];rfl
def JI(ls:List (List Nat)):(ls.map VZ).all dB=true:=Zv.mpr fun x m=>by
 obtain⟨l,_,rfl⟩:=yI.mp m
 rfl
def RpAt.same{H H':Hp}{Ro Rw:List Row}{v:V}{x:Rp}(s:XA H H')(h:RpAt H Ro Rw v x):RpAt H' Ro Rw v x:=
 h.keep (S:=[]) (bF s) LW.nil (fun m=>nomatch m) (fun m=>nomatch m)
def dM{H H':Hp}{vs:List V}{cs:List Pr}(s:XA H H')(h:A2 (WU H) vs cs):A2 (WU H') vs cs:=bJ (S:=[]) (bF s) LW.nil h
def sp_B8(K:Wz):Sp:=sp2 fun x y H Q _=>WS H/\asR x fun D=>asR y fun pp=>∃Ro Rw ws xs ps,H D=some (.lst ws)/\A2 (RpAt H Ro Rw) ws xs/\H pp=some (.lst (ps.map VZ))/\InO (xs.map (·.l))/\(xs.map (·.l)).Perm ps/\ps.length<64/\(∀l,(prs Ro l).length<=100/\(prs Rw l).length<=100) /\
 ∀H',XA H H'->WS H'->Q (.bl true) H'
def pB(T:Txt K mg a):Fo P w K mg base "_law_kinds" 2 (sp_B8 K):=by
 refine T.qv.hx ["_law_told_here","_law_paths_here","_law_row","_law_pair"] (gX2 fun x0 x1 fA XD A XF s H Q E ND HU hr h=>?_);obtain⟨hN,h1⟩:=h;obtain⟨D,rfl,h2⟩:=aQ h1;obtain⟨pp,rfl,Ro,Rw,ws,xs,ps,hD,hA,hp,io,po,l64,lb,k⟩:=aQ h2;have sz:=szl;have lw:=hA.len;have lx:=po.length_eq;rw[zm]at lx;refine⟨_,(ae (bc (L2.PW.pt (fJ (bG (bz (aB (cI K) rfl T.a_ aZ (fa2 (fv 0) (cF (v:=.ty "list") rfl T.fV d9 rfl))))) (eP (bf (dw K HU) (bK rfl (cl:=_) (x:="_law_row") (xs:=["_law_row"]) (fr:=[]) (ks:=[]) (by walk_at "k") rfl (a7 K (fv 0)) (fun _ _ _ _ _=>(av (i:=0) (cQ (l:=["_law_row"]) (by decide)) rfl (Wi rfl))) (fun _ _ _ _ _=>cO) (fun _ _ _ _ _=>(aK K (fv 0) ad))) (aB (tO K) rfl T.iA gh (fa1 (fv 1))))))) (af (aA cW)) aJ)
  (ae (b7 (by passes_own) rfl (a7 K (fv 0)) (av (i:=2) ND rfl (Wi rfl)) (ae (bc (L2.PW.pt (fJ (bG (bz (aB (cI K) rfl T.a_ aZ (fa2 (fv 2) (cF (v:=.ty "tuple") rfl T.jR ii rfl))))) (fJ (bf (dw K HU) (aB (bV K) rfl T.dq cz (fa1 (fv 2))) ad) (fJ (bG (bz (aB (cI K) rfl T.a_ aZ (fa2 (aK K (fv 2) ad) (cF (v:=.ty "list") rfl T.fV d9 rfl))))) (eP (bG (bz (aB (cI K) rfl T.a_ aZ (fa2 (aK K (fv 2) ad) (cF (v:=.ty "list") rfl T.fV d9 rfl)))))))))) (af (aA cW)) aJ)
  (af (b7 (by passes_own) rfl (a7 K (ah lg (aK K (fv 2) ad) (aK K (fv 2) ad))) (av (i:=3) ND rfl (Wi rfl)) (af (bc (L2.PW.pt (fJ (bG (bz (aB (cI K) rfl T.a_ aZ (fa2 (fv 3) (cF (v:=.ty "tuple") rfl T.jR ii rfl))))) (fJ (bf (dw K HU) (aB (bV K) rfl T.dq cz (fa1 (fv 3))) ad) (eP (bG (bz (aH (pG T) hr aq (fa1 (aK K (fv 3) ad))))))))) (af (aA cW)) aJ))))))
  (af (aA cW)))),?_⟩
 have et:c_ H (.ref D)=some "list":=by simp[c_,hD]
 walk_at "q";simp only[et];refine itn (by decide) (fM ?_);walk_at "q";refine⟨⟨ws,al hD⟩,ceA (S:=fun _ v l=>v=VZ l) (fun _ _ _ _ _ h=>h) D ws xs (RpAt H Ro Rw) (fun _=>true) (·.l) hD hN hA (by lia) (fun v b mb rb G zs n1 n0 s1 N1 hz k1 k0=>?_) fun D1 ws1 H1 f1 s1 N1 g1 a1=>?_⟩
 .refine h_ (rb.same s1) fun q yy1 hq _=>?_;subst yy1
  obtain⟨z1,rfl⟩:=ex1 hz;walk_at "z";exact⟨⟨[_],rfl,rfl⟩,_,_,.inr (aY hq),aI (j:=0) rfl,k1 rfl _ _ (XA.refl _) N1 rfl⟩
 .rw[Zo.mpr (fun _ _=>rfl)]at a1
  rw[DW a1]at g1;walk_at "z";refine⟨ps,al (s1 _ _ hp),l64,fun out p1 i1 l fl=>⟨true,?_,itn (by decide) (b9 ?_)⟩⟩
  .have e:out=xs.map (·.l):=jU (p1.trans po.symm) i1 io
   have nl:D1≠l:=aM g1 fl;exact EqR.flatL (xs:=(xs.map (·.l)).map VZ) (al ((ag nl).trans g1)) (al (by rw[aa,e])) (JI _)
  refine bq (bo (o:=HO.lst (out.map VZ)) fl N1 rfl) fun H2 e2 s2 g2 N2=>?_;rw[e2];have s02:=s1.trans s2;walk_at "z";refine cn (al (s02 _ _ hD)) (cq (xs:=ws) (fun i σ' (G:Hp)=>XA H G/\WS G/\∃x2 x3,σ'=[some (.ref D),some (.ref pp),x2,x3]) ⟨s02,N2,none,none,rfl⟩ (fun i σ' G _ h=>al (h.1 _ _ hD)) ?_ ?_)
  .rintro i x σ' G hx ⟨sG,nG,x2,x3,rfl⟩
   refine br (hA.at_ hx) fun x hx' r=>?_;refine bq (r.same sG) fun q yy1 hq yy2 yz=>br yz fun is hi ai=>?_;subst yy1;obtain⟨us,ho,au⟩:=yy2;have lu:=au.len;have li:=ai.len;have bb:=lb x.l;walk_at "q";simp only[show c_ G (V.ref q)=some "tuple" by simp[c_,hq]];refine itn (by decide) ⟨_,.inr (aY hq),itp rfl ⟨_,_,.inr (aY hq),aI (j:=1) rfl,?_⟩⟩;rw[show c_ G (V.ref x.o)=some "list" by simp[c_,ho]];refine itn (by decide) ⟨_,_,.inr (aY hq),aI (j:=2) rfl,?_⟩;rw[show c_ G (V.ref x.i)=some "list" by simp[c_,hi]];refine itn (by decide) (b9 ?_);walk_at "z";refine⟨_,_,.inr (aY hq),aI (j:=1) rfl,_,_,.inr (aY hq),aI (j:=2) rfl,us,is,ho,hi,by lia,fun q1 fq1=>?_⟩;refine bq (bo (o:=HO.lst (us++is)) fq1 nG rfl) fun G1 e3 s3 g3 N3=>?_;rw[e3];have aC:=dM s3 (A2.app au ai);refine cn (al g3) (cq (xs:=us++is) (fun j σ' (F:Hp)=>F=G1/\∃x3,σ'=[some (.ref D),some (.ref pp),some (.ref q),x3]) ⟨rfl,_,rfl⟩ (fun j σ' F _ h=>by rw[h.1];exact al g3) ?_ ?_)
   .rintro j y σ' F hy ⟨rfl,x3,rfl⟩
    refine br (aC.at_ hy) fun c _ yz=>br yz fun qc yy1 hqc=>?_;subst yy1;walk_at "q";rw[show c_ F (V.ref qc)=some "tuple" by simp[c_,hqc]];exact itn (by decide) ⟨_,.inr (aY hqc),itp rfl ⟨_,_,.inr (aY hqc),aI (j:=1) rfl,N3,_,rfl⟩⟩
   .rintro σ' F ⟨rfl,x3,rfl⟩
    exact⟨sG.trans s3,N3,_,_,rfl⟩
  .rintro σ' G ⟨sG,nG,x2,x3,rfl⟩
   walk_at "z";exact k G sG nG
structure LB where
 b:Bo
 ov:Bool
def LbAt(H:Hp)(v:V)(x:LB):Prop:=∃q r ws,v = .ref q/\H q=some (.tup [.int x.b.k,.int x.b.d,.ref r,.bl x.ov])/\H r=some (.lst ws)/\A2 (WY H) ws x.b.rs
def LbAt.same{H H':Hp}{v:V}{x:LB}(s:XA H H')(h:LbAt H v x):LbAt H' v x:=by
 obtain⟨q,r,ws,e,h1,h2,h3⟩:=h;exact⟨q,r,ws,e,s _ _ h1,s _ _ h2,bh s h3⟩
structure TP(ps cu:List (List Nat))(R:List Row):Prop where
 np:ps.Nodup
 ne:[]∉ps
 l11:ps.length<=11
 lc:cu.length=3
 up:∀p∈ps,raN p∈[]::ps
 lo:∀p∈ps,(∀c∈p,c<128)/\p.length<=199
 rw:∀r∈R,Pk r.pa/\(∀x∈lup r.pa,x∈ps)/\r.cu∈cu
 ev:∀c,sc R c=0
 lR:R.length<=100
structure TO(R Ro Rw:List Row):Prop where
 o:∀l,Sl (fun c=>sm R (l,c)) (prs Ro l)
 w:∀l,Sl (fun c=>sm (dU R) (l,c)) (prs Rw l)
def TP.oc{ps cu:List (List Nat)}{R Ro Rw:List Row}(t:TP ps cu R)(o:TO R Ro Rw){l:List Nat}{x:Pr}(m:x∈prs Ro l):x.1∈cu:=by
 have h:=(o.o l).it x m;refine Z8 fun n=>h.2 (h.1.trans (iV fun r mr e=>n ?_));have e2:r.cu=x.1:=(Zg e).2;rw[<- e2];exact(t.rw r mr).2.2
def TP.wc{ps cu:List (List Nat)}{R Ro Rw:List Row}(t:TP ps cu R)(o:TO R Ro Rw){l:List Nat}{x:Pr}(m:x∈prs Rw l):x.1∈cu:=by
 have h:=(o.w l).it x m;refine Z8 fun n=>h.2 (h.1.trans (iV fun r mr e=>n ?_));have e2:r.cu=x.1:=(Zg e).2;obtain⟨z,mz,mr⟩:=YZ.mp mr;obtain⟨_,_,rfl⟩:=yI.mp mr;rw[<- e2];exact(t.rw z mz).2.2
def Hi{cu:List (List Nat)}{L:List Pr}(lc:cu.length=3)(nd:(L.map (·.1)).Nodup)(h:∀x∈L,x.1∈cu):L.length<=3:=by
 rw[<- zm (f:=(·.1)),<- lc];exact lC nd fun c m=>by
  obtain⟨x,mx,rfl⟩:=yI.mp m;exact h x mx
def TP.ol{ps cu:List (List Nat)}{R Ro Rw:List Row}(t:TP ps cu R)(o:TO R Ro Rw)(l:List Nat):(prs Ro l).length<=3:=Hi t.lc (o.o l).nd fun _ m=>t.oc o m
def TP.wl{ps cu:List (List Nat)}{R Ro Rw:List Row}(t:TP ps cu R)(o:TO R Ro Rw)(l:List Nat):(prs Rw l).length<=3:=Hi t.lc (o.w l).nd fun _ m=>t.wc o m
def di3{cu:List (List Nat)}{cs:List Pr}(lc:cu.length=3)(h:∀x∈cs,x.1∈cu){d:List Pr}(D:DI cs d):d.length<64:=
 ZD (Hi lc D.nd fun x m=>by
  obtain⟨y,my,e⟩:=D.of x.1 (xW m);rw[<- e];exact h y my) (by decide)
theorem xz(l c:List Nat):∀R:List Row,psm (prs R l) c=sm R (l,c)
 | []=>rfl
 |r::R=>by
  have ih:=xz l c R;unfold prs at ih |-
  rw[sm];by_cases h:r.pa=l
  .rw[tR (by simpa using h),xY,sN,ih]
   by_cases e:r.cu=c
   .rw[Wf e,Wf (by rw[h,e])]
   .rw[Wg e,Wg fun z=>e (Zg z).2]
  .rw[tK (by simpa using h),ih,Wg fun z=>h (Zg z).1,Yj]
noncomputable def rwP(l:List Nat)(L:List Pr):List Row:=L.map fun c=>⟨l,c.1,c.2⟩
def xB(R:List Row)(l z:List Nat)(L:List Pr):prs (R++rwP l L) z=prs R z++if l=z then L else []:=by
 unfold prs rwP;rw[Zp,yB]
 congr 1
 by_cases h:l=z
 .rw[Wf h,Zo.mpr fun r m=>by obtain⟨c,_,rfl⟩:=yI.mp m;exact We h,uR]
  exact Ye _
 .rw[Wg h,Yi.mpr fun r m=>by obtain⟨c,_,rfl⟩:=yI.mp m;simpa using h];rfl
def GAt.ext{H0 G G5:Hp}{d:WN}{ks:List (List Nat × WN)}{R:List Row}{e:List Nat × WN}{vs us:List V}{L:List Pr}(g:GAt H0 G d ks R)(me:e∈ks)(hl:G e.2=some (.lst vs))(au:A2 (WU G) us L)(k5:WZ [e.2] G G5)(g5:G5 e.2=some (.lst (vs++us))):GAt H0 G5 d ks (R++rwP e.1 L):=by
 have nd:=yE.mp g.na;have lw:=LW.one hl;refine⟨k5 _ _ g.dc fun m=>nd.1 (by rw[zw.mp m];exact xW me),g.nk,g.na,g.fr,fun z m=>?_,fun z m=>?_⟩
 .obtain m|m:=yf.mp m
  .exact g.has z m
  .obtain⟨c,_,rfl⟩:=yI.mp m
   exact xW me
 .obtain⟨ws,h1,h2⟩:=g.ls z m
  rw[xB];by_cases ez:z=e
  .subst ez
   rw[hl]at h1;cases h1;rw[Wf rfl];exact⟨_,g5,(bJ k5 lw h2).app (bJ k5 lw au)⟩
  .rw[Wg (fun q=>ez (uq g.nk m me q.symm)),Zs]
   exact⟨ws,k5 _ _ h1 fun m'=>ez (uq nd.2 m me (zw.mp m')),bJ k5 lw h2⟩
noncomputable def blR(Rw:List Row)(xs:List Rp):List Row:=xs.flatMap fun x=>rwP (raN x.l) (prs Rw x.l)
def tN(Rw:List Row)(xs:List Rp)(x:Rp):blR Rw (xs++[x])=blR Rw xs++rwP (raN x.l) (prs Rw x.l):=by
 unfold blR;rw[Z7,ZI,Xb,Zs]
def mP(Rw:List Row)(l:List Nat)(xs:List Rp):prs (blR Rw xs) l=(kid (xs.map (·.l)) l).flatMap (prs Rw):=by
 induction xs using K19.snoc_ind with
 |h0=>rfl
 |h1 xs x ih=>
  rw[tN,xB,ih,yB];unfold kid;rw[Zp,Z7]
  congr 1
  by_cases h:raN x.l=l
  .rw[Wf h,Yw,tR (by simpa using h)];simp
  .rw[Wg h,Yw,tK (by simpa using h)];simp
theorem mR{Rw:List Row}(h:∀l,(prs Rw l).length<=3):∀xs:List Rp,(blR Rw xs).length<=3*xs.length
 | []=>ym _
 |x::xs=>by
  have ih:=mR h xs;have:=h x.l;show(rwP (raN x.l) (prs Rw x.l)++blR Rw xs).length<=_;rw[zc,sP];unfold rwP;rw[zm];lia
def mZ(R:List Row)(l:List Nat):(prs R l).length<=R.length:=by
 unfold prs;rw[zm];exact Zj _ _
def ED{H:Hp}{n:Nat}(l:List Nat):EqH K H n (VZ l) (VZ l) true:=by
 have:=EqH.flat (K:=K) (H:=H) (n:=n) (x:=VZ l) (y:=VZ l) rfl rfl
 rwa [show eqV (VZ l) (VZ l)=true by simp[eqV]]at this
def IM{H:Hp}{n:Nat}(i:Int):EqH K H n (.int i) (.int i) true:=by
 have:=EqH.flat (K:=K) (H:=H) (n:=n) (x:=.int i) (y:=.int i) rfl rfl
 rwa [show eqV (.int i) (.int i)=true by simp[eqV]]at this
def E0{H:Hp}{n:Nat}{v v':V}{x:Pr}(h:WU H v x)(h':WU H v' x):EqH K H (n+1) v v' true:=by
 obtain⟨q,rfl,h1⟩:=h;obtain⟨q',rfl,g1⟩:=h';by_cases hq:q=q'
 .subst hq;exact .same
 .exact EqH.tup (K:=K) (H:=H) (n:=n) (e:=fun _=>true) hq (aY h1) (aY g1) fun j x y gx gy=>by
   match j,gx with
   |0,gx=>cases gx;cases gy;exact ED _
   |1,gx=>cases gx;cases gy;exact IM _
   |j+2,gx=>simp at gx
def Cm{β:Type}{R:V->β->Prop}{H:Hp}{p q:WN}{xs ys:List V}{zs:List β}(e:∀x y z,R x z->R y z->EqH K H 50 x y true)(hp:H p=some (.lst xs))(hq:H q=some (.lst ys))(h:A2 R xs zs)(h':A2 R ys zs):EqR K H p q true:=by
 have:=EqR.lst (K:=K) (H:=H) (e:=fun _=>true) (al hp) (al hq) (h.len.trans h'.len.symm) fun j x y gx gy=>by
  obtain⟨z,g1,r1⟩:=h.at_ gx;obtain⟨z',g2,r2⟩:=h'.at_ gy;rw[g1]at g2;cases g2;exact e x y z r1 r2
 rwa [Zv.mpr fun _ _=>rfl]at this
def vE{H:Hp}{p q:WN}{xs ys:List V}{L:List Pr}(hp:H p=some (.lst xs))(hq:H q=some (.lst ys))(h:A2 (WU H) xs L)(h':A2 (WU H) ys L):EqR K H p q true:=Cm (R:=WU H) (fun _ _ _ r1 r2=>E0 r1 r2) hp hq h h'
def GAt.get{H0 G:Hp}{d:WN}{ks:List (List Nat × WN)}{R:List Row}(g:GAt H0 G d ks R){l:List Nat}(m:l∈ks.map (·.1)):∃e∈ks,e.1=l/\DGet G d (VZ l) (some (.ref e.2)):=by
 have dg:=DGet.k (k:=.inr ⟨⟨l⟩⟩) g.dc;rw[ji]at dg;cases ef:fK ks l with
 |none=>exact Wa m (mT ef)
 |some e=>
  rw[ef]at dg;obtain⟨me,ee⟩:=ow ef;exact⟨e,me,ee,dg⟩
def um(f t:Int)(bs:List Bo)(b:Bo):dN (btw f t (bs++[b]))=dN (btw f t bs)++if f<=b.d/\b.d<=t then b.rs else []:=by
 unfold btw dN;rw[Zp,Zp,Z7]
 congr 1
 by_cases h1:b.d<=t
 .rw[tR (by simpa using h1),Ym]
  by_cases h2:f<=b.d
  .rw[tR (by simpa using h2),Wf ⟨h2,h1⟩];simp
  .rw[tK (by simpa using h2),Wg fun z=>h2 z.1];rfl
 .rw[tK (by simpa using h1),Wg fun z=>h1 z.2];rfl
noncomputable def kwT(l:List Nat):Key:=.inr ⟨⟨l⟩⟩
structure RgP(H:Hp)(mk D:WN)(f t:Int)(R:List Row):Prop where
 ex:∃mv pp lb bvs ls ps cu Ro Rw ws xs,H mk=some (.dK mv)/\bw mv (kwT [112,97,116,104,115])=some (.ref pp)/\bw mv (kwT [98,111,111,107,101,100])=some (.ref lb)/\H lb=some (.lst bvs)/\A2 (LbAt H) bvs ls/\R=dN (btw f t (ls.map (·.b))) /\
  H pp=some (.lst (ps.map VZ))/\H D=some (.lst ws)/\A2 (RpAt H Ro Rw) ws xs/\InO (xs.map (·.l))/\(xs.map (·.l)).Perm ps/\TP ps cu R/\TO R Ro Rw/\ls.length<=10/\(∀x∈ls,x.b.rs.length<=7)
def sp_uD(K:Wz):Sp:=sp4 fun x y z u H Q _=>WS H/\asR x fun mk=>asR y fun D=>asI z fun f=>asI u fun t=>∃R,RgP H mk D f t R/\∀H',XA H H'->WS H'->Q (.bl true) H'
def d_(T:Txt K mg a):Fo P w K mg base "_law_right" 3 (sp_uD K):=by
 refine T.qY.hx ["_law_made","_law_told_here","_law_first_here","_law_last","_law_rows_here","_law_number","_law_day_here","_law_some","_law_is_over","_law_below","_law_path","_law_own","_law_within"] (gX4 fun x0 x1 x2 x3 fA XD A XF s H Q E ND HU hr h=>?_);obtain⟨hN,h1⟩:=h;obtain⟨mk,rfl,h2⟩:=aQ h1;obtain⟨D,rfl,h3⟩:=aQ h2;obtain⟨f,rfl,h4⟩:=a9 h3;refine br (a9 h4) fun t yy1 yz=>br yz fun R yy2 k=>?_;subst yy1;obtain⟨mv,pp,lb,bvs,ls,ps,cu,Ro,Rw,ws,xs,hmk,vP,vB,hlb,aL,eR,hpp,hD,aR,io,po,tp,to,lls,l7⟩:=yy2;have sz:=szl;have lw:=aR.len;have lx:=po.length_eq;rw[zm]at lx;have lp:=tp.l11;have nx:(xs.map (·.l)).Nodup:=po.nodup_iff.mpr tp.np
 skip
 have c7:∃u,PSs (c6 (XE P w) P w K mg base ["_law_made","_law_told_here","_law_first_here","_law_last","_law_rows_here","_law_number","_law_day_here","_law_some","_law_is_over","_law_below","_law_path","_law_own","_law_within"] "_law_right" (ay cH) fA XD A XF s H E) (ZB 6 (bB cH)) u/\∀(G:Hp) r vs bd ks x5 x6 x7 x8 x10 x11 x12,XA H G->WS G->G r=some (.lst vs)->A2 (WY G) vs R->GAt H G bd ks (blR Rw xs)->ks.map (·.1)=[]::ps->u { nx:=fun _ H'=>Q .non H',rt:=Q } [some (.ref mk),some (.ref D),some (.int f),some (.int t),some (.ref r),x5,x6,x7,x8,some (.ref bd),x10,x11,x12] G:=by
  refine⟨_,(ae (b7 (by passes_own) rfl (a7 K (fv 1)) (cN K (n:=3) rfl (aO (av (i:=10) ND rfl (Wh rfl)) (aO (av (i:=11) ND rfl (Wi rfl)) (aO (av (i:=12) ND rfl (Wi rfl)) cL)))) (ae (bc (bf (dw K HU) (fv 11) (aH (d7 T) hr aq (fa1 (bK rfl (cl:=_) (x:="_law_row") (xs:=["_law_row"]) (fr:=["_law_path"]) (ks:=[10]) (by walk_at "k") rfl (a7 K (fv 4)) (fun _ _ _ _ _=>(av (i:=0) (cQ (l:=["_law_row","_law_path"]) (by decide)) rfl (Wi rfl))) (fun _ _ _ _ _=>(gB (bf (cY K HU) (aK K (fv 0) ad) (fv 1)))) (fun _ _ _ _ _=>(bU (fa2 (aK K (fv 0) ad) (aK K (fv 0) ad)))))))) (af (aA cW)) aJ)
   (af (bc (bf (dw K HU) (fv 12) (aH (d7 T) hr aq (fa1 (ah lg (fv 11) (aP (Zz HU) (fv 9) (fv 10) (fun _ _=>rfl)))))) (af (aA cW)) aJ))))
   (af (aA (cX (cY K HU) (aH (d7 T) hr aq (fa1 (aP (Zz HU) (fv 9) (ak []) (fun _ _=>rfl)))) (cw (FA.pa cr)) (dD _))))),fun G r vs bd ks x5 x6 x7 x8 x10 x11 x12 sG nG gr ar GA ek=>?_⟩
  walk_at "z";refine b9 ?_;walk_at "z";refine cn (al (sG _ _ hD)) (cq (xs:=ws) (fun i σ' (F:Hp)=>XA G F/\WS F/\∃x10 x11 x12,σ'=[some (.ref mk),some (.ref D),some (.int f),some (.int t),some (.ref r),x5,x6,x7,x8,some (.ref bd),x10,x11,x12]) ⟨XA.refl _,nG,_,_,_,rfl⟩ (fun i σ' F _ h=>al (h.1 _ _ (sG _ _ hD))) ?_ ?_)
  .rintro i x σ' F hx ⟨sF,nF,y10,y11,y12,rfl⟩
   refine br (aR.at_ hx) fun x hx' rx=>?_;refine bq (rx.same (sG.trans sF)) fun q yy1 hq yy2 yz=>br yz fun is hi ai=>?_;subst yy1;obtain⟨us,ho,au⟩:=yy2;have ml:x.l∈xs.map (·.l):=xW (wt hx');have mp:x.l∈ps:=po.mem_iff.mp ml;walk_at "z";refine⟨q,_,rfl,aY hq,rfl,_,_,rfl,_,_,rfl,_,_,rfl,rfl,fM ?_⟩;walk_at "q";have lv:=ar.len;refine⟨⟨vs,al (sF _ _ gr)⟩,ceA (S:=WU) WU.mv r vs R (WY F) (fun z=>decide (z.pa=x.l)) (fun z=>(z.cu,z.am)) (sF _ _ gr) nF (bh sF ar) (by have:=tp.lR;lia) (fun v b mb rb F1 zs n1 n0 s1 N1 hz k1 k0=>?_) fun D1 ws1 F1 f1 s1 N1 g1 a1=>?_⟩
   .obtain⟨qb,rfl,hqb⟩:=rb
    have hqb:=s1 _ _ hqb;obtain⟨z1,rfl⟩:=ex1 hz;walk_at "z";refine⟨⟨[_],rfl,rfl⟩,_,_,.inr (aY hqb),aI (j:=0) rfl,?_⟩;walk_at "q";by_cases h:b.pa=x.l
    .exact itp h ⟨_,_,.inr (aY hqb),aI (j:=1) rfl,_,_,.inr (aY hqb),aI (j:=2) rfl,by lia,fun p1 fp1=>k1 (We h) _ _ (aj _ fp1) (aE N1 rfl) ⟨p1,rfl,aa⟩⟩
    .exact itn h (k0 (Wc h) _ (XA.refl _) N1)
   .have a1:A2 (WU F1) ws1 (prs R x.l):=a1
    have lR:=mZ R x.l;have hR:=tp.lR;walk_at "z";refine⟨N1,ws1,prs R x.l,g1,a1,by lia,fun d dd=>di3 tp.lc (fun y m=>?_) dd,fun out r2 ws2 F2 no ho2 io2 f2 g2 a2 s2 N2=>?_⟩
    .obtain⟨z,mz,rfl⟩:=yI.mp m
     exact(tp.rw z (Zf.mp mz).1).2.2
    walk_at "z";have e1:tog (prs R x.l) out=prs Ro x.l:=((Sl.tog io2 no ho2).cong fun c=>xz x.l c R).uniq (to.o x.l);rw[e1]at a2;have s02:=s1.trans s2;refine⟨true,vE (s02 _ _ ho) g2 (dM s02 au) a2,itn (by decide) ?_⟩;have GA2:=GA.same (sF.trans s02);refine h_ (GA2.get (l:=x.l) (by rw[ek];exact .tail _ mp)) fun e me ee dg=>?_;refine br (GA2.ls e me) fun bs hb ab=>?_;rw[ee,mP]at ab;have lB:((kid (xs.map (·.l)) x.l).flatMap (prs Rw)).length<=3*xs.length:=by
     rw[<- mP];exact r9 (mZ _ _) (mR (tp.wl to) xs)
    have lu:=au.len;have lb':=ab.len;have lo:=tp.ol to x.l;refine⟨bd,_,rfl,dg,us,bs,s02 _ _ ho,hb,by lia,fun q3 f3=>?_⟩;refine bq (bo (o:=HO.lst (us++bs)) f3 N2 rfl) fun F3 e3 s3 g3 N3=>?_;rw[e3];have aC:=dM s3 ((dM s02 au).app ab);have mC:∀y∈prs Ro x.l++(kid (xs.map (·.l)) x.l).flatMap (prs Rw),y.1∈cu:=fun y m=>by
     obtain m|m:=yf.mp m
     .exact tp.oc to m
     .obtain⟨z,_,mz⟩:=YZ.mp m
      exact tp.wc to mz
    refine⟨N3,_,_,g3,aC,by rw[zc];lia,fun d dd=>di3 tp.lc mC dd,fun out4 r4 ws4 F4 no4 ho4 io4 f4 g4 a4 s4 N4=>?_⟩;walk_at "z";have e4:tog (prs Ro x.l++(kid (xs.map (·.l)) x.l).flatMap (prs Rw)) out4=prs Rw x.l:=((Sl.tog io4 no4 ho4).cong fun c=>by
     rw[wC,(to.o x.l).psm,oM fun z _=>(to.w z).psm c];refine(mh nx (fun z=>tp.ne (z ▸ mp)) c fun z mz=>⟨(tp.rw z mz).1,fun y my=>po.mem_iff.mpr ((tp.rw z mz).2.1 y my)⟩).symm).uniq (to.w x.l)
    rw[e4]at a4;have s34:=(s02.trans s3).trans s4;exact⟨true,vE (s34 _ _ hi) g4 (dM s34 ai) a4,itn (by decide) ⟨sF.trans s34,N4,_,_,_,rfl,rfl,rfl⟩⟩
  .rintro σ' F ⟨sF,nF,y10,y11,y12,rfl⟩
   have GA2:=GA.same sF;refine h_ (GA2.get (l:=[]) (by rw[ek];exact .head _)) fun e me ee dg=>?_;refine br (GA2.ls e me) fun bs hb ab=>?_;rw[ee,mP]at ab;have lB:((kid (xs.map (·.l)) []).flatMap (prs Rw)).length<=3*xs.length:=by
    rw[<- mP];exact r9 (mZ _ _) (mR (tp.wl to) xs)
   walk_at "z";refine⟨bd,_,rfl,dg,nF,?_⟩;walk_at "z";refine⟨bs,_,hb,ab,by lia,fun d dd=>di3 tp.lc (fun y m=>?_) dd,fun out4 r4 ws4 F4 no4 ho4 io4 f4 g4 a4 s4 N4=>⟨rp _,fun q5 f5=>⟨true,?_,?_⟩⟩⟩
   .obtain⟨z,_,mz⟩:=YZ.mp m
    exact tp.wc to mz
   .have h0:Sl (fun _=>0) (tog ((kid (xs.map (·.l)) []).flatMap (prs Rw)) out4):=(Sl.tog io4 no4 ho4).cong fun c=>by
     rw[oM fun z _=>(to.w z).psm c,sA nx c fun z mz=>⟨(tp.rw z mz).1,fun y my=>po.mem_iff.mpr ((tp.rw z mz).2.1 y my)⟩];exact tp.ev c
    have e0:tog ((kid (xs.map (·.l)) []).flatMap (prs Rw)) out4=[]:=List.eq_nil_iff_forall_not_mem.mpr fun y m=>(h0.it y m).2 (h0.it y m).1;rw[e0]at a4;cases a4;exact EqR.flatL (xs:=[]) (al ((ag (aM g4 f5)).trans g4)) (al aa) rfl
   .exact k _ ((sG.trans (sF.trans s4)).trans (aj _ f5)) (aE N4 rfl)
 obtain⟨u7,hu7,c7⟩:=c7;have c5:∃u,PSs (c6 (XE P w) P w K mg base ["_law_made","_law_told_here","_law_first_here","_law_last","_law_rows_here","_law_number","_law_day_here","_law_some","_law_is_over","_law_below","_law_path","_law_own","_law_within"] "_law_right" (ay cH) fA XD A XF s H E) (ZB 5 (bB cH)) u/\∀(G:Hp) r vs bd ks x5 x6 x7 x8 x10,XA H G->WS G->G r=some (.lst vs)->A2 (WY G) vs R->H r=none->(∀c∈ks,c.2≠r)->GAt H G bd ks []->ks.map (·.1)=[]::ps->u { nx:=fun _ H'=>Q .non H',rt:=Q } [some (.ref mk),some (.ref D),some (.int f),some (.int t),some (.ref r),x5,x6,x7,x8,some (.ref bd),x10,none,none] G:=by
  refine⟨_,(ae (b7 (by passes_own) rfl (a7 K (fv 1)) (cN K (n:=3) rfl (aO (av (i:=10) ND rfl (Wh rfl)) (aO (av (i:=11) ND rfl (Wi rfl)) (aO (av (i:=12) ND rfl (Wi rfl)) cL)))) (af (bC (bY K qS XW XX xf (aP (Zz HU) (fv 9) (aH (i6 T) hr aq (fa1 (fv 10))) (fun _ _=>rfl)) (fa1 (fv 12))))))
   hu7),fun G r vs bd ks x5 x6 x7 x8 x10 sG nG gr ar fr nr GA ek=>?_⟩
  walk_at "z";refine b9 ?_;walk_at "z";refine cn (al (sG _ _ hD)) (cq (xs:=ws) (fun i σ' (F:Hp)=>XA H F/\WS F/\F r=some (.lst vs)/\A2 (WY F) vs R/\GAt H F bd ks (blR Rw (xs.take i))/\∃x10 x11 x12,σ'=[some (.ref mk),some (.ref D),some (.int f),some (.int t),some (.ref r),x5,x6,x7,x8,some (.ref bd),x10,x11,x12]) ⟨sG,nG,gr,ar,GA,_,_,_,rfl⟩ (fun i σ' F _ h=>al (h.1 _ _ hD)) ?_ ?_)
  .rintro i x σ' F hx ⟨sF,nF,gF,aF,GF,y10,y11,y12,rfl⟩
   refine br (aR.at_ hx) fun x hx' rx=>?_;refine bq (rx.same sF) fun q yy1 hq yy2 yz=>br yz fun is hi ai=>?_;subst yy1;obtain⟨us,ho,au⟩:=yy2;have ml:x.l∈xs.map (·.l):=xW (wt hx');have mp:x.l∈ps:=po.mem_iff.mp ml;refine h_ (GF.get (l:=raN x.l) (by rw[ek];exact tp.up _ mp)) fun e me ee dg=>?_;refine br (GF.ls e me) fun bs hb ab=>?_;have lB:=r9 (mZ (blR Rw (xs.take i)) e.1) (mR (tp.wl to) (xs.take i));rw[qF]at lB;have lb1:=ab.len;have li:=ai.len;have l3:=tp.wl to x.l;walk_at "z";refine⟨q,_,rfl,aY hq,rfl,_,_,rfl,_,_,rfl,_,_,rfl,rfl,?_⟩;walk_at "q";refine⟨nF,tp.lo _ mp,bd,_,rfl,dg,.inl ⟨rfl,_,al hb⟩,e.2,x.i,bs,is,rfl,rfl,hb,hi,by lia,?_⟩;refine bq (iX (p:=e.2) (o:=HO.lst (bs++is)) nF rfl) fun F1 e1 g1 k1 N1=>?_;rw[e1];have fe:H e.2=none:=GF.fr _ (.tail _ (xW me));have g2:=GF.ext me hb ai k1 g1;rw[ee,<- tN,<- bR hx']at g2;exact⟨WZ.toSame sF k1 fun c m=>(by rw[zw.mp m];exact fe),N1,k1 _ _ gF (fun m=>nr e me (zw.mp m).symm),ck k1 (LW.one hb) aF,g2,_,_,_,rfl,rfl,rfl⟩
  .rintro σ' F ⟨sF,nF,gF,aF,GF,y10,y11,y12,rfl⟩
   rw[lw,Zx]at GF;exact c7 F r vs bd ks x5 x6 x7 x8 y10 y11 y12 sF nF gF aF GF ek
 obtain⟨u5,hu5,c5⟩:=c5;have c3:∃u,PSs (c6 (XE P w) P w K mg base ["_law_made","_law_told_here","_law_first_here","_law_last","_law_rows_here","_law_number","_law_day_here","_law_some","_law_is_over","_law_below","_law_path","_law_own","_law_within"] "_law_right" (ay cH) fA XD A XF s H E) (ZB 3 (bB cH)) u/\∀(G:Hp) r vs x5 x6 x7 x8,XA H G->WS G->G r=some (.lst vs)->A2 (WY G) vs R->H r=none->u { nx:=fun _ H'=>Q .non H',rt:=Q } [some (.ref mk),some (.ref D),some (.int f),some (.int t),some (.ref r),x5,x6,x7,x8,none,none,none,none] G:=by
  refine⟨_,(ae (aV 9 ND (Af (ak []) (cw (FA.pa cr))))
   (ae (b7 (by passes_own) rfl (a7 K (aP (Zz HU) (fv 0) (ak [112,97,116,104,115]) (fun _ _=>rfl))) (av (i:=10) ND rfl (Wh rfl)) (af (cE (Zz HU) (fv 9) (fv 10) (cw (FA.pa cr)) rfl)))
   hu5)),fun G r vs x5 x6 x7 x8 sG nG gr ar fr=>?_⟩
  walk_at "z";unfold Bi;walk_at "z";intro bd fbd;refine bq (bo (o:=HO.dK []) fbd nG rfl) fun G1 e1 s1 g1 N1=>?_;rw[e1];refine⟨rp _,fun q0 f0=>?_⟩;refine bq (bo (o:=HO.lst []) f0 N1 rfl) fun G2 e2 s2 g2 N2=>?_;rw[e2];refine⟨s2 _ _ g1,[(kwT [],.ref q0)],rfl,(show 1<=15 by decide),?_⟩;refine bq (iX (p:=bd) (o:=HO.dK (dZ [] [(kwT [],V.ref q0)])) N2 rfl) fun G3 e3 g3 k3 N3=>?_;rw[e3];have s12:=s1.trans s2;have qb:q0≠bd:=fun z=>by rw[z,g1]at f0;cases f0
  have sG3:XA G G3:=WZ.toSame s12 k3 fun c m=>(by rw[zw.mp m];exact fbd);have GA0:GAt H G3 bd [([],q0)] []:=by
   refine⟨g3,yE.mpr ⟨(fun m=>nomatch m),Zu⟩,yE.mpr ⟨fun m=>qb (zw.mp m).symm,yE.mpr ⟨(fun m=>nomatch m),Zu⟩⟩,fun c m=>?_,(fun _ m=>nomatch m),fun e m=>?_⟩
   .obtain rfl|m:=zk.mp m
    .exact sG.free fbd
    .rw[zw.mp m];exact(sG.trans s1).free f0
   .rw[zw.mp m]
    exact⟨[],k3 _ _ g2 (fun m=>qb (zw.mp m)),.nil⟩
  have qr:q0≠r:=fun z=>by rw[z,s1 _ _ gr]at f0;cases f0
  refine b9 ?_;have s03:=sG.trans sG3;have dgP:∀ {F},XA H F->DGet F mk (VZ [112,97,116,104,115]) (some (.ref pp)):=fun s=>by
   have:=DGet.k (k:=kwT [112,97,116,104,115]) (s _ _ hmk)
   rwa [vP]at this
  walk_at "z";refine⟨mk,_,rfl,dgP s03,?_⟩;refine cn (al (s03 _ _ hpp)) (cq (xs:=ps.map VZ) (fun i σ' (F:Hp)=>XA H F/\WS F/\F r=some (.lst vs)/\A2 (WY F) vs R/\∃ks x10,(∀c∈ks,c.2≠r)/\GAt H F bd ks []/\ks.map (·.1)=[]::ps.take i/\σ'=[some (.ref mk),some (.ref D),some (.int f),some (.int t),some (.ref r),x5,x6,x7,x8,some (.ref bd),x10,none,none]) ⟨s03,N3,sG3 _ _ gr,bh sG3 ar,_,none,(fun c m=>by rw[zw.mp m];exact qr),GA0,rfl,rfl⟩ (fun i σ' F _ h=>al (h.1 _ _ hpp)) ?_ ?_)
  .rintro i y σ' F hy ⟨sF,nF,gF,aF,ks,y10,nr,GF,ek,rfl⟩
   rw[Ws]at hy;refine br (Zn.mp hy) fun l hl yy1=>?_;subst yy1;have nl:l∉ks.map (·.1):=fun m=>by
    rw[ek]at m;obtain e|m:=zk.mp m
    .exact tp.ne (e ▸ wt hl)
    .exact jz tp.np hl m
   have lk:ks.length<=i+1:=by rw[<- zm (f:=(·.1)),ek,sP,qF];lia
   have li:i<ps.length:=(Wu.mp hl).1;walk_at "z";refine⟨rp _,fun q1 f1=>?_⟩;refine bq (bo (o:=HO.lst []) f1 nF rfl) fun F1 e4 s4 g4 N4=>?_;rw[e4];refine⟨bd,_,rfl,DPut.k (k:=.inr ⟨⟨l⟩⟩) (s4 _ _ GF.dc) (by rw[zm,tV];lia),?_⟩;refine bq (iX (p:=bd) (o:=HO.dK (bi (ks.map kyP) (.inr ⟨⟨l⟩⟩) (V.ref q1))) N4 rfl) fun F2 e5 g5 k5 N5=>?_;rw[e5];have vn:bw (ks.map kyP) (.inr ⟨⟨l⟩⟩)=none:=by
    rw[ji];cases ef:fK ks l with
    |none=>rfl
    |some e=>exact Wa (yI.mpr ⟨e,ow ef⟩) nl
   rw[iB _ vn]at g5;have g6:=GF.new nl (sF.free f1) f1 s4 g4 k5 (by rw[g5,yB];rfl);have fb:H bd=none:=GF.fr _ (.head _);have kd:∀ {c z},F1 c=some z->(∀kv,z ≠ .dK kv)->F2 c=some z:=fun {c z} e n=>k5 _ _ e fun m=>n _ (by rw[zw.mp m,s4 _ _ GF.dc]at e;cases e;rfl);refine⟨WZ.toSame (sF.trans s4) k5 fun c m=>(by rw[zw.mp m];exact fb),N5,kd (s4 _ _ gF) (by intro _ z;cases z),(bh s4 aF).imp fun _ _ _ _ h=>WY.mv _ _ _ _ (fun t l e=>kd e (by intro _ z;cases z)) h,ks++[(l,q1)],_,fun c m=>?_,g6,by rw[yB,ek,bR hl];rfl,rfl⟩;obtain m|m:=yf.mp m
   .exact nr c m
   .rw[zw.mp m];exact fun z=>by rw[show q1=r from z,gF]at f1;cases f1
  .rintro σ' F ⟨sF,nF,gF,aF,ks,y10,nr,GF,ek,rfl⟩
   rw[zm,Zx]at ek;exact c5 F r vs bd ks x5 x6 x7 x8 y10 sF nF gF aF fr nr GF ek
 obtain⟨u3,hu3,c3⟩:=c3;refine⟨_,(ae (bc (bG (bz (aH (pB T) hr aq (fa2 (fv 1) (aP (Zz HU) (fv 0) (ak [112,97,116,104,115]) (fun _ _=>rfl)))))) (af (aA cW)) aJ)
  (ae (aV 4 ND (cw (FA.pa cr)))
  (ae (b7 (by passes_own) rfl (a7 K (aP (Zz HU) (fv 0) (ak [98,111,111,107,101,100]) (fun _ _=>rfl))) (cN K (n:=4) rfl (aO (av (i:=5) ND rfl (Wi rfl)) (aO (av (i:=6) ND rfl (Wi rfl)) (aO (av (i:=7) ND rfl (Wi rfl)) (aO (av (i:=8) ND rfl (Wi rfl)) cL))))) (af (bc (nK dX dX (fv 2) (fv 6) (fv 3)) (af (bC (bY K qS XW XX xf (fv 4) (fa1 (fv 7))))) aJ)))
  hu3))),?_⟩
 walk_at "z";have dg:∀ {F l v},XA H F->bw mv (kwT l)=some v->DGet F mk (VZ l) (some v):=fun {F l v} s e=>by
  have:=DGet.k (k:=kwT l) (s _ _ hmk)
  rwa [e]at this
 refine⟨mk,_,rfl,dg (XA.refl _) vP,hN,?_⟩;walk_at "z";refine⟨Ro,Rw,ws,xs,ps,hD,aR,hpp,io,po,by lia,fun l=>⟨by have:=tp.ol to l;lia,by have:=tp.wl to l;lia⟩,fun H1 s1 N1=>⟨rp _,fun r fr=>b9 ?_⟩⟩;refine bq (bo (o:=HO.lst []) fr N1 rfl) fun H2 e2 s2 g2 N2=>?_;rw[e2];have s02:=s1.trans s2;walk_at "z";refine⟨mk,_,rfl,dg s02 vB,?_⟩;have fr0:=s1.free fr;refine cn (al (s02 _ _ hlb)) (cq (xs:=bvs) (fun i σ' (F:Hp)=>XA H F/\WS F/\∃vs x5 x6 x7 x8,F r=some (.lst vs)/\A2 (WY F) vs (dN (btw f t ((ls.take i).map (·.b))))/\vs.length<=7*i/\σ'=[some (.ref mk),some (.ref D),some (.int f),some (.int t),some (.ref r),x5,x6,x7,x8,none,none,none,none]) ⟨s02,N2,[],none,none,none,none,g2,.nil,ym _,rfl⟩ (fun i σ' F _ h=>al (h.1 _ _ hlb)) ?_ ?_)
 .rintro i v σ' F hv ⟨sF,nF,vs,y5,y6,y7,y8,gF,aF,lF,rfl⟩
  refine br (aL.at_ hv) fun x hx rx=>?_;refine Bz (rx.same sF) fun q rr us yy1 hq hr au=>?_;subst yy1;have lu:=au.len;have lr:=l7 x (wt hx);have li:i<ls.length:=(Wu.mp hx).1;walk_at "z";refine⟨q,_,rfl,aY hq,rfl,_,_,rfl,_,_,rfl,_,_,rfl,_,_,rfl,rfl,?_⟩;walk_at "q";rw[bR hx,yB,Yw,um];have no:¬ (f<=x.b.d/\x.b.d<=t)->XA H F/\WS F/\∃vs x5 x6 x7 x8,F r=some (.lst vs)/\A2 (WY F) vs (dN (btw f t ((ls.take i).map (·.b)))++if f<=x.b.d/\x.b.d<=t then x.b.rs else [])/\vs.length<=7*(i+1)/\some (V.int x.b.k)=x5/\some (V.int x.b.d)=x6/\some (V.ref rr)=x7/\some (V.bl x.ov)=x8:=fun h=>
   ⟨sF,nF,vs,_,_,_,_,gF,by rw[Wg h,Zs];exact aF,by lia,rfl,rfl,rfl,rfl⟩
  by_cases h1:f<=x.b.d
  .refine itp h1 ?_
   by_cases h2:x.b.d<=t
   .refine itp h2 ⟨.inl ⟨_,al gF⟩,r,rr,vs,us,rfl,rfl,gF,hr,by lia,?_⟩
    refine bq (iX (p:=r) (o:=HO.lst (vs++us)) nF rfl) fun F1 e1 g1 k1 N1=>?_;rw[e1];refine⟨WZ.toSame sF k1 fun c m=>(by rw[zw.mp m];exact fr0),N1,_,_,_,_,_,g1,?_,by rw[zc];lia,rfl,rfl,rfl,rfl⟩;rw[Wf ⟨h1,h2⟩];exact(ck k1 (LW.one gF) aF).app (ck k1 (LW.one gF) au)
   .exact itn h2 (no fun z=>h2 z.2)
  .exact itn h1 (no fun z=>h1 z.1)
 .rintro σ' F ⟨sF,nF,vs,y5,y6,y7,y8,gF,aF,lF,rfl⟩
  rw[aL.len,Zx,<- eR]at aF;exact c3 F r vs y5 y6 y7 y8 sF nF gF aF fr0
structure Pu(ps cu:List (List Nat))(bs:List Bo):Prop where
 np:ps.Nodup
 ne:[]∉ps
 l11:ps.length<=11
 l1:1<=ps.length
 lc:cu.length=3
 nc:cu.Nodup
 up:∀p∈ps,raN p∈[]::ps
 lo:∀p∈ps,(∀c∈p,c<128)/\p.length<=199
 l8:bs.length<=8
 bk:∀b∈bs,b.rs.length<=7/\(0<=b.d/\b.d<=146096)/\(∀c,sc b.rs c=0)/\∀r∈b.rs,Pk r.pa/\(∀x∈lup r.pa,x∈ps)/\r.cu∈cu/\rwL r
def qE{f t:Int}{bs:List Bo}{b:Bo}(m:b∈btw f t bs):b∈bs:=(Zf.mp (Zf.mp m).1).1
def BE{f t:Int}{bs:List Bo}{r:Row}(m:r∈dN (btw f t bs)):∃b∈bs,r∈b.rs:=by
 obtain⟨b,mb,mr⟩:=YZ.mp m;exact⟨b,qE mb,mr⟩
theorem xE{c:List Nat}:∀ {bs:List Bo},(∀b∈bs,sc b.rs c=0)->sc (dN bs) c=0
 | [],_=>rfl
 |b::bs,h=>by
  show sc (b.rs++dN bs) c=0;rw[jo,h b (.head _),xE fun x m=>h x (.tail _ m)];rfl
def Pu.tp{ps cu:List (List Nat)}{bs:List Bo}(p:Pu ps cu bs)(f t:Int):TP ps cu (dN (btw f t bs)):=by
 refine⟨p.np,p.ne,p.l11,p.lc,p.up,p.lo,fun r m=>?_,fun c=>xE fun b m=>(p.bk b (qE m)).2.2.1 c,?_⟩
 .obtain⟨b,mb,mr⟩:=BE m
  have:=(p.bk b mb).2.2.2 r mr;exact⟨this.1,this.2.1,this.2.2.1⟩
 .have h1:=j0 (bs:=btw f t bs) fun x m=>(p.bk x (qE m)).1
  have h2:(btw f t bs).length<=bs.length:=r9 (Zj _ _) (Zj _ _);have h3:=p.l8;show(List.flatMap _ _).length<=100;lia
noncomputable def prd(ps cu:List (List Nat)):List Pt:=ps.flatMap fun p=>cu.map fun c=>(p,c)
theorem wF(cu:List (List Nat)):∀ps:List (List Nat),(prd ps cu).length=ps.length*cu.length
 | []=>by rw[YM,Nat.zero_mul];rfl
 |p::ps=>by
  show(cu.map _++prd ps cu).length=_;rw[zc,zm,wF cu ps,sP,Nat.add_mul,Nat.one_mul,Nat.add_comm]
def EH{ps cu:List (List Nat)}{R:List Row}(l1:ps.length<=11)(l2:cu.length=3)(h:∀r∈R,r.pa∈ps/\r.cu∈cu):(dk R).length<64:=by
 have:=lC (sO R).1 (m:=prd ps cu) fun e m=>by
  obtain⟨r,mr,rfl⟩:=(sO R).2.1 e m;exact YZ.mpr ⟨r.pa,(h r mr).1,yI.mpr ⟨r.cu,(h r mr).2,rfl⟩⟩
 rw[zm,wF,l2]at this;lia
def TP.d1{ps cu:List (List Nat)}{R:List Row}(t:TP ps cu R):(dk R).length<64:=
 EH t.l11 t.lc fun r m=>⟨(t.rw r m).2.1 _ (uD _ (.head _)),(t.rw r m).2.2⟩
def TP.d2{ps cu:List (List Nat)}{R:List Row}(t:TP ps cu R):(dk (dU R)).length<64:=
 EH t.l11 t.lc fun r m=>by
  obtain⟨z,mz,mr⟩:=YZ.mp m;obtain⟨p,mp,rfl⟩:=yI.mp mr;exact⟨(t.rw z mz).2.1 p mp,(t.rw z mz).2.2⟩
noncomputable def prA(bs:List Bo):List PR:=bs.flatMap fun b=>b.rs.map (prO b.d)
theorem Ci(l c:List Nat)(Pm:Int->Bool)(d:Int):∀rs:List Row,sR l c Pm (rs.map (prO d))=if Pm (MO d)=true then sm rs (l,c) else 0
 | []=>by split <;> rfl
 |r::rs=>by
  rw[xY,sR,Ci l c Pm d rs,sm];show(if r.pa=l/\r.cu=c/\Pm (MO d)=true then r.am else 0)+_=_;by_cases h:Pm (MO d)=true
  .rw[Wf h,Wf h]
   by_cases e:(r.pa,r.cu)=(l,c)
   .obtain⟨e1,e2⟩:=Zg e
    rw[Wf ⟨e1,e2,h⟩,Wf e]
   .rw[Wg fun z=>e (by rw[z.1,z.2.1]),Wg e]
  .rw[Wg h,Wg h,Wg fun z=>h z.2.2];rfl
def En{d m0 m1:Int}(hd:0<=d/\d<=146096):(m0<=MO d/\MO d<=m1)↔(FD m0<=d/\d<=FD (m1+1)-1):=by
 obtain⟨_,_,h1,h2⟩:=Iq hd.1 hd.2;constructor
 .rintro⟨a,b⟩
  have:=eh a;have:=eh (m:=MO d+1) (n:=m1+1) (by lia);exact⟨by lia,by lia⟩
 .rintro⟨a,b⟩
  refine⟨?_,?_⟩
  .by_cases h:m0<=MO d
   .exact h
   .have:=eh (m:=MO d+1) (n:=m0) (by lia)
    lia
  .by_cases h:MO d<=m1
   .exact h
   .have:=eh (m:=m1+1) (n:=MO d) (by lia)
    lia
def Fy{l c:List Nat}{m0 m1:Int}:∀ {bs:List Bo},(∀b∈bs,0<=b.d/\b.d<=146096)->sR l c (btM m0 m1) (prA bs)=sm (dN (btw (FD m0) (FD (m1+1)-1) bs)) (l,c):=by
 intro bs
 induction bs using K19.snoc_ind with
 |h0=>intro _;rfl
 |h1 bs b ih=>
  intro h;have hb:=h b (uD _ (.head _));unfold prA at ih |-
  rw[Z7,qP,ih fun x m=>h x (uj _ m),um,kA,ZI,Xb,Zs,Ci]
  congr 1
  have e:btM m0 m1 (MO b.d)=true↔(FD m0<=b.d/\b.d<=FD (m1+1)-1):=by
   rw[<- En hb];unfold btM;rw[Za,decide_eq_true_iff,decide_eq_true_iff]
  by_cases z:FD m0<=b.d/\b.d<=FD (m1+1)-1
  .rw[Wf (e.mpr z),Wf z]
  .rw[Wg fun q=>z (e.mp q),Wg z];rfl
structure Wd where
 mm:WN
 c:WN
 d:WN
 g:WN
 j:WN
 jl:WN
 ud:WN
 s:WN
 b:WN
 lb:WN
 pp:WN
 hd:WN
 cp:WN
 hl:WN
 sc:WN
noncomputable def Wd.l3(W:Wd):List WN:=[W.jl,W.lb,W.hl]
noncomputable def mdV(W:Wd)(bs:Int)(pv:WN):List (Key × V):=[(kwT [99,104,97,114,116],.ref W.c),(kwT [103,97,116,101],.ref W.g),(kwT [106,111,117,114,110,97,108],.ref W.j),(kwT [115,117,109,115],.ref W.s),(kwT [98,111,111,107,101,100],.ref W.lb),(kwT [112,97,116,104,115],.ref pv),(kwT [104,111,108,100,115],.ref W.hd),(kwT [99,117,114,114,101,110,99,105,101,115],.ref W.cp),(kwT [98,97,115,101],.int bs),(kwT [104,101,108,100],.ref W.hl)]
section
variable(W:Wd)(bs:Int)(pv:WN)
def l9:bw (mdV W bs pv) (kwT [99,104,97,114,116])=some (.ref W.c):=by simp[mdV,bw,kwT]
def EI:bw (mdV W bs pv) (kwT [103,97,116,101])=some (.ref W.g):=by simp[mdV,bw,kwT]
def j7:bw (mdV W bs pv) (kwT [106,111,117,114,110,97,108])=some (.ref W.j):=by simp[mdV,bw,kwT]
def AX:bw (mdV W bs pv) (kwT [115,117,109,115])=some (.ref W.s):=by simp[mdV,bw,kwT]
def je:bw (mdV W bs pv) (kwT [98,111,111,107,101,100])=some (.ref W.lb):=by simp[mdV,bw,kwT]
def Bm:bw (mdV W bs pv) (kwT [112,97,116,104,115])=some (.ref pv):=by simp[mdV,bw,kwT]
def Jj:bw (mdV W bs pv) (kwT [104,111,108,100,115])=some (.ref W.hd):=by simp[mdV,bw,kwT]
def EO:bw (mdV W bs pv) (kwT [99,117,114,114,101,110,99,105,101,115])=some (.ref W.cp):=by simp[mdV,bw,kwT]
def EA:bw (mdV W bs pv) (kwT [98,97,115,101])=some (.int bs):=by simp[mdV,bw,kwT]
def Ey:bw (mdV W bs pv) (kwT [104,101,108,100])=some (.ref W.hl):=by simp[mdV,bw,kwT]
end
abbrev Rc:=List Nat × List Pr × List Pr
def RcW(W:Wd)(H:Hp)(v:V)(c:Rc):Prop:=∃q o i us is,v = .ref q/\H q=some (.tup [VZ c.1,.ref o,.ref i])/\H o=some (.lst us)/\A2 (WU H) us c.2.1/\H i=some (.lst is)/\A2 (WU H) is c.2.2/\o∉W.l3/\i∉W.l3
def RcL(W:Wd)(H:Hp)(D:WN)(X:List Rc):Prop:=∃ws,H D=some (.lst ws)/\D∉W.l3/\A2 (RcW W H) ws X
def HeAt(W:Wd)(H:Hp)(v:V):Prop:=∃p D E X,v = .ref p/\H p=some (.lst [.ref D,.ref E])/\p∉W.l3/\RcL W H D X/\RcL W H E X
def LbW(W:Wd)(H:Hp)(v:V)(x:LB):Prop:=∃q r ws,v = .ref q/\H q=some (.tup [.int x.b.k,.int x.b.d,.ref r,.bl x.ov])/\H r=some (.lst ws)/\A2 (WY H) ws x.b.rs/\r∉W.l3
structure Kt(W:Wd)(H H':Hp):Prop where
 t:∀c l,H c=some (.tup l)->H' c=some (.tup l)
 l:∀c l,H c=some (.lst l)->c∉W.l3->H' c=some (.lst l)
def LbW.mv{W:Wd}{H H':Hp}{v:V}{x:LB}(k:Kt W H H')(h:LbW W H v x):LbW W H' v x:=by
 obtain⟨q,r,ws,e,h1,h2,h3,h4⟩:=h;exact⟨q,r,ws,e,k.t _ _ h1,k.l _ _ h2 h4,h3.imp fun _ _ _ _ z=>WY.mv _ _ _ _ k.t z,h4⟩
def BkAt.mv{H H':Hp}{v:V}{x:Bo}(k:∀c l,H c=some (.tup l)->H' c=some (.tup l))(h:BkAt H v x):BkAt H' v x:=by
 obtain⟨q,t,vs,nt,e,h1,h2,h3⟩:=h;exact⟨q,t,vs,nt,e,k _ _ h1,k _ _ h2,h3.imp fun _ _ _ _ z=>WY.mv _ _ _ _ k z⟩
def RcL.mv{W:Wd}{H H':Hp}{D:WN}{X:List Rc}(k:Kt W H H')(h:RcL W H D X):RcL W H' D X:=by
 obtain⟨ws,h1,h2,h3⟩:=h;refine⟨ws,k.l _ _ h1 h2,h2,h3.imp fun v c _ _ z=>?_⟩;obtain⟨q,o,i,us,is,e,h1,h2,h3,h4,h5,h6,h7⟩:=z;exact⟨q,o,i,us,is,e,k.t _ _ h1,k.l _ _ h2 h6,h3.imp fun _ _ _ _ z=>WU.mv _ _ _ _ k.t z,k.l _ _ h4 h7,h5.imp fun _ _ _ _ z=>WU.mv _ _ _ _ k.t z,h6,h7⟩
def HeAt.mv{W:Wd}{H H':Hp}{v:V}(k:Kt W H H')(h:HeAt W H v):HeAt W H' v:=by
 obtain⟨p,D,E,X,e,h1,h2,h3,h4⟩:=h;exact⟨p,D,E,X,e,k.l _ _ h1 h2,h2,h3.mv k,h4.mv k⟩
structure Ab where
 base:Int
 ps:List (List Nat)
 cu:List (List Nat)
 hs:List Hd
 cs:List Acc
 pv:WN
 pq:List (List Nat)
 jv:List V
 kv:List (Key × V)
 jb:List Bo
 bv:List V
 ls:List LB
 sk:List (List Key × V)
 pr:List PR
 n:Nat
 hv:List V
 sv:Option (Obj × List V)
structure LS(a:Adr)(W:Wd)(X:Ab)(H:Hp):Prop where
 md:H W.mm=some (.dK (mdV W X.base X.pv))
 ch:CAt a.aU a.aS H W.c W.d X.cs
 gt:∃dx,H W.g=some (gq a.bQ dx .non)
 jr:JAt a.aX H W.j W.jl W.ud X.jv X.kv
 jb:A2 (BkAt H) X.jv X.jb
 lb:H W.lb=some (.lst X.bv)
 la:A2 (LbW W H) X.bv X.ls
 sm:SA a.ce H W.s W.b X.sk X.pr X.n
 pp:H W.pp=some (.lst (X.ps.map VZ))
 pv:H X.pv=some (.lst (X.pq.map VZ))
 hd:H W.hd=some (.dK (X.hs.map kyH))
 cp:H W.cp=some (.lst (X.cu.map VZ))
 hl:H W.hl=some (.lst X.hv)
 he:∀v∈X.hv,HeAt W H v
 nr:W.l3.Nodup
 nd:[W.mm,W.ud,W.d,W.hd].Nodup
 fd:∀c∈[W.mm,W.ud,W.d,W.hd],¬ fp X.sk c
 nl:∀c∈W.pp::W.cp::X.pv::X.cs.map (·.bl),c∉W.l3
 sc:∀x,X.sv=some x->H W.sc=some (.frz x.1 (.lst x.2))
def EL{H:Hp}{b c:WN}{XB:List (List Key × V)}{ob:Obj}{l:List V}(h:Rd H b (.dT XB))(e:H c=some (.frz ob (.lst l))):c≠b:=fun z=>by
 subst z;obtain h|⟨x,h⟩:=h
 .rw[e]at h;cases h
 .rw[e]at h;cases h
def LS.gen{W:Wd}{X:Ab}{H H':Hp}{pv:WN}{pq:List (List Nat)}{jv:List V}{kv:List (Key × V)}{jb:List Bo}{bv:List V}{ls:List LB}{sk:List (List Key × V)}{pr:List PR}{n:Nat}{hv:List V}(L:LS a W X H)
 (kI:∀c C dx fs,H c=some (.ins C dx fs)->H' c=some (.ins C dx fs)) (kt:Kt W H H') (kD:∀c∈[W.d,W.hd],∀o,H c=some o->H' c=some o) (kS:∀c ob l,H c=some (.frz ob (.lst l))->H' c=some (.frz ob (.lst l)))
 (md:H' W.mm=some (.dK (mdV W X.base pv))) (hj:H' W.jl=some (.lst jv)) (hu:H' W.ud=some (.dK kv)) (hjb:A2 (BkAt H') jv jb) (hlb:H' W.lb=some (.lst bv)) (hla:A2 (LbW W H') bv ls) (hsm:SA a.ce H' W.s W.b sk pr n)
 (hpv:H' pv=some (.lst (pq.map VZ))) (npv:pv∉W.l3) (hhl:H' W.hl=some (.lst hv)) (hhe:∀v∈hv,HeAt W H' v) (fd:∀c∈[W.mm,W.ud,W.d,W.hd],¬ fp sk c) :
 LS a W { X with pv:=pv,pq:=pq,jv:=jv,kv:=kv,jb:=jb,bv:=bv,ls:=ls,sk:=sk,pr:=pr,n:=n,hv:=hv } H':=by
 refine⟨md,?_,?_,?_,hjb,hlb,hla,hsm,?_,hpv,?_,?_,hhl,hhe,L.nr,L.nd,fd,?_,fun x e=>kS _ _ _ (L.sc x e)⟩
 .have C:=L.ch
  refine⟨?_,kD _ (.head _) _ C.dc,fun z m=>?_,C.np,C.na,C.nb⟩
  .obtain⟨dx,e⟩:=C.ob
   exact⟨dx,kI _ _ _ _ e⟩
  .obtain⟨dx,e⟩:=(C.ac z m).ob
   exact⟨⟨dx,kI _ _ _ _ e⟩,kt.l _ _ (C.ac z m).ls (L.nl _ (.tail _ (.tail _ (.tail _ (xW m)))))⟩
 .obtain⟨dx,e⟩:=L.gt
  exact⟨dx,kI _ _ _ _ e⟩
 .obtain⟨dx,e⟩:=L.jr.ob
  exact⟨⟨dx,kI _ _ _ _ e⟩,hj,hu⟩
 .exact kt.l _ _ L.pp (L.nl _ (.head _))
 .exact kD _ (.tail _ (.head _)) _ L.hd
 .exact kt.l _ _ L.cp (L.nl _ (.tail _ (.head _)))
 .intro c m
  obtain rfl|m:=zk.mp m
  .exact L.nl _ (.head _)
  .obtain rfl|m:=zk.mp m
   .exact L.nl _ (.tail _ (.head _))
   .obtain rfl|m:=zk.mp m
    .exact npv
    .exact L.nl _ (.tail _ (.tail _ (.tail _ m)))
def LS.fr{W:Wd}{X:Ab}{H H':Hp}(L:LS a W X H)(k:∀c o,H c=some o->c≠W.b->H' c=some o)(rd:Rd H' W.b (.dT X.sk)):LS a W X H':=by
 have nb:∀ {c o},H c=some o->cV o=true->(∀x u,o ≠ .frz x u)->c≠W.b:=fun e n nf=>Wj (lM L.sm.bp.at_ e n nf);have k':∀ {c o},H c=some o->cV o=true->(∀x u,o ≠ .frz x u)->H' c=some o:=fun e n nf=>k _ _ e (nb e n nf);have kt:Kt W H H':=⟨fun c l e=>k' e rfl (by intro _ _ z;cases z),fun c l e _=>k' e rfl (by intro _ _ z;cases z)⟩;exact L.gen (fun c C dx fs e=>k' e rfl (by intro _ _ z;cases z)) kt (fun c m o e=>by
  obtain q|m:=zk.mp m
  .subst q;exact k _ _ e (nb L.ch.dc rfl (by intro _ _ z;cases z))
  .rw[zw.mp m]at e |-; exact k _ _ e (nb L.hd rfl (by intro _ _ z;cases z)))
  (fun c ob l e=>k _ _ e (EL L.sm.bp.at_ e))
  (k' L.md rfl (by intro _ _ z;cases z)) (k' L.jr.ls rfl (by intro _ _ z;cases z)) (k' L.jr.dc rfl (by intro _ _ z;cases z)) (L.jb.imp fun _ _ _ _ z=>BkAt.mv kt.t z) (k' L.lb rfl (by intro _ _ z;cases z)) (L.la.imp fun _ _ _ _ z=>z.mv kt) (L.sm.mv rd fun p o e n _=>k p o e n)
  (k' L.pv rfl (by intro _ _ z;cases z)) (L.nl _ (.tail _ (.tail _ (.head _)))) (k' L.hl rfl (by intro _ _ z;cases z)) (fun v m=>(L.he v m).mv kt) L.fd
def LS.frz{W:Wd}{X:Ab}{H:Hp}(L:LS a W X H)(o:Obj):LS a W X (upd H W.b (.frz o (.dT X.sk))):=L.fr (fun c z e n=>(ag n).trans e) (.inr ⟨o,aa⟩)
def LS.thw{W:Wd}{X:Ab}{H:Hp}(L:LS a W X H):LS a W X (upd H W.b (.dT X.sk)):=L.fr (fun c z e n=>(ag n).trans e) (.inl aa)
def LS.same{W:Wd}{X:Ab}{H H':Hp}(L:LS a W X H)(s:XA H H'):LS a W X H':=L.fr (fun c z e _=>s c z e) (L.sm.same s).bp.at_
noncomputable def Wd.m5(W:Wd):List WN:=[W.mm,W.ud,W.jl,W.lb,W.hl]
def LS.m5{W:Wd}{X:Ab}{H:Hp}(L:LS a W X H){c:WN}(m:c∈W.m5):((∃kv,H c=some (.dK kv))/\c∈[W.mm,W.ud])\/((∃l,H c=some (.lst l))/\c∈W.l3):=by
 obtain rfl|m:=zk.mp m
 .exact .inl ⟨⟨_,L.md⟩,.head _⟩
 obtain rfl|m:=zk.mp m
 .exact .inl ⟨⟨_,L.jr.dc⟩,.tail _ (.head _)⟩
 obtain rfl|m:=zk.mp m
 .exact .inr ⟨⟨_,L.jr.ls⟩,.head _⟩
 obtain rfl|m:=zk.mp m
 .exact .inr ⟨⟨_,L.lb⟩,.tail _ (.head _)⟩
 .rw[zw.mp m]
  exact .inr ⟨⟨_,L.hl⟩,.tail _ (.tail _ (.head _))⟩
section
variable{W:Wd}{X:Ab}{H H':Hp}{S:List WN}(L:LS a W X H)(x:WZ S H H')(hS:∀c∈S,c∈W.m5)
include L x hS
def LS.kt:Kt W H H':=by
 refine⟨fun c l e=>x _ _ e fun m=>?_,fun c l e n=>x _ _ e fun m=>?_⟩
 .obtain⟨⟨_,z⟩,_⟩|⟨⟨_,z⟩,_⟩:=L.m5 (hS c m) <;> rw[e]at z <;> cases z
 .obtain⟨⟨_,z⟩,_⟩|⟨_,z⟩:=L.m5 (hS c m)
  .rw[e]at z;cases z
  .exact n z
def LS.chg{pv:WN}{pq:List (List Nat)}{jv:List V}{kv:List (Key × V)}{jb:List Bo}{bv:List V}{ls:List LB}{hv:List V}
 (md:H' W.mm=some (.dK (mdV W X.base pv))) (hj:H' W.jl=some (.lst jv)) (hu:H' W.ud=some (.dK kv)) (hjb:A2 (BkAt H') jv jb) (hlb:H' W.lb=some (.lst bv)) (hla:A2 (LbW W H') bv ls)
 (hpv:H' pv=some (.lst (pq.map VZ))) (npv:pv∉W.l3) (hhl:H' W.hl=some (.lst hv)) (hhe:∀v∈hv,HeAt W H' v) :
 LS a W { X with pv:=pv,pq:=pq,jv:=jv,kv:=kv,jb:=jb,bv:=bv,ls:=ls,hv:=hv } H':=by
 have nS:∀ {c o},H c=some o->(∀kv,o ≠ .dK kv)->(∀l,o ≠ .lst l)->c∉S:=fun {c o} e n1 n2 m=>by
  obtain⟨⟨_,z⟩,_⟩|⟨⟨_,z⟩,_⟩:=L.m5 (hS c m)
  .rw[e]at z;cases z;exact n1 _ rfl
  .rw[e]at z;cases z;exact n2 _ rfl
 have nf:∀ {c m},H c=some (.dK m)->c∉[W.mm,W.ud]->c∉S:=fun {c m} e n q=>by
  obtain⟨_,z⟩|⟨⟨_,z⟩,_⟩:=L.m5 (hS c q)
  .exact n z
  .rw[e]at z;cases z
 obtain⟨n1,nd⟩:=yE.mp L.nd;obtain⟨n2,nd⟩:=yE.mp nd;have bS:W.b∉S:=fun m=>by
  obtain⟨⟨_,z⟩,_⟩|⟨⟨_,z⟩,_⟩:=L.m5 (hS _ m) <;> exact lM L.sm.bp.at_ z rfl (by intro _ _ z;cases z) rfl
 refine L.gen (fun c C dx fs e=>x _ _ e (nS e (by intro _ z;cases z) (by intro _ z;cases z))) (L.kt x hS) (fun c m o e=>?_) (fun c ob l e=>x _ _ e (nS e (by intro _ z;cases z) (by intro _ z;cases z))) md hj hu hjb hlb hla (L.sm.mv (L.sm.bp.at_.imp (fun e=>x _ _ e bS) fun⟨o,e⟩=>⟨o,x _ _ e bS⟩) fun p o e _ q=>?_) hpv npv hhl hhe L.fd
 .obtain rfl|m:=zk.mp m
  .exact x _ _ e (nf L.ch.dc fun m=>by
    obtain z|m:=zk.mp m
    .exact n1 (by rw[<- z];exact .tail _ (.head _))
    .exact n2 (by rw[<- zw.mp m];exact .head _))
  .rw[zw.mp m]at e |-
   exact x _ _ e (nf L.hd fun m=>by
    obtain z|m:=zk.mp m
    .exact n1 (by rw[<- z];exact .tail _ (.tail _ (.head _)))
    .exact n2 (by rw[<- zw.mp m];exact .tail _ (.head _)))
 .obtain rfl|q:=q
  .obtain⟨dx,e'⟩:=L.sm.ob
   exact x _ _ e (nS e' (by intro _ z;cases z) (by intro _ z;cases z))
  .obtain⟨m,e'⟩:=L.sm.dct q
   refine x _ _ e (nf e' fun m=>?_);obtain rfl|m:=zk.mp m
   .exact L.fd _ (.head _) q
   .rw[zw.mp m]at q;exact L.fd _ (.tail _ (.head _)) q
end
def LS.sput{W:Wd}{X:Ab}{H H':Hp}{sk:List (List Key × V)}{pr:List PR}{n:Nat}(L:LS a W X H)(x:Kb W.b X.sk H H')(sm:SA a.ce H' W.s W.b sk pr n)(nf:∀p,fp sk p->fp X.sk p\/H p=none):LS a W { X with sk:=sk,pr:=pr,n:=n } H':=by
 have k':∀ {c o},H c=some o->cV o=true->(∀x u,o ≠ .frz x u) -> ¬ fp X.sk c->H' c=some o:=fun e n f q=>x _ _ e (Wj (lM L.sm.bp.at_ e n f)) q;have nk:∀ {c o},H c=some o->(∀m,o ≠ .dK m) -> ¬ fp X.sk c:=fun e n q=>by
  obtain⟨m,z⟩:=L.sm.dct q;rw[e]at z;cases z;exact n _ rfl
 have kt:Kt W H H':=⟨fun c l e=>k' e rfl (by intro _ _ z;cases z) (nk e (by intro _ z;cases z)),fun c l e _=>k' e rfl (by intro _ _ z;cases z) (nk e (by intro _ z;cases z))⟩;have kt3:∀ {c l},H c=some (.lst l)->H' c=some (.lst l):=fun e=>k' e rfl (by intro _ _ z;cases z) (nk e (by intro _ z;cases z));refine L.gen (fun c C dx fs e=>k' e rfl (by intro _ _ z;cases z) (nk e (by intro _ z;cases z))) kt (fun c m o e=>?_) (fun c ob l e=>x _ _ e (EL L.sm.bp.at_ e) (nk e (by intro _ z;cases z)))
  (k' L.md rfl (by intro _ _ z;cases z) (L.fd _ (.head _))) (kt3 L.jr.ls) (k' L.jr.dc rfl (by intro _ _ z;cases z) (L.fd _ (.tail _ (.head _)))) (L.jb.imp fun _ _ _ _ z=>BkAt.mv kt.t z) (kt3 L.lb) (L.la.imp fun _ _ _ _ z=>z.mv kt) sm
  (kt3 L.pv) (L.nl _ (.tail _ (.tail _ (.head _)))) (kt3 L.hl) (fun v m=>(L.he v m).mv kt) (fun c m q=>?_)
 .obtain rfl|m:=zk.mp m
  .rw[L.ch.dc]at e;cases e
   exact k' L.ch.dc rfl (by intro _ _ z;cases z) (L.fd _ (.tail _ (.tail _ (.head _))))
  .rw[zw.mp m,L.hd]at e;cases e
   rw[zw.mp m];exact k' L.hd rfl (by intro _ _ z;cases z) (L.fd _ (.tail _ (.tail _ (.tail _ (.head _)))))
 .obtain q|q:=nf c q
  .exact L.fd c m q
  .simp only[zk,vO,or_false]at m
   obtain rfl|rfl|rfl|rfl:=m
   .rw[L.md]at q;cases q
   .rw[L.jr.dc]at q;cases q
   .rw[L.ch.dc]at q;cases q
   .rw[L.hd]at q;cases q
section
variable{W:Wd}{X:Ab}{H H':Hp}(L:LS a W X H)
include L
def LS.l3:W.jl≠W.lb/\W.jl≠W.hl/\W.lb≠W.hl:=by
 obtain⟨n1,nd⟩:=yE.mp L.nr;obtain⟨n2,_⟩:=yE.mp nd;exact⟨fun z=>n1 (by rw[z];exact .head _),fun z=>n1 (by rw[z];exact .tail _ (.head _)),fun z=>n2 (by rw[z];exact .head _)⟩
def LS.mu:W.mm≠W.ud:=fun z=>(yE.mp L.nd).1 (by rw[z];exact .head _)
def LS.dl{c:WN}{m:List (Key × V)}(e:H c=some (.dK m)):c≠W.jl/\c≠W.lb/\c≠W.hl:=⟨dY e L.jr.ls,dY e L.lb,dY e L.hl⟩
def LS.jrn{jv:List V}{kv:List (Key × V)}{jb:List Bo}(x:WZ [W.jl,W.ud] H H')(hj:H' W.jl=some (.lst jv))(hu:H' W.ud=some (.dK kv))(hjb:A2 (BkAt H') jv jb):LS a W { X with jv:=jv,kv:=kv,jb:=jb } H':=by
 have hS:∀c∈[W.jl,W.ud],c∈W.m5:=fun c m=>by
  obtain rfl|m:=zk.mp m
  .exact .tail _ (.tail _ (.head _))
  .rw[zw.mp m];exact .tail _ (.head _)
 have kt:=L.kt x hS;have l3:=L.l3;have no:∀ {c},c≠W.jl->c≠W.ud->c∉[W.jl,W.ud]:=fun h1 h2 m=>by
  obtain z|m:=zk.mp m
  .exact h1 z
  .exact h2 (zw.mp m)
 exact L.chg x hS (x _ _ L.md (no (L.dl L.md).1 L.mu)) hj hu hjb (x _ _ L.lb (no (Wj l3.1) (Wj (L.dl L.jr.dc).2.1))) (L.la.imp fun _ _ _ _ z=>z.mv kt) (kt.l _ _ L.pv (L.nl _ (.tail _ (.tail _ (.head _))))) (L.nl _ (.tail _ (.tail _ (.head _)))) (x _ _ L.hl (no (Wj l3.2.1) (Wj (L.dl L.jr.dc).2.2))) fun v m=>(L.he v m).mv kt
def LS.lbk{bv:List V}{ls:List LB}(x:WZ [W.lb] H H')(hlb:H' W.lb=some (.lst bv))(hla:A2 (LbW W H') bv ls):LS a W { X with bv:=bv,ls:=ls } H':=by
 have hS:∀c∈[W.lb],c∈W.m5:=fun c m=>by rw[zw.mp m];exact .tail _ (.tail _ (.tail _ (.head _)))
 have kt:=L.kt x hS;have l3:=L.l3;have no:∀ {c},c≠W.lb->c∉[W.lb]:=fun h m=>h (zw.mp m);exact L.chg x hS (x _ _ L.md (no (L.dl L.md).2.1)) (x _ _ L.jr.ls (no l3.1)) (x _ _ L.jr.dc (no (L.dl L.jr.dc).2.1)) (L.jb.imp fun _ _ _ _ z=>BkAt.mv kt.t z) hlb hla (kt.l _ _ L.pv (L.nl _ (.tail _ (.tail _ (.head _))))) (L.nl _ (.tail _ (.tail _ (.head _)))) (x _ _ L.hl (no (Wj l3.2.2))) fun v m=>(L.he v m).mv kt
def LS.hld{hv:List V}(x:WZ [W.hl] H H')(hhl:H' W.hl=some (.lst hv))(hhe:∀v∈hv,HeAt W H' v):LS a W { X with hv:=hv } H':=by
 have hS:∀c∈[W.hl],c∈W.m5:=fun c m=>by rw[zw.mp m];exact .tail _ (.tail _ (.tail _ (.tail _ (.head _))))
 have kt:=L.kt x hS;have l3:=L.l3;have no:∀ {c},c≠W.hl->c∉[W.hl]:=fun h m=>h (zw.mp m);exact L.chg x hS (x _ _ L.md (no (L.dl L.md).2.2)) (x _ _ L.jr.ls (no l3.2.1)) (x _ _ L.jr.dc (no (L.dl L.jr.dc).2.2)) (L.jb.imp fun _ _ _ _ z=>BkAt.mv kt.t z) (x _ _ L.lb (no l3.2.2)) (L.la.imp fun _ _ _ _ z=>z.mv kt) (kt.l _ _ L.pv (L.nl _ (.tail _ (.tail _ (.head _))))) (L.nl _ (.tail _ (.tail _ (.head _)))) hhl hhe
def LS.mkp{pv:WN}{pq:List (List Nat)}(x:WZ [W.mm] H H')(md:H' W.mm=some (.dK (mdV W X.base pv)))(hpv:H' pv=some (.lst (pq.map VZ)))(npv:pv∉W.l3):LS a W { X with pv:=pv,pq:=pq } H':=by
 have hS:∀c∈[W.mm],c∈W.m5:=fun c m=>by rw[zw.mp m];exact .head _
 have kt:=L.kt x hS;have no:∀ {c},W.mm≠c->c∉[W.mm]:=fun h m=>h (zw.mp m).symm;have dl:=L.dl L.md;exact L.chg x hS md (x _ _ L.jr.ls (no dl.1)) (x _ _ L.jr.dc (no L.mu)) (L.jb.imp fun _ _ _ _ z=>BkAt.mv kt.t z) (x _ _ L.lb (no dl.2.1)) (L.la.imp fun _ _ _ _ z=>z.mv kt) hpv npv (x _ _ L.hl (no dl.2.2)) fun v m=>(L.he v m).mv kt
def LS.dg{l:List Nat}{v:V}(e:bw (mdV W X.base X.pv) (kwT l)=some v):DGet H W.mm (VZ l) (some v):=by
 have:=DGet.k (k:=kwT l) L.md
 rwa [e]at this
def LS.lbA:A2 (LbAt H) X.bv X.ls:=L.la.imp fun _ _ _ _ ⟨q,r,ws,e,h1,h2,h3,_⟩=>⟨q,r,ws,e,h1,h2,h3⟩
end
structure Cq(X:Ab):Prop where
 pu:Pu X.pq X.cu X.jb
 jb:X.jb=X.ls.map (·.b)
 pr:X.pr=prA X.jb
 n:X.n<=500
 cs:(X.cs.map (·.pa)).Perm X.pq
structure Rx where
 x:Rp
 po:List Pr
 pw:List Pr
noncomputable def Rx.ct(y:Rx):Rc:=(y.x.l,y.po,y.pw)
def RxAt(H:Hp)(v:V)(y:Rx):Prop:=∃q,v = .ref q/\H q=some (.tup [VZ y.x.l,.ref y.x.o,.ref y.x.i])/\(∃us,H y.x.o=some (.lst us)/\A2 (WU H) us y.po)/\∃us,H y.x.i=some (.lst us)/\A2 (WU H) us y.pw
noncomputable def adX(ys:List Rx):List WN:=adR (ys.map (·.x))
def RxAt.keep{S:List WN}{H H':Hp}{v:V}{y:Rx}(k:WZ S H H')(t:LW S H)(no:y.x.o∉S)(ni:y.x.i∉S)(h:RxAt H v y):RxAt H' v y:=by
 obtain⟨q,e,hq,⟨us,h1,h2⟩,ws,h3,h4⟩:=h;exact⟨q,e,k _ _ hq fun m=>(by obtain⟨_,z⟩:=t _ m;rw[hq]at z;cases z),⟨us,k _ _ h1 no,bJ k t h2⟩,ws,k _ _ h3 ni,bJ k t h4⟩
structure RxL(F H:Hp)(D:WN)(ws:List V)(ys:List Rx):Prop where
 ls:H D=some (.lst ws)
 it:A2 (RxAt H) ws ys
 nd:(D::adX ys).Nodup
 fr:∀c∈D::adX ys,F c=none
def dR{ys:List Rx}{c:WN}:c∈adX ys↔∃y∈ys,c=y.x.o\/c=y.x.i:=by
 unfold adX adR;rw[uR,uR,yf,yI,yI];constructor
 .rintro(⟨y,m,e⟩|⟨y,m,e⟩)
  .exact⟨y,m,.inl e.symm⟩
  .exact⟨y,m,.inr e.symm⟩
 .rintro⟨y,m,e|e⟩
  .exact .inl ⟨y,m,e.symm⟩
  .exact .inr ⟨y,m,e.symm⟩
def RxL.keep{F H H':Hp}{S:List WN}{D:WN}{ws:List V}{ys:List Rx}(h:RxL F H D ws ys)(k:WZ S H H')(t:LW S H)(n:∀c∈D::adX ys,c∉S):RxL F H' D ws ys:=
 ⟨k _ _ h.ls (n _ (.head _)),h.it.imp fun v y _ my r=>r.keep k t (n _ (.tail _ (dR.mpr ⟨y,my,.inl rfl⟩))) (n _ (.tail _ (dR.mpr ⟨y,my,.inr rfl⟩))),h.nd,h.fr⟩
def RxL.same{F H H':Hp}{D:WN}{ws:List V}{ys:List Rx}(h:RxL F H D ws ys)(s:XA H H'):RxL F H' D ws ys:=h.keep (S:=[]) (bF s) LW.nil fun _ _ m=>nomatch m
def rM{H:Hp}{ws:List V}{ys:List Rx}(h:A2 (RxAt H) ws ys){c:WN}(m:c∈adX ys):∃us,H c=some (.lst us):=by
 obtain⟨y,my,e⟩:=dR.mp m;obtain⟨v,_,q,_,_,⟨us,h1,_⟩,is,h2,_⟩:=xS h my;obtain rfl|rfl:=e
 .exact⟨us,h1⟩
 .exact⟨is,h2⟩
def cpy{F H:Hp}{D:WN}{ws:List V}{ys:List Rx}{σ:St}{Q:VK}(nH:WS H)(R:RxL F H D ws ys)(ll:ys.length<=50)(lp:∀y∈ys,y.po.length<=50/\y.pw.length<=50)
 (q:∀E vs zs H',RxL H H' E vs zs->zs.map (·.ct)=ys.map (·.ct)->XA H H'->WS H'->Q (.ref E) H') :
 CEl (Itl K D) 1 (fS 0) [] (fun _ H Q=>Q true H) (CI (b_ (tOp (gIx K) (tY 0) (tC (V.int 0))) (b_ (tCB (wP K) (b_ (tOp (gIx K) (tY 0) (tC (V.int 1))) gU)) (b_ (tCB (wP K) (b_ (tOp (gIx K) (tY 0) (tC (V.int 2))) gU)) gU)))) σ H Q:=by
 have sz:=szl;have lw:=R.it.len;refine uJ D ws (fun E i vs G=>XA H G/\WS G/\G E=some (.lst vs)/\H E=none/\vs.length<=i/\∃zs,A2 (RxAt G) vs zs/\zs.map (·.ct)=(ys.take i).map (·.ct)/\(E::adX zs).Nodup/\∀c∈adX zs,H c=none) (by lia) (fun E hE=>⟨aj _ hE,aE nH rfl,aa,hE,ym _,[],.nil,rfl,yE.mpr ⟨(fun m=>nomatch m),Zu⟩,(fun _ m=>nomatch m)⟩) ?_ ?_ ?_
 .rintro E i vs G ⟨sG,nG,gE,fE,lv,zs,_⟩
  exact⟨gE,al (sG _ _ R.ls),lv⟩
 .rintro E i v vs G zs0 N1 N0 hv ⟨sG,nG,gE,fE,lv,zs,az,ez,nd,fz⟩ hz n1 n0
  obtain⟨y,hy,ry⟩:=R.it.at_ hv;obtain⟨z1,rfl⟩:=ex1 hz;refine bq (ry.keep (S:=[]) (bF sG) LW.nil (fun m=>nomatch m) (fun m=>nomatch m)) fun qy yy1 hq yy2 yz=>br yz fun is hi ai=>?_;subst yy1;obtain⟨us,ho,au⟩:=yy2;obtain⟨l1,l2⟩:=lp y (wt hy);have lu:=au.len;have li:=ai.len;walk_at "z";refine⟨⟨[_],rfl,rfl⟩,_,_,.inr (aY hq),aI (j:=0) rfl,_,_,.inr (aY hq),aI (j:=1) rfl,?_⟩;walk_at "z";refine⟨us,.inl (al ho),fun q1 f1=>?_⟩;refine bq (bo (o:=HO.lst us) f1 nG rfl) fun G1 e1 s1 g1 M1=>?_;rw[e1];refine⟨_,_,.inr (aY (s1 _ _ hq)),aI (j:=2) rfl,?_⟩;walk_at "z";refine⟨is,.inl (al (s1 _ _ hi)),fun q2 f2=>⟨by lia,fun q3 f3=>?_⟩⟩;refine bq (bo (o:=HO.lst is) f2 M1 rfl) fun G2 e2 s2 g2 M2=>?_;rw[e2]at f3 |-
  refine bq (bo (o:=HO.tup [VZ y.x.l,V.ref q1,V.ref q2]) f3 M2 rfl) fun G3 e3 s3 g3 M3=>?_;rw[e3];have s03:=(s1.trans s2).trans s3;have hE:=s03 _ _ gE;refine n1 _ _ hE ?_;refine bq (iX (p:=E) (o:=HO.lst (vs++[V.ref q3])) M3 rfl) fun G4 e4 g4 k4 M4=>?_;rw[e4];have nE:∀ {c},G c=none\/G1 c=none->c≠E:=fun h z=>by
   obtain h|h:=h
   .rw[z,gE]at h;cases h
   .rw[z,s1 _ _ gE]at h;cases h
  have nZ:∀ {c},G c=none\/G1 c=none->c∉adX zs:=fun h m=>by
   obtain⟨us,e⟩:=rM az m;obtain h|h:=h
   .rw[e]at h;cases h
   .rw[s1 _ _ e]at h;cases h
  have q12:q1≠q2:=fun z=>by rw[<- z,g1]at f2;cases f2
  have nS:∀ {c},c≠E->c∉[E]:=fun h m=>h (zw.mp m);obtain⟨n1',n2'⟩:=yE.mp nd;have lwE:=LW.one hE;refine⟨(fun c z e=>k4 _ _ (s03 _ _ (sG _ _ e)) (nS fun q=>by rw[q,fE]at e;cases e)),M4,g4,fE,by rw[zc,wa];lia,zs++[⟨⟨y.x.l,q1,q2⟩,y.po,y.pw⟩],?_,?_,?_,fun c m=>?_⟩
  .refine(az.imp fun v z _ mz r=>?_).snoc ?_
   .refine(r.keep (S:=[]) (bF s03) LW.nil (fun m=>nomatch m) (fun m=>nomatch m)).keep k4 lwE (nS fun q=>n1' ?_) (nS fun q=>n1' ?_)
    .rw[<- q];exact dR.mpr ⟨z,mz,.inl rfl⟩
    .rw[<- q];exact dR.mpr ⟨z,mz,.inr rfl⟩
   .have sg:=s2.trans s3
    exact RxAt.keep (y:=⟨⟨y.x.l,q1,q2⟩,y.po,y.pw⟩) k4 lwE (nS (nE (.inl f1))) (nS (nE (.inr f2))) ⟨q3,rfl,g3,⟨us,sg _ _ g1,dM s03 au⟩,is,s3 _ _ g2,dM s03 ai⟩
  .rw[yB,ez,bR hy,yB];rfl
  .unfold adX
   rw[yB];refine yE.mpr ⟨fun m=>?_,Cw n2' (nZ (.inl f1)) (nZ (.inr f2)) q12⟩;rcases(on _ _ _).mp m with m|m|m
   .exact n1' m
   .exact nE (.inl f1) m.symm
   .exact nE (.inr f2) m.symm
  .unfold adX at m
   rw[yB]at m;rcases(on _ _ _).mp m with m|m|m
   .exact fz c m
   .rw[m];exact sG.free f1
   .rw[m];exact(sG.trans s1).free f2
 .rintro E vs G ⟨sG,nG,gE,fE,lv,zs,az,ez,nd,fz⟩
  rw[lw,Zx]at ez;refine q E vs zs G ⟨gE,az,nd,fun c m=>?_⟩ ez sG nG;obtain rfl|m:=zk.mp m
  .exact fE
  .exact fz c m
theorem E3{α β:Type}{R:α->β->Prop}:∀ {ws:List α} {ys:List β},ws.length=ys.length->(∀(i:Nat) (v:α) (y:β),ws[i]? = some v->ys[i]? = some y->R v y)->A2 R ws ys
 | [],[],_,_=>.nil
 |v::ws,y::ys,e,h=>.cons (h 0 v y rfl rfl) (E3 (by simpa using e) fun i v y h1 h2=>h (i+1) v y h1 h2)
def vX{ys:List Rx}(nd:(adX ys).Nodup){i j:Nat}{y z:Rx}(hi:ys[i]? = some z)(hj:ys[j]? = some y):(i≠j->z.x.o≠y.x.o/\z.x.i≠y.x.i)/\z.x.i≠y.x.o:=by
 unfold adX adR at nd;rw[uR,uR]at nd;obtain⟨n1,n2,n3⟩:=ZW.mp nd;have li:=(Wu.mp hi).1;refine⟨fun ne=>⟨fun e=>ne ?_,fun e=>ne ?_⟩,fun e=>?_⟩
 .exact(List.getElem?_inj (by simpa using li) n1).mp (by rw[Ws,Ws,hi,hj];exact Wb some e)
 .exact(List.getElem?_inj (by simpa using li) n2).mp (by rw[Ws,Ws,hi,hj];exact Wb some e)
 .exact n3 _ (yI.mpr ⟨y,wt hj,rfl⟩) _ (yI.mpr ⟨z,wt hi,rfl⟩) e.symm
def iR{α β:Type}{f:α->β}{ys:List α}{j:Nat}{y y':α}(hj:ys[j]? = some y)(e:f y'=f y):(ys.set j y').map f=ys.map f:=by
 refine List.ext_getElem? fun i=>?_;rw[Ws,Ws,List.getElem?_set];by_cases h:j=i
 .subst h
  have lj:=(Wu.mp hj).1;rw[Wf rfl,Wf lj,hj];exact Wb some e
 .rw[Wg h]
def RxL.chg{F H H':Hp}{D c:WN}{ws us:List V}{ys:List Rx}{j:Nat}{y y':Rx}(R:RxL F H D ws ys)(hj:ys[j]? = some y)(ex:y'.x=y.x)(k:WZ [c] H H')(hc:∃l,H c=some (.lst l))(g:H' c=some (.lst us))
 (h:(c=y.x.o/\A2 (WU H') us y'.po/\y'.pw=y.pw)\/(c=y.x.i/\A2 (WU H') us y'.pw/\y'.po=y.po)):RxL F H' D ws (ys.set j y'):=by
 obtain⟨l,hl⟩:=hc;have lw:=LW.one hl;have em:(ys.set j y').map (·.x)=ys.map (·.x):=iR hj ex;have ea:adX (ys.set j y')=adX ys:=by unfold adX;rw[em]
 obtain⟨n1,n2⟩:=yE.mp R.nd;have mc:c∈adX ys:=by
  obtain⟨e,_⟩|⟨e,_⟩:=h
  .exact dR.mpr ⟨y,wt hj,.inl e⟩
  .exact dR.mpr ⟨y,wt hj,.inr e⟩
 have nS:∀ {z},z≠c->z∉[c]:=fun h m=>h (zw.mp m);refine⟨k _ _ R.ls (nS fun z=>n1 (z ▸ mc)),E3 (by rw[Xy];exact R.it.len) fun i v z hv hz=>?_,by rw[ea];exact R.nd,by rw[ea];exact R.fr⟩;obtain⟨z0,hz0,rz⟩:=R.it.at_ hv;rw[List.getElem?_set]at hz;by_cases ij:j=i
 .subst ij
  have lj:=(Wu.mp hj).1;rw[Wf rfl,Wf lj]at hz;cases hz;rw[hj]at hz0;cases hz0;have ap:=(vX n2 hj hj).2;obtain⟨q,e,hq,⟨us1,h1,h2⟩,us2,h3,h4⟩:=rz;refine⟨q,e,?_,?_,?_⟩
  .rw[ex];exact k _ _ hq (nS fun z=>by rw[z,hl]at hq;cases hq)
  .obtain⟨rfl,h,_⟩|⟨rfl,_,e2⟩:=h
   .rw[ex];exact⟨us,g,h⟩
   .rw[ex,e2];exact⟨us1,k _ _ h1 (nS (Wj ap)),bJ k lw h2⟩
  .obtain⟨rfl,_,e2⟩|⟨rfl,h,_⟩:=h
   .rw[ex,e2];exact⟨us2,k _ _ h3 (nS ap),bJ k lw h4⟩
   .rw[ex];exact⟨us,g,h⟩
 .rw[Wg ij]at hz
  rw[hz0]at hz;cases hz;have a1:=vX n2 hz0 hj;have a2:=vX n2 hj hz0;have a3:=a1.1 fun z=>ij z.symm;obtain⟨rfl,_⟩|⟨rfl,_⟩:=h
  .exact rz.keep k lw (nS a3.1) (nS a1.2)
  .exact rz.keep k lw (nS (Wj a2.2)) (nS a3.2)
noncomputable def mor:Pr:=([109,111,114,101],1)
noncomputable def mu1(X:List Rc):List Rc:=match X[0]? with
 |some c=>X.set 0 (c.1,c.2.1++[mor],c.2.2)
 |none=>X
noncomputable def mu2(X:List Rc):List Rc:=match X[X.length-1]? with
 |some c=>X.set (X.length-1) (c.1,c.2.1,[])
 |none=>X
def JB{F H:Hp}{D:WN}{ws:List V}{ys:List Rx}{Dn:gl}{σ:St}(e11:σ[11]? = some (some (V.ref D)))(nH:WS H)(R:RxL F H D ws ys)(l1:1<=ys.length)(ll:ys.length<=50)(lp:∀y∈ys,y.po.length<=50)
 (q:∀ys' H',RxL F H' D ws ys'->ys'.map (·.ct)=mu2 (mu1 (ys.map (·.ct)))->adX ys'=adX ys->WZ (adX ys) H H'->LW (adX ys) H->WS H'->Dn.nx σ H') :
 GR (wG (tBM K "list" rW (tOp (gIx K) (tOp (gIx K) (tY 11) (tC (V.int 0))) (tC (V.int 1))) (b_ (CI (b_ (tC (VZ [109,111,114,101])) (b_ (tC (V.int 1)) gU))) gU))) (wG (DT K "list" vc (tOp (gIx K) (tOp (gIx K) (tY 11) (tUn Gs (tC (V.int 1)))) (tC (V.int 2))))) Dn σ H:=by
 have sz:=szl;have lw:=R.it.len;obtain⟨v0,hv0⟩:∃v,ws[0]? = some v:=⟨_,Wr (by lia)⟩;obtain⟨vL,hvL⟩:∃v,ws[ws.length-1]? = some v:=⟨_,Wr (by lia)⟩;have aL:atI ws (-1)=some vL:=by
  unfold atI ixN;rw[Wg (by decide),Wf (by lia)];show ws[_]? = _;rw[<- hvL];congr 1;lia
 refine br (R.it.at_ hv0) fun y0 hy0 yz=>bq yz fun q0 yy1 hq0 yy2 yz=>br yz fun is hi ai=>?_;subst yy1;obtain⟨us,ho,au⟩:=yy2;have lu:=au.len;have l0:=lp y0 (wt hy0);walk_at "q";simp only[e11];refine⟨_,_,.inl (al R.ls),aI hv0,_,_,.inr (aY hq0),aI (j:=1) rfl,.inl ⟨rfl,_,al ho⟩,by lia,fun p fp=>⟨y0.x.o,us,_,rfl,rfl,(aj _ fp) _ _ ho,by lia,?_⟩⟩;refine bq (bo (o:=HO.tup [VZ [109,111,114,101],V.int 1]) fp nH rfl) fun H1 e1 s1 g1 N1=>?_;rw[e1];refine bq (iX (p:=y0.x.o) (o:=HO.lst (us++[V.ref p])) N1 rfl) fun H2 e2 g2 k2 N2=>?_;rw[e2];have lwo:=LW.one (s1 _ _ ho);have R2:RxL F H2 D ws (ys.set 0 ⟨y0.x,y0.po++[mor],y0.pw⟩):=(R.same s1).chg (y':=⟨y0.x,y0.po++[mor],y0.pw⟩) hy0 rfl k2 ⟨_,s1 _ _ ho⟩ g2 (.inl ⟨rfl,(bJ k2 lwo (dM s1 au)).snoc ⟨p,rfl,k2 _ _ g1 fun m=>(by rw[zw.mp m,s1 _ _ ho]at g1;cases g1)⟩,rfl⟩);have ek:(ys.set 0 ⟨y0.x,y0.po++[mor],y0.pw⟩).map (·.ct)=mu1 (ys.map (·.ct)):=by
  unfold mu1;rw[Ws,hy0,List.map_set];rfl
 have lenS:(ys.set 0 ⟨y0.x,y0.po++[mor],y0.pw⟩).length=ys.length:=Xy;have ea:adX (ys.set 0 ⟨y0.x,y0.po++[mor],y0.pw⟩)=adX ys:=Wb adR (iR (f:=fun x:Rx=>x.x) (y':=⟨y0.x,y0.po++[mor],y0.pw⟩) hy0 rfl);generalize ys.set 0 ⟨y0.x,y0.po++[mor],y0.pw⟩=ys1 at R2 ek lenS ea;refine br (R2.it.at_ hvL) fun yL hyL yz=>bq yz fun qL yy1 hqL yy2 yz=>br yz fun is1 hi1 ai1=>?_;subst yy1;obtain⟨us1,ho1,au1⟩:=yy2;refine⟨_,_,.inl (al R2.ls),aL,_,_,.inr (aY hqL),aI (j:=2) rfl,.inl ⟨rfl,_,al hi1⟩,yL.x.i,is1,rfl,hi1,?_⟩;refine bq (iX (p:=yL.x.i) (o:=HO.lst []) N2 rfl) fun H3 e3 g3 k3 N3=>?_;rw[e3];have R3:=R2.chg (y':=⟨yL.x,yL.po,[]⟩) hyL rfl k3 ⟨_,hi1⟩ g3 (.inr ⟨rfl,.nil,rfl⟩);refine q _ H3 R3 ?_ ((Wb adR (iR (f:=fun x:Rx=>x.x) (y':=⟨yL.x,yL.po,[]⟩) hyL rfl)).trans ea) (fun c z e n=>k3 _ _ (k2 _ _ (s1 _ _ e) fun m=>n ?_) fun m=>n ?_) (fun c m=>rM R.it m) N3
 .rw[List.map_set,ek]
  unfold mu2;rw[<- ek,Ws,zm,lenS,<- lw,hyL];rfl
 .rw[zw.mp m];exact dR.mpr ⟨y0,wt hy0,.inl rfl⟩
 .rw[zw.mp m,<- ea];exact dR.mpr ⟨yL,wt hyL,.inr rfl⟩
def w_{H:Hp}{n:Nat}{p q:WN}{xs ys:List V}{L:List Pr}(hp:H p=some (.lst xs))(hq:H q=some (.lst ys))(h:A2 (WU H) xs L)(h':A2 (WU H) ys L):EqH K H (n+2) (.ref p) (.ref q) true:=by
 by_cases e:p=q
 .subst e;exact .same
 .have:=EqH.lst (K:=K) (H:=H) (n:=n+1) (e:=fun _=>true) e (al hp) (al hq) (h.len.trans h'.len.symm) fun j x y gx gy=>by
   obtain⟨z,g1,r1⟩:=h.at_ gx;obtain⟨z',g2,r2⟩:=h'.at_ gy;rw[g1]at g2;cases g2;exact E0 r1 r2
  rwa [Zv.mpr fun _ _=>rfl]at this
def RcE(H:Hp)(v:V)(c:Rc):Prop:=∃q o i us is,v = .ref q/\H q=some (.tup [VZ c.1,.ref o,.ref i])/\H o=some (.lst us)/\A2 (WU H) us c.2.1/\H i=some (.lst is)/\A2 (WU H) is c.2.2
def Iw{H:Hp}{n:Nat}{v v':V}{c:Rc}(h:RcE H v c)(h':RcE H v' c):EqH K H (n+3) v v' true:=by
 obtain⟨q,o,i,us,is,rfl,h1,h2,h3,h4,h5⟩:=h;obtain⟨q',o',i',us',is',rfl,g1,g2,g3,g4,g5⟩:=h';by_cases hq:q=q'
 .subst hq;exact .same
 .exact EqH.tup (K:=K) (H:=H) (n:=n+2) (e:=fun _=>true) hq (aY h1) (aY g1) fun j x y gx gy=>by
   match j,gx with
   |0,gx=>cases gx;cases gy;exact ED _
   |1,gx=>cases gx;cases gy;exact w_ h2 g2 h3 g3
   |2,gx=>cases gx;cases gy;exact w_ h4 g4 h5 g5
   |j+3,gx=>simp at gx
def xA{H:Hp}{ws:List V}{ys:List Rx}(h:A2 (RxAt H) ws ys):A2 (RcE H) ws (ys.map (·.ct)):=by
 induction h with
 |nil=>exact .nil
 |cons r _ ih=>
  obtain⟨q,e,hq,⟨us,h1,h2⟩,is,h3,h4⟩:=r;exact .cons ⟨q,_,_,us,is,e,hq,h1,h2,h3,h4⟩ ih
def Cv{H:Hp}{p q:WN}{xs ys:List V}{X:List Rc}(hp:H p=some (.lst xs))(hq:H q=some (.lst ys))(h:A2 (RcE H) xs X)(h':A2 (RcE H) ys X):EqR K H p q true:=Cm (R:=RcE H) (fun _ _ _ r1 r2=>Iw r1 r2) hp hq h h'
def RxL.rcl{F H:Hp}{W:Wd}{D:WN}{ws:List V}{ys:List Rx}(R:RxL F H D ws ys)(n:∀c∈W.l3,F c≠none):RcL W H D (ys.map (·.ct)):=by
 have no:∀ {c},c∈D::adX ys->c∉W.l3:=fun m q=>n _ q (R.fr _ m);refine⟨ws,R.ls,no (.head _),?_⟩;have:∀ {vs zs},A2 (RxAt H) vs zs->(∀z∈zs,z∈ys)->A2 (RcW W H) vs (zs.map (·.ct)):=fun h=>by
  induction h with
  |nil=>intro _;exact .nil
  | @cons v z vs zs r _ ih=>
   intro hz;obtain⟨q,e,hq,⟨us,h1,h2⟩,is,h3,h4⟩:=r;refine .cons ⟨q,_,_,us,is,e,hq,h1,h2,h3,h4,no (.tail _ (dR.mpr ⟨z,hz z (.head _),.inl rfl⟩)),no (.tail _ (dR.mpr ⟨z,hz z (.head _),.inr rfl⟩))⟩ (ih fun x m=>hz x (.tail _ m))
 exact this R.it fun _ m=>m
def LS.l3n{W:Wd}{X:Ab}{H:Hp}(L:LS a W X H):∀c∈W.l3,H c≠none:=fun c m e=>by
 obtain rfl|m:=zk.mp m
 .rw[L.jr.ls]at e;cases e
 obtain rfl|m:=zk.mp m
 .rw[L.lb]at e;cases e
 .rw[zw.mp m,L.hl]at e;cases e
noncomputable def CT(R:List Row)(out:List (List Nat))(o1 o2:List Pt):List Rc:=out.map fun l=>(l,prs (res R o1) l,prs (res (dU R) o2) l)
structure Tk(X:Ab)(R:List Row)(out:List (List Nat))(o1 o2:List Pt):Prop where
 po:out.Perm (X.cs.map (·.pa))
 io:InO out
 p1:o1.Perm ((dk R).map (·.1))
 q1:oA o1
 p2:o2.Perm ((dk (dU R)).map (·.1))
 q2:oA o2
def Tk.uniq{X:Ab}{R:List Row}{out out':List (List Nat)}{o1 o2 o1' o2':List Pt}(t:Tk X R out o1 o2)(t':Tk X R out' o1' o2'):CT R out o1 o2=CT R out' o1' o2':=by
 rw[jU (t.po.trans t'.po.symm) t.io t'.io,k_ (t.p1.trans t'.p1.symm) t.q1 t'.q1,k_ (t.p2.trans t'.p2.symm) t.q2 t'.q2]
def Tk.to{X:Ab}{R:List Row}{out:List (List Nat)}{o1 o2:List Pt}(t:Tk X R out o1 o2):TO R (res R o1) (res (dU R) o2):=⟨fun l=>Sl.prs t.p1 t.q1 l,fun l=>Sl.prs t.p2 t.q2 l⟩
def Ai{H H':Hp}{D:WN}{ws:List V}{xs:List Rp}{R:List Row}{o1 o2:List Pt}{out:List (List Nat)}(hD:H' D=some (.lst ws))(fD:H D=none)(A:A2 (RpAt H' (res R o1) (res (dU R) o2)) ws xs)(el:xs.map (·.l)=out)(nd:(D::adR xs).Nodup)(fr:∀c∈adR xs,H c=none) :
 ∃ys,RxL H H' D ws ys/\ys.map (·.ct)=CT R out o1 o2:=by
 refine⟨xs.map fun x=>⟨x,prs (res R o1) x.l,prs (res (dU R) o2) x.l⟩,?_,?_⟩
 .have ea:adX (xs.map fun x=>⟨x,prs (res R o1) x.l,prs (res (dU R) o2) x.l⟩)=adR xs:=by
   unfold adX;rw[uR];exact Wb adR (Ye _)
  refine⟨hD,?_,by rw[ea];exact nd,fun c m=>?_⟩
  .clear el nd fr ea hD
   induction A with
   |nil=>exact .nil
   |cons r _ ih=>exact .cons r ih
  .rw[ea]at m
   obtain rfl|m:=zk.mp m
   .exact fD
   .exact fr c m
 .unfold CT
  rw[<- el,uR,uR];rfl
def sp_CL(a:Adr):Sp:=sp2 fun x y H Q _=>WS H/\asR x fun mm=>asR y fun mo=>∃W X m0 m1,mm=W.mm/\LS a W X H/\Cq X/\H mo=some (.tup [.int m0,.int m1])/\X.hv.length<=20/\∀H' v,LS a W { X with hv:=X.hv++[v] } H'->WS H'->WZ [W.hl] H H'->Q (.bl true) H'
def jH(T:Txt K mg a):Fo P w K mg base "_law_told" 9 (sp_CL a):=by
 refine T.sZ.hx ["_law_made","_law_months","_law_first_here","_law_last","_law_told_here","_law_path","_law_own","_law_within","_law_mine","_law_copied","_law_due","_law_some"] (gX2 fun x0 x1 fA XD A XF s H Q E ND HU hr h=>?_);obtain⟨hN,h1⟩:=h;obtain⟨mm,rfl,h2⟩:=aQ h1;obtain⟨mo,rfl,W,X,m0,m1,rfl,L,C,hmo,lh,k⟩:=aQ h2;have sz:=szl;obtain⟨R,eR⟩:∃R,R=dN (btw (FD m0) (FD (m1+1)-1) X.jb):=⟨_,rfl⟩;have tp:TP X.pq X.cu R:=by rw[eR];exact C.pu.tp _ _
 have hb:∀b∈X.jb,b.rs.length<=7/\∀r∈b.rs,rwL r:=fun b m=>⟨(C.pu.bk b m).1,fun r mr=>((C.pu.bk b m).2.2.2 r mr).2.2.2⟩;have lcs:X.cs.length<64:=by
  have e:=C.cs.length_eq;have:=C.pu.l11;rw[zm]at e;lia
 have l8:=C.pu.l8
 skip
 have c7:∃u,PSs (c6 (XE P w) P w K mg base ["_law_made","_law_months","_law_first_here","_law_last","_law_told_here","_law_path","_law_own","_law_within","_law_mine","_law_copied","_law_due","_law_some"] "_law_told" (ay (top 88)) fA XD A XF s H E) (ZB 7 (bB (top 88))) u/\∀(G:Hp) D ws ys Cc wc yc E we ye out o1 o2 x5 x6 x7 x8,XA H G->WS G->RxL H G D ws ys->RxL H G Cc wc yc->RxL H G E we ye->Tk X R out o1 o2->ys.map (·.ct)=CT R out o1 o2->yc.map (·.ct)=CT R out o1 o2->ye.map (·.ct)=CT R out o1 o2 ->
  (∀c∈D::adX ys,c∉Cc::adX yc/\c∉E::adX ye)->(∀c∈E::adX ye,c∉Cc::adX yc)->u { nx:=fun _ H'=>Q .non H',rt:=Q } [some (.ref W.mm),some (.ref mo),some (.int (FD m0)),some (.int (FD (m1+1)-1)),some (.ref D),x5,x6,x7,x8,some (.ref Cc),some (.ref E),none] G:=by
  refine⟨_,(ae (b7 (by passes_own) rfl (mU K (bU (fa2 (fv 4) (fv 10)))) (av (i:=11) ND rfl (Wi rfl)) (ae (bC (bY K qS Zq Zr cA (aK K (aK K (fv 11) ad) ad) (fa1 (bU (fa2 (ak [109,111,114,101]) ad)))))
   (af (bC (DL K qS PySem.F.slot_list_clear PySem.F.type_list_clear B5 (aK K (aK K (fv 11) (nX jk ad)) ad))))))
   (ae (bC (bY K qS Zq Zr cA (aP (Zz HU) (fv 0) (ak [104,101,108,100]) (fun _ _=>rfl)) (fa1 (cw (fa2 (fv 4) (fv 10))))))
   (af (aA (cZ (cX (cY K HU) (fv 4) (fv 10) (dD _)) (dv (cX (cY K HU) (aH (gm T) hr aq (fa4 (aP (Zz HU) (fv 0) (ak [99,104,97,114,116]) (fun _ _=>rfl)) (aP (Zz HU) (fv 0) (ak [106,111,117,114,110,97,108]) (fun _ _=>rfl)) (fv 2) (fv 3))) (fv 9) (dD _)))))))),fun G D ws ys Cc wc yc E we ye out o1 o2 x5 x6 x7 x8 sG nG RD RC RE tk eD eC eE ap1 ap2=>?_⟩
  have lcT:∀ {zs:List Rx},zs.map (·.ct)=CT R out o1 o2->zs.length=X.pq.length/\∀z∈zs,z.po.length<=50:=fun {zs} e=>by
   refine⟨?_,fun z m=>?_⟩
   .have:=Wb ZT e
    rw[zm]at this;rw[this];unfold CT;rw[zm,(tk.po.trans C.cs).length_eq]
   .have:=xW (f:=Rx.ct) m
    rw[e]at this;obtain⟨l,_,el⟩:=yI.mp this;have:z.po=prs (res R o1) l:=Wb (fun c:Rc=>c.2.1) el.symm;rw[this];have:=tp.ol tk.to l;lia
  have l1:=C.pu.l1;have l11:=C.pu.l11;walk_at "z";refine xL ?_;walk_at "q";refine⟨by lia,fun tt ft=>?_⟩;refine bq (bo (o:=HO.tup [V.ref D,V.ref E]) ft nG rfl) fun G1 e1 s1 g1 N1=>?_;rw[e1];refine⟨⟨_,aY g1⟩,xT (xs:=[V.ref D,V.ref E]) (fun i σ' (F:Hp)=>XA H F/\WS F/\F tt=some (.tup [V.ref D,V.ref E])/\RxL H F Cc wc yc/\∃ys' ye' x11,adX ys'=adX ys/\adX ye'=adX ye/\RxL H F D ws ys'/\RxL H F E we ye'/\ys'.map (·.ct)=(if 1<=i then mu2 (mu1 (CT R out o1 o2)) else CT R out o1 o2)/\ye'.map (·.ct)=(if 2<=i then mu2 (mu1 (CT R out o1 o2)) else CT R out o1 o2)/\σ'=[some (.ref W.mm),some (.ref mo),some (.int (FD m0)),some (.int (FD (m1+1)-1)),some (.ref D),x5,x6,x7,x8,some (.ref Cc),some (.ref E),x11])
   ⟨sG.trans s1,N1,g1,RC.same s1,ys,ye,none,rfl,rfl,RD.same s1,RE.same s1,eD,eE,rfl⟩ (fun i σ' F h=>aY (K:=K) h.2.2.1) ?_ ?_⟩
  .rintro i v σ' F hv ⟨sF,nF,gF,RCF,ys',ye',y11,ea,ee,RDF,REF,ed',ee',rfl⟩
   have kS:∀ {A:List WN} {F':Hp},WZ A F F'->(∀c∈A,H c=none)->XA H F':=fun k n=>WZ.toSame sF k n;obtain _|_|i:=i
   .cases hv
    have ed':ys'.map (·.ct)=CT R out o1 o2:=ed';obtain⟨ly,lp⟩:=lcT ed';refine JB (K:=K) (F:=H) rfl nF RDF (by lia) (by lia) lp fun zs F' RZ ez az kz lz nz=>⟨kS kz fun c m=>RDF.fr c (.tail _ m),nz,kz _ _ gF (lz.tup gF),RCF.keep kz lz (fun c m q=>(ap1 c (.tail _ (ea ▸ q))).1 m),zs,ye',_,az.trans ea,ee,RZ,REF.keep kz lz (fun c m q=>(ap1 c (.tail _ (ea ▸ q))).2 (by rw[<- ee];exact m)),by rw[ez,ed'];rfl,ee',rfl⟩
   .cases hv
    have ee1:ye'.map (·.ct)=CT R out o1 o2:=ee';obtain⟨ly,lp⟩:=lcT ee1;refine JB (K:=K) (F:=H) rfl nF REF (by lia) (by lia) lp fun zs F' RZ ez az kz lz nz=>⟨kS kz fun c m=>REF.fr c (.tail _ m),nz,kz _ _ gF (lz.tup gF),RCF.keep kz lz (fun c m q=>ap2 c (.tail _ (ee ▸ q)) m),ys',zs,_,ea,az.trans ee,RDF.keep kz lz (fun c m q=>(ap1 c (by rw[<- ea];exact m)).2 (.tail _ (ee ▸ q))),RZ,ed',by rw[ez,ee1];rfl,rfl⟩
   .simp at hv
  .rintro σ' F ⟨sF,nF,gF,RCF,ys',ye',y11,ea,ee,RDF,REF,ed',ee',rfl⟩
   have ed':ys'.map (·.ct)=mu2 (mu1 (CT R out o1 o2)):=ed';have ee':ye'.map (·.ct)=mu2 (mu1 (CT R out o1 o2)):=ee';have LF:=L.same sF;walk_at "z";refine⟨W.mm,_,rfl,LF.dg (Ey _ _ _),.inl ⟨rfl,_,al LF.hl⟩,by lia,fun pn fpn=>?_⟩;refine bq (bo (o:=HO.lst [V.ref D,V.ref E]) fpn nF rfl) fun F1 e2 s2 g2 N2=>?_;rw[e2];have L1:=LF.same s2;refine⟨W.hl,X.hv,_,rfl,rfl,L1.hl,by lia,?_⟩;refine bq (iX (p:=W.hl) (o:=HO.lst (X.hv++[V.ref pn])) N2 rfl) fun F2 e3 g3 k3 N3=>?_;rw[e3];have l3n:=L.l3n;have hlH:H W.hl≠none:=by rw[L.hl];intro z;cases z
   have nhl:∀ {c},H c=none->c∉[W.hl]:=fun e m=>hlH (zw.mp m ▸ e);have lwh:=LW.one L1.hl;have RD2:=(RDF.same s2).keep k3 lwh fun c m=>nhl (RDF.fr c m);have RE2:=(REF.same s2).keep k3 lwh fun c m=>nhl (REF.fr c m);have RC2:=(RCF.same s2).keep k3 lwh fun c m=>nhl (RCF.fr c m);have kt:=L1.kt k3 fun c m=>(by rw[zw.mp m];exact .tail _ (.tail _ (.tail _ (.tail _ (.head _)))):c∈W.m5);have pn0:H pn=none:=sF.free fpn;have L2':=L1.hld k3 g3 fun v m=>by
    obtain m|m:=yf.mp m
    .exact(L1.he v m).mv kt
    .rw[zw.mp m]
     have r1:=RD2.rcl (W:=W) l3n;have r2:=RE2.rcl (W:=W) l3n;rw[ed']at r1;rw[ee']at r2;exact⟨pn,D,E,_,rfl,k3 _ _ g2 (nhl pn0),fun q=>l3n _ q pn0,r1,r2⟩
   have a1:=xA RD2.it;have a2:=xA RE2.it;rw[ed']at a1;rw[ee']at a2;refine⟨true,Cv RD2.ls RE2.ls a1 a2,itp rfl ⟨W.mm,_,rfl,L2'.dg (l9 _ _ _),W.mm,_,rfl,L2'.dg (j7 _ _ _),N3,?_⟩⟩;walk_at "z";refine⟨W.d,X.cs,W.jl,W.ud,X.jv,X.kv,X.jb,L2'.ch,lcs,L2'.jr,L2'.jb,by lia,hb,by rw[<- eR];exact tp.d1,by rw[<- eR];exact tp.d2,fun out' o1' o2' D' ws' xs' F3 po' io' p1' q1' p2' q2' fD' hD' A' el' nd' fr' s3 N4=>?_⟩;rw[<- eR]at p1' p2' A';obtain⟨yz,RZ,ez⟩:=Ai hD' fD' A' el' nd' fr';have tk':Tk X R out' o1' o2':=⟨po',io',p1',q1',p2',q2'⟩;rw[tk'.uniq tk]at ez;have az:=xA RZ.it;have ac:=xA (RC2.same s3).it;rw[ez]at az;rw[eC]at ac;exact⟨true,Cv RZ.ls (RC2.same s3).ls az ac,k F3 (V.ref pn) (L2'.same s3) N4 fun c z e n=>s3 _ _ (k3 _ _ (s2 _ _ (sF _ _ e)) n)⟩
 obtain⟨u7,hu7,c7⟩:=c7;have c4:∃u,PSs (c6 (XE P w) P w K mg base ["_law_made","_law_months","_law_first_here","_law_last","_law_told_here","_law_path","_law_own","_law_within","_law_mine","_law_copied","_law_due","_law_some"] "_law_told" (ay (top 88)) fA XD A XF s H E) (ZB 4 (bB (top 88))) u/\∀(G:Hp) D ws ys out o1 o2,XA H G->WS G->RxL H G D ws ys->Tk X R out o1 o2->ys.map (·.ct)=CT R out o1 o2->u { nx:=fun _ H'=>Q .non H',rt:=Q } [some (.ref W.mm),some (.ref mo),some (.int (FD m0)),some (.int (FD (m1+1)-1)),some (.ref D),none,none,none,none,none,none,none] G:=by
  refine⟨_,(ae (b7 (by passes_own) rfl (a7 K (fv 4)) (cN K (n:=3) rfl (aO (av (i:=5) ND rfl (Wh rfl)) (aO (av (i:=6) ND rfl (Wi rfl)) (aO (av (i:=7) ND rfl (Wi rfl)) cL)))) (ae (oR (i0:=8) ND rfl (Wi rfl) rfl (cl:=_) (x:="_law_one") (xs:=["_law_one"]) (fr:=["_law_path","_law_months","_law_made"]) (ks:=[5,1,0]) (by walk_at "k") rfl (a7 K (aB (tO K) rfl T.iA gh (fa1 (aP (Zz HU) (fv 0) (ak [99,117,114,114,101,110,99,105,101,115]) (fun _ _=>rfl))))) (fun _ _ _ _ _=>(av (i:=0) (cQ (l:=["_law_one","_law_path","_law_months","_law_made"]) (by decide)) rfl (Wi rfl))) (fun _ _ _ _ _=>cO) (fun _ _ _ _ _=>(bU (fa2 (fv 0) (cK (aP (Zz HU) (fv 3) (ak [115,117,109,115]) (fun _ _=>rfl)) T.gL (uE T) hr.mono wS (fa4 (fv 1) (fv 0) (aK K (fv 2) ad) (aK K (fv 2) ad)))))))
   (af (bc (bf (dw K HU) (fv 6) (bK rfl (cl:=_) (x:="_law_pair") (xs:=["_law_pair"]) (fr:=[]) (ks:=[]) (by walk_at "k") rfl (a7 K (fv 8)) (fun _ _ _ _ _=>(av (i:=0) (cQ (l:=["_law_pair"]) (by decide)) rfl (Wi rfl))) (fun _ _ _ _ _=>(gB (bf (dw K HU) (aK K (fv 0) ad) ad))) (fun _ _ _ _ _=>(fv 0)))) (af (aA cW)) aJ))))
   (ae (oR (i0:=9) ND rfl (Wi rfl) rfl (cl:=_) (x:="_law_row") (xs:=["_law_row"]) (fr:=[]) (ks:=[]) (by walk_at "k") rfl (a7 K (fv 4)) (fun _ _ _ _ _=>(av (i:=0) (cQ (l:=["_law_row"]) (by decide)) rfl (Wi rfl))) (fun _ _ _ _ _=>cO) (fun _ _ _ _ _=>(bU (fa3 (aK K (fv 0) ad) (de (iU K) rfl T.fV d9 (fa1 (aK K (fv 0) ad))) (de (iU K) rfl T.fV d9 (fa1 (aK K (fv 0) ad)))))))
   (ae (oR (i0:=10) ND rfl (Wi rfl) rfl (cl:=_) (x:="_law_row") (xs:=["_law_row"]) (fr:=[]) (ks:=[]) (by walk_at "k") rfl (a7 K (fv 4)) (fun _ _ _ _ _=>(av (i:=0) (cQ (l:=["_law_row"]) (by decide)) rfl (Wi rfl))) (fun _ _ _ _ _=>cO) (fun _ _ _ _ _=>(bU (fa3 (aK K (fv 0) ad) (de (iU K) rfl T.fV d9 (fa1 (aK K (fv 0) ad))) (de (iU K) rfl T.fV d9 (fa1 (aK K (fv 0) ad)))))))
   hu7))),fun G D ws ys out o1 o2 sG nG RD tk eD=>?_⟩
  have lw:=RD.it.len;have ly:ys.length=X.pq.length:=by
   have:=Wb ZT eD;rw[zm]at this;rw[this];unfold CT;rw[zm,(tk.po.trans C.cs).length_eq]
  have l11:=C.pu.l11;have cl:∀y∈ys,y.po=prs (res R o1) y.x.l/\y.pw=prs (res (dU R) o2) y.x.l:=fun y m=>by
   have:=xW (f:=Rx.ct) m;rw[eD]at this;obtain⟨l,_,el⟩:=yI.mp this;have e1:l=y.x.l:=Wb (fun c:Rc=>c.1) el;rw[<- e1];exact⟨(Wb (fun c:Rc=>c.2.1) el).symm,(Wb (fun c:Rc=>c.2.2) el).symm⟩
  walk_at "z";refine b9 ?_;walk_at "z";refine cn (al RD.ls) (cq (xs:=ws) (fun i σ' (F:Hp)=>XA G F/\WS F/\∃x5 x6 x7 x8,σ'=[some (.ref W.mm),some (.ref mo),some (.int (FD m0)),some (.int (FD (m1+1)-1)),some (.ref D),x5,x6,x7,x8,none,none,none]) ⟨XA.refl _,nG,_,_,_,_,rfl⟩ (fun i σ' F _ h=>al (h.1 _ _ RD.ls)) ?_ ?_)
  .rintro i v σ' F hv ⟨sF,nF,y5,y6,y7,y8,rfl⟩
   refine br ((RD.same sF).it.at_ hv) fun y hy ry=>?_;refine bq ry fun q yy1 hq yy2 yz=>br yz fun is hi ai=>?_;clear ry;subst yy1;obtain⟨us,ho,au⟩:=yy2;have my:=wt hy;rw[(cl y my).1]at au;have s0F:=sG.trans sF;have LF:=L.same s0F;walk_at "z";refine⟨q,_,rfl,aY hq,rfl,_,_,rfl,_,_,rfl,_,_,rfl,rfl,fM ?_⟩;walk_at "z";refine⟨W.mm,_,rfl,LF.dg (EO _ _ _),X.cu,al LF.cp,by have:=C.pu.lc;lia,fun so ps_ is_ l fl=>?_⟩;refine bq (bo (o:=HO.lst (so.map VZ)) fl nF rfl) fun F1 e1 s1 g1 N1=>?_;rw[e1];have nso:so.Nodup:=ps_.nodup_iff.mpr C.pu.nc;have lso:so.length=3:=ps_.length_eq.trans C.pu.lc;have lmso:(so.map VZ).length=3:=by rw[zm];exact lso
   refine⟨l,rfl,⟨_,al g1⟩,ceA (S:=WU) WU.mv l (so.map VZ) so (fun v c=>v=VZ c) (fun _=>true) (fun c=>(c,sR y.x.l c (btM m0 m1) X.pr)) g1 N1 (Fl so) (by lia) (fun v c mc rb F3 zs n1 n0 s3 N3 hz k1 k0=>?_) fun D2 ws2 F3 f2 s3 N3 g3 a3=>?_⟩
   .subst rb
    obtain⟨z1,rfl⟩:=ex1 hz;have L3:=LF.same (s1.trans s3);obtain⟨dxs,hsm⟩:=L3.sm.ob;have hmo3:=(s0F.trans (s1.trans s3)) _ _ hmo;walk_at "z";refine⟨⟨[_],rfl,rfl⟩,W.mm,_,rfl,L3.dg (AX _ _ _),?_⟩;walk_at "z";refine⟨dxs,_,hsm,HR _,_,_,.inr (aY hmo3),aI (j:=0) rfl,_,_,.inr (aY hmo3),aI (j:=1) rfl,N3,?_⟩;walk_at "z";exact⟨W.b,X.sk,X.pr,X.n,L3.sm,C.n,by lia,fun p1 fp1=>k1 rfl _ _ (aj _ fp1) (aE N3 rfl) ⟨p1,rfl,aa⟩⟩
   .rw[Zo.mpr (fun _ _=>rfl)]at a3
    have l3':=a3.len;rw[zm]at l3';refine fM ?_;walk_at "q";refine⟨⟨_,al g3⟩,ceA (S:=WU) WU.mv D2 ws2 (so.map fun c=>(c,sR y.x.l c (btM m0 m1) X.pr)) (WU F3) (fun c=>decide (c.2≠0)) id g3 N3 a3 (by lia) (fun v c mc rb F4 zs n1 n0 s4 N4 hz k1 k0=>?_) fun D5 ws5 F5 f5 s5 N5 g5 a5=>?_⟩
    .obtain⟨qc,rfl,hqc⟩:=rb
     have hqc:=s4 _ _ hqc;obtain⟨z1,rfl⟩:=ex1 hz;walk_at "z";refine⟨⟨[_],rfl,rfl⟩,_,_,.inr (aY hqc),aI (j:=1) rfl,?_⟩;walk_at "q";by_cases h0:c.2=0
     .exact itp h0 (k0 (by simpa using h0) _ (XA.refl _) N4)
     .exact itn h0 (k1 (by simpa using h0) _ _ (XA.refl _) N4 ⟨qc,rfl,hqc⟩)
    .rw[Ye,List.filter_map]at a5
     have ef:∀c,sR y.x.l c (btM m0 m1) X.pr=sm R (y.x.l,c):=fun c=>by
      rw[C.pr,eR];exact Fy fun b m=>(C.pu.bk b m).2.1
     have SL:Sl (fun c=>sR y.x.l c (btM m0 m1) X.pr) ((so.filter fun c=>decide (sR y.x.l c (btM m0 m1) X.pr≠0)).map fun c=>(c,sR y.x.l c (btM m0 m1) X.pr)):=Sl.of is_ nso fun c z=>by
      rw[ef]at z;refine ps_.mem_iff.mpr (Z8 fun n=>z (iV fun r mr e=>n ?_));rw[<- (Zg e).2];exact(tp.rw r mr).2.2
     have e5:_=prs (res R o1) y.x.l:=(SL.cong ef).uniq (tk.to.o y.x.l);have a5:A2 (WU F5) ws5 ((so.filter fun c=>decide (sR y.x.l c (btM m0 m1) X.pr≠0)).map fun c=>(c,sR y.x.l c (btM m0 m1) X.pr)):=a5;rw[e5]at a5;have s15:=(s1.trans s3).trans s5;walk_at "z";exact⟨true,vE (s15 _ _ ho) g5 (dM s15 au) a5,itn (by decide) ⟨sF.trans s15,N5,_,_,_,_,rfl,rfl,rfl,rfl⟩⟩
  .rintro σ' F ⟨sF,nF,y5,y6,y7,y8,rfl⟩
   have RF:=RD.same sF;walk_at "z";refine fM ?_;walk_at "q";have lp:∀y∈ys,y.po.length<=50/\y.pw.length<=50:=fun y m=>by
    rw[(cl y m).1,(cl y m).2];have:=tp.ol tk.to y.x.l;have:=tp.wl tk.to y.x.l;exact⟨by lia,by lia⟩
   refine⟨⟨ws,al RF.ls⟩,cpy nF RF (by lia) lp fun Cc wc yc F1 RC eC s1 N1=>fM ?_⟩;walk_at "q";have RF1:=RF.same s1;refine⟨⟨ws,al RF1.ls⟩,cpy N1 RF1 (by lia) lp fun E we ye F2 RE eE s2 N2=>?_⟩;have s0:=sG.trans sF;have inF:∀ {c},c∈D::adX ys->F c≠none:=fun m z=>by
    obtain rfl|m:=zk.mp m
    .rw[RF.ls]at z;cases z
    .obtain⟨us,e⟩:=rM RF.it m
     rw[e]at z;cases z
   have inC:∀ {c},c∈Cc::adX yc->F1 c≠none:=fun m z=>by
    obtain rfl|m:=zk.mp m
    .rw[RC.ls]at z;cases z
    .obtain⟨us,e⟩:=rM RC.it m
     rw[e]at z;cases z
   refine c7 F2 D ws ys Cc wc yc E we ye out o1 o2 _ _ _ _ ((s0.trans s1).trans s2) N2 (RF1.same s2) ⟨(RC.same s2).ls,(RC.same s2).it,RC.nd,fun c m=>s0.free (RC.fr c m)⟩ ⟨RE.ls,RE.it,RE.nd,fun c m=>(s0.trans s1).free (RE.fr c m)⟩ tk eD (eC.trans eD) (eE.trans eD) (fun c m=>⟨fun z=>inF m (RC.fr c z),fun z=>inF m (s1.free (RE.fr c z))⟩) fun c m z=>inC z (RE.fr c m)
 obtain⟨u4,hu4,c4⟩:=c4;refine⟨_,(ae (aV 2 ND (aH (cJ T) hr aq (fa1 (aK K (fv 1) ad))))
  (ae (aV 3 ND (ah fh (aH (cJ T) hr aq (fa1 (ah aT (aK K (fv 1) ad) ad))) ad))
  (ae (aV 4 ND (aH (gm T) hr aq (fa4 (aP (Zz HU) (fv 0) (ak [99,104,97,114,116]) (fun _ _=>rfl)) (aP (Zz HU) (fv 0) (ak [106,111,117,114,110,97,108]) (fun _ _=>rfl)) (fv 2) (fv 3))))
  (ae (bc (bG (bz (aH (d_ T) hr aq (fa4 (fv 0) (fv 4) (fv 2) (fv 3))))) (af (aA cW)) aJ)
  hu4)))),?_⟩
 walk_at "z";refine⟨_,_,.inr (aY hmo),aI (j:=0) rfl,hN,?_⟩;walk_at "z";refine⟨_,_,.inr (aY hmo),aI (j:=1) rfl,?_⟩;walk_at "z";refine⟨hN,W.mm,_,rfl,L.dg (l9 _ _ _),W.mm,_,rfl,L.dg (j7 _ _ _),hN,?_⟩;walk_at "z";refine⟨W.d,X.cs,W.jl,W.ud,X.jv,X.kv,X.jb,L.ch,lcs,L.jr,L.jb,by lia,hb,by rw[<- eR];exact tp.d1,by rw[<- eR];exact tp.d2,fun out o1 o2 D ws xs H1 po io p1 q1 p2 q2 fD hD A_ el nd fr s1 N1=>?_⟩;rw[<- eR]at p1 p2 A_;have tk:Tk X R out o1 o2:=⟨po,io,p1,q1,p2,q2⟩;obtain⟨ys,RY,ey⟩:=Ai hD fD A_ el nd fr;have L1:=L.same s1;refine⟨N1,R,⟨mdV W X.base X.pv,X.pv,W.lb,X.bv,X.ls,X.pq,X.cu,_,_,ws,xs,L1.md,Bm _ _ _,je _ _ _,L1.lb,L1.lbA,by rw[<- C.jb];exact eR,L1.pv,hD,A_,by rw[el];exact io,by rw[el];exact po.trans C.cs,tp,tk.to,?_,fun x m=>(hb x.b (by rw[C.jb];exact xW m)).1⟩,fun H2 s2 N2=>c4 H2 D ws ys out o1 o2 (s1.trans s2) N2 (RY.same s2) tk ey⟩;have:=Wb ZT C.jb;rw[zm]at this;lia
structure Bg(ps cu:List (List Nat))(b:Bo):Prop where
 l7:b.rs.length<=7
 d:0<=b.d/\b.d<=146096
 ev:EvR b.rs
 rg:∀r∈b.rs,r.pa∈ps/\r.cu∈cu
noncomputable def ltP(e:Int):List Nat:=nms e 0++58::[122,108,97,116,101,122]
structure Cd(X:Ab)(e:Int):Prop where
 P:Pths e X.ps
 l10:X.ps.length<=10
 H:HdOk X.cu X.ps X.hs
 lc:X.cu.length=3
 nc:X.cu.Nodup
 cc:∀l∈X.cu,cur l=true
 cs:(X.cs.map (·.pa)).Perm (X.ps++[ltP e])
 ac:∀c∈X.cs,c.pa∈X.ps->c.un=none/\c.fi=0/\∃o,(c.pa,o)∈X.hs/\c.cu=cuH o
 be:∀c∈X.cs,∀b∈c.be,b∈X.ps++[ltP e]/\∃n,58∉n/\b=c.pa++58::n
 bs:0<=X.base/\X.base<=4796
 jb:X.jb=X.ls.map (·.b)
 kk:∀(n:Nat) x,X.jb[n]? = some x->x.k=n
 ov:∀(n:Nat) x,X.ls[n]? = some x->(x.ov=true↔(x.b.un≠none\/(bw X.kv (.inl n)).getD .non ≠ .non))
 nk:∀n:Nat,X.ls.length<=n->bw X.kv (.inl (n:Int))=none
 lk:X.kv.length<=X.ls.length
 bg:∀b∈X.jb,Bg X.ps X.cu b
 pr:X.pr=prA X.jb
 n:X.n<=7*X.ls.length
structure Nx(X X':Ab):Prop where
 base:X'.base=X.base
 ps:X'.ps=X.ps
 cu:X'.cu=X.cu
 hs:X'.hs=X.hs
 cs:X'.cs=X.cs
 pv:X'.pv=X.pv
 pq:X'.pq=X.pq
 hv:X'.hv=X.hv
 sv:X'.sv=X.sv
def yO:58∉([122,108,97,116,101,122]:List Nat):=by decide
def zQ{e:Int}{ps:List (List Nat)}(h:Pths e ps):ltP e∉ps:=fun m=>by
 obtain⟨_,k,z⟩:=K18.Pths.beneath h yO m;exact K17.Ei (c:=e) (k:=k) (r:=K17.vd) (.inr rfl) z.symm
def Ji{e:Int}{ps:List (List Nat)}(h:Pths e ps):nms e 0∈ps:=wt (K18.Pths.head h)
def s_(bs:List Bo)(b:Bo):prA (bs++[b])=prA bs++b.rs.map (prO b.d):=by
 unfold prA;rw[Z7,ZI,Xb,Zs]
def Ha{rs:List Row}(h:EvR rs):EvR (trn rs):=fun c=>by
 have e:ev (trn rs)=trn (ev rs):=by unfold ev trn;rw[uR,uR];rfl
 rw[e,BV,h c];rfl
def Cd.pu{X:Ab}{e:Int}(C:Cd X e)(l8:X.ls.length<=8):Pu (X.ps++[ltP e]) X.cu X.jb:=by
 have pk:=K18.Pths.pk C.P;have l0:=iI (c:=e) (k:=0);have l2:=K18.Pths.len2 C.P;have l10:=C.l10;refine⟨d8 (K18.Pths.nd C.P) (zQ C.P),fun m=>?_,by rw[zc,wa];lia,by rw[zc,wa];lia,C.lc,C.nc,fun p m=>?_,fun p m=>?_,?_,fun b m=>?_⟩
 .obtain m|m:=yf.mp m
  .have:=(pk [] m).1.ne
   exact this (uD _ (.head _))
  .have:=zw.mp m
   unfold ltP at this;simp at this
 .obtain m|m:=yf.mp m
  .obtain⟨i,hi⟩:=List.getElem?_of_mem m
   obtain⟨h,_⟩|⟨u,k,rfl,mu⟩:=K18.Pths.up C.P i p hi
   .rw[wE h];exact .head _
   .rw[qX (c8 e k)];exact .tail _ (uj _ (ZA mu))
  .rw[zw.mp m]
   unfold ltP;rw[qX yO];exact .tail _ (uj _ (Ji C.P))
 .obtain m|m:=yf.mp m
  .have:=K18.Pths.ok C.P p m
   exact⟨this.lo,by have:=this.len;lia⟩
  .rw[zw.mp m]
   refine⟨fun c mc=>?_,?_⟩
   .obtain mc|mc:=yf.mp mc
    .have:=l0.2.2 c mc;lia
    .have:∀x∈(58::[122,108,97,116,101,122]:List Nat),x<128:=by decide
     exact this c mc
   .unfold ltP
    rw[zc];show(nms e 0).length+7<=199;lia
 .have:=Wb ZT C.jb
  rw[zm]at this;lia
 .have g:=C.bg b m
  refine⟨g.l7,g.d,g.ev,fun r mr=>?_⟩;obtain⟨h1,h2⟩:=g.rg r mr;obtain⟨k1,k2⟩:=pk r.pa h1;have ok:=K18.Pths.ok C.P r.pa h1;refine⟨k1,fun x mx=>uj _ (k2 x mx),h2,⟨ok.lo,by have:=ok.len;lia⟩,?_⟩;have pn:=ok.pn;unfold ir at pn;simp only[Za,decide_eq_true_eq]at pn;unfold lup abN;rw[zc,zm,List.length_range,wa];lia
def Cd.book{X:Ab}{e:Int}{b:Bo}{jv bv:List V}{sk:List (List Key × V)}(C:Cd X e)(g:Bg X.ps X.cu b)(ek:b.k=X.ls.length)(eu:b.un=none) :
 Cd { X with jv:=jv,jb:=X.jb++[b],bv:=bv,ls:=X.ls++[⟨b,false⟩],sk:=sk,pr:=X.pr++b.rs.map (prO b.d),n:=X.n+b.rs.length } e:=by
 have ll:X.jb.length=X.ls.length:=by rw[C.jb,zm]
 refine⟨C.P,C.l10,C.H,C.lc,C.nc,C.cc,C.cs,C.ac,C.be,C.bs,by show X.jb++[b]=(X.ls++[_]).map _;rw[yB,C.jb];rfl,fun n x h=>?_,fun n x h=>?_,fun n h=>?_,?_,fun z m=>?_,by show X.pr++_=prA (X.jb++[b]);rw[s_,C.pr],?_⟩
 .have h:(X.jb++[b])[n]? = some x:=h
  obtain lt|ge:=Yu n X.jb.length
  .rw[Wq lt]at h;exact C.kk n x h
  .have:n=X.jb.length:=by
    have:=(Wu.mp h).1;rw[zc,wa]at this;lia
   subst this;rw[Wp]at h;cases h;rw[ek,ll]
 .have h:(X.ls++[(⟨b,false⟩:LB)])[n]? = some x:=h
  obtain lt|ge:=Yu n X.ls.length
  .rw[Wq lt]at h;exact C.ov n x h
  .have:n=X.ls.length:=by
    have:=(Wu.mp h).1;rw[zc,wa]at this;lia
   subst this;rw[Wp]at h;cases h;show(false=true)↔(b.un≠none\/(bw X.kv _).getD .non ≠ .non);rw[C.nk _ (ym _),eu];simp
 .have h:(X.ls++[(⟨b,false⟩:LB)]).length<=n:=h
  rw[zc]at h;exact C.nk n (by lia)
 .show X.kv.length<=(X.ls++[(⟨b,false⟩:LB)]).length
  rw[zc];have:=C.lk;lia
 .obtain m|m:=yf.mp (show z∈X.jb++[b] from m)
  .exact C.bg z m
  .rw[zw.mp m];exact g
 .show X.n+b.rs.length<=7*(X.ls++[(⟨b,false⟩:LB)]).length
  rw[zc,wa];have:=C.n;have:=g.l7;lia
def Cd.undo{X:Ab}{e:Int}{b:Bo}{x:LB}{at_:Nat}{jv bv:List V}{sk:List (List Key × V)}(C:Cd X e)(g:Bg X.ps X.cu b)(ek:b.k=X.ls.length)(eu:b.un≠none)(hx:X.ls[at_]? = some x) :
 Cd { X with jv:=jv,kv:=bi X.kv (.inl (at_:Int)) (.int (X.ls.length:Nat)),jb:=X.jb++[b],bv:=bv,ls:=X.ls.set at_ ⟨x.b,true⟩++[⟨b,true⟩],sk:=sk,pr:=X.pr++b.rs.map (prO b.d),n:=X.n+b.rs.length } e:=by
 have ll:X.jb.length=X.ls.length:=by rw[C.jb,zm]
 have la:=(Wu.mp hx).1;have lS:(X.ls.set at_ ⟨x.b,true⟩).length=X.ls.length:=Xy;refine⟨C.P,C.l10,C.H,C.lc,C.nc,C.cc,C.cs,C.ac,C.be,C.bs,by show X.jb++[b]=(X.ls.set _ _++[_]).map _;rw[yB,iR (f:=fun z:LB=>z.b) (y':=⟨x.b,true⟩) hx rfl,C.jb];rfl,fun n x h=>?_,fun n z h=>?_,fun n h=>?_,?_,fun z m=>?_,by show X.pr++_=prA (X.jb++[b]);rw[s_,C.pr],?_⟩
 .have h:(X.jb++[b])[n]? = some x:=h
  obtain lt|ge:=Yu n X.jb.length
  .rw[Wq lt]at h;exact C.kk n x h
  .have:n=X.jb.length:=by
    have:=(Wu.mp h).1;rw[zc,wa]at this;lia
   subst this;rw[Wp]at h;cases h;rw[ek,ll]
 .have h:(X.ls.set at_ ⟨x.b,true⟩++[(⟨b,true⟩:LB)])[n]? = some z:=h
  show z.ov=true↔(z.b.un≠none\/(bw (bi X.kv _ _) _).getD .non ≠ .non);rw[oz];obtain lt|ge:=Yu n X.ls.length
  .rw[Wq (by lia),List.getElem?_set]at h
   by_cases q:at_=n
   .subst q
    rw[Wf rfl,Wf la]at h;cases h;rw[Wf rfl];exact⟨fun _=>.inr (by intro z;cases z),fun _=>rfl⟩
   .rw[Wg q]at h
    rw[Wg fun z=>q (by have:(n:Int)=at_:=(by simpa using z);lia)];exact C.ov n z h
  .have:n=(X.ls.set at_ (⟨x.b,true⟩:LB)).length:=by
    have:=(Wu.mp h).1;rw[zc,wa]at this;lia
   subst this;rw[Wp]at h;cases h;exact⟨fun _=>.inl eu,fun _=>rfl⟩
 .have h:(X.ls.set at_ ⟨x.b,true⟩++[(⟨b,true⟩:LB)]).length<=n:=h
  rw[zc]at h;show bw (bi X.kv _ _) _=none;rw[oz,Wg fun z=>by
   have:(n:Int)=at_:=by simpa using z
   lia]
  exact C.nk n (by lia)
 .show(bi X.kv _ _).length<=(X.ls.set at_ ⟨x.b,true⟩++[(⟨b,true⟩:LB)]).length
  rw[zc,wa];have:=jh X.kv (.inl (at_:Int)) (.int (X.ls.length:Nat));have:=C.lk;lia
 .obtain m|m:=yf.mp (show z∈X.jb++[b] from m)
  .exact C.bg z m
  .rw[zw.mp m];exact g
 .show X.n+b.rs.length<=7*(X.ls.set at_ ⟨x.b,true⟩++[(⟨b,true⟩:LB)]).length
  rw[zc,wa];have:=C.n;have:=g.l7;lia
structure Dn(a:Adr)(W:Wd)(X X':Ab)(e:Int)(H':Hp):Prop where
 nx:Nx X X'
 ls:LS a W X' H'
 hb:H' W.b=some (.dT X'.sk)
 nb:NoB W.b H'
 cd:Cd X' e
 ln:X'.ls.length<=X.ls.length+1
def Nx.refl(X:Ab):Nx X X:=⟨rfl,rfl,rfl,rfl,rfl,rfl,rfl,rfl,rfl⟩
def z4{m d:Int}(h0:0<=m)(h1:m<=4799)(a1:FD m<=d)(a2:d<FD (m+1)):0<=d/\d<=146096:=by
 have:=Je h0;have:=Ct h1;exact⟨by lia,by lia⟩
def iq{b:WN}{H H1:Hp}{u z:HO}(hb:H b=some u)(s:XA (upd H b z) H1):XA H (upd H1 b u):=fun c o e=>by
 by_cases h:c=b
 .rw[h,aa,<- e,h,hb]
 .rw[ag h];exact s _ _ ((ag h).trans e)
def nA{b:WN}{H:Hp}{p:WN}{o:HO}(h:H p=none)(n:NoB b H)(ho:cV o=true):∃H1,upd H p o=H1/\XA H H1/\H1 p=some o/\NoB b H1:=⟨_,rfl,aj _ h,aa,n.upd ho⟩
def As{b:WN}{H:Hp}{p:WN}{o:HO}(n:NoB b H)(ho:cV o=true):∃H1,upd H p o=H1/\H1 p=some o/\WZ [p] H H1/\NoB b H1:=⟨_,rfl,aa,WZ.refl.put (.head _),n.upd ho⟩
def LS.bN{W:Wd}{X:Ab}{H:Hp}(L:LS a W X H){c:WN}{o:HO}(e:H c=some o)(n:cV o=true)(nf:∀x u,o ≠ .frz x u):W.b≠c:=lM L.sm.bp.at_ e n nf
def GK{α β:Type}{R:α->β->Prop}{x:α}{y:β}(r:R x y){xs:List α}{ys:List β}(h:A2 R xs ys):∀n:Nat,A2 R (xs.set n x) (ys.set n y):=by
 induction h with
 |nil=>intro n;exact .nil
 |cons r' t ih=>
  intro n;cases n with
  |zero=>exact .cons r t
  |succ n=>exact .cons r' (ih n)
def LS.jlast{W:Wd}{X:Ab}{H:Hp}{b:Bo}{jb:List Bo}(L:LS a W X H)(e:X.jb=jb++[b]):∃v q t vs nt,X.jv[jb.length]? = some v/\v = .ref q/\H q=some (.tup [.int b.k,.int b.d,VZ nt,.ref t,cl b.un])/\H t=some (.tup vs)/\A2 (WY H) vs b.rs:=by
 have ll:=L.jb.len;have hl:jb.length<X.jv.length:=by rw[ll,e,zc,wa];lia
 refine br (L.jb.at_ (Wr hl)) fun y hy yz=>xZ yz fun q t vs nt e1 h1 h2 h3=>?_;rw[e,Wp]at hy;cases hy;exact⟨_,q,t,vs,nt,Wr hl,e1,h1,h2,h3⟩
def sp_zw(a:Adr):Sp:=sp2 fun x y H Q _=>asR x fun mm=>asI y fun c=>∃W X e,mm=W.mm/\LS a W X H/\H W.b=some (.dT X.sk)/\NoB W.b H/\Cd X e/\1<=X.ls.length/\X.ls.length<=8/\∀H' X',Dn a W X X' e H'->Q (.bl true) H'
def oW(T:Txt K mg a):Fo P w K mg base "_law_undone" 10 (sp_zw a):=by
 refine T.o5.hx ["_law_made","_law_cell","_law_at","_law_number","_law_day_here","_law_rows_here","_law_is_over","_law_later","_law_found"] (gX2 fun x0 x1 fA XD A XF s H Q E ND HU hr h=>?_);obtain⟨mm,rfl,h1⟩:=aQ h;refine br (a9 h1) fun c yy1 yz=>F7 yz fun W X e yy2 L hb nB C l1 l8 k=>?_;subst yy1 yy2;have sz:=szl;have lla:=L.la.len;have ljb:=L.jb.len;have ljl:X.jb.length=X.ls.length:=by rw[C.jb,zm]
 skip
 have c4:∃u,PSs (c6 (XE P w) P w K mg base ["_law_made","_law_cell","_law_at","_law_number","_law_day_here","_law_rows_here","_law_is_over","_law_later","_law_found"] "_law_undone" (ay (top 82)) fA XD A XF s H E) (ZB 4 (bB (top 82))) u/\∀(G:Hp) (n:Nat) x jv b r ws,X.ls[n]? = some x->x.ov=false->G r=some (.lst ws)->A2 (WY G) ws x.b.rs->r∉W.l3->LS a W { X with jv:=jv,kv:=bi X.kv (.inl (n:Int)) (.int (X.ls.length:Nat)),jb:=X.jb++[b] } G->G W.b=some (.dT X.sk)->NoB W.b G->Bg X.ps X.cu b->b.k=X.ls.length->b.un≠none->b.rs=trn x.b.rs->u { nx:=fun _ H'=>Q .non H',rt:=Q } [some (.ref W.mm),some (.int c),some (.int n),some (.int x.b.k),some (.int x.b.d),some (.ref r),some (.bl false),some (.int b.d),some (.int X.ls.length)] G:=by
  refine⟨_,(ae (bc (L2.PW.pt (fJ (bz (fv 6)) (eP (bf (dw K HU) (fv 8) (aB (bV K) rfl T.dq cz (fa1 (aP (Zz HU) (fv 0) (ak [98,111,111,107,101,100]) (fun _ _=>rfl)))))))) (af (aA cW)) aJ)
   (ae (uY (bU (fa4 (fv 3) (fv 4) (fv 5) cW)) (A7 (aP (Zz HU) (fv 0) (ak [98,111,111,107,101,100]) (fun _ _=>rfl)) (fv 2) uk))
   (ae (bC (bY K qS Zq Zr cA (aP (Zz HU) (fv 0) (ak [98,111,111,107,101,100]) (fun _ _=>rfl)) (fa1 (bU (fa4 (fv 8) (fv 7) (jQ (bK rfl (cl:=_) (x:="_law_row") (xs:=["_law_row"]) (fr:=[]) (ks:=[]) (by walk_at "k") rfl (a7 K (fv 5)) (fun _ _ _ _ _=>(av (i:=0) (cQ (l:=["_law_row"]) (by decide)) rfl (Wi rfl))) (fun _ _ _ _ _=>cO) (fun _ _ _ _ _=>(bU (fa3 (aK K (fv 0) ad) (aK K (fv 0) ad) (nX jk (aK K (fv 0) ad))))))) cW)))))
   (ae (bC (cK (aP (Zz HU) (fv 0) (ak [115,117,109,115]) (fun _ _=>rfl)) T.gL (mi T) hr.mono aq (fa1 (jQ (cK (aP (Zz HU) (fv 0) (ak [106,111,117,114,110,97,108]) (fun _ _=>rfl)) T.bD (cS T) hr.mono aq (fa1 (fv 8)))))))
   (af (aA cW)))))),fun G n x jv b r ws hx ov gr aw nr L1 hb1 nB1 g ek eu er=>?_⟩
  have ln:=(Wu.mp hx).1;walk_at "q";refine⟨W.mm,_,rfl,L1.dg (je _ _ _),?_⟩;walk_at "q";refine⟨_,.inl (al L1.lb),itp (by lia) ⟨by lia,fun p fp=>?_⟩⟩;refine bq (nA (o:=HO.tup [V.int x.b.k,V.int x.b.d,V.ref r,V.bl true]) fp nB1 rfl) fun G1 e1 s1 g1 nB2=>?_;rw[e1];have L2_:=L1.same s1;refine⟨W.mm,_,rfl,L2_.dg (je _ _ _),W.lb,X.bv,_,n,rfl,rfl,L2_.lb,wU (by lia),?_⟩;refine bq (As (p:=W.lb) (o:=HO.lst (X.bv.set n (V.ref p))) nB2 rfl) fun G2 e2 g2 k2 nB3=>?_;rw[e2];have hS:∀c∈[W.lb],c∈W.m5:=fun c m=>by rw[zw.mp m];exact .tail _ (.tail _ (.tail _ (.head _)))
  have kt2:=L2_.kt k2 hS;have L3:LS a W { X with jv:=jv,kv:=bi X.kv (.inl (n:Int)) (.int (X.ls.length:Nat)),jb:=X.jb++[b],bv:=X.bv.set n (V.ref p),ls:=X.ls.set n ⟨x.b,true⟩ } G2:=L2_.lbk k2 g2 (GK (x:=V.ref p) (y:=(⟨x.b,true⟩:LB)) ⟨p,r,ws,rfl,kt2.t _ _ g1,kt2.l _ _ (s1 _ _ gr) nr,(bh s1 aw).imp fun _ _ _ _ z=>WY.mv _ _ _ _ kt2.t z,nr⟩ (L2_.la.imp fun _ _ _ _ z=>z.mv kt2) n);have hb2:G2 W.b=some (.dT X.sk):=k2 _ _ (s1 _ _ hb1) fun m=>L2_.bN L2_.lb rfl (by intro _ _ z;cases z) (zw.mp m);have gr2:=kt2.l _ _ (s1 _ _ gr) nr;have aw2:A2 (WY G2) ws x.b.rs:=(bh s1 aw).imp fun _ _ _ _ z=>WY.mv _ _ _ _ kt2.t z;have brb:r≠W.b:=Wj (L3.bN gr2 rfl (by intro _ _ z;cases z));have lws:=aw.len;have gl7:=g.l7;rw[er]at gl7;unfold trn at gl7;rw[zm]at gl7;refine⟨W.mm,_,rfl,L3.dg (je _ _ _),.inl ⟨rfl,_,al L3.lb⟩,W.b,.dT X.sk,rfl,hb2,fun o=>fM ?_⟩;have aw3:A2 (WY (upd G2 W.b (.frz o (.dT X.sk)))) ws x.b.rs:=aw2.imp fun _ _ _ _ z=>WY.mv _ _ _ _ (fun c l e=>(ag (Wj (L3.bN e rfl (by intro _ _ z;cases z)))).trans e) z;have gr3:(upd G2 W.b (.frz o (.dT X.sk))) r=some (.lst ws):=(ag brb).trans gr2;have nT:=nB3.frz o (.dT X.sk);walk_at "q";refine⟨⟨ws,al gr3⟩,ceA WY.mv r ws x.b.rs (WY (upd G2 W.b (.frz o (.dT X.sk)))) (fun _=>true) (fun r=>⟨r.pa,r.cu,-r.am⟩) gr3 nT aw3 (by lia) (fun v b mb rb F zs N1 N0 sG nG hz n1 n0=>?_) fun D2 ws2 F f2 s2 N2 gD aD=>?_⟩
  .obtain⟨q,rfl,hq⟩:=rb
   have hq:=sG _ _ hq;obtain⟨z1,rfl⟩:=ex1 hz;walk_at "q";refine⟨⟨[_],rfl,rfl⟩,_,_,.inr (aY hq),aI (j:=0) rfl,_,_,.inr (aY hq),aI (j:=1) rfl,_,_,.inr (aY hq),aI (j:=2) rfl,?_⟩;walk_at "q";exact⟨by lia,fun p1 fp1=>n1 rfl _ _ (aj _ fp1) (aE nG rfl) ⟨p1,rfl,aa⟩⟩
  .rw[Zo.mpr (fun _ _=>rfl)]at aD
   refine⟨s2 _ _ aa,by lia,fun p2 fp2=>?_⟩;have s3:=iq hb2 s2;have nB4:NoB W.b (upd F W.b (.dT X.sk)):=NoB.thw N2 _;have D2b:D2≠W.b:=fun z=>by rw[z,aa]at f2;cases f2
   have f20:G2 D2=none:=by rw[ag D2b]at f2;exact f2
   have gD':(upd F W.b (.dT X.sk)) D2=some (.lst ws2):=(ag D2b).trans gD;have aD':A2 (WY (upd F W.b (.dT X.sk))) ws2 (trn x.b.rs):=aD.imp fun _ _ _ _ z=>WY.mv _ _ _ _ (fun c l e=>(ag (fun z=>by rw[z,s2 _ _ aa]at e;cases e)).trans e) z;have hb3:(upd F W.b (.dT X.sk)) W.b=some (.dT X.sk):=aa;generalize upd F W.b (.dT X.sk)=G3 at s3 nB4 gD' aD' hb3 fp2 |-
   have L4:=L3.same s3;refine bq (nA (o:=HO.tup [V.int (X.ls.length:Nat),V.int b.d,V.ref D2,V.bl true]) fp2 nB4 rfl) fun G4 e4 s4 g4 nB5=>?_;rw[e4];have L5:=L4.same s4;refine⟨W.lb,X.bv.set n (V.ref p),_,rfl,rfl,L5.lb,by rw[Xy];lia,?_⟩;refine bq (As (p:=W.lb) (o:=HO.lst (X.bv.set n (V.ref p)++[V.ref p2])) nB5 rfl) fun G5 e5 g5 k5 nB6=>?_;rw[e5];have kt5:=L5.kt k5 hS;have D2n:D2∉W.l3:=fun q=>L3.l3n _ q f20;have L6:LS a W { X with jv:=jv,kv:=bi X.kv (.inl (n:Int)) (.int (X.ls.length:Nat)),jb:=X.jb++[b],bv:=X.bv.set n (V.ref p)++[V.ref p2],ls:=X.ls.set n ⟨x.b,true⟩++[⟨b,true⟩] } G5:=L5.lbk k5 g5 ((L5.la.imp fun _ _ _ _ z=>z.mv kt5).snoc (show LbW W G5 (V.ref p2) ⟨b,true⟩ from⟨p2,D2,ws2,rfl,by rw[ek];exact kt5.t _ _ g4,kt5.l _ _ (s4 _ _ gD') D2n,by rw[er];exact(bh s4 aD').imp fun _ _ _ _ z=>WY.mv _ _ _ _ kt5.t z,D2n⟩));have hb5:G5 W.b=some (.dT X.sk):=k5 _ _ (s4 _ _ hb3) fun m=>L5.bN L5.lb rfl (by intro _ _ z;cases z) (zw.mp m);obtain⟨dxs,hsm⟩:=L6.sm.ob;refine⟨W.mm,_,rfl,L6.dg (AX _ _ _),?_⟩;walk_at "q";refine⟨dxs,_,hsm,xu _,W.b,.dT X.sk,rfl,hb5,fun o1=>?_⟩;have L7:=L6.frz o1;obtain⟨dxj,hj⟩:=L7.jr.ob;refine⟨W.mm,_,rfl,L7.dg (j7 _ _ _),?_⟩;walk_at "q";have ljv:=L7.jb.len;have ljv:jv.length=X.ls.length+1:=by rw[L1.jb.len];show(X.jb++[b]).length=_;rw[zc,ljl];rfl
   refine⟨dxj,_,hj,B9 _ _,nB6.frz _ _,W.jl,W.ud,jv,_,L7.jr,Int.natCast_nonneg _,by lia,fun n' v' en hv'=>?_⟩;have en:X.ls.length=n':=by lia
   subst en;refine⟨aa,?_⟩;rw[dO hb5];refine IK (L6.jlast (jb:=X.jb) (b:=b) rfl) fun v q t vs nt hv yy1 h1 h2 h3=>?_;subst yy1;have hv:jv[X.jb.length]? = some (V.ref q):=hv;rw[ljl,hv']at hv;cases hv;walk_at "q";have ln7:=C.n;refine⟨W.b,X.sk,X.pr,X.n,b.d,t,vs,b.rs,_,_,_,L6.sm,hb5,nB6,by lia,h1,g.d,h2,h3,g.l7,fun sk' H' S' hb' nB' nf' kb'=>?_⟩;have L8:LS a W { X with jv:=jv,kv:=bi X.kv (.inl (n:Int)) (.int (X.ls.length:Nat)),jb:=X.jb++[b],bv:=X.bv.set n (V.ref p)++[V.ref p2],ls:=X.ls.set n ⟨x.b,true⟩++[⟨b,true⟩],sk:=sk',pr:=X.pr++b.rs.map (prO b.d),n:=X.n+b.rs.length } H':=L6.sput kb' S' nf';refine k H' _ (Dn.mk ?_ L8 hb' nB' (C.undo g ek eu hx) ?_)
   .exact⟨rfl,rfl,rfl,rfl,rfl,rfl,rfl,rfl,rfl⟩
   show(X.ls.set n _++[_]).length<=_;rw[zc,Xy];exact ym _
 obtain⟨u4,hu4,c4⟩:=c4;refine⟨_,(ae (aV 2 ND (ah ba (fv 1) (aB (bV K) rfl T.dq cz (fa1 (aP (Zz HU) (fv 0) (ak [98,111,111,107,101,100]) (fun _ _=>rfl))))))
  (ae (uY (aK K (aP (Zz HU) (fv 0) (ak [98,111,111,107,101,100]) (fun _ _=>rfl)) (fv 2)) (cN K (n:=4) rfl (aO (av (i:=3) ND rfl (Wi rfl)) (aO (av (i:=4) ND rfl (Wi rfl)) (aO (av (i:=5) ND rfl (Wi rfl)) (aO (av (i:=6) ND rfl (Wi rfl)) cL))))))
  (ae (iG (aV 7 ND (aB (F6 rfl) rfl T.Ja HH (fa2 (fv 4) (aH (fO T) hr aq (fa2 (ah a8 (fv 1) ad) (ah aT (aP (Zz HU) (fv 0) (ak [98,97,115,101]) (fun _ _=>rfl)) (ah ba (ah a8 (fv 1) ad) ad))))))))
  (ae (iG (Er rfl T.uT rfl rfl rfl (fun pn Ee Ex PX=>(af (aV 8 ND (aH (D0 T) hr PX (fa6 (aP (Zz HU) (fv 0) (ak [99,104,97,114,116]) (fun _ _=>rfl)) (aP (Zz HU) (fv 0) (ak [103,97,116,101]) (fun _ _=>rfl)) (aP (Zz HU) (fv 0) (ak [106,111,117,114,110,97,108]) (fun _ _=>rfl)) (fv 3) (fv 7) (ak [98,97,99,107])))))) (fun e=>(af (aA (fv 6))))))
  hu4)))),?_⟩
 walk_at "q";refine⟨W.mm,_,rfl,L.dg (je _ _ _),?_⟩;walk_at "q";refine⟨_,.inl (al L.lb),?_⟩;have p0:0<X.bv.length:=by lia
 have n0:0<=c % (X.bv.length:Nat):=ZH _ (by lia);have n1:c % (X.bv.length:Nat)<(X.bv.length:Nat):=ZN _ (by lia);obtain⟨n,hn⟩:=Zk n0;walk_at "q";rw[hn]at n1 |-
 obtain⟨v,hv⟩:∃v,X.bv[n]? = some v:=⟨_,Wr (by lia)⟩;refine br (L.la.at_ hv) fun x hx yz=>Kd yz fun q r ws yy1 hq hr aw nr=>?_;subst yy1;have xk:x.b.k=n:=C.kk n x.b (by rw[C.jb,Ws,hx];rfl);have mxb:x.b∈X.jb:=by rw[C.jb];exact xW (wt hx)
 have gx:=C.bg x.b mxb;refine⟨by lia,W.mm,_,rfl,L.dg (je _ _ _),?_⟩;walk_at "q";refine⟨_,_,.inl (al L.lb),aI hv,q,_,rfl,aY hq,rfl,_,_,rfl,_,_,rfl,_,_,rfl,_,_,rfl,rfl,W.b,.dT X.sk,rfl,hb,fun o=>?_⟩;have LF:=L.frz o;have nF:=nB.frz o (.dT X.sk);refine⟨W.mm,_,rfl,LF.dg (EA _ _ _),?_⟩;walk_at "q";have bs:=C.bs;refine⟨nF,fun d d1 d2=>?_⟩;have hd:=z4 (by lia) (by lia) d1 d2;walk_at "q";refine⟨aa,?_⟩;rw[dO hb];refine⟨W.b,.dT X.sk,rfl,hb,fun o1=>?_⟩;have L1:=L.frz o1;have n1':=nB.frz o1 (.dT X.sk);refine⟨W.mm,_,rfl,L1.dg (l9 _ _ _),W.mm,_,rfl,L1.dg (EI _ _ _),W.mm,_,rfl,L1.dg (j7 _ _ _),n1',?_⟩;walk_at "q";obtain⟨dg,hg⟩:=L1.gt;have lkv:=C.lk;have gd:=gx.d;have g7:=gx.l7;have hl:x.b.d<=(if d > x.b.d then d else x.b.d)/\0<=(if d > x.b.d then d else x.b.d)/\(if d > x.b.d then d else x.b.d)<=146096:=by split <;> exact⟨by lia,by lia,by lia⟩
 generalize (if d > x.b.d then d else x.b.d)=lt at hl |-
 have jl1:X.jv.length=X.ls.length:=ljb.trans ljl;refine⟨.inr rfl,W.d,X.cs,dg,W.jl,W.ud,X.jv,X.kv,X.jb,n,x.b,L1.ch,hg,L1.jr,by lia,by lia,L1.jb,xk,by rw[C.jb,Ws,hx];rfl,xk,by lia,fun r' mr=>?_,hl.1,hl.2,fun hov=>⟨_,rfl,T.mE,aa,?_⟩,fun un hv0 ws' H' aw' la=>?_⟩
 .obtain⟨h1,_⟩:=gx.rg r' mr
  obtain⟨ac,mac,eac⟩:=yI.mp (C.cs.mem_iff.mpr (uj _ h1));obtain⟨e1,e2,_⟩:=C.ac ac mac (by rw[eac];exact h1);refine⟨ac,mac,eac,?_⟩;rw[e1,e2];show(decide (0<=lt)&&true)=true;rw[We hl.2.1];rfl
 .rw[dO hb,(C.ov n x hx).mpr hov]
  exact k H X ⟨Nx.refl X,L,hb,nB,C,Xm _⟩
 .refine IE la fun q' t' fq' hq' ht' JJ kp nT'=>?_
  have hS:∀c∈[W.jl,W.ud],c∈W.m5:=fun c m=>by
   obtain rfl|m:=zk.mp m
   .exact .tail _ (.tail _ (.head _))
   .rw[zw.mp m];exact .tail _ (.head _)
  have kt:=L1.kt kp hS;rw[jl1]at hq' JJ;have L2_:LS a W { X with jv:=X.jv++[V.ref q'],kv:=bi X.kv (.inl (n:Int)) (.int (X.ls.length:Nat)),jb:=X.jb++[(⟨X.ls.length,lt,trn x.b.rs,some n⟩:Bo)] } H':=L1.jrn kp JJ.ls JJ.dc ((L1.jb.imp fun _ _ _ _ z=>BkAt.mv kt.t z).snoc ⟨q',t',ws',_,rfl,hq',ht',aw'⟩);have nb1:W.b≠W.jl:=L1.bN L1.jr.ls rfl (by intro _ _ z;cases z);have nb2:W.b≠W.ud:=L1.bN L1.jr.dc rfl (by intro _ _ z;cases z);have hb':H' W.b=some (.frz o1 (.dT X.sk)):=kp _ _ aa fun m=>by
   obtain z|m:=zk.mp m
   .exact nb1 z
   .exact nb2 (zw.mp m)
  refine⟨hb',?_⟩;have ov:x.ov=false:=by
   cases h:x.ov with
   |false=>rfl
   |true=>
    rcases(C.ov n x hx).mp h with z|z
    .exact Wa un z
    .exact Wa hv0 z
  have nr3:r≠W.b:=Wj (L.bN hr rfl (by intro _ _ z;cases z));have gr':(upd H' W.b (.dT X.sk)) r=some (.lst ws):=(ag nr3).trans (kt.l _ _ ((ag nr3).trans hr) nr);have aw3:A2 (WY (upd H' W.b (.dT X.sk))) ws x.b.rs:=aw.imp fun _ _ _ _ z=>WY.mv _ _ _ _ (fun c l e=>by
   have cb:c≠W.b:=Wj (L.bN e rfl (by intro _ _ z;cases z));exact(ag cb).trans (kt.t _ _ ((ag cb).trans e))) z
  rw[ov,jl1];refine c4 (upd H' W.b (.dT X.sk)) n x _ ⟨X.ls.length,lt,trn x.b.rs,some n⟩ r ws hx ov gr' aw3 nr L2_.thw aa (NoB.thw nT' _) ⟨by show(trn x.b.rs).length<=7;unfold trn;rw[zm];exact g7,hl.2,Ha gx.ev,fun r' mr=>?_⟩ rfl (by intro z;cases z) rfl;obtain⟨z,mz,rfl⟩:=yI.mp mr;exact gx.rg z mz
def sp_CW(a:Adr):Sp:=sp2 fun x y H Q _=>asR x fun mm=>asI y fun c=>∃W X e,mm=W.mm/\LS a W X H/\H W.b=some (.dT X.sk)/\NoB W.b H/\Cd X e/\X.pq=X.ps/\X.ls.length<=8/\∀H' X',Dn a W X X' e H'->Q (.bl true) H'
def rN(T:Txt K mg a):Fo P w K mg base "_law_done" 11 (sp_CW a):=by
 refine T.sq.hx ["_law_made","_law_cell","_law_rows_here","_law_day_here","_law_number"] (gX2 fun x0 x1 fA XD A XF s H Q E ND HU hr h=>?_);obtain⟨mm,rfl,h1⟩:=aQ h;refine br (a9 h1) fun c yy1 yz=>F7 yz fun W X e yy2 L hb nB C hpq l8 k=>?_;subst yy1 yy2;have sz:=szl;have lla:=L.la.len;have ljb:=L.jb.len;have ljl:X.jb.length=X.ls.length:=by rw[C.jb,zm]
 have jl1:X.jv.length=X.ls.length:=ljb.trans ljl
 skip
 have c5:∃u,PSs (c6 (XE P w) P w K mg base ["_law_made","_law_cell","_law_rows_here","_law_day_here","_law_number"] "_law_done" (ay (top 83)) fA XD A XF s H E) (ZB 5 (bB (top 83))) u/\∀(G:Hp) jv b r ws,G r=some (.lst ws)->A2 (WY G) ws b.rs->r∉W.l3->LS a W { X with jv:=jv,jb:=X.jb++[b] } G->G W.b=some (.dT X.sk)->NoB W.b G->Bg X.ps X.cu b->b.k=X.ls.length->b.un=none->u { nx:=fun _ H'=>Q .non H',rt:=Q } [some (.ref W.mm),some (.int c),some (.ref r),some (.int b.d),some (.int X.ls.length)] G:=by
  refine⟨_,(ae (bC (bY K qS Zq Zr cA (aP (Zz HU) (fv 0) (ak [98,111,111,107,101,100]) (fun _ _=>rfl)) (fa1 (bU (fa4 (fv 4) (fv 3) (fv 2) cW)))))
   (ae (bC (cK (aP (Zz HU) (fv 0) (ak [115,117,109,115]) (fun _ _=>rfl)) T.gL (mi T) hr.mono aq (fa1 (jQ (cK (aP (Zz HU) (fv 0) (ak [106,111,117,114,110,97,108]) (fun _ _=>rfl)) T.bD (cS T) hr.mono aq (fa1 (fv 4)))))))
   (af (aA (cX (cY K HU) (fv 4) (ah fh (aB (bV K) rfl T.dq cz (fa1 (aP (Zz HU) (fv 0) (ak [98,111,111,107,101,100]) (fun _ _=>rfl)))) ad) (dD _)))))),fun G jv b r ws gr aw nr L1 hb1 nB1 g ek eu=>?_⟩
  have hS:∀c∈[W.lb],c∈W.m5:=fun c m=>by rw[zw.mp m];exact .tail _ (.tail _ (.tail _ (.head _)))
  walk_at "z";refine⟨W.mm,_,rfl,L1.dg (je _ _ _),.inl ⟨rfl,_,al L1.lb⟩,by lia,fun p fp=>?_⟩;refine bq (nA (o:=HO.tup [V.int (X.ls.length:Nat),V.int b.d,V.ref r,V.bl false]) fp nB1 rfl) fun G4 e4 s4 g4 nB5=>?_;rw[e4];have L5:=L1.same s4;refine⟨W.lb,X.bv,_,rfl,rfl,L5.lb,by lia,?_⟩;refine bq (As (p:=W.lb) (o:=HO.lst (X.bv++[V.ref p])) nB5 rfl) fun G5 e5 g5 k5 nB6=>?_;rw[e5];have kt5:=L5.kt k5 hS;have L6:LS a W { X with jv:=jv,jb:=X.jb++[b],bv:=X.bv++[V.ref p],ls:=X.ls++[⟨b,false⟩] } G5:=L5.lbk k5 g5 ((L5.la.imp fun _ _ _ _ z=>z.mv kt5).snoc (show LbW W G5 (V.ref p) ⟨b,false⟩ from⟨p,r,ws,rfl,by rw[ek];exact kt5.t _ _ g4,kt5.l _ _ (s4 _ _ gr) nr,(bh s4 aw).imp fun _ _ _ _ z=>WY.mv _ _ _ _ kt5.t z,nr⟩));have hb5:G5 W.b=some (.dT X.sk):=k5 _ _ (s4 _ _ hb1) fun m=>L5.bN L5.lb rfl (by intro _ _ z;cases z) (zw.mp m);obtain⟨dxs,hsm⟩:=L6.sm.ob;refine⟨W.mm,_,rfl,L6.dg (AX _ _ _),?_⟩;walk_at "z";refine⟨dxs,_,hsm,xu _,W.b,.dT X.sk,rfl,hb5,fun o1=>?_⟩;have L7:=L6.frz o1;obtain⟨dxj,hj⟩:=L7.jr.ob;refine⟨W.mm,_,rfl,L7.dg (j7 _ _ _),?_⟩;walk_at "z";have ljv:jv.length=X.ls.length+1:=by rw[L1.jb.len];show(X.jb++[b]).length=_;rw[zc,ljl];rfl
  refine⟨dxj,_,hj,B9 _ _,nB6.frz _ _,W.jl,W.ud,jv,_,L7.jr,Int.natCast_nonneg _,by lia,fun n' v' en hv'=>?_⟩;have en:X.ls.length=n':=by lia
  subst en;refine⟨aa,?_⟩;rw[dO hb5];refine IK (L6.jlast (jb:=X.jb) (b:=b) rfl) fun v q t vs nt hv yy1 h1 h2 h3=>?_;subst yy1;have hv:jv[X.jb.length]? = some (V.ref q):=hv;rw[ljl,hv']at hv;cases hv;walk_at "z";have ln7:=C.n;refine⟨W.b,X.sk,X.pr,X.n,b.d,t,vs,b.rs,_,_,_,L6.sm,hb5,nB6,by lia,h1,g.d,h2,h3,g.l7,fun sk' H' S' hb' nB' nf' kb'=>?_⟩;have L8:LS a W { X with jv:=jv,jb:=X.jb++[b],bv:=X.bv++[V.ref p],ls:=X.ls++[⟨b,false⟩],sk:=sk',pr:=X.pr++b.rs.map (prO b.d),n:=X.n+b.rs.length } H':=L6.sput kb' S' nf';refine⟨W.mm,_,rfl,L8.dg (je _ _ _),?_⟩;walk_at "z";refine⟨_,.inl (al L8.lb),?_⟩;have el:(X.ls.length:Int)=((X.bv++[V.ref p]).length:Nat)-1:=by rw[zc,lla];simp
  walk_at "z";rw[We el];refine k H' _ (Dn.mk ?_ L8 hb' nB' (C.book g ek eu) ?_)
  .exact⟨rfl,rfl,rfl,rfl,rfl,rfl,rfl,rfl,rfl⟩
  .show(X.ls++[_]).length<=_
   rw[zc];exact ym _
 obtain⟨u5,hu5,c5⟩:=c5;have c1:∃u,PSs (c6 (XE P w) P w K mg base ["_law_made","_law_cell","_law_rows_here","_law_day_here","_law_number"] "_law_done" (ay (top 83)) fA XD A XF s H E) (ZB 1 (bB (top 83))) u/\∀(G:Hp),LS a W X G->G W.b=some (.dT X.sk)->NoB W.b G->u { nx:=fun _ H'=>Q .non H',rt:=Q } [some (.ref W.mm),some (.int c),none,none,none] G:=by
  refine⟨_,(ae (iG (aV 2 ND (aH (qD T) hr aq (fa4 (ah a8 (aH (bM T) hr aq (fa2 (fv 1) ad)) ad) (aP (Zz HU) (fv 0) (ak [112,97,116,104,115]) (fun _ _=>rfl)) (aP (Zz HU) (fv 0) (ak [104,111,108,100,115]) (fun _ _=>rfl)) (aP (Zz HU) (fv 0) (ak [99,117,114,114,101,110,99,105,101,115]) (fun _ _=>rfl))))))
   (ae (bc (bf pU (aB (bV K) rfl T.dq cz (fa1 (fv 2))) ad) (af (aA cW)) aJ)
   (ae (iG (aV 3 ND (aH (fO T) hr aq (fa2 (ah a8 (aH (bM T) hr aq (fa2 (fv 1) ad)) ad) (ah aT (aP (Zz HU) (fv 0) (ak [98,97,115,101]) (fun _ _=>rfl)) (ah ba (ah a8 (aH (bM T) hr aq (fa2 (fv 1) ad)) ad) ad))))))
   (ae (iG (aV 4 ND (aH (Dd T) hr aq (fa6 (aP (Zz HU) (fv 0) (ak [99,104,97,114,116]) (fun _ _=>rfl)) (aP (Zz HU) (fv 0) (ak [103,97,116,101]) (fun _ _=>rfl)) (aP (Zz HU) (fv 0) (ak [106,111,117,114,110,97,108]) (fun _ _=>rfl)) (fv 3) (ak [98,111,111,107,101,100]) (de (iU K) rfl T.fV d9 (fa1 (fv 2)))))))
   hu5)))),fun G L hb nB=>?_⟩
  walk_at "q";refine⟨W.b,.dT X.sk,rfl,hb,fun o=>?_⟩;have LF:=L.frz o;have nF:=nB.frz o (.dT X.sk);have mx:=BY c 20;refine⟨nF,W.mm,_,rfl,LF.dg (Bm _ _ _),W.mm,_,rfl,LF.dg (Jj _ _ _),W.mm,_,rfl,LF.dg (EO _ _ _),nF,?_⟩;walk_at "z";have pv:=LF.pv;rw[hpq]at pv;refine⟨e,X.cu,X.ps,X.hs,by lia,pv,LF.cp,LF.hd,C.P,C.l10,C.H,C.lc,C.nc,fun r ws rs H1 fr gr ar l7 rg ev s1 N1=>⟨s1 _ _ aa,?_⟩⟩;have s01:=iq hb s1;have rb:r≠W.b:=fun z=>by rw[z,aa]at fr;cases fr
  have fr0:G r=none:=by rw[ag rb]at fr;exact fr
  have gr1:(upd H1 W.b (.dT X.sk)) r=some (.lst ws):=(ag rb).trans gr;have ar1:A2 (WY (upd H1 W.b (.dT X.sk))) ws rs:=ar.imp fun _ _ _ _ z=>WY.mv _ _ _ _ (fun c l e=>(ag (fun z=>by rw[z,s1 _ _ aa]at e;cases e)).trans e) z;have hb1:(upd H1 W.b (.dT X.sk)) W.b=some (.dT X.sk):=aa;have nB1:NoB W.b (upd H1 W.b (.dT X.sk)):=NoB.thw N1 _;generalize upd H1 W.b (.dT X.sk)=G1 at s01 gr1 ar1 hb1 nB1 |-
  have L1:=L.same s01;have lw:=ar.len;refine⟨_,.inl (al gr1),?_⟩;by_cases h2:(ws.length:Int)<2
  .exact itp h2 (k G1 X ⟨Nx.refl X,L1,hb1,nB1,C,Xm _⟩)
  refine itn h2 ⟨W.b,.dT X.sk,rfl,hb1,fun o2=>?_⟩;have LF2:=L1.frz o2;have nF2:=nB1.frz o2 (.dT X.sk);have bs:=C.bs;have my:=BY c 22;walk_at "z";refine⟨nF2,W.mm,_,rfl,LF2.dg (EA _ _ _),?_⟩;walk_at "z";refine⟨nF2,nF2,fun d d1 d2=>⟨aa,?_⟩⟩;have hd:=z4 (by lia) (by lia) d1 d2;rw[dO hb1];refine⟨W.b,.dT X.sk,rfl,hb1,fun o3=>?_⟩;have L3:=L1.frz o3;have n3:=nB1.frz o3 (.dT X.sk);have kb3:∀ {c z},G1 c=some z->cV z=true->(∀x u,z ≠ .frz x u)->(upd G1 W.b (.frz o3 (.dT X.sk))) c=some z:=fun e n f=>(ag (Wj (L1.bN e n f))).trans e;have gr3:=kb3 gr1 rfl (by intro _ _ z;cases z);have ar3:A2 (WY (upd G1 W.b (.frz o3 (.dT X.sk)))) ws rs:=ar1.imp fun _ _ _ _ z=>WY.mv _ _ _ _ (fun c l e=>kb3 e rfl (by intro _ _ z;cases z)) z;refine⟨W.mm,_,rfl,L3.dg (l9 _ _ _),W.mm,_,rfl,L3.dg (EI _ _ _),W.mm,_,rfl,L3.dg (j7 _ _ _),ws,.inl (al gr3),fun q fq=>?_⟩;refine bq (bo (o:=HO.lst ws) fq n3 rfl) fun G2 e2 s2 g2 N2=>?_;rw[e2];have L4:=L3.same s2;obtain⟨dg,hg⟩:=L4.gt;have lkv:=C.lk;refine⟨N2,?_⟩;walk_at "z";refine⟨.inl rfl,hd,W.d,X.cs,ws,rs,dg,W.jl,W.ud,X.jv,X.kv,L4.ch,g2,bh s2 ar3,⟨by lia,by lia⟩,fun r' mr=>?_,ev,hg,L4.jr,by lia,by lia,fun H' la=>?_⟩
  .have R':=rg r' mr
   obtain⟨ac,mac,eac⟩:=yI.mp (C.cs.mem_iff.mpr (uj _ R'.pa));obtain⟨e1,e2,o',mo,e3⟩:=C.ac ac mac (by rw[eac];exact R'.pa);have am:=R'.am;refine⟨⟨C.cc _ R'.cu,⟨by lia,by lia⟩,am.1⟩,ac,mac,eac,?_,?_⟩
   .rw[e1,e2]
    show(decide (0<=d)&&true)=true;rw[We hd.1];rfl
   .rw[e3]
    rw[eac]at mo;obtain rfl|rfl:=R'.fit o' mo
    .exact .inl rfl
    .exact .inr rfl
  .refine IE la fun q' t' fq' hq' ht' JJ kp nT'=>?_
   have hS:∀c∈[W.jl,W.ud],c∈W.m5:=fun c m=>by
    obtain rfl|m:=zk.mp m
    .exact .tail _ (.tail _ (.head _))
    .rw[zw.mp m];exact .tail _ (.head _)
   have kt:=L4.kt kp hS;have ar4:A2 (WY H') ws rs:=(bh s2 ar3).imp fun _ _ _ _ z=>WY.mv _ _ _ _ kt.t z;rw[jl1]at hq';have L5:LS a W { X with jv:=X.jv++[V.ref q'],jb:=X.jb++[(⟨X.ls.length,d,rs,none⟩:Bo)] } H':=L4.jrn kp JJ.ls JJ.dc ((L4.jb.imp fun _ _ _ _ z=>BkAt.mv kt.t z).snoc ⟨q',t',ws,_,rfl,hq',ht',ar4⟩);have nb1:W.b≠W.jl:=L4.bN L4.jr.ls rfl (by intro _ _ z;cases z);have nb2:W.b≠W.ud:=L4.bN L4.jr.dc rfl (by intro _ _ z;cases z);have hb':H' W.b=some (.frz o3 (.dT X.sk)):=kp _ _ (s2 _ _ aa) fun m=>by
    obtain z|m:=zk.mp m
    .exact nb1 z
    .exact nb2 (zw.mp m)
   refine⟨hb',?_⟩;have nr:r∉W.l3:=fun q=>L.l3n _ q fr0;have tb:∀ {c l},H' c=some (.tup l)->c≠W.b:=fun e z=>by rw[z,hb']at e;cases e
   rw[jl1];exact c5 (upd H' W.b (.dT X.sk)) _ ⟨X.ls.length,d,rs,none⟩ r ws ((ag rb).trans (kt.l _ _ (s2 _ _ gr3) nr)) (ar4.imp fun _ _ _ _ z=>WY.mv _ _ _ _ (fun c l e=>(ag (tb e)).trans e) z) nr L5.thw aa (NoB.thw nT' _) ⟨l7,hd,ev,fun r' mr=>⟨(rg r' mr).pa,(rg r' mr).cu⟩⟩ rfl rfl
 obtain⟨u1,hu1,c1⟩:=c1;refine⟨_,(ae (bc (L2.PW.pt (nh (bf (cY K HU) (ah ba (fv 1) ad) ad) (jy (bf (dw K HU) (aP (Zz HU) (fv 0) (ak [98,111,111,107,101,100]) (fun _ _=>rfl)) (cw (FA.pa cr)))))) (af (aA (aH (oW T) hr aq (fa2 (fv 0) (ah a8 (fv 1) ad))))) aJ)
  hu1),?_⟩
 walk_at "q";by_cases h3:c % 4=3
 .refine itp h3 ⟨W.mm,_,rfl,L.dg (je _ _ _),rp _,fun p fp=>?_⟩
  refine bq (nA (o:=HO.lst []) fp nB rfl) fun G e1 s1 g1 nB1=>?_;rw[e1];have L1:=L.same s1;walk_at "z";by_cases h0:X.bv.length=0
  .have eb:X.bv=[]:=List.length_eq_zero_iff.mp h0
   refine⟨true,EqR.flatL (xs:=[]) (al (by rw[L1.lb,eb])) (al g1) rfl,itn (by decide) (c1 G L1 (s1 _ _ hb) nB1)⟩
  .refine⟨false,EqR.len (al L1.lb) (al g1) h0,itp rfl ⟨W,X,e,rfl,L1,s1 _ _ hb,nB1,C,by lia,l8,k⟩⟩
 .exact itn h3 (c1 H L hb nB)
def AM(W:Wd)(bs:Int)(pv q:WN):bi (mdV W bs pv) (kwT [112,97,116,104,115]) (.ref q)=mdV W bs q:=by simp[mdV,bi,kwT]
def GH{W:Wd}{X:Ab}{H:Hp}{f t:Int}{Z:Hp->Prop}{E:XK}(L:LS a W X H)(nT:WS H)(C:Cq X)(q:∀H',XA H H'->WS H'->Z H'):sp_lq a [.ref W.c,.ref W.j,.int f,.int t] H (fun v H1=>sp_uD K [.ref W.mm,v,.int f,.int t] H1 (fun _ H2=>Z H2) E) E:=by
 obtain⟨R,eR⟩:∃R,R=dN (btw f t X.jb):=⟨_,rfl⟩;have tp:TP X.pq X.cu R:=by rw[eR];exact C.pu.tp _ _
 have hb:∀b∈X.jb,b.rs.length<=7/\∀r∈b.rs,rwL r:=fun b m=>⟨(C.pu.bk b m).1,fun r mr=>((C.pu.bk b m).2.2.2 r mr).2.2.2⟩;have l8:=C.pu.l8;have lcs:X.cs.length<64:=by
  have e:=C.cs.length_eq;have:=C.pu.l11;rw[zm]at e;lia
 unfold sp_lq;walk_at "z";refine⟨nT,W.d,X.cs,W.jl,W.ud,X.jv,X.kv,X.jb,L.ch,lcs,L.jr,L.jb,by lia,hb,by rw[<- eR];exact tp.d1,by rw[<- eR];exact tp.d2,fun out o1 o2 D ws xs H1 po io p1 q1 p2 q2 fD hD A_ el nd fr s1 N1=>?_⟩;rw[<- eR]at p1 p2 A_;have tk:Tk X R out o1 o2:=⟨po,io,p1,q1,p2,q2⟩;have L1:=L.same s1;refine⟨N1,R,⟨mdV W X.base X.pv,X.pv,W.lb,X.bv,X.ls,X.pq,X.cu,_,_,ws,xs,L1.md,Bm _ _ _,je _ _ _,L1.lb,L1.lbA,by rw[<- C.jb];exact eR,L1.pv,hD,A_,by rw[el];exact io,by rw[el];exact po.trans C.cs,tp,tk.to,?_,fun x m=>(hb x.b (by rw[C.jb];exact xW m)).1⟩,fun H2 s2 N2=>q H2 (s1.trans s2) N2⟩;have:=Wb ZT C.jb;rw[zm]at this;lia
theorem xN{α:Type}:∀xs:List α,A2 (fun v y=>v=y) xs xs
 | []=>.nil
 |_::r=>.cons rfl (xN r)
def CD{α:Type}{ws:List V}{xs:List α}(h:A2 (fun v (_:α)=>v = .bl true) ws xs):ws=(xs.map fun _=>true).map V.bl:=by
 induction h with
 |nil=>rfl
 |cons e _ ih=>rw[e,ih];rfl
def E_{W:Wd}{H:Hp}{v:V}{c:Rc}(h:RcW W H v c):RcE H v c:=by
 obtain⟨q,o,i,us,is,e,h1,h2,h3,h4,h5,_,_⟩:=h;exact⟨q,o,i,us,is,e,h1,h2,h3,h4,h5⟩
def LS.chs{W:Wd}{X:Ab}{H H':Hp}{cs':List Acc}(L:LS a W X H)(x:WZ (X.cs.map (·.ob)) H H')(J:CAt a.aU a.aS H' W.c W.d cs')(eb:cs'.map (·.bl)=X.cs.map (·.bl)):LS a W { X with cs:=cs' } H':=by
 have no:∀ {c o},H c=some o->(∀C dx fs,o ≠ .ins C dx fs\/fs.length≠5)->c∉X.cs.map (·.ob):=fun {c o} e n m=>by
  obtain⟨z,mz,rfl⟩:=yI.mp m;obtain⟨dx,e'⟩:=(L.ch.ac z mz).ob;rw[e]at e';cases e';obtain h|h:=n _ _ _
  .exact h rfl
  .exact h rfl
 have kp:∀ {c o},H c=some o->(∀C dx fs,o ≠ .ins C dx fs)->H' c=some o:=fun e n=>x _ _ e (no e fun C dx fs=>.inl (n C dx fs));have kt:Kt W H H':=⟨fun c l e=>kp e (by intro _ _ _ z;cases z),fun c l e _=>kp e (by intro _ _ _ z;cases z)⟩;have kf:∀ {c C dx fs},H c=some (.ins C dx fs)->fs.length≠5->H' c=some (.ins C dx fs):=fun e n=>x _ _ e (no e fun C' dx' fs'=>by
  by_cases h:fs'.length=5
  .refine .inl fun z=>?_
   cases z;exact n h
  .exact .inr h)
 refine⟨kp L.md (by intro _ _ _ z;cases z),J,?_,⟨?_,kp L.jr.ls (by intro _ _ _ z;cases z),kp L.jr.dc (by intro _ _ _ z;cases z)⟩,L.jb.imp fun _ _ _ _ z=>BkAt.mv kt.t z,kp L.lb (by intro _ _ _ z;cases z),L.la.imp fun _ _ _ _ z=>z.mv kt,L.sm.mv ?_ fun p o e _ q=>?_,kp L.pp (by intro _ _ _ z;cases z),kp L.pv (by intro _ _ _ z;cases z),kp L.hd (by intro _ _ _ z;cases z),kp L.cp (by intro _ _ _ z;cases z),kp L.hl (by intro _ _ _ z;cases z),fun v m=>(L.he v m).mv kt,L.nr,L.nd,L.fd,?_,fun y e=>kp (L.sc y e) (by intro _ _ _ z;cases z)⟩
 .obtain⟨dx,e⟩:=L.gt
  exact⟨dx,kf e (by show 1≠5;decide)⟩
 .obtain⟨dx,e⟩:=L.jr.ob
  exact⟨dx,kf e (by show 2≠5;decide)⟩
 .exact L.sm.bp.at_.imp (fun e=>kp e (by intro _ _ _ z;cases z)) fun⟨o,e⟩=>⟨o,kp e (by intro _ _ _ z;cases z)⟩
 .obtain rfl|q:=q
  .obtain⟨dx,e'⟩:=L.sm.ob
   rw[e']at e;cases e;exact kf e' (by show 1≠5;decide)
  .obtain⟨m,e'⟩:=L.sm.dct q
   rw[e']at e;cases e;exact kp e' (by intro _ _ _ z;cases z)
 .show ∀c∈W.pp::W.cp::X.pv::cs'.map (·.bl),c∉W.l3
  rw[eb];exact L.nl
section
variable(P w base)(T:Txt K mg a)(XD:WO)(A:WJ)(XF:List Env)(s:WM)(H:Hp){Q:VK}(E:XK)(hr:Room 13 (A.deeper (YB "law" (ay c9) s.heap.objs.size a.eK XD)))
include T hr in
def e15(k:∀H',Q (.bl true) H'):∃u,PSs (c6 (XE P w) P w K mg base ms "law" (ay c9) a.eK XD A XF s H E) (ZB 15 (bB c9)) u/\∀(W:Wd) (X:Ab) G sc x4 x6 x7 x8 x9 x10,LS a W X G->G W.b=some (.dT X.sk)->NoB W.b G->Cq X->X.hv.length<=10->u { nx:=fun _ H'=>Q .non H',rt:=Q } [sc,some (.int X.base),some (.ref W.pp),some (.ref W.cp),x4,some (.ref W.mm),x6,x7,x8,x9,x10] G:=by
 have sz:=szl;have ND:=fU.nd;have HU:=cP hr;refine⟨_,(ae (bc (bG (bz (jQ (aH (jH T) hr aq (fa2 (fv 5) (bU (fa2 (fv 1) (ah aT (fv 1) ad)))))))) (af (aA cW)) aJ)
  (ae (bc (bG (bz (jQ (aH (d_ T) hr aq (fa4 (fv 5) (aH (gm T) hr aq (fa4 (aP (Zz HU) (fv 5) (ak [99,104,97,114,116]) (fun _ _=>rfl)) (aP (Zz HU) (fv 5) (ak [106,111,117,114,110,97,108]) (fun _ _=>rfl)) ad ad)) ad ad))))) (af (aA cW)) aJ)
  (ae (bc (bG (bz (jQ (aH (d_ T) hr aq (fa4 (fv 5) (aH (gm T) hr aq (fa4 (aP (Zz HU) (fv 5) (ak [99,104,97,114,116]) (fun _ _=>rfl)) (aP (Zz HU) (fv 5) (ak [106,111,117,114,110,97,108]) (fun _ _=>rfl)) ad ad)) ad ad))))) (af (aA cW)) aJ)
  (af (aA (aB (mS K rfl) rfl T.xD rE (fa1 (jQ (bK rfl (cl:=_) (x:="_law_pair") (xs:=["_law_pair"]) (fr:=[]) (ks:=[]) (by walk_at "k") rfl (a7 K (aP (Zz HU) (fv 5) (ak [104,101,108,100]) (fun _ _=>rfl))) (fun _ _ _ _ _=>(av (i:=0) (cQ (l:=["_law_pair"]) (by decide)) rfl (Wi rfl))) (fun _ _ _ _ _=>cO) (fun _ _ _ _ _=>(cX (cY K HU) (aK K (fv 0) ad) (aK K (fv 0) ad) (dD _)))))))))))),fun W X G sc x4 x6 x7 x8 x9 x10 L hb nB C lh=>?_⟩
 walk_at "z";refine⟨W.b,.dT X.sk,rfl,hb,fun o=>⟨by lia,fun p fp=>?_⟩⟩;have L1:=L.frz o;refine bq (bo (o:=HO.tup [V.int X.base,V.int (X.base+3)]) fp (nB.frz o (.dT X.sk)) rfl) fun G1 e1 s1 g1 N1=>?_;rw[e1];refine⟨N1,W,X,_,_,rfl,L1.same s1,C,g1,by lia,fun H1 v L2_ N2 kp=>⟨kp _ _ (s1 _ _ aa) fun m=>?_,?_⟩⟩
 .exact L.bN L.hl rfl (by intro _ _ z;cases z) (zw.mp m)
 obtain⟨X3,G3,eG,L3,hb3,nB3,C3,hvl⟩:∃X3 G3,upd H1 W.b (.dT X.sk)=G3/\LS a W X3 G3/\G3 W.b=some (.dT X3.sk)/\NoB W.b G3/\Cq X3/\X3.hv.length<=20:=⟨_,_,rfl,L2_.thw,aa,NoB.thw N2 _,⟨C.pu,C.jb,C.pr,C.n,C.cs⟩,by
  show(X.hv++[v]).length<=20;rw[zc,wa];lia⟩
 rw[eG];refine⟨W.b,.dT X3.sk,rfl,hb3,fun o2=>?_⟩;have L4:=L3.frz o2;refine⟨W.mm,_,rfl,L4.dg (l9 _ _ _),W.mm,_,rfl,L4.dg (j7 _ _ _),?_⟩;refine GH (K:=K) (f:=0) (t:=146096) (E:=E) L4 (nB3.frz o2 _) C3 fun H5 s5 N5=>?_;refine⟨s5 _ _ aa,?_⟩;have s6:=iq hb3 s5;have L6:=L3.same s6;have hb6:=s6 _ _ hb3;have nB6:NoB W.b (upd H5 W.b (.dT X3.sk)):=NoB.thw N5 _;generalize upd H5 W.b (.dT X3.sk)=G6 at s6 L6 hb6 nB6 |-
 refine⟨W.b,.dT X3.sk,rfl,hb6,fun o7=>?_⟩;have L7:=L6.frz o7;refine⟨W.mm,_,rfl,L7.dg (l9 _ _ _),W.mm,_,rfl,L7.dg (j7 _ _ _),?_⟩;refine GH (K:=K) (f:=146096) (t:=0) (E:=E) L7 (nB6.frz o7 _) C3 fun H8 s8 N8=>?_;refine⟨s8 _ _ aa,?_⟩;have s9:=iq hb6 s8;have L9:=L6.same s9;have hb9:=s9 _ _ hb6;have nB9:NoB W.b (upd H8 W.b (.dT X3.sk)):=NoB.thw N8 _;generalize upd H8 W.b (.dT X3.sk)=G9 at s9 L9 hb9 nB9 |-
 refine⟨W.b,.dT X3.sk,rfl,hb9,fun o9=>fM ?_⟩;have LA:=L9.frz o9;walk_at "z";refine⟨W.mm,_,rfl,LA.dg (Ey _ _ _),W.hl,rfl,⟨_,al LA.hl⟩,ceA (S:=fun _ v (_:V)=>v = .bl true) (fun _ _ _ _ _ h=>h) W.hl X3.hv X3.hv (fun v y=>v=y) (fun _=>true) id LA.hl (nB9.frz o9 _) (xN _) (by lia) (fun v y my rb F zs n1 n0 sF nF hz k1 k0=>?_) fun D ws F fD sF nF gD aD=>?_⟩
 .subst rb
  obtain⟨z1,rfl⟩:=ex1 hz;refine zV ((LA.same sF).he v my) fun p' D' E' Y yy1 hp _ yy2 yz=>h_ yz fun ws2 d2 _ a2=>?_;subst yy1;obtain⟨ws1,d1,_,a1⟩:=yy2;walk_at "z";refine⟨⟨[_],rfl,rfl⟩,_,_,.inl (al hp),aI (j:=0) rfl,_,_,.inl (al hp),aI (j:=1) rfl,?_⟩;walk_at "z";exact⟨true,Cv d1 d2 (a1.imp fun _ _ _ _ z=>E_ z) (a2.imp fun _ _ _ _ z=>E_ z),k1 rfl _ _ (XA.refl _) nF rfl⟩
 .rw[Zo.mpr (fun _ _=>rfl),Ye]at aD
  have ew:ws=(X3.hv.map fun _=>true).map V.bl:=CD aD;have Db:D≠W.b:=fun z=>by rw[z,aa]at fD;cases fD
  walk_at "z";refine⟨sF _ _ aa,X3.hv.map fun _=>true,al (by rw[ag Db,gD,ew]),?_⟩;rw[Zv.mpr fun z m=>by obtain⟨_,_,rfl⟩:=yI.mp m;rfl];exact k _
end
def LS.more{W:Wd}{X:Ab}{G:Hp}{Z:Hp->Prop}{lt:List Nat}(L:LS a W X G)(hb:G W.b=some (.dT X.sk))(nB:NoB W.b G)(l10:X.ps.length<=10)(q:∀H' q2,LS a W { X with pv:=q2,pq:=X.ps++[lt] } H'->H' W.b=some (.dT X.sk)->NoB W.b H'->Z H') :
 1<=WI/\∀p,G p=none->∃xs zs,upd G p (HO.lst [VZ lt]) W.pp=some (HO.lst xs)/\upd G p (HO.lst [VZ lt]) p=some (HO.lst zs)/\xs.length+zs.length<=WI/\∀p1,upd G p (HO.lst [VZ lt]) p1=none ->
  ∃a3 H4,W.mm=a3/\DPut (upd (upd G p (HO.lst [VZ lt])) p1 (HO.lst (xs++zs))) a3 (VZ [112,97,116,104,115]) (V.ref p1) H4/\Z H4:=by
 have sz:=szl;refine⟨by lia,fun p fp=>?_⟩;refine bq (nA (o:=HO.lst [VZ lt]) fp nB rfl) fun G1 e1 s1 g1 nB1=>?_;rw[e1];have L1:=L.same s1;refine⟨X.ps.map VZ,[VZ lt],L1.pp,g1,by rw[zm,wa];lia,fun p1 fp1=>?_⟩;refine bq (nA (o:=HO.lst (X.ps.map VZ++[VZ lt])) fp1 nB1 rfl) fun G2 e2 s2 g2 nB2=>?_;rw[e2];have L2_:=L1.same s2;refine⟨W.mm,_,rfl,DPut.k (k:=kwT [112,97,116,104,115]) L2_.md (by show 10<WI;lia),?_⟩;rw[AM];refine bq (As (p:=W.mm) (o:=HO.dK (mdV W X.base p1)) nB2 rfl) fun G3 e3 g3 k3 nB3=>?_;rw[e3];have np:p1∉W.l3:=fun q=>L1.l3n _ q fp1;have nm:p1∉[W.mm]:=fun m=>by rw[zw.mp m,L1.md]at fp1;cases fp1
 refine q G3 p1 (L2_.mkp k3 g3 (by rw[k3 _ _ g2 nm,yB];rfl) np) (k3 _ _ (s2 _ _ (s1 _ _ hb)) fun m=>L2_.bN L2_.md rfl (by intro _ _ z;cases z) (zw.mp m)) nB3
section
variable(P w base)(T:Txt K mg a)(XD:WO)(A:WJ)(XF:List Env)(s:WM)(H:Hp){Q:VK}(E:XK)(hr:Room 13 (A.deeper (YB "law" (ay c9) s.heap.objs.size a.eK XD)))
include T hr in
def e13(k:∀H',Q (.bl true) H'):∃u,PSs (c6 (XE P w) P w K mg base ms "law" (ay c9) a.eK XD A XF s H E) (ZB 13 (bB c9)) u/\∀(W:Wd) (X:Ab) e G sc x4 x7 x8 x9 x10,LS a W X G->G W.b=some (.dT X.sk)->NoB W.b G->Cd X e->X.ls.length<=8->X.hv.length<=8->u { nx:=fun _ H'=>Q .non H',rt:=Q } [sc,some (.int X.base),some (.ref W.pp),some (.ref W.cp),x4,some (.ref W.mm),some (VZ (ltP e)),x7,x8,x9,x10] G:=by
 have sz:=szl;have ND:=fU.nd;have HU:=cP hr;obtain⟨u15,hu15,c15⟩:=e15 P w base T XD A XF s H E hr k;refine⟨_,(ae (cE (Zz HU) (fv 5) (ak [112,97,116,104,115]) (ah lg (fv 2) (cw (fa1 (fv 6)))) rfl)
  (ae (iG (bC (cK (aP (Zz HU) (fv 5) (ak [99,104,97,114,116]) (fun _ _=>rfl)) T.bH (py T) hr.mono aq (fa2 (aK K (fv 2) (nX jk ad)) (aH (cJ T) hr aq (fa1 (ah aT (fv 1) ad)))))))
  hu15)),fun W X e G sc x4 x7 x8 x9 x10 L hb nB C l8 lh=>?_⟩
 obtain⟨l,hl⟩:∃l,X.ps.getLast? = some l:=by
  have:=K18.Pths.len2 C.P;exact⟨_,List.getLast?_eq_getLast (by intro z;rw[z]at this;exact Wa this (by decide))⟩
 have ml:l∈X.ps:=List.mem_of_getLast? hl;have aL:atI (X.ps.map VZ) (-1)=some (VZ l):=by
  obtain⟨ys,e⟩:=List.getLast?_eq_some_iff.mp hl;rw[e,yB];exact sD _ _
 have ok:=K18.Pths.ok C.P l ml;have bs:=C.bs;walk_at "q";refine L.more hb nB C.l10 fun G1 q2 L1 hb1 nB1=>⟨W.b,.dT X.sk,rfl,hb1,fun o=>?_⟩;have L2_:=L1.frz o;have n2:=nB1.frz o (.dT X.sk);obtain⟨dx,hc⟩:=L2_.ch.ob;refine⟨W.mm,_,rfl,L2_.dg (l9 _ _ _),?_⟩;walk_at "z";refine⟨dx,_,hc,aW,_,_,.inl (al L2_.pp),aL,n2,n2,?_⟩;walk_at "z";refine br (yI.mp (C.cs.mem_iff.mpr (uj _ ml))) fun u mu eu=>?_;refine JA (C.ac u mu (by rw[eu];exact ml)) fun u1 u2 _=>?_;have f1:=eh (m:=0) (n:=X.base+1) (by lia);have f2:=Ct (m:=X.base+1) (by lia);have f3:=xQ (X.base+1);rw[zR]at f1;have ube:u.be=[]:=List.eq_nil_iff_forall_not_mem.mpr fun b mb=>by
  obtain⟨h1,n,hn,e1⟩:=C.be u mu b mb;rw[eu]at e1;rw[e1]at h1;obtain h1|h1:=yf.mp h1
  .exact K18.Pths.last C.P hn hl h1
  .have:=(K18.Pths.cut hn yO (zw.mp h1)).1
   have h0:=K18.Pths.head C.P;have l2:=K18.Pths.len2 C.P;rw[List.getLast?_eq_getElem?,this]at hl;have:=(List.getElem?_inj (by lia) (K18.Pths.nd C.P)).mp (h0.trans hl.symm);lia
 refine⟨⟨ok.lo,by have:=ok.len;lia⟩,⟨by lia,by lia⟩,W.d,X.cs,u,L2_.ch,mu,eu,ok.pn,u1,by rw[u2];lia,ube,fun H' J kp nT=>⟨kp _ _ aa fun m=>?_,?_⟩⟩
 .obtain⟨z,mz,ez⟩:=yI.mp m
  obtain⟨dz,hz⟩:=(L2_.ch.ac z mz).ob;rw[ez,aa]at hz;cases hz
 .have eb:(eQ X.cs l (shu (FD (X.base+1)))).map (·.bl)=X.cs.map (·.bl):=cR (f:=shu (FD (X.base+1))) _ fun _=>rfl
  have ep:(eQ X.cs l (shu (FD (X.base+1)))).map (·.pa)=X.cs.map (·.pa):=cR (f:=shu (FD (X.base+1))) _ fun _=>rfl;have L3:LS a W { X with pv:=q2,pq:=X.ps++[ltP e],cs:=eQ X.cs l (shu (FD (X.base+1))) } H':=L2_.chs kp J eb;have pu:=C.pu l8;exact c15 W { X with pv:=q2,pq:=X.ps++[ltP e],cs:=eQ X.cs l (shu (FD (X.base+1))) } (upd H' W.b (.dT X.sk)) sc x4 _ x7 x8 x9 x10 L3.thw aa (NoB.thw nT _) ⟨pu,C.jb,C.pr,by have:=C.n;lia,by show((eQ X.cs l _).map _).Perm _;rw[ep];exact C.cs⟩ (by show X.hv.length<=10;lia)
end
structure LH(a:Adr)(W:Wd)(X0 X:Ab)(e:Int)(i:Nat)(G:Hp):Prop where
 ls:LS a W X G
 hb:G W.b=some (.dT X.sk)
 nb:NoB W.b G
 cd:Cd X e
 pq:X.pq=X.ps
 ll:X.ls.length<=i
 lh:X.hv.length<=i
 base:X.base=X0.base
 sv:X.sv=X0.sv
noncomputable def Kg:Stmt->List Stmt
 | .For _ _ b _ _=>b
 |_=>[]
noncomputable abbrev BQ:List Stmt:=Kg ((bB c9).getD 12 (.Pass ⟨0,0,0,0⟩))
section
variable(P w base)(T:Txt K mg a)(XD:WO)(A:WJ)(XF:List Env)(s:WM)(H:Hp){Q:VK}(E:XK)(hr:Room 13 (A.deeper (YB "law" (ay c9) s.heap.objs.size a.eK XD)))
include T hr
def b4:∃u,PSs (c6 (XE P w) P w K mg base ms "law" (ay c9) a.eK XD A XF s H E) (ZB 4 BQ) u/\∀(D:gl) (W:Wd) (X:Ab) G s0 x4 x6 x7 m x9 x10,LS a W X G->G W.b=some (.dT X.sk)->NoB W.b G->Cq X->(0<=X.base/\X.base<=4796)->(∀G' x9 x10,LS a W { X with pv:=W.pp,pq:=X.ps } G'->G' W.b=some (.dT X.sk)->NoB W.b G'->D.nx [s0,some (.int X.base),some (.ref W.pp),some (.ref W.cp),x4,some (.ref W.mm),x6,x7,some (.int m),x9,x10] G')->u D [s0,some (.int X.base),some (.ref W.pp),some (.ref W.cp),x4,some (.ref W.mm),x6,x7,some (.int m),x9,x10] G:=by
 have sz:=szl;have ND:=fU.nd;have HU:=cP hr;refine⟨_,(ae (iG (aV 9 ND (aH (fO T) hr aq (fa2 (ah a8 (fv 8) ad) (ah aT (fv 1) (ah ba (ah a8 (fv 8) ad) ad))))))
  (ae (iG (aV 10 ND (aH (fO T) hr aq (fa2 (ah a8 (fv 8) ad) (ah aT (fv 1) (ah ba (ah a8 (fv 8) ad) ad))))))
  (ae (bc (bG (bz (jQ (aH (d_ T) hr aq (fa4 (fv 5) (aH (gm T) hr aq (fa4 (aP (Zz HU) (fv 5) (ak [99,104,97,114,116]) (fun _ _=>rfl)) (aP (Zz HU) (fv 5) (ak [106,111,117,114,110,97,108]) (fun _ _=>rfl)) (fv 9) (fv 10))) (fv 9) (fv 10)))))) (af (aA cW)) aJ)
  (af (cE (Zz HU) (fv 5) (ak [112,97,116,104,115]) (fv 2) rfl))))),fun D W X G s0 x4 x6 x7 m x9 x10 L hb nB C bs kk=>?_⟩
 walk_at "q";refine⟨W.b,.dT X.sk,rfl,hb,fun o=>⟨nB.frz o _,fun d1 _ _=>⟨aa,?_⟩⟩⟩;rw[dO hb];refine⟨W.b,.dT X.sk,rfl,hb,fun o=>⟨nB.frz o _,fun d2 _ _=>⟨aa,?_⟩⟩⟩;rw[dO hb];refine⟨W.b,.dT X.sk,rfl,hb,fun o=>?_⟩;have L1:=L.frz o;refine⟨W.mm,_,rfl,L1.dg (l9 _ _ _),W.mm,_,rfl,L1.dg (j7 _ _ _),?_⟩;refine GH (K:=K) (f:=d1) (t:=d2) (E:=E) L1 (nB.frz o _) C fun H5 s5 N5=>⟨s5 _ _ aa,?_⟩;have s6:=iq hb s5;have L6:=L.same s6;have hb6:=s6 _ _ hb;have nB6:NoB W.b (upd H5 W.b (.dT X.sk)):=NoB.thw N5 _;generalize upd H5 W.b (.dT X.sk)=G6 at s6 L6 hb6 nB6 |-
 refine⟨W.mm,_,rfl,DPut.k (k:=kwT [112,97,116,104,115]) L6.md (by show 10<WI;lia),?_⟩;rw[AM];refine bq (As (p:=W.mm) (o:=HO.dK (mdV W X.base W.pp)) nB6 rfl) fun G7 e7 g7 k7 nB7=>?_;rw[e7];have np:W.pp∉[W.mm]:=fun m=>by
  have:=L6.md;rw[<- zw.mp m,L6.pp]at this;cases this
 exact kk G7 _ _ (L6.mkp k7 g7 (k7 _ _ L6.pp np) (L6.nl _ (.head _))) (k7 _ _ hb6 fun m=>L6.bN L6.md rfl (by intro _ _ z;cases z) (zw.mp m)) nB7
def b1:∃u,PSs (c6 (XE P w) P w K mg base ms "law" (ay c9) a.eK XD A XF s H E) (ZB 1 BQ) u/\∀(D:gl) (W:Wd) (X:Ab) e G sc (ns:List Int) (i:Nat) c x4 x8 x9 x10,LS a W X G->G W.b=some (.dT X.sk)->NoB W.b G->Cd X e->X.ls.length<=8->X.hv.length<=8->(∀X' F,LS a W X' F->X'.sv=X.sv->SqL K F sc (ns.map V.int))->atI (ns.map V.int) (5+(i:Int))=some (.int c) ->
 (∀G' v x8 x9 x10,LS a W { X with pv:=W.pp,pq:=X.ps,hv:=X.hv++[v] } G'->G' W.b=some (.dT X.sk)->NoB W.b G'->D.nx [some (.ref sc),some (.int X.base),some (.ref W.pp),some (.ref W.cp),x4,some (.ref W.mm),some (VZ (ltP e)),some (.int (5+i)),x8,x9,x10] G')->u D [some (.ref sc),some (.int X.base),some (.ref W.pp),some (.ref W.cp),x4,some (.ref W.mm),some (VZ (ltP e)),some (.int (5+i)),x8,x9,x10] G:=by
 have sz:=szl;have ND:=fU.nd;have HU:=cP hr;refine br (b4 P w base T XD A XF s H E hr) fun u4 hu4 c4=>?_;refine⟨_,(ae (cE (Zz HU) (fv 5) (ak [112,97,116,104,115]) (ah lg (fv 2) (cw (fa1 (fv 6)))) rfl)
  (ae (iG (aV 8 ND (aH (bM T) hr aq (fa2 (aK K (fv 0) (fv 7)) ad))))
  (ae (bc (bG (bz (jQ (aH (jH T) hr aq (fa2 (fv 5) (bU (fa2 (ah aT (fv 1) (ah ba (fv 8) ad)) (ah aT (fv 1) (ah ba (ah a8 (fv 8) ad) ad))))))))) (af (aA cW)) aJ)
  hu4))),fun D W X e G sc ns i c x4 x8 x9 x10 L hb nB C l8 lh hsc ac kk=>?_⟩
 walk_at "q";refine L.more hb nB C.l10 fun G1 q2 L1 hb1 nB1=>⟨W.b,.dT X.sk,rfl,hb1,fun o=>?_⟩;have L2_:=L1.frz o;refine⟨_,_,.inl (hsc _ _ L2_ rfl),ac,nB1.frz o _,?_⟩;walk_at "z";refine⟨aa,?_⟩;rw[dO hb1];refine⟨W.b,.dT X.sk,rfl,hb1,fun o3=>⟨by lia,fun p fp=>?_⟩⟩;have L3:=L1.frz o3;refine bq (bo (o:=HO.tup [V.int (X.base+MX c 23 % 4),V.int (X.base+MX c 23 / 4 % 4)]) fp (nB1.frz o3 (.dT X.sk)) rfl) fun G4 e4 s4 g4 N4=>?_;rw[e4];have pu:=C.pu l8;have Cq1:Cq { X with pv:=q2,pq:=X.ps++[ltP e] }:=⟨pu,C.jb,C.pr,by have:=C.n;show X.n<=500;lia,C.cs⟩;refine⟨N4,W,{ X with pv:=q2,pq:=X.ps++[ltP e] },_,_,rfl,L3.same s4,Cq1,g4,by show X.hv.length<=20;lia,fun H1 v L5 N5 kp=>⟨kp _ _ (s4 _ _ aa) fun m=>?_,?_⟩⟩
 .exact L.bN L.hl rfl (by intro _ _ z;cases z) (zw.mp m)
 have L6:LS a W { X with pv:=q2,pq:=X.ps++[ltP e],hv:=X.hv++[v] } (upd H1 W.b (.dT X.sk)):=L5.thw;exact c4 D W { X with pv:=q2,pq:=X.ps++[ltP e],hv:=X.hv++[v] } (upd H1 W.b (.dT X.sk)) _ _ _ _ _ _ _ L6 aa (NoB.thw N5 _) ⟨pu,C.jb,C.pr,Cq1.n,C.cs⟩ C.bs fun G' x9 x10 L' hb' nB'=>kk G' v _ x9 x10 L' hb' nB'
def b0:∃u,PSs (c6 (XE P w) P w K mg base ms "law" (ay c9) a.eK XD A XF s H E) BQ u/\∀(D:gl) (W:Wd) (X0 X:Ab) e G sc (ns:List Int) (i:Nat) c x4 x8 x9 x10,LH a W X0 X e i G->i<8->(∀X' F,LS a W X' F->X'.sv=X0.sv->SqL K F sc (ns.map V.int))->atI (ns.map V.int) (5+(i:Int))=some (.int c) ->
 (∀G' X' x8 x9 x10,LH a W X0 X' e (i+1) G'->D.nx [some (.ref sc),some (.int X0.base),some (.ref W.pp),some (.ref W.cp),x4,some (.ref W.mm),some (VZ (ltP e)),some (.int (5+i)),x8,x9,x10] G')->u D [some (.ref sc),some (.int X0.base),some (.ref W.pp),some (.ref W.cp),x4,some (.ref W.mm),some (VZ (ltP e)),some (.int (5+i)),x8,x9,x10] G:=by
 have sz:=szl;have ND:=fU.nd;have HU:=cP hr;refine br (b1 P w base T XD A XF s H E hr) fun u1 hu1 c1=>?_;refine⟨_,(ae (bc (bG (bz (aH (rN T) hr aq (fa2 (fv 5) (aK K (fv 0) (fv 7)))))) (af (aA cW)) aJ)
  hu1),fun D W X0 X e G sc ns i c x4 x8 x9 x10 Z i8 hsc ac kk=>?_⟩
 walk_at "z";refine⟨_,_,.inl (hsc _ _ Z.ls Z.sv),ac,?_⟩;walk_at "z";have lli:=Z.ll;have lhi:=Z.lh;refine⟨W,X,e,rfl,Z.ls,Z.hb,Z.nb,Z.cd,Z.pq,by lia,fun H1 X1 D1=>?_⟩;have ln1:=D1.ln;have eb:X1.base=X0.base:=D1.nx.base.trans Z.base;have es:X1.sv=X0.sv:=D1.nx.sv.trans Z.sv;walk_at "z";rw[<- eb]at kk |-
 refine c1 D W X1 e H1 sc ns i c x4 x8 x9 x10 D1.ls D1.hb D1.nb D1.cd (by lia) (by rw[D1.nx.hv];lia) (fun X' F L h=>hsc X' F L (h.trans es)) ac fun G' v x8 x9 x10 L hb nB=>kk G' _ x8 x9 x10 ⟨L,hb,nB,?_,rfl,?_,?_,eb,es⟩
 .have C:=D1.cd
  exact⟨C.P,C.l10,C.H,C.lc,C.nc,C.cc,C.cs,C.ac,C.be,C.bs,C.jb,C.kk,C.ov,C.nk,C.lk,C.bg,C.pr,C.n⟩
 .show X1.ls.length<=i+1
  lia
 .show(X1.hv++[v]).length<=i+1
  rw[zc,wa,D1.nx.hv];lia
end
section
variable(P w base)(T:Txt K mg a)(XD:WO)(A:WJ)(XF:List Env)(s:WM)(H:Hp){Q:VK}(E:XK)(hr:Room 13 (A.deeper (YB "law" (ay c9) s.heap.objs.size a.eK XD)))
include T hr in
def e12(k:∀H',Q (.bl true) H'):∃u,PSs (c6 (XE P w) P w K mg base ms "law" (ay c9) a.eK XD A XF s H E) (ZB 12 (bB c9)) u/\∀(W:Wd) (X0:Ab) e G sc (ns:List Int) x4,LH a W X0 X0 e 0 G->(∀X F,LS a W X F->X.sv=X0.sv->SqL K F sc (ns.map V.int))->ns.length<=63->u { nx:=fun _ H'=>Q .non H',rt:=Q } [some (.ref sc),some (.int X0.base),some (.ref W.pp),some (.ref W.cp),x4,some (.ref W.mm),some (VZ (ltP e)),none,none,none,none] G:=by
 have sz:=szl;have ND:=fU.nd;have HU:=cP hr;obtain⟨ub,hub,cb⟩:=b0 P w base T XD A XF s H E hr;obtain⟨u13,hu13,c13⟩:=e13 P w base T XD A XF s H E hr k;refine⟨_,(ae (b7 (by passes_own) rfl (p8 rfl T.eY (fa2 ad (aB (GC rfl) rfl T.Ix Fu (fa2 (aB (bV K) rfl T.dq cz (fa1 (fv 0))) ad)))) (av (i:=7) ND rfl (Wi rfl)) hub)
  hu13),fun W X0 e G sc ns x4 Z0 hsc l63=>?_⟩
 walk_at "z";refine zq ?_;walk_at "q";refine⟨_,.inl (hsc _ _ Z0.ls rfl),?_⟩;rw[zm];have hj:(if 13<(ns.length:Int) then (13:Int) else ns.length)<=13/\(if 13<(ns.length:Int) then (13:Int) else ns.length)<=ns.length/\0<=(if 13<(ns.length:Int) then (13:Int) else ns.length):=by split <;> exact⟨by lia,by lia,by lia⟩
 generalize (if 13<(ns.length:Int) then (13:Int) else ns.length)=j at hj |-
 refine⟨5,j,⟨rfl,rfl⟩,⟨by decide,by decide,by lia,by lia⟩,eZ (lo:=5) (n:=(j-5).toNat) (fun i σ' (F:Hp)=>∃X x7 x8 x9 x10,LH a W X0 X e i F/\σ'=[some (.ref sc),some (.int X0.base),some (.ref W.pp),some (.ref W.cp),x4,some (.ref W.mm),some (VZ (ltP e)),x7,x8,x9,x10]) ⟨X0,none,none,none,none,Z0,rfl⟩ ?_ ?_⟩
 .rintro i σ' F li ⟨X,x7,x8,x9,x10,Z,rfl⟩
  obtain⟨c,hc⟩:∃c,ns[5+i]? = some c:=⟨_,Wr (by lia)⟩;have ac:atI (ns.map V.int) (5+(i:Int))=some (.int c):=by
   have:=aI (xs:=ns.map V.int) (j:=5+i) (v:=.int c) (by rw[Ws,hc];rfl)
   rwa [show((5+i:Nat):Int)=5+(i:Int) by lia]at this
  walk_at "z";exact cb _ W X0 X e F sc ns i c x4 x8 x9 x10 Z (by lia) hsc ac fun G' X' x8 x9 x10 Z'=>⟨X',_,x8,x9,x10,Z',rfl⟩
 .rintro σ' F ⟨X,x7,x8,x9,x10,Z,rfl⟩
  have:=Z.ll;have:=Z.lh;rw[<- Z.base];exact c13 W X e F _ _ _ _ _ _ Z.ls Z.hb Z.nb Z.cd (by lia) (by lia)
end
structure RF(a:Adr)(W:Wd)(ps cu:List (List Nat))(hs:List Hd)(cs:List Acc)(sv:Option (Obj × List V))(H:Hp):Prop where
 ch:CAt a.aU a.aS H W.c W.d cs
 gt:∃dx,H W.g=some (gq a.bQ dx .non)
 jr:JAt a.aX H W.j W.jl W.ud [] []
 sm:SA a.ce H W.s W.b [] [] 0
 hb:H W.b=some (.dT [])
 nb:NoB W.b H
 lb:H W.lb=some (.lst [])
 pp:H W.pp=some (.lst (ps.map VZ))
 hd:H W.hd=some (.dK (hs.map kyH))
 cp:H W.cp=some (.lst (cu.map VZ))
 sc:∀x,sv=some x->H W.sc=some (.frz x.1 (.lst x.2))
 nd:[W.mm,W.ud,W.d,W.hd].Nodup
 n1:W.jl≠W.lb
 n2:∀c∈W.pp::W.cp::cs.map (·.bl),c≠W.jl/\c≠W.lb
 n4:W.pp∉cs.map (·.bl)/\W.cp∉cs.map (·.bl)
def RF.mk5{W:Wd}{ps cu:List (List Nat)}{hs:List Hd}{cs:List Acc}{sv:Option (Obj × List V)}{H H':Hp}(R:RF a W ps cu hs cs sv H)(k:∀c o,H c=some o->c≠W.mm->H' c=some o)(hm:∃m,H W.mm=some (.dK m))(nb:NoB W.b H'):RF a W ps cu hs cs sv H':=by
 obtain⟨m,hm⟩:=hm;have k':∀ {c o},H c=some o->(∀z,o ≠ .dK z)->H' c=some o:=fun e n=>k _ _ e fun z=>by rw[z,hm]at e;cases e;exact n _ rfl
 obtain⟨q1,_⟩:=yE.mp R.nd;have dn:∀ {c},c∈[W.ud,W.d,W.hd]->c≠W.mm:=fun mc z=>q1 (z ▸ mc);have hb:=k' R.hb (by intro _ z;cases z);refine⟨⟨?_,k _ _ R.ch.dc (dn (.tail _ (.head _))),fun z mz=>?_,R.ch.np,R.ch.na,R.ch.nb⟩,?_,⟨?_,k' R.jr.ls (by intro _ z;cases z),k _ _ R.jr.dc (dn (.head _))⟩,?_,hb,nb,k' R.lb (by intro _ z;cases z),k' R.pp (by intro _ z;cases z),k _ _ R.hd (dn (.tail _ (.tail _ (.head _)))),k' R.cp (by intro _ z;cases z),fun l e=>k' (R.sc l e) (by intro _ z;cases z),R.nd,R.n1,R.n2,R.n4⟩
 .obtain⟨dx,e⟩:=R.ch.ob
  exact⟨dx,k' e (by intro _ z;cases z)⟩
 .obtain⟨dx,e⟩:=(R.ch.ac z mz).ob
  exact⟨⟨dx,k' e (by intro _ z;cases z)⟩,k' (R.ch.ac z mz).ls (by intro _ z;cases z)⟩
 .obtain⟨dx,e⟩:=R.gt
  exact⟨dx,k' e (by intro _ z;cases z)⟩
 .obtain⟨dx,e⟩:=R.jr.ob
  exact⟨dx,k' e (by intro _ z;cases z)⟩
 .obtain⟨dx,e⟩:=R.sm.ob
  exact⟨⟨dx,k' e (by intro _ z;cases z)⟩,.inl hb,Zu,ym _,(fun _ _ _ z=>nomatch z),(fun _ _ z=>nomatch z),(fun _ z=>nomatch z)⟩
def RF.add{W:Wd}{ps cu:List (List Nat)}{hs:List Hd}{cs cs':List Acc}{sv:Option (Obj × List V)}{H H':Hp}(R:RF a W ps cu hs cs sv H)(x:WZ (W.d::cs.map (·.bl)) H H')(J:CAt a.aU a.aS H' W.c W.d cs')(nb:NoB W.b H')(fb:∀z∈cs',z.bl∈cs.map (·.bl)\/H z.bl=none):RF a W ps cu hs cs' sv H':=by
 obtain⟨q1,q⟩:=yE.mp R.nd;obtain⟨q2,q⟩:=yE.mp q;obtain⟨q3,_⟩:=yE.mp q;have lb:∀ {c},c∈cs.map (·.bl)->∃l,H c=some (.lst l):=fun m=>by
  obtain⟨z,mz,rfl⟩:=yI.mp m;exact⟨_,(R.ch.ac z mz).ls⟩
 have no:∀ {c o},H c=some o->(∀l,o ≠ .lst l)->c≠W.d->H' c=some o:=fun e n nd=>x _ _ e fun m=>by
  obtain z|m:=zk.mp m
  .exact nd z
  .obtain⟨l,z⟩:=lb m
   rw[e]at z;cases z;exact n _ rfl
 have nl:∀ {c l},H c=some (.lst l)->c∉cs.map (·.bl)->H' c=some (.lst l):=fun e n=>x _ _ e fun m=>by
  obtain z|m:=zk.mp m
  .rw[z,R.ch.dc]at e;cases e
  .exact n m
 have ni:∀ {c C dx fs},H c=some (.ins C dx fs)->H' c=some (.ins C dx fs):=fun e=>no e (by intro _ z;cases z) fun z=>by rw[z,R.ch.dc]at e;cases e
 have jn:W.jl∉cs.map (·.bl):=fun m=>(R.n2 _ (.tail _ (.tail _ m))).1 rfl;have ln:W.lb∉cs.map (·.bl):=fun m=>(R.n2 _ (.tail _ (.tail _ m))).2 rfl;have hb:=no R.hb (by intro _ z;cases z) fun z=>by have:=R.hb;rw[z,R.ch.dc]at this;cases this
 refine⟨J,?_,⟨?_,nl R.jr.ls jn,no R.jr.dc (by intro _ z;cases z) fun z=>q2 (by rw[z];exact .head _)⟩,?_,hb,nb,nl R.lb ln,nl R.pp R.n4.1,no R.hd (by intro _ z;cases z) fun z=>q3 (by rw[<- z];exact .head _),nl R.cp R.n4.2,fun y e=>no (R.sc y e) (by intro _ z;cases z) fun z=>(by have:=R.sc y e;rw[z,R.ch.dc]at this;cases this),R.nd,R.n1,fun c m=>?_,⟨fun m=>?_,fun m=>?_⟩⟩
 .obtain⟨dx,e⟩:=R.gt
  exact⟨dx,ni e⟩
 .obtain⟨dx,e⟩:=R.jr.ob
  exact⟨dx,ni e⟩
 .obtain⟨dx,e⟩:=R.sm.ob
  exact⟨⟨dx,ni e⟩,.inl hb,Zu,ym _,(fun _ _ _ z=>nomatch z),(fun _ _ z=>nomatch z),(fun _ z=>nomatch z)⟩
 .obtain rfl|m:=zk.mp m
  .exact R.n2 _ (.head _)
  obtain rfl|m:=zk.mp m
  .exact R.n2 _ (.tail _ (.head _))
  obtain⟨z,mz,rfl⟩:=yI.mp m;obtain h|h:=fb z mz
  .exact R.n2 _ (.tail _ (.tail _ h))
  .exact⟨fun z=>(by rw[z,R.jr.ls]at h;cases h),fun z=>(by rw[z,R.lb]at h;cases h)⟩
 .obtain⟨z,mz,ez⟩:=yI.mp m
  obtain h|h:=fb z mz
  .exact R.n4.1 (ez ▸ h)
  .rw[ez,R.pp]at h;cases h
 .obtain⟨z,mz,ez⟩:=yI.mp m
  obtain h|h:=fb z mz
  .exact R.n4.2 (ez ▸ h)
  .rw[ez,R.cp]at h;cases h
noncomputable def m7(W:Wd):List (Key × V):=[(kwT [99,104,97,114,116],.ref W.c),(kwT [103,97,116,101],.ref W.g),(kwT [106,111,117,114,110,97,108],.ref W.j),(kwT [115,117,109,115],.ref W.s),(kwT [98,111,111,107,101,100],.ref W.lb),(kwT [112,97,116,104,115],.ref W.pp),(kwT [104,111,108,100,115],.ref W.hd)]
def Jk(W:Wd):bw (m7 W) (kwT [99,104,97,114,116])=some (.ref W.c):=by simp[m7,bw,kwT]
def Jx(W:Wd)(b:Int):bi (bi (bi (m7 W) (kwT [99,117,114,114,101,110,99,105,101,115]) (.ref W.cp)) (kwT [98,97,115,101]) (.int b)) (kwT [104,101,108,100]) (.ref W.hl)=mdV W b W.pp:=by simp[m7,mdV,bi,kwT]
def DM{hs:List Hd}{cs:List Acc}{ps:List (List Nat)}{v n l:List Nat}{z:Acc}(h:CG hs cs ps)(hn:58∉n)(el:l=v++58::n)(e1:z.pa=l)(e4:z.be=[])(nl:l∉ps) :
 (eQ cs v (grw l)++[z]).map (·.pa)=ps++[l]/\(∀c∈eQ cs v (grw l)++[z],c.pa∈ps->c.un=none/\c.fi=0/\∃o,(c.pa,o)∈hs/\c.cu=cuH o)/\∀c∈eQ cs v (grw l)++[z],∀b∈c.be,b∈ps++[l]/\∃n,58∉n/\b=c.pa++58::n:=by
 refine⟨by rw[yB,cR (f:=grw l) _ fun _=>rfl,h.pa,<- e1];rfl,fun y m hp=>?_,fun y m b mb=>?_⟩
 .obtain m|m:=yf.mp m
  .obtain⟨x,hx,rfl⟩:=dA m
   have s:=h.st x hx;have c:=h.cu x hx;split <;> exact⟨s.1,s.2.1,c⟩
  .rw[zw.mp m,e1]at hp;exact Wa hp nl
 .obtain m|m:=yf.mp m
  .obtain⟨x,hx,rfl⟩:=dA m
   by_cases hv:x.pa=v
   .rw[Wf hv]at mb |-
    obtain mb|mb:=yf.mp (show b∈x.be++[l] from mb)
    .exact⟨uj _ (h.be x hx b mb).1,(h.be x hx b mb).2⟩
    .rw[zw.mp mb];exact⟨uD _ (.head _),n,hn,by rw[el,<- hv];rfl⟩
   .rw[Wg hv]at mb |-
    exact⟨uj _ (h.be x hx b mb).1,(h.be x hx b mb).2⟩
  .rw[zw.mp m,e4]at mb;cases mb
def BZ{b:WN}{S:List WN}{H H1:Hp}{u z:HO}(hb:H b=some u)(x:WZ S (upd H b z) H1):WZ S H (upd H1 b u):=fun c o e n=>by
 by_cases h:c=b
 .rw[h,aa,<- e,h,hb]
 .rw[ag h];exact x _ _ ((ag h).trans e) n
def CAt.fz{C A:WN}{H:Hp}{p d b:WN}{cs:List Acc}{z o:HO}(J:CAt C A H p d cs)(hb:H b=some o)(n1:∀C dx fs,o ≠ .ins C dx fs)(n2:∀m,o ≠ .dK m)(n3:∀l,o ≠ .lst l):CAt C A (upd H b z) p d cs:=by
 refine J.keep (S:=[b]) (WZ.refl.put (.head _)) (fun m=>?_) (fun m=>?_) fun c mc=>⟨fun m=>?_,fun m=>?_⟩
 .obtain⟨dx,e⟩:=J.ob
  rw[zw.mp m,hb]at e;cases e;exact n1 _ _ _ rfl
 .have e:=J.dc
  rw[zw.mp m,hb]at e;cases e;exact n2 _ rfl
 .obtain⟨dx,e⟩:=(J.ac c mc).ob
  rw[zw.mp m,hb]at e;cases e;exact n1 _ _ _ rfl
 .have e:=(J.ac c mc).ls
  rw[zw.mp m,hb]at e;cases e;exact n3 _ rfl
section
variable(P w base)(T:Txt K mg a)(XD:WO)(A:WJ)(XF:List Env)(s:WM)(H:Hp){Q:VK}(E:XK)(hr:Room 13 (A.deeper (YB "law" (ay c9) s.heap.objs.size a.eK XD)))
include T hr in
def e7(k:∀H',Q (.bl true) H'):∃u,PSs (c6 (XE P w) P w K mg base ms "law" (ay c9) a.eK XD A XF s H E) (ZB 7 (bB c9)) u/\∀(W:Wd) ps cu hs cs sv e G sc (ns:List Int) bs,RF a W ps cu hs cs sv G->G W.mm=some (.dK (m7 W))->CG hs cs ps->Pths e ps->ps.length<=10->HdOk cu ps hs->cu.length=3->cu.Nodup->(∀l∈cu,cur l=true)->(0<=bs/\bs<=4796) ->
 (∀F,(∀x,sv=some x->F W.sc=some (.frz x.1 (.lst x.2)))->SqL K F sc (ns.map V.int))->ns.length<=63->u { nx:=fun _ H'=>Q .non H',rt:=Q } [some (.ref sc),some (.int bs),some (.ref W.pp),some (.ref W.cp),some (.ref W.hd),some (.ref W.mm),none,none,none,none,none] G:=by
 have sz:=szl;have ND:=fU.nd;have HU:=cP hr;refine br (e12 P w base T XD A XF s H E hr k) fun u12 hu12 c12=>?_;refine⟨_,(ae (aV 6 ND (ah aT (aK K (fv 2) ad) (ak [58,122,108,97,116,101,122])))
  (ae (iG (bC (cK (aP (Zz HU) (fv 5) (ak [99,104,97,114,116]) (fun _ _=>rfl)) T.bH (jY T) hr.mono aq (fa3 (fv 6) ky (aH (cJ T) hr aq (fa1 (ah aT (fv 1) ad)))))))
  (ae (cE (Zz HU) (fv 5) (ak [99,117,114,114,101,110,99,105,101,115]) (fv 3) rfl)
  (ae (cE (Zz HU) (fv 5) (ak [98,97,115,101]) (fv 1) rfl)
  (ae (cE (Zz HU) (fv 5) (ak [104,101,108,100]) (cw (FA.pa cr)) rfl)
  hu12))))),fun W ps cu hs cs sv e G sc ns bs R hm cg hP l10 HO_ lcu ncu ccu hbs hsc l63=>?_⟩
 have l0:=iI (c:=e) (k:=0);walk_at "z";refine⟨_,_,.inl (al R.pp),aI (j:=0) (by rw[Ws,K18.Pths.head hP];rfl),?_⟩;walk_at "z";have J1:∀o,CAt a.aU a.aS (upd G W.b (.frz o (.dT []))) W.c W.d cs:=fun o=>R.ch.fz R.hb (by intro _ _ _ z;cases z) (by intro _ z;cases z) (by intro _ z;cases z);refine⟨by lia,W.b,.dT [],rfl,R.hb,fun o=>?_⟩;have nF:=R.nb.frz o (.dT []);have hmb:(upd G W.b (.frz o (.dT []))) W.mm=some (.dK (m7 W)):=(ag (fun z=>by have:=R.hb;rw[<- z,hm]at this;cases this)).trans hm;have dgc:=DGet.k (k:=kwT [99,104,97,114,116]) hmb;rw[Jk]at dgc;obtain⟨dx,hc⟩:=(J1 o).ob;have lps:cs.length=ps.length:=by rw[<- cg.pa,zm]
 have ex:K19.nms e 0++[58,122,108,97,116,101,122]=ltP e:=rfl;have f1:=eh (m:=0) (n:=bs+2) (by lia);have f2:=Ct (m:=bs+2) (by lia);have f3:=xQ (bs+2);rw[zR]at f1;rw[ex];refine br (yI.mp (show nms e 0∈cs.map (·.pa) by rw[cg.pa];exact Ji hP)) fun u0 mu0 eu0=>?_;have st:=cg.st u0 mu0;have hnl:=zQ hP;have sp2:spN 58 (ltP e)=[nms e 0,[122,108,97,116,101,122]]:=by unfold ltP;rw[gJ yO,f_ 58 _ (c8 e 0)];rfl
 refine⟨W.mm,_,rfl,dgc,?_⟩;walk_at "q";refine⟨dx,_,hc,Aw _,nF,nF,⟨fun c m=>?_,?_⟩,⟨by lia,by lia⟩,nms e 0,[122,108,97,116,101,122],W.d,cs,u0,rfl,yO,?_,J1 o,by lia,fun c m=>by have:=(cg.st c m).2.2;lia,cg.none_ hnl,mu0,eu0,st.1,by rw[st.2.1];lia,fun z H' e1 e5 e2 e3 e4 o1 o2 J2 kp nT=>?_⟩
 .obtain mc|mc:=yf.mp m
  .have:=l0.2.2 c mc;lia
  .have:∀x∈(58::[122,108,97,116,101,122]:List Nat),x<128:=by decide
   exact this c mc
 .unfold ltP
  rw[zc];show(nms e 0).length+7<=199;lia
 .unfold ir
  rw[sp2];simp[rT]
  decide
 have kp2:=BZ R.hb kp;have bn:W.b∉W.d::cs.map (·.bl):=fun m=>by
  obtain q|m:=zk.mp m
  .have:=R.hb;rw[q,R.ch.dc]at this;cases this
  .obtain⟨y,my,ey⟩:=yI.mp m
   have:=R.hb;rw[<- ey,(R.ch.ac y my).ls]at this;cases this
 have hfb:H' W.b=some (.frz o (.dT [])):=kp _ _ aa bn;refine JA (DM (l:=ltP e) (v:=nms e 0) (n:=[122,108,97,116,101,122]) (z:=z) cg yO rfl e1 e4 hnl) fun la1 la2 la3=>?_;have zb:z.bl≠W.b:=fun q=>by rw[q,aa]at o2;cases o2
 have R2:=R.add kp2 (J2.fz hfb (by intro _ _ _ z;cases z) (by intro _ z;cases z) (by intro _ z;cases z)) (NoB.thw nT _) (fun y my=>by
  obtain my|my:=yf.mp my
  .obtain⟨y2,my2,rfl⟩:=dA my
   refine .inl ?_;rw[show(if y2.pa=nms e 0 then grw (ltP e) y2 else y2).bl=y2.bl by split <;> rfl];exact xW (f:=(·.bl)) my2
  .rw[zw.mp my]
   rw[ag zb]at o2;exact .inr o2)
 obtain⟨q1,_⟩:=yE.mp R.nd;have hm2:(upd H' W.b (.dT [])) W.mm=some (.dK (m7 W)):=kp2 _ _ hm fun m=>by
  obtain q|m:=zk.mp m
  .exact q1 (by rw[q];exact .tail _ (.head _))
  .obtain⟨y,my,ey⟩:=yI.mp m
   have:=(R.ch.ac y my).ls;rw[ey,hm]at this;cases this
 refine⟨hfb,?_⟩;generalize upd H' W.b (.dT [])=G2 at R2 hm2 |-
 refine⟨W.mm,_,rfl,DPut.k (k:=kwT [99,117,114,114,101,110,99,105,101,115]) hm2 (by show 7<WI;lia),?_⟩;have g3:(upd G2 W.mm (.dK (bi (m7 W) (kwT [99,117,114,114,101,110,99,105,101,115]) (.ref W.cp)))) W.mm=_:=aa;refine⟨W.mm,_,rfl,DPut.k (k:=kwT [98,97,115,101]) g3 (ZD (jh _ _ _) (by show 8<WI;lia)),rp _,fun p fp=>?_⟩;have pm:p≠W.mm:=fun q=>by rw[q,aa]at fp;cases fp
 have fp2:G2 p=none:=by rw[ag pm,ag pm]at fp;exact fp
 have g4:(upd (upd (upd G2 W.mm (.dK (bi (m7 W) (kwT [99,117,114,114,101,110,99,105,101,115]) (.ref W.cp)))) W.mm (.dK (bi (bi (m7 W) (kwT [99,117,114,114,101,110,99,105,101,115]) (.ref W.cp)) (kwT [98,97,115,101]) (.int bs)))) p (.lst [])) W.mm=_:=(ag (Wj pm)).trans aa;refine⟨W.mm,_,rfl,DPut.k (k:=kwT [104,101,108,100]) g4 (ZD (jh _ _ _) (ZD (Xd (jh _ _ _)) (by show 9<WI;lia))),?_⟩;obtain⟨W',eW⟩:∃W':Wd,W' = { W with hl:=p }:=⟨_,rfl⟩;have em:bi (bi (bi (m7 W) (kwT [99,117,114,114,101,110,99,105,101,115]) (.ref W.cp)) (kwT [98,97,115,101]) (.int bs)) (kwT [104,101,108,100]) (.ref p)=mdV W' bs W.pp:=by rw[eW];exact Jx { W with hl:=p } bs
 rw[em];obtain⟨G5,e5,k5,h5,p5,n5⟩:∃G5,upd (upd (upd (upd G2 W.mm (.dK (bi (m7 W) (kwT [99,117,114,114,101,110,99,105,101,115]) (.ref W.cp)))) W.mm (.dK (bi (bi (m7 W) (kwT [99,117,114,114,101,110,99,105,101,115]) (.ref W.cp)) (kwT [98,97,115,101]) (.int bs)))) p (.lst [])) W.mm (.dK (mdV W' bs W.pp))=G5/\(∀c o,G2 c=some o->c≠W.mm->G5 c=some o)/\G5 W.mm=some (.dK (mdV W' bs W.pp))/\G5 p=some (.lst [])/\NoB W.b G5:=
  ⟨_,rfl,fun c o e n=>(ag n).trans ((ag (aM e fp2)).trans ((ag n).trans ((ag n).trans e))),aa,(ag pm).trans aa,(((R2.nb.upd rfl).upd rfl).upd rfl).upd rfl⟩
 rw[e5];have R5:=R2.mk5 k5 ⟨_,hm2⟩ n5;have px:∀ {c o},G2 c=some o->c≠p:=fun e=>aM e fp2;have n3:∀ {c},c≠W.jl->c≠W.lb->c≠p->c∉W'.l3:=fun h1 h2 h3 m=>by
  rw[eW]at m;obtain q|m:=zk.mp m
  .exact h1 q
  obtain q|m:=zk.mp m
  .exact h2 q
  .exact h3 (zw.mp m)
 have LSf:LS a W' ⟨bs,ps,cu,hs,eQ cs (nms e 0) (grw (ltP e))++[z],W.pp,ps,[],[],[],[],[],[],[],0,[],sv⟩ G5:=by
  subst eW;refine⟨h5,R5.ch,R5.gt,R5.jr,.nil,R5.lb,.nil,R5.sm,R5.pp,R5.pp,R5.hd,R5.cp,p5,(fun v m=>nomatch m),?_,R5.nd,(fun c _ q=>by obtain⟨k,m⟩:=q;cases m),fun c m=>?_,R5.sc⟩
  .refine yE.mpr ⟨fun m=>?_,yE.mpr ⟨fun m=>px R2.lb (zw.mp m),yE.mpr ⟨(fun m=>nomatch m),Zu⟩⟩⟩
   obtain q|m:=zk.mp m
   .exact R5.n1 q
   .exact px R2.jr.ls (zw.mp m)
  .have h2:c∈W.pp::W.cp::(eQ cs (nms e 0) (grw (ltP e))++[z]).map (·.bl):=by
    obtain rfl|m:=zk.mp m
    .exact .head _
    obtain rfl|m:=zk.mp m
    .exact .tail _ (.head _)
    obtain rfl|m:=zk.mp m
    .exact .head _
    .exact .tail _ (.tail _ m)
   have h3:=R5.n2 c h2;refine n3 h3.1 h3.2 ?_;obtain rfl|h2:=zk.mp h2
   .exact px R2.pp
   obtain rfl|h2:=zk.mp h2
   .exact px R2.cp
   obtain⟨y,my,rfl⟩:=yI.mp h2;exact px (R2.ch.ac y my).ls
 have CDf:Cd ⟨bs,ps,cu,hs,eQ cs (nms e 0) (grw (ltP e))++[z],W.pp,ps,[],[],[],[],[],[],[],0,[],sv⟩ e:=
  ⟨hP,l10,HO_,lcu,ncu,ccu,by show((eQ cs (nms e 0) (grw (ltP e))++[z]).map (·.pa)).Perm (ps++[ltP e]);rw[la1],la2,la3,hbs,rfl,(fun n x h=>nomatch h),(fun n x h=>nomatch h),(fun n _=>rfl),ym _,(fun b m=>nomatch m),rfl,ym _⟩
 have hbf:G5 W.b=some (.dT []):=R5.hb;have c12':=c12 W' _ e G5 sc ns (some (.ref W.hd)) ⟨LSf,by rw[eW];exact hbf,by rw[eW];exact n5,CDf,rfl,ym _,ym _,rfl,rfl⟩ (fun X F LF ev=>hsc F fun l e=>?_) l63
 .subst eW
  exact c12'
 .have:=LF.sc l (ev.trans e)
  rw[eW]at this;exact this
include T hr in
def e4(k:∀H',Q (.bl true) H'):∃u,PSs (c6 (XE P w) P w K mg base ms "law" (ay c9) a.eK XD A XF s H E) (ZB 4 (bB c9)) u/\∀pp cp hd ps cu hs (sv:Option (Obj × List V)) e G sc (ns:List Int) bs,WS G->G pp=some (.lst (ps.map VZ))->G cp=some (.lst (cu.map VZ))->G hd=some (.dK (hs.map kyH))->Pths e ps->ps.length<=10->HdOk cu ps hs->cu.length=3->cu.Nodup->(∀l∈cu,cur l=true)->(0<=bs/\bs<=4796) ->
 (∀x,sv=some x->G sc=some (.frz x.1 (.lst x.2)))->(∀F,(∀x,sv=some x->F sc=some (.frz x.1 (.lst x.2)))->SqL K F sc (ns.map V.int))->ns.length<=63->u { nx:=fun _ H'=>Q .non H',rt:=Q } [some (.ref sc),some (.int bs),some (.ref pp),some (.ref cp),some (.ref hd),none,none,none,none,none,none] G:=by
 have sz:=szl;have ND:=fU.nd;have HU:=cP hr;refine br (e7 P w base T XD A XF s H E hr k) fun u7 hu7 c7=>?_;refine⟨_,(ae (aV 5 ND (wT (fZ (ak [99,104,97,114,116]) (aH (pA T) hr aq (fa2 (fv 2) (fv 4))) (fZ (ak [103,97,116,101]) (qz T.C6 (kF T) hr.mono rfl T.HN aq) (fZ (ak [106,111,117,114,110,97,108]) (qz T.ww (iZ T) hr.mono rfl T.yp aq) (fZ (ak [115,117,109,115]) (qz T.Dl (kQ T) hr.mono rfl T.Hh aq) (fZ (ak [98,111,111,107,101,100]) (cw (FA.pa cr)) wB))))) rfl rfl (by simp) (by decide)))
  (ae (cE (Zz HU) (fv 5) (ak [112,97,116,104,115]) (fv 2) rfl)
  (ae (cE (Zz HU) (fv 5) (ak [104,111,108,100,115]) (fv 4) rfl)
  hu7))),fun pp cp hd ps cu hs sv e G sc ns bs nG gpp gcp ghd hP l10 HO_ lcu ncu ccu hbs gsc hsc l63=>?_⟩
 walk_at "z";simp only[Ez,qW];intro mm fmm;refine bq (bo (o:=HO.dK []) fmm nG rfl) fun G1 e1 s1 g1 N1=>?_;rw[e1];walk_at "q";refine⟨N1,e,cu,ps,hs,s1 _ _ gpp,hP,l10,HO_,ccu,s1 _ _ ghd,fun c d cs G2 J cg fc fz fd s2 N2=>?_⟩;intro g dg hg hdg ng;refine⟨dg,aa,?_⟩;have s3:XA G2 (upd (upd (upd G2 dg (.own g)) g (.ins a.bQ dg [])) g (gq a.bQ dg .non)):=fun c z e=>e_ hg hdg (WZ.refl.put (.head _)) c z e vO;have g3:upd (upd (upd G2 dg (.own g)) g (.ins a.bQ dg [])) g (gq a.bQ dg .non) g=some (gq a.bQ dg .non):=aa;have N3:WS (upd (upd (upd G2 dg (.own g)) g (.ins a.bQ dg [])) g (gq a.bQ dg .non)):=aE (aE (aE N2 rfl) rfl) rfl;generalize upd (upd (upd G2 dg (.own g)) g (.ins a.bQ dg [])) g (gq a.bQ dg .non)=G3 at s3 g3 N3;intro j dj hj hdj nj;refine⟨aE (aE N3 rfl) rfl,dj,aa,fun jl ud G4 fjl fud J4 k4 N4=>?_⟩;have s4:XA G3 G4:=fun c z e=>e_ hj hdj k4 c z e vO;have fjl:=d6 fjl;have fud:=d6 fud;intro sm dS hsm hdS nsm;refine⟨dS,aa,fun b G5 fb hb5 S5 k5 nB5=>⟨rp _,fun lb flb=>?_⟩⟩;have s5:XA G4 G5:=fun c z e=>e_ hsm hdS k5 c z e vO;have nB5:=nB5 (aE (aE N4 rfl) rfl);refine bq (nA (o:=HO.lst []) flb nB5 rfl) fun G6 e6 s6 g6 nB6=>?_;rw[e6];have s36:=(s4.trans s5).trans s6;have s26:=s3.trans s36;have s16:=s2.trans s26;have s06:=s1.trans s16;have s35:=s4.trans s5;obtain⟨W,eW⟩:∃W:Wd,W=⟨mm,c,d,g,j,jl,ud,sm,b,lb,pp,hd,cp,mm,sc⟩:=⟨_,rfl⟩;have ne:∀ {F:Hp} {x y o},F x=some o->F y=none->x≠y:=fun h1 h2=>aM h1 h2;have J3:=J.same s3;have s13:=s2.trans s3;have s03:=s1.trans s13;have blx:∀ {x},x∈cs.map (·.bl)->(∃l,G3 x=some (.lst l))/\G1 x=none:=fun m=>by
  obtain⟨z,mz,rfl⟩:=yI.mp m;exact⟨⟨_,(J3.ac z mz).ls⟩,(fz z mz).1⟩
 have x3:∀ {x o},G3 x=some o->x≠jl/\x≠lb:=fun h=>⟨ne h fjl,ne (s35 _ _ h) flb⟩;have R6:RF a W ps cu hs cs sv G6:=by
  subst eW;refine⟨J.same s26,⟨dg,s36 _ _ g3⟩,J4.keep (S:=[]) (bF (s5.trans s6)) vO vO vO,S5.same s6,s6 _ _ hb5,nB6,g6,s06 _ _ gpp,s06 _ _ ghd,s06 _ _ gcp,fun l e=>s06 _ _ (gsc l e),?_,ne (s5 _ _ J4.ls) flb,fun x m=>?_,fun m=>ne (s1 _ _ gpp) (blx m).2 rfl,fun m=>ne (s1 _ _ gcp) (blx m).2 rfl⟩
  .refine yE.mpr ⟨fun m=>?_,yE.mpr ⟨fun m=>?_,yE.mpr ⟨fun m=>?_,yE.mpr ⟨(fun m=>nomatch m),Zu⟩⟩⟩⟩
   .obtain q|m:=zk.mp m
    .exact ne (s13 _ _ g1) fud q
    obtain q|m:=zk.mp m
    .exact ne g1 fd q
    .exact ne ghd fmm (zw.mp m).symm
   .obtain q|m:=zk.mp m
    .exact ne J3.dc fud q.symm
    .exact ne (s03 _ _ ghd) fud (zw.mp m).symm
   .exact ne (s1 _ _ ghd) fd (zw.mp m).symm
  .obtain rfl|m:=zk.mp m
   .exact x3 (s03 _ _ gpp)
   obtain rfl|m:=zk.mp m
   .exact x3 (s03 _ _ gcp)
   .obtain⟨⟨l,h⟩,_⟩:=blx m
    exact x3 h
 have g16:=s16 _ _ g1;refine⟨g16,[(kwT [99,104,97,114,116],.ref c),(kwT [103,97,116,101],.ref g),(kwT [106,111,117,114,110,97,108],.ref j),(kwT [115,117,109,115],.ref sm),(kwT [98,111,111,107,101,100],.ref lb)],rfl,(show 5<=15 by decide),mm,_,rfl,DPut.k (k:=kwT [112,97,116,104,115]) aa (by simp[dZ,bi,kwT];lia),mm,_,rfl,DPut.k (k:=kwT [104,111,108,100,115]) aa (by simp[dZ,bi,kwT];lia),?_⟩;have em:bi (bi (dZ [] [(kwT [99,104,97,114,116],V.ref c),(kwT [103,97,116,101],.ref g),(kwT [106,111,117,114,110,97,108],.ref j),(kwT [115,117,109,115],.ref sm),(kwT [98,111,111,107,101,100],.ref lb)]) (kwT [112,97,116,104,115]) (.ref pp)) (kwT [104,111,108,100,115]) (.ref hd)=m7 W:=by rw[eW];simp[m7,dZ,bi,kwT]
 rw[em];obtain⟨G7,e7,k7,h7,n7⟩:∃G7,upd (upd (upd G6 mm (.dK (dZ [] [(kwT [99,104,97,114,116],V.ref c),(kwT [103,97,116,101],.ref g),(kwT [106,111,117,114,110,97,108],.ref j),(kwT [115,117,109,115],.ref sm),(kwT [98,111,111,107,101,100],.ref lb)]))) mm (.dK (bi (dZ [] [(kwT [99,104,97,114,116],V.ref c),(kwT [103,97,116,101],.ref g),(kwT [106,111,117,114,110,97,108],.ref j),(kwT [115,117,109,115],.ref sm),(kwT [98,111,111,107,101,100],.ref lb)]) (kwT [112,97,116,104,115]) (.ref pp)))) mm (.dK (m7 W))=G7/\(∀x o,G6 x=some o->x≠mm->G7 x=some o)/\G7 mm=some (.dK (m7 W))/\NoB b G7:=
  ⟨_,rfl,fun x o e n=>(ag n).trans ((ag n).trans ((ag n).trans e)),aa,((nB6.upd rfl).upd rfl).upd rfl⟩
 rw[e7];have R7:RF a W ps cu hs cs sv G7:=R6.mk5 (by rw[eW];exact k7) ⟨_,by rw[eW];exact g16⟩ (by rw[eW];exact n7);have c7':=c7 W ps cu hs cs sv e G7 sc ns bs R7 (by rw[eW];rw[eW]at h7;exact h7) cg hP l10 HO_ lcu ncu ccu hbs (by rw[eW];exact hsc) l63;rw[eW]at c7';exact c7'
end
def sp_law(K:Wz):Sp:=sp1 fun x H Q _=>asR x fun p=>wg H/\∃ns:List Int,SqL K H p (ns.map V.int)/\ns.length<=63/\∀H',Q (.bl true) H'
def Gp(T:Txt K mg a){fd:FuncData}(FL:Fun K "law" "law" c9 a.eK fd):hZ P w K mg base (XE P w) 14 a.eK fd ["_law_script"] (sp_law K):=by
 refine FL.okX fU (fun vs H Q E h=>sp1.len h) (fun XD A XF s H vs Q E hr h=>?_);obtain⟨x0,rfl,h⟩:=sp1.inv h
 try dsimp only[sp_law,sp1]at h
 have ND:=fU.nd;have HU:=cP hr;refine h_ (aQ h) fun sc yy1 hO yz=>h_ yz fun ns hS hl k=>?_;subst yy1;have hN:=Az hO;have sz:=szl;obtain⟨u4,hu4,c4⟩:=e4 P w base T XD A XF s H E hr k;refine⟨_,(ae (aV 1 ND (ah ba (aH (cB T) hr aq (fa2 (fv 0) ad)) ad))
  (ae (aV 2 ND (aH (o8 T) hr aq (fa2 (fv 0) (ah aT ad (ah ba (ah a8 (aH (cB T) hr aq (fa2 (fv 0) ad)) ad) ad)))))
  (ae (aV 3 ND (aH (jg T) hr aq (fa1 (aH (cB T) hr aq (fa2 (fv 0) ad)))))
  (ae (aV 4 ND (aH (o0 T) hr aq (fa3 (fv 2) (fv 3) (aH (cB T) hr aq (fa2 (fv 0) ad)))))
  hu4)))),?_⟩
 walk_at "q";refine⟨ns,hS,ns,hS,hN,ns,hS,⟨by lia,by lia⟩,fun e ps q hP l10 fq=>?_⟩;refine bq (bo (o:=HO.lst (ps.map VZ)) fq hN rfl) fun G1 e1 s1 g1 N1=>?_;rw[e1];refine⟨ns,hS.same s1,N1,fun cu lc nc cc q1 fq1=>?_⟩;refine bq (bo (o:=HO.lst (cu.map VZ)) fq1 N1 rfl) fun G2 e2 s2 g2 N2=>?_;rw[e2];refine⟨ns,hS.same (s1.trans s2),N2,ps,cu,s2 _ _ g1,g2,K18.Pths.nd hP,by lia,fun l m=>(K18.Pths.ok hP l m).len,lc,fun d hs G3 fd gd HO_ s3 N3=>?_⟩;have s03:=(s1.trans s2).trans s3;obtain⟨sv,h1,h2⟩:∃sv:Option (Obj × List V),(∀x,sv=some x->H sc=some (.frz x.1 (.lst x.2)))/\∀F:Hp,(∀x,sv=some x->F sc=some (.frz x.1 (.lst x.2)))->SqL K F sc (ns.map V.int):=by
  obtain(h|⟨ob,h⟩)|h:=hS
  .obtain z|⟨o,xs,z⟩:=hO sc <;> rw[h]at z <;> cases z
  .exact⟨some (ob,ns.map V.int),fun x e=>by cases e;exact h,fun F hF=>.inl (.inr ⟨ob,hF _ rfl⟩)⟩
  .exact⟨none,(fun l e=>nomatch e),fun F _=>.inr h⟩
 exact c4 q q1 d ps cu hs sv e G3 sc ns _ N3 (s3 _ _ (s2 _ _ g1)) (s3 _ _ g2) gd hP l10 HO_ lc nc cc ⟨by lia,by lia⟩ (fun l e=>s03 _ _ (h1 l e)) h2 hl
def law_starts{H:Hp}{p:WN}{ns:List Int}(hO:wg H)(hS:SqL K H p (ns.map V.int))(hl:ns.length<=63):sp_law K [.ref p] H (fun v _=>v = .bl true) fun _ _ _=>False:=⟨hO,ns,hS,hl,fun _=>rfl⟩
end
noncomputable abbrev JK(x q:Str)(s:Stmt)(kV dc pm:WO)(an:Option WN)(cd ct:WO):FuncData:=YJ x q (gC s) (bB s) (ay s) .none kV dc pm an cd ct
section
variable{K:Wz}{h:WF}{mg:Str->Option WO}{x WQ:Str}{st:Stmt}{f g C:WN}{oc:WO}{od an:Option WN}{osl:Array (Option WO)}{kV doc pm XD ct:WO}{cl:ClassData}
def nf_of(X:K.In h)(G:h.Ns ZP mg)(a:PySem.W.nsIn K ZP x=some (some (.ref f)))(l:K.lookup f=some ⟨oc,od,.func (JK x x st kV doc pm an XD ct),osl⟩)(c:PySem.W.codeIn K XD x=true)(k:Ys K (.ref f)=true):DfN K mg x st:=⟨_,_,PySem.W.mg_of X G a,wm l c k⟩
def mf_of(a:ZX K (.ref C) x=some (some (.ref f)))(i:PySem.W.isFn K (.ref f)=true)(l:K.lookup f=some ⟨oc,od,.func (JK x WQ st kV doc pm an XD ct),osl⟩)(c:PySem.W.codeIn K XD WQ=true)(k:Ys K (.ref f)=true):DfM K C x WQ st:=⟨_,_,⟨a,i,k⟩,wm l c k⟩
def exc_of(u:ZX K (.ref C) "__getattribute__" = some (some (.builtin "BaseException.__getattribute__")))(w:ZX K (.ref C) "__getattr__" = some none)(y:ZX K (.ref C) "__class__" = some (some (.builtin "object.__class__")))(o:PySem.W.clsIn K C=some cl)(g:XY K C (.type "object")=some true)(b:XY K C (.type "BaseException")=some true):fm K C:=⟨u,w,y,(by rw[o];rfl),g,b⟩
def cst_of{XC:Array WO}{n:Nat}{vs:List V}{d:Option WN}{sl:Array (Option WO)}(l:K.lookup f=some ⟨.type "tuple",d,.seq XC n,sl⟩)(z:XC.size<=WI)(v:WW vs XC.toList):∃(o:Obj) (XC:Array WO) (n:Nat),K.lookup f=some o/\o.cls = .type "tuple" /\ o.data = .seq XC n/\XC.size<=WI/\WW vs XC.toList:=⟨_,_,_,l,rfl,rfl,z,v⟩
def fin_of{l:PySem.W.OpenLaw}{w:WK}{fa:WN}{a:Adr}(hfa:mg "law" = some (.ref fa))(T:Txt K mg a)(e:mg "law" = some (.ref a.eK)):∃fd:FuncData,(∀(s:WM) (v:WO),BindsTo s fd ⟨[v],[]⟩ [("_law_script",v)])/\∀base:WF,K.In base->base.Ns ZP mg->hZ l.prog w K mg base (XE l.prog w) 14 fa fd ["_law_script"] (sp_law K):=by
 cases hfa.symm.trans e;obtain⟨fd,F⟩:=T.Iu;refine⟨fd,fun s v=>?_,fun base _ _=>Gp T F⟩;obtain⟨oc,od,kV,doc,pm,an,XD,ct,osl,e,lk,hcd⟩:=F.ex;rw[e];exact .of_eq rfl
end
end K18
open PySem PySem.W PyProof.Rows
theorem PySem.Challenge.cw_evenhall_k18_whole_reports_holds : PySem.Challenge.rw_evenhall_k18_whole_reports.Holds := by
 w_on
 refine PySem.W.holds_law K18.ws fun said=>?_;refine PySem.W.holds_open (q:=K18.vw) (loose:=[]) (Xt:=fun s=>PySem.W.xlAt K18.vw [] s&&PySem.W.recOk (PySem.W.RowW.records (PySem.W.OpenRow.toRowW (PySem.W.OpenLaw.row Qj))) s) (XP:=PySem.W.XL K18.vw []) (Yf:=PySem.W.Hook.obs (Xw K18.frag K18.adrs K18.adrs_eq)) (Ya:=PySem.W.Hook.val (Xw K18.frag K18.adrs K18.adrs_eq)) (YP:=PySem.W.Hook.says (Xw K18.frag K18.adrs K18.adrs_eq)) (N:=16250) K18.left (PySem.W.Hook.of (Xw K18.frag K18.adrs K18.adrs_eq)) (PySem.W.Hook.keeps (Xw K18.frag K18.adrs K18.adrs_eq))
  (fun s e=>PySem.W.xl_of s (Bool.and_eq_true_iff.mp e).1) PySem.W.XL.keeps (by rfl) (by rfl) (by rfl) (fun s e=>PySem.W.recFacts_of (Bool.and_eq_true_iff.mp e).2) (by rfl) (by assumption) (by decide +kernel) ⟨rfl,rfl,rfl,rfl,rfl,by decide +kernel⟩ ?hw ?hc
 (case hw=>w_witness2)
 k_fill
 refine L2.Ak (l:=Qj) (n:=63) (k:=14) (x:="_law_script") (sp:=K18.sp_law) rfl (by decide) rfl ⟨rfl,by decide,by decide⟩ (fun w h Y=>PySem.W.kIn_of Y) ?F ?S
 case F=>
  intro w mg fa h KX G hmg;refine' K18.fin_of (a:=⟨991,31,51,70,89,108,127,146,165,184,203,222,241,260,286,305,324,343,362,584,680,748,804,863,510,553⟩) hmg ?T (PySem.W.mg_of KX G (by k_is))
  case T=>
  constructor
  all_goals try dsimp only
  all_goals first|exact PySem.W.mg_of KX G (by k_is)|exact PySem.W.mg_none_of KX G (by k_is)|exact K18.nf_of KX G (by k_is) (by k_is) (by k_is) (by k_is)|exact K18.mf_of (by k_is) (by k_is) (by k_is) (by k_is) (by k_is)|exact⟨_,L2.wm (by k_is) (by k_is) (by k_is)⟩|exact⟨by k_is,by k_is,by k_is,by k_is⟩|(unfold L2.NoAttr;k_is)|exact⟨by k_is,by k_is⟩|(unfold K18.zzX;k_exc)|exact K18.exc_of (by k_is) (by k_is) (by k_is) (by k_is) (by k_is) (by k_is)|exact L2.yG (by k_is) (by k_is) (by k_is) (by k_is)|exact K18.exI_of (by k_is) (by kernel_rfl)|exact⟨by k_is,by kernel_rfl,by k_is,by k_is⟩|exact K18.cst_of (by k_is) (by show _<=WI;decide) (by repeat first|exact .nil|refine .cons ⟨_,rfl⟩ ?_)
 case S=>exact fun K H a ns hl hO hS=>K18.law_starts hO hS hl
