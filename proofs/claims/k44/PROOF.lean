import PyProof.Rows.All
import Wide.FinOn
import KE.KDictOf
import KE.KRevIter
import KE.KPairComp
import KE.KFromBytes
import KE.KSortedM
import KE.KItem
import KE.KItemsList
import KE.RegKIsAll
import KE.LcSums
import KE.KIntText
import PySem.Challenge.RW_bundlehouse_k44_parts_that_ask
set_option Elab.async false
set_option linter.all false
set_option maxRecDepth 100000
section
open PySem PySem.Spec PyProof.Rows
def AA:=@wpAny_bind
def AB:=@wpAny_pure
def AC:=@Heap.get?_push_of_some
def AD:=@List.mem_singleton
def AE:=@Bool.false_ne_true
def AF:=@Paired.length
def AG:=@List.mem_of_getElem?
def AH:=@Nat.le_refl
def AI:=@Heap.get?_push_size
def AJ:=@Heap.lt_size
def AK:=@List.mem_cons_of_mem
def AL:=@List.mem_append
def AM:=@List.mem_cons_self
def AN:=@List.mem_map_of_mem
def AO:=@List.nodup_append
def AQ:=@PassesOwn.never
def AR:=@List.mem_append_right
def AS:=@List.filterMap_cons
def AT:=@List.mem_map
def AU:=@List.getElem?_eq_getElem
def AV:=@List.getElem?_of_mem
def AW:=@decide_eq_false
def AX:=@wpAny_of_eq
def AY:=@List.take_length
def AZ:=@Nat.lt_of_lt_of_le
def BA:=@Heap.get?_update_other
def BB:=@Nat.ne_of_lt
def BC:=@List.flatMap_cons
def BD:=@List.length_take
def BE:=@Heap.get?_update_self
def BF:=@List.mem_append_left
def BG:=@wpAny_holding
def BH:=@List.getD_eq_getElem?_getD
def BI:=@List.nodup_iff_pairwise_ne
def BJ:=@List.filter_cons_of_neg
def BK:=@List.getElem?_set_self
def BL:=@List.mem_flatMap
def BM:=@List.filter_cons_of_pos
def BN:=@List.nodup_cons
def BO:=@Int.emod_nonneg
def BP:=@List.getElem?_set_ne
def BQ:=@Int.emod_lt_of_pos
def BR:=@Array.getElem?_toList
def BS:=@List.length_reverse
def BT:=@Array.getElem?_eq_some_iff
end
theorem a0W:0<=PySem.sizeLine:=by decide
theorem b5J:1<=PySem.sizeLine:=by decide
theorem F2:2<=PySem.sizeLine:=by decide
theorem a0A:3<=PySem.sizeLine:=by decide
namespace HD
open PySem PySem.W
noncomputable abbrev b5a (p:Program) (ks:List Nat):Program:=
 {p with main:={p.main with body:=ks.filterMap fun i=>p.main.body[i]?}}
noncomputable abbrev en (P:Params) (x:Str) (t:Tok) (v:Value):DictEntry:=⟨PyData.keyHash P x,.str x t,v⟩
noncomputable abbrev tp (p:Program) (i:Nat):Stmt:=p.main.body.getD i (.Pass ⟨0,0,0,0⟩)
noncomputable def inC (s:Stmt) (i:Nat):Stmt:=match s with
 | .ClassDef _ _ _ b _ _ _ _ _ _ _=>b.getD i (.Pass ⟨0,0,0,0⟩)
 | _=> .Pass ⟨0,0,0,0⟩
noncomputable def dA (s:Stmt):Arguments:=match s with
 | .FunctionDef _ a _ _ _ _ _ _ _ _=>a
 | _=>⟨[],[],none,[],[],none,[]⟩
noncomputable def dB (s:Stmt):List Stmt:=match s with
 | .FunctionDef _ _ b _ _ _ _ _ _ _=>b
 | _=> []
noncomputable def dS (s:Stmt):Scope:=match s with
 | .FunctionDef _ _ _ _ _ _ c _ _ _=>c
 | _=>default
theorem lfL{p q:Program}{lo:List Str}{Xt:Shared->Bool}{K:Params->Frag}{as:List Addr}(n:Nat){e:∀P,as=(K P).map (·.1)}{N:Nat}
  (h1:∀w,((openEnds treeTable p w N).map fun s=>openSeen q lo (importedModules p.main.body) Xt true s)=some (openGood q lo))
  (h6:∀w,((openEnds treeTable p w N).map fun s=>(as.take n).map s.heap.get?)=some (((K w.params).take n).map fun p=>some p.2))
  (h7:∀w,((openEnds treeTable p w N).map fun s=>(as.drop n).map s.heap.get?)=some (((K w.params).drop n).map fun p=>some p.2)):LeftO p q lo Xt (kHook K as e).obs (kHook K as e).val N:=by
 intro w
 have a1:=h1 w
 have a6:=h6 w
 have a7:=h7 w
 generalize openEnds treeTable p w N=r at a1 a6 a7⊢
 cases r with
 | none=>cases a6
 | some s=>
  have b1:openSeen q lo (importedModules p.main.body) Xt true s=openGood q lo:=Option.some.inj a1
  have b6:(as.take n).map s.heap.get?=((K w.params).take n).map fun p=>some p.2:=Option.some.inj a6
  have b7:(as.drop n).map s.heap.get?=((K w.params).drop n).map fun p=>some p.2:=Option.some.inj a7
  have b8:as.map s.heap.get?=(K w.params).map fun p=>some p.2:=by rw[<-List.take_append_drop n as,List.map_append,b6,b7,<-List.map_append,List.take_append_drop]
  show some (openSeen q lo (importedModules p.main.body) Xt true s,as.map s.heap.get?)=some (openGood q lo,(K w.params).map fun p=>some p.2)
  rw[b1,b8]
theorem b4v{l:OpenLaw}{q:Program}{lo:List Str}{K:Params->Frag}{as:List Addr}{N:Nat}{d:DefRec}{kwd:List (Str×Expr)}
  (e:∀P,as=(K P).map (·.1))(b5K:l.wellSaid=true)
  (hl:LeftO l.row.prog q lo (fun s=>xlAt q [] s && recOk (RowW.records l.row.toRowW) s) (kHook K as e).obs (kHook K as e).val N)
  (h1:defOf q l.row.name=some (d,kwd))(h2:l.row.prog.theDef l.row.name=some (d.params,d.body,d.scope))
  (h3:kwWritten? d.params.kwonlyargs d.params.kw_defaults=some kwd)(h4:(!l.row.writes || l.row.records.isEmpty)=true)
  (h5:(chainsOk q && opensWell l.row.prog && (frees l.row.toRowW && l.row.within.isEmpty))=true)
  (h6:l.row.prog.bare)(h7:l.row.toRowW.promised)
  (go:WalkO q lo (XL q []) (kHook K as e).says l.row.toRowW d kwd fun f vs=>PySem.call f vs):l.Holds:=by
 refine holds_law b5K fun sd=>?_
 refine holds_open (XP:=XL q []) (YP:=(kHook K as e).says) hl (kHook K as e).of (kHook K as e).keeps ?_ XL.keeps h1 h2 h3 ?_ h4 sd h5 h6 h7 go
 ·intro s x
  exact xl_of s (Bool.and_eq_true_iff.mp x).1
 ·intro s x
  exact recFacts_of (Bool.and_eq_true_iff.mp x).2
end HD
namespace K44
open PySem PySem.W
abbrev zP:=PySem.Challenge.pw_bundlehouse_k44_parts_that_ask
theorem a5N{α:Type}{us:List α}(h:us.length=1):∃a,us=[a]:=by
 match us,h with
 | [a],_=>exact⟨a,rfl⟩
theorem a1P{α:Type}{us:List α}(h:us.length=2):∃a b,us=[a,b]:=by
 match us,h with
 | [a,b],_=>exact⟨a,b,rfl⟩
theorem a7l{α:Type}{us:List α}(h:us.length=3):∃a b c,us=[a,b,c]:=by
 match us,h with
 | [a,b,c],_=>exact⟨a,b,c,rfl⟩
theorem b7W{α:Type}{us:List α}(h:us.length=4):∃a b c d,us=[a,b,c,d]:=by
 match us,h with
 | [a,b,c,d],_=>exact⟨a,b,c,d,rfl⟩
set_option maxHeartbeats 0
noncomputable abbrev qP:Program:=(HD.b5a PySem.Challenge.rw_bundlehouse_k44_parts_that_ask.prog [54])
noncomputable abbrev sE (w:World):=openEnds treeTable PySem.Challenge.rw_bundlehouse_k44_parts_that_ask.row.prog w 8124
noncomputable abbrev sX:Shared->Bool:=(fun s=>xlAt qP [] s && recOk (RowW.records PySem.Challenge.rw_bundlehouse_k44_parts_that_ask.row.toRowW) s)
noncomputable abbrev sL:List Str:="BundleError"::"RefusedAt"::"NoRow"::"Twice"::"NoPart"::"NoName"::"NotGiven"::"Endless"::"Asks"::"TooMany"::"NoPlace"::"NoMap"::"placed_rows"::"given_owns"::"links"::"makers"::"made"::"brings"::"named_parts"::"order"::"new_names"::"numbered"::"makers_names"::"renamed_row"::"renamed_sum"::"renamed_thing"::"renamed_when"::"flat"::"refuse_asks"::"work_in_order"::"last_first"::"_law_cell_at"::"_law_stream"::"_law_name"::"_law_pool"::"_law_begun"::"_law_fresh"::"_law_pairs"::"_law_added"::"_law_sum"::"_law_row"::"_law_finished"::"_law_pools"::"_law_parts"::"_law_some_asks"::"_law_begun_by"::"_law_due"::"_law_refused"::"_law_right"::[]
noncomputable abbrev sS (s:Shared):=openSeen qP sL (importedModules PySem.Challenge.rw_bundlehouse_k44_parts_that_ask.row.prog.main.body) sX true s
theorem rS:∀w,((sE w).map fun s=>sS s)=some (openGood qP sL):=fun w=>by kernel_rfl
noncomputable def a6u (P:Params):W.Frag:=
 (nat_lit 2,{cls:= .none,data:= .dict #[]})::
 (nat_lit 3,{cls:= .type "dict",data:= .dict #[HD.en P "__name__" 165 (.str "law_bundlehouse_k44_parts_that_ask" 627),HD.en P "__doc__" 166 (.none),HD.en P "__package__" 167 (.none),HD.en P "__loader__" 168 (.builtin "__main__.__loader__#opaque"),HD.en P "__spec__" 169 (.none),HD.en P "__annotations__" 170 (.ref 6),HD.en P "__builtins__" 171 (.ref 4),HD.en P "__file__" 173 (.str "/claim/cut.py" 172),HD.en P "__cached__" 174 (.none),HD.en P "BundleError" 206 (.ref 24),HD.en P "RefusedAt" 233 (.ref 44),HD.en P "NoRow" 258 (.ref 63),HD.en P "Twice" 274 (.ref 75),HD.en P "NoPart" 290 (.ref 87),HD.en P "NoName" 306 (.ref 99),HD.en P "NotGiven" 322 (.ref 111),HD.en P "Endless" 347 (.ref 130),HD.en P "Asks" 363 (.ref 142),HD.en P "TooMany" 388 (.ref 161),HD.en P "NoPlace" 404 (.ref 173),HD.en P "NoMap" 420 (.ref 185),HD.en P "placed_rows" 434 (.ref 194),HD.en P "given_owns" 445 (.ref 201),HD.en P "links" 459 (.ref 208),HD.en P "makers" 472 (.ref 215),HD.en P "made" 483 (.ref 222),HD.en P "brings" 491 (.ref 229),HD.en P "named_parts" 502 (.ref 236),HD.en P "order" 513 (.ref 243),HD.en P "new_names" 528 (.ref 250),HD.en P "numbered" 537 (.ref 257),HD.en P "makers_names" 552 (.ref 264),HD.en P "renamed_row" 562 (.ref 271),HD.en P "renamed_sum" 568 (.ref 276),HD.en P "renamed_thing" 577 (.ref 283),HD.en P "renamed_when" 586 (.ref 290),HD.en P "flat" 594 (.ref 295),HD.en P "refuse_asks" 606 (.ref 302),HD.en P "work_in_order" 620 (.ref 309),HD.en P "last_first" 626 (.ref 314),HD.en P "_law_cell_at" 636 (.ref 321),HD.en P "_law_stream" 647 (.ref 328),HD.en P "_law_name" 660 (.ref 335),HD.en P "_law_pool" 668 (.ref 342),HD.en P "_law_begun" 679 (.ref 349),HD.en P "_law_fresh" 688 (.ref 356),HD.en P "_law_pairs" 704 (.ref 363),HD.en P "_law_added" 720 (.ref 370),HD.en P "_law_sum" 732 (.ref 377),HD.en P "_law_row" 746 (.ref 384),HD.en P "_law_finished" 752 (.ref 389),HD.en P "_law_pools" 762 (.ref 396),HD.en P "_law_parts" 772 (.ref 403),HD.en P "_law_some_asks" 778 (.ref 408),HD.en P "_law_begun_by" 790 (.ref 415),HD.en P "_law_due" 802 (.ref 422),HD.en P "_law_refused" 813 (.ref 429),HD.en P "_law_right" 823 (.ref 436),HD.en P "law" 829 (.ref 441)] 59})::
 (nat_lit 15,{cls:= .type "tuple",data:= .seq #[.type "ValueError"]})::
 (nat_lit 22,{cls:= .type "tuple",data:= .seq #[]})::
 (nat_lit 23,{cls:= .type "dict",data:= .dict #[HD.en P "__module__" 196 (.str "bundlehouse.errors" 187),HD.en P "__firstlineno__" 200 (.int 2 199),HD.en P "__static_attributes__" 201 (.ref 22),HD.en P "__weakref__" 203 (.ref 25),HD.en P "__doc__" 204 (.none)] 3})::
 (nat_lit 24,{cls:= .type "type",data:= .cls {name:="BundleError",bases:=[.type "ValueError"],mro:=[.ref 24,.type "ValueError",.type "Exception",.type "BaseException",.type "object"],ns:=23,qualname:="BundleError",subclasses:=[.ref 44,.ref 63,.ref 130,.ref 161,.ref 173,.ref 185]},slots:= #[some (.ref 15),none,some (.str "BundleError" 189),some (.str "BundleError" 197),some (.builtin "ValueError.__new__"),some (.bool true)]})::
 (nat_lit 25,{cls:= .type "getset_descriptor",data:= .fields #[.str "__weakref__" 202,.ref 24,.builtin "ExceptionGroup.__weakref__",.none]})::
 (nat_lit 28,{cls:= .type "tuple",data:= .seq #[.ref 24]})::
 (nat_lit 35,{cls:= .type "tuple",data:= .seq #[]})::
 (nat_lit 37,{cls:= .type "tuple",data:= .seq #[.str "self" 222,.str "part" 223,.str "row" 224]})::
 (nat_lit 38,{cls:= .type "tuple",data:= .seq #[]})::
 (nat_lit 40,{cls:= .type "code",data:= .fields #[.str "__init__" 219,.str "RefusedAt.__init__" 220,.str "/claim/cut.py" 221,.int 6 0,.int 3 0,.int 0 0,.int 0 0,.int 3 0,.ref 35,.bool true,.int 181 0,.ref 36,.none,.ref 37,.ref 38,.ref 39,.int 225 0,.int 6 0,.str "/claim/cut.py" 226]})::
 (nat_lit 41,⟨.type "function",none,.func (W.fnOf "__init__" "RefusedAt.__init__" (HD.dA (HD.inC (HD.tp zP 2) 0)) (HD.dB (HD.inC (HD.tp zP 2) 0)) (HD.dS (HD.inC (HD.tp zP 2) 0)) (.none) (.none) (.none) (.str "bundlehouse.errors" 187) (none) (.ref 40) (.none)), #[]⟩)::
 (nat_lit 42,{cls:= .type "tuple",data:= .seq #[.str "part" 228,.str "row" 229]})::
 (nat_lit 43,{cls:= .type "dict",data:= .dict #[HD.en P "__module__" 214 (.str "bundlehouse.errors" 187),HD.en P "__firstlineno__" 218 (.int 4 217),HD.en P "__init__" 227 (.ref 41),HD.en P "__static_attributes__" 230 (.ref 42),HD.en P "__doc__" 231 (.none)] 2})::
 (nat_lit 44,{cls:= .type "type",data:= .cls {name:="RefusedAt",bases:=[.ref 24],mro:=[.ref 44,.ref 24,.type "ValueError",.type "Exception",.type "BaseException",.type "object"],ns:=43,qualname:="RefusedAt",subclasses:=[.ref 75,.ref 87,.ref 99,.ref 111,.ref 142]},slots:= #[some (.ref 28),none,some (.str "RefusedAt" 207),some (.str "RefusedAt" 215),some (.builtin "ValueError.__new__"),some (.bool true)]})::
 (nat_lit 47,{cls:= .type "tuple",data:= .seq #[.ref 24]})::
 (nat_lit 54,{cls:= .type "tuple",data:= .seq #[]})::
 (nat_lit 56,{cls:= .type "tuple",data:= .seq #[.str "self" 249,.str "number" 250]})::
 (nat_lit 57,{cls:= .type "tuple",data:= .seq #[]})::
 (nat_lit 59,{cls:= .type "code",data:= .fields #[.str "__init__" 246,.str "NoRow.__init__" 247,.str "/claim/cut.py" 248,.int 12 0,.int 2 0,.int 0 0,.int 0 0,.int 3 0,.ref 54,.bool true,.int 181 0,.ref 55,.none,.ref 56,.ref 57,.ref 58,.int 251 0,.int 12 0,.str "/claim/cut.py" 252]})::
 (nat_lit 61,{cls:= .type "tuple",data:= .seq #[.str "number" 254]})::
 (nat_lit 62,{cls:= .type "dict",data:= .dict #[HD.en P "__module__" 241 (.str "bundlehouse.errors" 187),HD.en P "__firstlineno__" 245 (.int 10 244),HD.en P "__init__" 253 (.ref 60),HD.en P "__static_attributes__" 255 (.ref 61),HD.en P "__doc__" 256 (.none)] 2})::
 (nat_lit 63,{cls:= .type "type",data:= .cls {name:="NoRow",bases:=[.ref 24],mro:=[.ref 63,.ref 24,.type "ValueError",.type "Exception",.type "BaseException",.type "object"],ns:=62,qualname:="NoRow"},slots:= #[some (.ref 47),none,some (.str "NoRow" 234),some (.str "NoRow" 242),some (.builtin "ValueError.__new__"),some (.bool true)]})::
 (nat_lit 66,{cls:= .type "tuple",data:= .seq #[.ref 44]})::
 (nat_lit 73,{cls:= .type "tuple",data:= .seq #[]})::
 (nat_lit 74,{cls:= .type "dict",data:= .dict #[HD.en P "__module__" 266 (.str "bundlehouse.errors" 187),HD.en P "__firstlineno__" 270 (.int 15 269),HD.en P "__static_attributes__" 271 (.ref 73),HD.en P "__doc__" 272 (.none)] 2})::
 (nat_lit 75,{cls:= .type "type",data:= .cls {name:="Twice",bases:=[.ref 44],mro:=[.ref 75,.ref 44,.ref 24,.type "ValueError",.type "Exception",.type "BaseException",.type "object"],ns:=74,qualname:="Twice"},slots:= #[some (.ref 66),none,some (.str "Twice" 259),some (.str "Twice" 267),some (.builtin "ValueError.__new__"),some (.bool true)]})::
 (nat_lit 78,{cls:= .type "tuple",data:= .seq #[.ref 44]})::
 (nat_lit 85,{cls:= .type "tuple",data:= .seq #[]})::
 (nat_lit 86,{cls:= .type "dict",data:= .dict #[HD.en P "__module__" 282 (.str "bundlehouse.errors" 187),HD.en P "__firstlineno__" 286 (.int 17 285),HD.en P "__static_attributes__" 287 (.ref 85),HD.en P "__doc__" 288 (.none)] 2})::
 (nat_lit 87,{cls:= .type "type",data:= .cls {name:="NoPart",bases:=[.ref 44],mro:=[.ref 87,.ref 44,.ref 24,.type "ValueError",.type "Exception",.type "BaseException",.type "object"],ns:=86,qualname:="NoPart"},slots:= #[some (.ref 78),none,some (.str "NoPart" 275),some (.str "NoPart" 283),some (.builtin "ValueError.__new__"),some (.bool true)]})::
 (nat_lit 90,{cls:= .type "tuple",data:= .seq #[.ref 44]})::
 (nat_lit 97,{cls:= .type "tuple",data:= .seq #[]})::
 (nat_lit 98,{cls:= .type "dict",data:= .dict #[HD.en P "__module__" 298 (.str "bundlehouse.errors" 187),HD.en P "__firstlineno__" 302 (.int 19 301),HD.en P "__static_attributes__" 303 (.ref 97),HD.en P "__doc__" 304 (.none)] 2})::
 (nat_lit 99,{cls:= .type "type",data:= .cls {name:="NoName",bases:=[.ref 44],mro:=[.ref 99,.ref 44,.ref 24,.type "ValueError",.type "Exception",.type "BaseException",.type "object"],ns:=98,qualname:="NoName"},slots:= #[some (.ref 90),none,some (.str "NoName" 291),some (.str "NoName" 299),some (.builtin "ValueError.__new__"),some (.bool true)]})::
 (nat_lit 102,{cls:= .type "tuple",data:= .seq #[.ref 44]})::
 (nat_lit 109,{cls:= .type "tuple",data:= .seq #[]})::
 (nat_lit 110,{cls:= .type "dict",data:= .dict #[HD.en P "__module__" 314 (.str "bundlehouse.errors" 187),HD.en P "__firstlineno__" 318 (.int 21 317),HD.en P "__static_attributes__" 319 (.ref 109),HD.en P "__doc__" 320 (.none)] 2})::
 (nat_lit 111,{cls:= .type "type",data:= .cls {name:="NotGiven",bases:=[.ref 44],mro:=[.ref 111,.ref 44,.ref 24,.type "ValueError",.type "Exception",.type "BaseException",.type "object"],ns:=110,qualname:="NotGiven"},slots:= #[some (.ref 102),none,some (.str "NotGiven" 307),some (.str "NotGiven" 315),some (.builtin "ValueError.__new__"),some (.bool true)]})::
 (nat_lit 114,{cls:= .type "tuple",data:= .seq #[.ref 24]})::
 (nat_lit 121,{cls:= .type "tuple",data:= .seq #[]})::
 (nat_lit 123,{cls:= .type "tuple",data:= .seq #[.str "self" 338,.str "way" 339]})::
 (nat_lit 124,{cls:= .type "tuple",data:= .seq #[]})::
 (nat_lit 126,{cls:= .type "code",data:= .fields #[.str "__init__" 335,.str "Endless.__init__" 336,.str "/claim/cut.py" 337,.int 25 0,.int 2 0,.int 0 0,.int 0 0,.int 3 0,.ref 121,.bool true,.int 181 0,.ref 122,.none,.ref 123,.ref 124,.ref 125,.int 340 0,.int 25 0,.str "/claim/cut.py" 341]})::
 (nat_lit 128,{cls:= .type "tuple",data:= .seq #[.str "way" 343]})::
 (nat_lit 129,{cls:= .type "dict",data:= .dict #[HD.en P "__module__" 330 (.str "bundlehouse.errors" 187),HD.en P "__firstlineno__" 334 (.int 23 333),HD.en P "__init__" 342 (.ref 127),HD.en P "__static_attributes__" 344 (.ref 128),HD.en P "__doc__" 345 (.none)] 2})::
 (nat_lit 130,{cls:= .type "type",data:= .cls {name:="Endless",bases:=[.ref 24],mro:=[.ref 130,.ref 24,.type "ValueError",.type "Exception",.type "BaseException",.type "object"],ns:=129,qualname:="Endless"},slots:= #[some (.ref 114),none,some (.str "Endless" 323),some (.str "Endless" 331),some (.builtin "ValueError.__new__"),some (.bool true)]})::
 (nat_lit 133,{cls:= .type "tuple",data:= .seq #[.ref 44]})::
 (nat_lit 140,{cls:= .type "tuple",data:= .seq #[]})::
 (nat_lit 141,{cls:= .type "dict",data:= .dict #[HD.en P "__module__" 355 (.str "bundlehouse.errors" 187),HD.en P "__firstlineno__" 359 (.int 28 358),HD.en P "__static_attributes__" 360 (.ref 140),HD.en P "__doc__" 361 (.none)] 2})::
 (nat_lit 142,{cls:= .type "type",data:= .cls {name:="Asks",bases:=[.ref 44],mro:=[.ref 142,.ref 44,.ref 24,.type "ValueError",.type "Exception",.type "BaseException",.type "object"],ns:=141,qualname:="Asks"},slots:= #[some (.ref 133),none,some (.str "Asks" 348),some (.str "Asks" 356),some (.builtin "ValueError.__new__"),some (.bool true)]})::
 (nat_lit 145,{cls:= .type "tuple",data:= .seq #[.ref 24]})::
 (nat_lit 152,{cls:= .type "tuple",data:= .seq #[]})::
 (nat_lit 154,{cls:= .type "tuple",data:= .seq #[.str "self" 379,.str "parts" 380]})::
 (nat_lit 155,{cls:= .type "tuple",data:= .seq #[]})::
 (nat_lit 157,{cls:= .type "code",data:= .fields #[.str "__init__" 376,.str "TooMany.__init__" 377,.str "/claim/cut.py" 378,.int 32 0,.int 2 0,.int 0 0,.int 0 0,.int 3 0,.ref 152,.bool true,.int 181 0,.ref 153,.none,.ref 154,.ref 155,.ref 156,.int 381 0,.int 32 0,.str "/claim/cut.py" 382]})::
 (nat_lit 159,{cls:= .type "tuple",data:= .seq #[.str "parts" 384]})::
 (nat_lit 160,{cls:= .type "dict",data:= .dict #[HD.en P "__module__" 371 (.str "bundlehouse.errors" 187),HD.en P "__firstlineno__" 375 (.int 30 374),HD.en P "__init__" 383 (.ref 158),HD.en P "__static_attributes__" 385 (.ref 159),HD.en P "__doc__" 386 (.none)] 2})::
 (nat_lit 161,{cls:= .type "type",data:= .cls {name:="TooMany",bases:=[.ref 24],mro:=[.ref 161,.ref 24,.type "ValueError",.type "Exception",.type "BaseException",.type "object"],ns:=160,qualname:="TooMany"},slots:= #[some (.ref 145),none,some (.str "TooMany" 364),some (.str "TooMany" 372),some (.builtin "ValueError.__new__"),some (.bool true)]})::
 (nat_lit 164,{cls:= .type "tuple",data:= .seq #[.ref 24]})::
 (nat_lit 171,{cls:= .type "tuple",data:= .seq #[]})::
 (nat_lit 172,{cls:= .type "dict",data:= .dict #[HD.en P "__module__" 396 (.str "bundlehouse.errors" 187),HD.en P "__firstlineno__" 400 (.int 35 399),HD.en P "__static_attributes__" 401 (.ref 171),HD.en P "__doc__" 402 (.none)] 2})::
 (nat_lit 173,{cls:= .type "type",data:= .cls {name:="NoPlace",bases:=[.ref 24],mro:=[.ref 173,.ref 24,.type "ValueError",.type "Exception",.type "BaseException",.type "object"],ns:=172,qualname:="NoPlace"},slots:= #[some (.ref 164),none,some (.str "NoPlace" 389),some (.str "NoPlace" 397),some (.builtin "ValueError.__new__"),some (.bool true)]})::
 (nat_lit 176,{cls:= .type "tuple",data:= .seq #[.ref 24]})::
 (nat_lit 183,{cls:= .type "tuple",data:= .seq #[]})::
 (nat_lit 184,{cls:= .type "dict",data:= .dict #[HD.en P "__module__" 412 (.str "bundlehouse.errors" 187),HD.en P "__firstlineno__" 416 (.int 37 415),HD.en P "__static_attributes__" 417 (.ref 183),HD.en P "__doc__" 418 (.none)] 2})::
 (nat_lit 185,{cls:= .type "type",data:= .cls {name:="NoMap",bases:=[.ref 24],mro:=[.ref 185,.ref 24,.type "ValueError",.type "Exception",.type "BaseException",.type "object"],ns:=184,qualname:="NoMap"},slots:= #[some (.ref 176),none,some (.str "NoMap" 405),some (.str "NoMap" 413),some (.builtin "ValueError.__new__"),some (.bool true)]})::
 (nat_lit 188,{cls:= .type "tuple",data:= .seq #[]})::
 (nat_lit 190,{cls:= .type "tuple",data:= .seq #[.str "parts" 426,.str "found" 427,.str "part" 428,.str "rows" 429,.str "number" 430,.str "row" 431]})::
 (nat_lit 191,{cls:= .type "tuple",data:= .seq #[]})::
 (nat_lit 193,{cls:= .type "code",data:= .fields #[.str "placed_rows" 423,.str "placed_rows" 424,.str "/claim/cut.py" 425,.int 40 0,.int 1 0,.int 0 0,.int 0 0,.int 3 0,.ref 188,.bool true,.int 181 0,.ref 189,.none,.ref 190,.ref 191,.ref 192,.int 432 0,.int 40 0,.str "/claim/cut.py" 433]})::
 (nat_lit 194,⟨.type "function",none,.func (W.fnOf "placed_rows" "placed_rows" (HD.dA (HD.tp zP 14)) (HD.dB (HD.tp zP 14)) (HD.dS (HD.tp zP 14)) (.none) (.none) (.none) (.str "bundlehouse.net" 421) (none) (.ref 193) (.none)), #[]⟩)::
 (nat_lit 195,{cls:= .type "tuple",data:= .seq #[]})::
 (nat_lit 197,{cls:= .type "tuple",data:= .seq #[.str "parts" 438,.str "owns" 439,.str "part" 440,.str "number" 441,.str "row" 442]})::
 (nat_lit 198,{cls:= .type "tuple",data:= .seq #[]})::
 (nat_lit 200,{cls:= .type "code",data:= .fields #[.str "given_owns" 435,.str "given_owns" 436,.str "/claim/cut.py" 437,.int 46 0,.int 1 0,.int 0 0,.int 0 0,.int 3 0,.ref 195,.bool true,.int 181 0,.ref 196,.none,.ref 197,.ref 198,.ref 199,.int 443 0,.int 46 0,.str "/claim/cut.py" 444]})::
 (nat_lit 201,⟨.type "function",none,.func (W.fnOf "given_owns" "given_owns" (HD.dA (HD.tp zP 15)) (HD.dB (HD.tp zP 15)) (HD.dS (HD.tp zP 15)) (.none) (.none) (.none) (.str "bundlehouse.net" 421) (none) (.ref 200) (.none)), #[]⟩)::
 (nat_lit 202,{cls:= .type "tuple",data:= .seq #[]})::
 (nat_lit 204,{cls:= .type "tuple",data:= .seq #[.str "parts" 449,.str "owns" 450,.str "onward" 451,.str "part" 452,.str "number" 453,.str "row" 454,.str "given" 455,.str "own" 456]})::
 (nat_lit 205,{cls:= .type "tuple",data:= .seq #[]})::
 (nat_lit 207,{cls:= .type "code",data:= .fields #[.str "links" 446,.str "links" 447,.str "/claim/cut.py" 448,.int 52 0,.int 1 0,.int 0 0,.int 0 0,.int 3 0,.ref 202,.bool true,.int 181 0,.ref 203,.none,.ref 204,.ref 205,.ref 206,.int 457 0,.int 52 0,.str "/claim/cut.py" 458]})::
 (nat_lit 208,⟨.type "function",none,.func (W.fnOf "links" "links" (HD.dA (HD.tp zP 16)) (HD.dB (HD.tp zP 16)) (HD.dS (HD.tp zP 16)) (.none) (.none) (.none) (.str "bundlehouse.net" 421) (none) (.ref 207) (.none)), #[]⟩)::
 (nat_lit 209,{cls:= .type "tuple",data:= .seq #[]})::
 (nat_lit 211,{cls:= .type "tuple",data:= .seq #[.str "parts" 463,.str "found" 464,.str "onward" 465,.str "start" 466,.str "way" 467,.str "here" 468,.str "name" 469]})::
 (nat_lit 212,{cls:= .type "tuple",data:= .seq #[]})::
 (nat_lit 214,{cls:= .type "code",data:= .fields #[.str "makers" 460,.str "makers" 461,.str "/claim/cut.py" 462,.int 60 0,.int 1 0,.int 0 0,.int 0 0,.int 3 0,.ref 209,.bool true,.int 181 0,.ref 210,.none,.ref 211,.ref 212,.ref 213,.int 470 0,.int 60 0,.str "/claim/cut.py" 471]})::
 (nat_lit 215,⟨.type "function",none,.func (W.fnOf "makers" "makers" (HD.dA (HD.tp zP 17)) (HD.dB (HD.tp zP 17)) (HD.dS (HD.tp zP 17)) (.none) (.none) (.none) (.str "bundlehouse.net" 421) (none) (.ref 214) (.none)), #[]⟩)::
 (nat_lit 216,{cls:= .type "tuple",data:= .seq #[]})::
 (nat_lit 218,{cls:= .type "tuple",data:= .seq #[.str "parts" 476,.str "found" 477,.str "part" 478,.str "number" 479,.str "row" 480]})::
 (nat_lit 219,{cls:= .type "tuple",data:= .seq #[]})::
 (nat_lit 221,{cls:= .type "code",data:= .fields #[.str "made" 473,.str "made" 474,.str "/claim/cut.py" 475,.int 72 0,.int 1 0,.int 0 0,.int 0 0,.int 3 0,.ref 216,.bool true,.int 181 0,.ref 217,.none,.ref 218,.ref 219,.ref 220,.int 481 0,.int 72 0,.str "/claim/cut.py" 482]})::
 (nat_lit 222,⟨.type "function",none,.func (W.fnOf "made" "made" (HD.dA (HD.tp zP 18)) (HD.dB (HD.tp zP 18)) (HD.dS (HD.tp zP 18)) (.none) (.none) (.none) (.str "bundlehouse.net" 421) (none) (.ref 221) (.none)), #[]⟩)::
 (nat_lit 223,{cls:= .type "tuple",data:= .seq #[]})::
 (nat_lit 225,{cls:= .type "tuple",data:= .seq #[.str "parts" 487,.str "part" 488]})::
 (nat_lit 226,{cls:= .type "tuple",data:= .seq #[]})::
 (nat_lit 228,{cls:= .type "code",data:= .fields #[.str "brings" 484,.str "brings" 485,.str "/claim/cut.py" 486,.int 78 0,.int 2 0,.int 0 0,.int 0 0,.int 3 0,.ref 223,.bool true,.int 181 0,.ref 224,.none,.ref 225,.ref 226,.ref 227,.int 489 0,.int 78 0,.str "/claim/cut.py" 490]})::
 (nat_lit 229,⟨.type "function",none,.func (W.fnOf "brings" "brings" (HD.dA (HD.tp zP 19)) (HD.dB (HD.tp zP 19)) (HD.dS (HD.tp zP 19)) (.none) (.none) (.none) (.str "bundlehouse.net" 421) (none) (.ref 228) (.none)), #[]⟩)::
 (nat_lit 230,{cls:= .type "tuple",data:= .seq #[]})::
 (nat_lit 232,{cls:= .type "tuple",data:= .seq #[.str "parts" 495,.str "part" 496,.str "kind" 497,.str "found" 498,.str "row" 499]})::
 (nat_lit 233,{cls:= .type "tuple",data:= .seq #[]})::
 (nat_lit 235,{cls:= .type "code",data:= .fields #[.str "named_parts" 492,.str "named_parts" 493,.str "/claim/cut.py" 494,.int 80 0,.int 3 0,.int 0 0,.int 0 0,.int 3 0,.ref 230,.bool true,.int 181 0,.ref 231,.none,.ref 232,.ref 233,.ref 234,.int 500 0,.int 80 0,.str "/claim/cut.py" 501]})::
 (nat_lit 236,⟨.type "function",none,.func (W.fnOf "named_parts" "named_parts" (HD.dA (HD.tp zP 20)) (HD.dB (HD.tp zP 20)) (HD.dS (HD.tp zP 20)) (.none) (.none) (.none) (.str "bundlehouse.net" 421) (none) (.ref 235) (.none)), #[]⟩)::
 (nat_lit 237,{cls:= .type "tuple",data:= .seq #[]})::
 (nat_lit 239,{cls:= .type "tuple",data:= .seq #[.str "parts" 506,.str "root" 507,.str "begun" 508,.str "waiting" 509,.str "part" 510]})::
 (nat_lit 240,{cls:= .type "tuple",data:= .seq #[]})::
 (nat_lit 242,{cls:= .type "code",data:= .fields #[.str "order" 503,.str "order" 504,.str "/claim/cut.py" 505,.int 86 0,.int 2 0,.int 0 0,.int 0 0,.int 3 0,.ref 237,.bool true,.int 181 0,.ref 238,.none,.ref 239,.ref 240,.ref 241,.int 511 0,.int 86 0,.str "/claim/cut.py" 512]})::
 (nat_lit 243,⟨.type "function",none,.func (W.fnOf "order" "order" (HD.dA (HD.tp zP 21)) (HD.dB (HD.tp zP 21)) (HD.dS (HD.tp zP 21)) (.none) (.none) (.none) (.str "bundlehouse.net" 421) (none) (.ref 242) (.none)), #[]⟩)::
 (nat_lit 244,{cls:= .type "tuple",data:= .seq #[]})::
 (nat_lit 246,{cls:= .type "tuple",data:= .seq #[.str "parts" 519,.str "owns" 520,.str "used" 521,.str "part" 522,.str "own" 523,.str "found" 524,.str "new" 525]})::
 (nat_lit 247,{cls:= .type "tuple",data:= .seq #[]})::
 (nat_lit 249,{cls:= .type "code",data:= .fields #[.str "new_names" 516,.str "new_names" 517,.str "/claim/cut.py" 518,.int 96 0,.int 1 0,.int 0 0,.int 0 0,.int 3 0,.ref 244,.bool true,.int 181 0,.ref 245,.none,.ref 246,.ref 247,.ref 248,.int 526 0,.int 96 0,.str "/claim/cut.py" 527]})::
 (nat_lit 250,⟨.type "function",none,.func (W.fnOf "new_names" "new_names" (HD.dA (HD.tp zP 23)) (HD.dB (HD.tp zP 23)) (HD.dS (HD.tp zP 23)) (.none) (.none) (.none) (.str "bundlehouse.names" 514) (none) (.ref 249) (.none)), #[]⟩)::
 (nat_lit 251,{cls:= .type "tuple",data:= .seq #[]})::
 (nat_lit 253,{cls:= .type "tuple",data:= .seq #[.str "own" 532,.str "used" 533,.str "number" 534]})::
 (nat_lit 254,{cls:= .type "tuple",data:= .seq #[]})::
 (nat_lit 256,{cls:= .type "code",data:= .fields #[.str "numbered" 529,.str "numbered" 530,.str "/claim/cut.py" 531,.int 107 0,.int 2 0,.int 0 0,.int 0 0,.int 3 0,.ref 251,.bool true,.int 181 0,.ref 252,.none,.ref 253,.ref 254,.ref 255,.int 535 0,.int 107 0,.str "/claim/cut.py" 536]})::
 (nat_lit 257,⟨.type "function",none,.func (W.fnOf "numbered" "numbered" (HD.dA (HD.tp zP 24)) (HD.dB (HD.tp zP 24)) (HD.dS (HD.tp zP 24)) (.none) (.none) (.none) (.str "bundlehouse.names" 514) (none) (.ref 256) (.none)), #[]⟩)::
 (nat_lit 258,{cls:= .type "tuple",data:= .seq #[]})::
 (nat_lit 260,{cls:= .type "tuple",data:= .seq #[.str "parts" 541,.str "places" 542,.str "news" 543,.str "part" 544,.str "own" 545,.str "new" 546,.str "found" 547,.str "name" 548,.str "place" 549]})::
 (nat_lit 261,{cls:= .type "tuple",data:= .seq #[]})::
 (nat_lit 263,{cls:= .type "code",data:= .fields #[.str "makers_names" 538,.str "makers_names" 539,.str "/claim/cut.py" 540,.int 112 0,.int 1 0,.int 0 0,.int 0 0,.int 3 0,.ref 258,.bool true,.int 181 0,.ref 259,.none,.ref 260,.ref 261,.ref 262,.int 550 0,.int 112 0,.str "/claim/cut.py" 551]})::
 (nat_lit 264,⟨.type "function",none,.func (W.fnOf "makers_names" "makers_names" (HD.dA (HD.tp zP 25)) (HD.dB (HD.tp zP 25)) (HD.dS (HD.tp zP 25)) (.none) (.none) (.none) (.str "bundlehouse.names" 514) (none) (.ref 263) (.none)), #[]⟩)::
 (nat_lit 265,{cls:= .type "tuple",data:= .seq #[]})::
 (nat_lit 267,{cls:= .type "tuple",data:= .seq #[.str "part" 556,.str "row" 557,.str "news" 558,.str "kind" 559]})::
 (nat_lit 268,{cls:= .type "tuple",data:= .seq #[]})::
 (nat_lit 270,{cls:= .type "code",data:= .fields #[.str "renamed_row" 553,.str "renamed_row" 554,.str "/claim/cut.py" 555,.int 121 0,.int 3 0,.int 0 0,.int 0 0,.int 3 0,.ref 265,.bool true,.int 181 0,.ref 266,.none,.ref 267,.ref 268,.ref 269,.int 560 0,.int 121 0,.str "/claim/cut.py" 561]})::
 (nat_lit 271,⟨.type "function",none,.func (W.fnOf "renamed_row" "renamed_row" (HD.dA (HD.tp zP 26)) (HD.dB (HD.tp zP 26)) (HD.dS (HD.tp zP 26)) (.none) (.none) (.none) (.str "bundlehouse.names" 514) (none) (.ref 270) (.none)), #[]⟩)::
 (nat_lit 272,{cls:= .type "tuple",data:= .seq #[]})::
 (nat_lit 275,{cls:= .type "code",data:= .fields #[.str "renamed_sum" 563,.str "renamed_sum" 564,.str "/claim/cut.py" 565,.int 132 0,.int 3 0,.int 0 0,.int 0 0,.int 3 0,.ref 272,.bool true,.int 181 0,.ref 273,.none,.none,.none,.ref 274,.int 566 0,.int 132 0,.str "/claim/cut.py" 567]})::
 (nat_lit 276,⟨.type "function",none,.func (W.fnOf "renamed_sum" "renamed_sum" (HD.dA (HD.tp zP 27)) (HD.dB (HD.tp zP 27)) (HD.dS (HD.tp zP 27)) (.none) (.none) (.none) (.str "bundlehouse.names" 514) (none) (.ref 275) (.none)), #[]⟩)::
 (nat_lit 277,{cls:= .type "tuple",data:= .seq #[]})::
 (nat_lit 279,{cls:= .type "tuple",data:= .seq #[.str "part" 572,.str "thing" 573,.str "news" 574]})::
 (nat_lit 280,{cls:= .type "tuple",data:= .seq #[]})::
 (nat_lit 282,{cls:= .type "code",data:= .fields #[.str "renamed_thing" 569,.str "renamed_thing" 570,.str "/claim/cut.py" 571,.int 134 0,.int 3 0,.int 0 0,.int 0 0,.int 3 0,.ref 277,.bool true,.int 181 0,.ref 278,.none,.ref 279,.ref 280,.ref 281,.int 575 0,.int 134 0,.str "/claim/cut.py" 576]})::
 (nat_lit 283,⟨.type "function",none,.func (W.fnOf "renamed_thing" "renamed_thing" (HD.dA (HD.tp zP 28)) (HD.dB (HD.tp zP 28)) (HD.dS (HD.tp zP 28)) (.none) (.none) (.none) (.str "bundlehouse.names" 514) (none) (.ref 282) (.none)), #[]⟩)::
 (nat_lit 284,{cls:= .type "tuple",data:= .seq #[]})::
 (nat_lit 286,{cls:= .type "tuple",data:= .seq #[.str "part" 581,.str "when" 582,.str "news" 583]})::
 (nat_lit 287,{cls:= .type "tuple",data:= .seq #[]})::
 (nat_lit 289,{cls:= .type "code",data:= .fields #[.str "renamed_when" 578,.str "renamed_when" 579,.str "/claim/cut.py" 580,.int 138 0,.int 3 0,.int 0 0,.int 0 0,.int 3 0,.ref 284,.bool true,.int 181 0,.ref 285,.none,.ref 286,.ref 287,.ref 288,.int 584 0,.int 138 0,.str "/claim/cut.py" 585]})::
 (nat_lit 290,⟨.type "function",none,.func (W.fnOf "renamed_when" "renamed_when" (HD.dA (HD.tp zP 29)) (HD.dB (HD.tp zP 29)) (HD.dS (HD.tp zP 29)) (.none) (.none) (.none) (.str "bundlehouse.names" 514) (none) (.ref 289) (.none)), #[]⟩)::
 (nat_lit 291,{cls:= .type "tuple",data:= .seq #[]})::
 (nat_lit 294,{cls:= .type "code",data:= .fields #[.str "flat" 589,.str "flat" 590,.str "/claim/cut.py" 591,.int 143 0,.int 2 0,.int 0 0,.int 0 0,.int 3 0,.ref 291,.bool true,.int 181 0,.ref 292,.none,.none,.none,.ref 293,.int 592 0,.int 143 0,.str "/claim/cut.py" 593]})::
 (nat_lit 295,⟨.type "function",none,.func (W.fnOf "flat" "flat" (HD.dA (HD.tp zP 31)) (HD.dB (HD.tp zP 31)) (HD.dS (HD.tp zP 31)) (.none) (.none) (.none) (.str "bundlehouse.flat" 587) (none) (.ref 294) (.none)), #[]⟩)::
 (nat_lit 296,{cls:= .type "tuple",data:= .seq #[]})::
 (nat_lit 298,{cls:= .type "tuple",data:= .seq #[.str "parts" 598,.str "root" 599,.str "rows" 600,.str "part" 601,.str "number" 602,.str "row" 603]})::
 (nat_lit 299,{cls:= .type "tuple",data:= .seq #[]})::
 (nat_lit 301,{cls:= .type "code",data:= .fields #[.str "refuse_asks" 595,.str "refuse_asks" 596,.str "/claim/cut.py" 597,.int 150 0,.int 2 0,.int 0 0,.int 0 0,.int 3 0,.ref 296,.bool true,.int 181 0,.ref 297,.none,.ref 298,.ref 299,.ref 300,.int 604 0,.int 150 0,.str "/claim/cut.py" 605]})::
 (nat_lit 302,⟨.type "function",none,.func (W.fnOf "refuse_asks" "refuse_asks" (HD.dA (HD.tp zP 32)) (HD.dB (HD.tp zP 32)) (HD.dS (HD.tp zP 32)) (.none) (.none) (.none) (.str "bundlehouse.flat" 587) (none) (.ref 301) (.none)), #[]⟩)::
 (nat_lit 303,{cls:= .type "tuple",data:= .seq #[]})::
 (nat_lit 305,{cls:= .type "tuple",data:= .seq #[.str "parts" 610,.str "root" 611,.str "rows" 612,.str "begun" 613,.str "waiting" 614,.str "work" 615,.str "step" 616,.str "row" 617]})::
 (nat_lit 306,{cls:= .type "tuple",data:= .seq #[]})::
 (nat_lit 308,{cls:= .type "code",data:= .fields #[.str "work_in_order" 607,.str "work_in_order" 608,.str "/claim/cut.py" 609,.int 156 0,.int 2 0,.int 0 0,.int 0 0,.int 3 0,.ref 303,.bool true,.int 181 0,.ref 304,.none,.ref 305,.ref 306,.ref 307,.int 618 0,.int 156 0,.str "/claim/cut.py" 619]})::
 (nat_lit 309,⟨.type "function",none,.func (W.fnOf "work_in_order" "work_in_order" (HD.dA (HD.tp zP 33)) (HD.dB (HD.tp zP 33)) (HD.dS (HD.tp zP 33)) (.none) (.none) (.none) (.str "bundlehouse.flat" 587) (none) (.ref 308) (.none)), #[]⟩)::
 (nat_lit 310,{cls:= .type "tuple",data:= .seq #[]})::
 (nat_lit 313,{cls:= .type "code",data:= .fields #[.str "last_first" 621,.str "last_first" 622,.str "/claim/cut.py" 623,.int 170 0,.int 2 0,.int 0 0,.int 0 0,.int 3 0,.ref 310,.bool true,.int 181 0,.ref 311,.none,.none,.none,.ref 312,.int 624 0,.int 170 0,.str "/claim/cut.py" 625]})::
 (nat_lit 314,⟨.type "function",none,.func (W.fnOf "last_first" "last_first" (HD.dA (HD.tp zP 34)) (HD.dB (HD.tp zP 34)) (HD.dS (HD.tp zP 34)) (.none) (.none) (.none) (.str "bundlehouse.flat" 587) (none) (.ref 313) (.none)), #[]⟩)::
 (nat_lit 315,{cls:= .type "tuple",data:= .seq #[]})::
 (nat_lit 317,{cls:= .type "tuple",data:= .seq #[.str "_law_script" 632,.str "_law_k" 633]})::
 (nat_lit 318,{cls:= .type "tuple",data:= .seq #[]})::
 (nat_lit 320,{cls:= .type "code",data:= .fields #[.str "_law_cell_at" 629,.str "_law_cell_at" 630,.str "/claim/cut.py" 631,.int 174 0,.int 2 0,.int 0 0,.int 0 0,.int 3 0,.ref 315,.bool true,.int 181 0,.ref 316,.none,.ref 317,.ref 318,.ref 319,.int 634 0,.int 174 0,.str "/claim/cut.py" 635]})::
 (nat_lit 321,⟨.type "function",none,.func (W.fnOf "_law_cell_at" "_law_cell_at" (HD.dA (HD.tp zP 36)) (HD.dB (HD.tp zP 36)) (HD.dS (HD.tp zP 36)) (.none) (.none) (.none) (.str "law_bundlehouse_k44_parts_that_ask" 627) (none) (.ref 320) (.none)), #[]⟩)::
 (nat_lit 322,{cls:= .type "tuple",data:= .seq #[]})::
 (nat_lit 324,{cls:= .type "tuple",data:= .seq #[.str "_law_cell" 640,.str "_law_k" 641,.str "_law_found" 642,.str "_law_number" 643,.str "_law_by" 644]})::
 (nat_lit 325,{cls:= .type "tuple",data:= .seq #[]})::
 (nat_lit 327,{cls:= .type "code",data:= .fields #[.str "_law_stream" 637,.str "_law_stream" 638,.str "/claim/cut.py" 639,.int 178 0,.int 2 0,.int 0 0,.int 0 0,.int 3 0,.ref 322,.bool true,.int 181 0,.ref 323,.none,.ref 324,.ref 325,.ref 326,.int 645 0,.int 178 0,.str "/claim/cut.py" 646]})::
 (nat_lit 328,⟨.type "function",none,.func (W.fnOf "_law_stream" "_law_stream" (HD.dA (HD.tp zP 37)) (HD.dB (HD.tp zP 37)) (HD.dS (HD.tp zP 37)) (.none) (.none) (.none) (.str "law_bundlehouse_k44_parts_that_ask" 627) (none) (.ref 327) (.none)), #[]⟩)::
 (nat_lit 329,{cls:= .type "tuple",data:= .seq #[]})::
 (nat_lit 331,{cls:= .type "tuple",data:= .seq #[.str "_law_base" 651,.str "_law_k" 652,.str "_law_letters" 653,.str "_law_size" 654,.str "_law_name_here" 655,.str "_law_j" 656,.str "_law_step" 657]})::
 (nat_lit 332,{cls:= .type "tuple",data:= .seq #[]})::
 (nat_lit 334,{cls:= .type "code",data:= .fields #[.str "_law_name" 648,.str "_law_name" 649,.str "/claim/cut.py" 650,.int 185 0,.int 2 0,.int 0 0,.int 0 0,.int 3 0,.ref 329,.bool true,.int 181 0,.ref 330,.none,.ref 331,.ref 332,.ref 333,.int 658 0,.int 185 0,.str "/claim/cut.py" 659]})::
 (nat_lit 335,⟨.type "function",none,.func (W.fnOf "_law_name" "_law_name" (HD.dA (HD.tp zP 38)) (HD.dB (HD.tp zP 38)) (HD.dS (HD.tp zP 38)) (.none) (.none) (.none) (.str "law_bundlehouse_k44_parts_that_ask" 627) (none) (.ref 334) (.none)), #[]⟩)::
 (nat_lit 336,{cls:= .type "tuple",data:= .seq #[]})::
 (nat_lit 338,{cls:= .type "tuple",data:= .seq #[.str "_law_script" 664,.str "_law_k" 665]})::
 (nat_lit 339,{cls:= .type "tuple",data:= .seq #[]})::
 (nat_lit 341,{cls:= .type "code",data:= .fields #[.str "_law_pool" 661,.str "_law_pool" 662,.str "/claim/cut.py" 663,.int 204 0,.int 2 0,.int 0 0,.int 0 0,.int 3 0,.ref 336,.bool true,.int 181 0,.ref 337,.none,.ref 338,.ref 339,.ref 340,.int 666 0,.int 204 0,.str "/claim/cut.py" 667]})::
 (nat_lit 342,⟨.type "function",none,.func (W.fnOf "_law_pool" "_law_pool" (HD.dA (HD.tp zP 39)) (HD.dB (HD.tp zP 39)) (HD.dS (HD.tp zP 39)) (.none) (.none) (.none) (.str "law_bundlehouse_k44_parts_that_ask" 627) (none) (.ref 341) (.none)), #[]⟩)::
 (nat_lit 343,{cls:= .type "tuple",data:= .seq #[]})::
 (nat_lit 345,{cls:= .type "tuple",data:= .seq #[.str "_law_script" 672,.str "_law_first" 673,.str "_law_many" 674,.str "_law_house" 675,.str "_law_k" 676]})::
 (nat_lit 346,{cls:= .type "tuple",data:= .seq #[]})::
 (nat_lit 348,{cls:= .type "code",data:= .fields #[.str "_law_begun" 669,.str "_law_begun" 670,.str "/claim/cut.py" 671,.int 206 0,.int 1 0,.int 0 0,.int 0 0,.int 3 0,.ref 343,.bool true,.int 181 0,.ref 344,.none,.ref 345,.ref 346,.ref 347,.int 677 0,.int 206 0,.str "/claim/cut.py" 678]})::
 (nat_lit 349,⟨.type "function",none,.func (W.fnOf "_law_begun" "_law_begun" (HD.dA (HD.tp zP 40)) (HD.dB (HD.tp zP 40)) (HD.dS (HD.tp zP 40)) (.none) (.none) (.none) (.str "law_bundlehouse_k44_parts_that_ask" 627) (none) (.ref 348) (.none)), #[]⟩)::
 (nat_lit 350,{cls:= .type "tuple",data:= .seq #[]})::
 (nat_lit 352,{cls:= .type "tuple",data:= .seq #[.str "_law_part" 683,.str "_law_pool_here" 684,.str "_law_k" 685]})::
 (nat_lit 353,{cls:= .type "tuple",data:= .seq #[]})::
 (nat_lit 355,{cls:= .type "code",data:= .fields #[.str "_law_fresh" 680,.str "_law_fresh" 681,.str "/claim/cut.py" 682,.int 215 0,.int 3 0,.int 0 0,.int 0 0,.int 3 0,.ref 350,.bool true,.int 181 0,.ref 351,.none,.ref 352,.ref 353,.ref 354,.int 686 0,.int 215 0,.str "/claim/cut.py" 687]})::
 (nat_lit 356,⟨.type "function",none,.func (W.fnOf "_law_fresh" "_law_fresh" (HD.dA (HD.tp zP 41)) (HD.dB (HD.tp zP 41)) (HD.dS (HD.tp zP 41)) (.none) (.none) (.none) (.str "law_bundlehouse_k44_parts_that_ask" 627) (none) (.ref 355) (.none)), #[]⟩)::
 (nat_lit 357,{cls:= .type "tuple",data:= .seq #[]})::
 (nat_lit 359,{cls:= .type "tuple",data:= .seq #[.str "_law_house" 692,.str "_law_pools_here" 693,.str "_law_here" 694,.str "_law_other" 695,.str "_law_xs" 696,.str "_law_part" 697,.str "_law_given" 698,.str "_law_pairs_here" 699,.str "_law_t" 700,.str "_law_own" 701]})::
 (nat_lit 360,{cls:= .type "tuple",data:= .seq #[]})::
 (nat_lit 362,{cls:= .type "code",data:= .fields #[.str "_law_pairs" 689,.str "_law_pairs" 690,.str "/claim/cut.py" 691,.int 217 0,.int 5 0,.int 0 0,.int 0 0,.int 3 0,.ref 357,.bool true,.int 181 0,.ref 358,.none,.ref 359,.ref 360,.ref 361,.int 702 0,.int 217 0,.str "/claim/cut.py" 703]})::
 (nat_lit 363,⟨.type "function",none,.func (W.fnOf "_law_pairs" "_law_pairs" (HD.dA (HD.tp zP 42)) (HD.dB (HD.tp zP 42)) (HD.dS (HD.tp zP 42)) (.none) (.none) (.none) (.str "law_bundlehouse_k44_parts_that_ask" 627) (none) (.ref 362) (.none)), #[]⟩)::
 (nat_lit 364,{cls:= .type "tuple",data:= .seq #[]})::
 (nat_lit 366,{cls:= .type "tuple",data:= .seq #[.str "_law_house" 708,.str "_law_pools_here" 709,.str "_law_xs" 710,.str "_law_here" 711,.str "_law_part" 712,.str "_law_at" 713,.str "_law_kind" 714,.str "_law_other" 715,.str "_law_own" 716,.str "_law_given" 717]})::
 (nat_lit 367,{cls:= .type "tuple",data:= .seq #[]})::
 (nat_lit 369,{cls:= .type "code",data:= .fields #[.str "_law_added" 705,.str "_law_added" 706,.str "/claim/cut.py" 707,.int 226 0,.int 3 0,.int 0 0,.int 0 0,.int 3 0,.ref 364,.bool true,.int 181 0,.ref 365,.none,.ref 366,.ref 367,.ref 368,.int 718 0,.int 226 0,.str "/claim/cut.py" 719]})::
 (nat_lit 370,⟨.type "function",none,.func (W.fnOf "_law_added" "_law_added" (HD.dA (HD.tp zP 43)) (HD.dB (HD.tp zP 43)) (HD.dS (HD.tp zP 43)) (.none) (.none) (.none) (.str "law_bundlehouse_k44_parts_that_ask" 627) (none) (.ref 369) (.none)), #[]⟩)::
 (nat_lit 371,{cls:= .type "tuple",data:= .seq #[]})::
 (nat_lit 373,{cls:= .type "tuple",data:= .seq #[.str "_law_owns" 724,.str "_law_xs" 725,.str "_law_terms" 726,.str "_law_t" 727,.str "_law_number" 728,.str "_law_thing" 729]})::
 (nat_lit 374,{cls:= .type "tuple",data:= .seq #[]})::
 (nat_lit 376,{cls:= .type "code",data:= .fields #[.str "_law_sum" 721,.str "_law_sum" 722,.str "/claim/cut.py" 723,.int 250 0,.int 2 0,.int 0 0,.int 0 0,.int 3 0,.ref 371,.bool true,.int 181 0,.ref 372,.none,.ref 373,.ref 374,.ref 375,.int 730 0,.int 250 0,.str "/claim/cut.py" 731]})::
 (nat_lit 377,⟨.type "function",none,.func (W.fnOf "_law_sum" "_law_sum" (HD.dA (HD.tp zP 44)) (HD.dB (HD.tp zP 44)) (HD.dS (HD.tp zP 44)) (.none) (.none) (.none) (.str "law_bundlehouse_k44_parts_that_ask" 627) (none) (.ref 376) (.none)), #[]⟩)::
 (nat_lit 378,{cls:= .type "tuple",data:= .seq #[]})::
 (nat_lit 380,{cls:= .type "tuple",data:= .seq #[.str "_law_row_here" 736,.str "_law_part" 737,.str "_law_names" 738,.str "_law_kind" 739,.str "_law_one" 740,.str "_law_xs" 741,.str "_law_when" 742,.str "_law_terms" 743]})::
 (nat_lit 381,{cls:= .type "tuple",data:= .seq #[]})::
 (nat_lit 383,{cls:= .type "code",data:= .fields #[.str "_law_row" 733,.str "_law_row" 734,.str "/claim/cut.py" 735,.int 261 0,.int 3 0,.int 0 0,.int 0 0,.int 3 0,.ref 378,.bool true,.int 181 0,.ref 379,.none,.ref 380,.ref 381,.ref 382,.int 744 0,.int 261 0,.str "/claim/cut.py" 745]})::
 (nat_lit 384,⟨.type "function",none,.func (W.fnOf "_law_row" "_law_row" (HD.dA (HD.tp zP 45)) (HD.dB (HD.tp zP 45)) (HD.dS (HD.tp zP 45)) (.none) (.none) (.none) (.str "law_bundlehouse_k44_parts_that_ask" 627) (none) (.ref 383) (.none)), #[]⟩)::
 (nat_lit 385,{cls:= .type "tuple",data:= .seq #[]})::
 (nat_lit 388,{cls:= .type "code",data:= .fields #[.str "_law_finished" 747,.str "_law_finished" 748,.str "/claim/cut.py" 749,.int 280 0,.int 2 0,.int 0 0,.int 0 0,.int 3 0,.ref 385,.bool true,.int 181 0,.ref 386,.none,.none,.none,.ref 387,.int 750 0,.int 280 0,.str "/claim/cut.py" 751]})::
 (nat_lit 389,⟨.type "function",none,.func (W.fnOf "_law_finished" "_law_finished" (HD.dA (HD.tp zP 46)) (HD.dB (HD.tp zP 46)) (HD.dS (HD.tp zP 46)) (.none) (.none) (.none) (.str "law_bundlehouse_k44_parts_that_ask" 627) (none) (.ref 388) (.none)), #[]⟩)::
 (nat_lit 390,{cls:= .type "tuple",data:= .seq #[]})::
 (nat_lit 392,{cls:= .type "tuple",data:= .seq #[.str "_law_script" 756,.str "_law_first" 757,.str "_law_own" 758,.str "_law_other" 759]})::
 (nat_lit 393,{cls:= .type "tuple",data:= .seq #[]})::
 (nat_lit 395,{cls:= .type "code",data:= .fields #[.str "_law_pools" 753,.str "_law_pools" 754,.str "/claim/cut.py" 755,.int 286 0,.int 1 0,.int 0 0,.int 0 0,.int 3 0,.ref 390,.bool true,.int 181 0,.ref 391,.none,.ref 392,.ref 393,.ref 394,.int 760 0,.int 286 0,.str "/claim/cut.py" 761]})::
 (nat_lit 396,⟨.type "function",none,.func (W.fnOf "_law_pools" "_law_pools" (HD.dA (HD.tp zP 47)) (HD.dB (HD.tp zP 47)) (HD.dS (HD.tp zP 47)) (.none) (.none) (.none) (.str "law_bundlehouse_k44_parts_that_ask" 627) (none) (.ref 395) (.none)), #[]⟩)::
 (nat_lit 397,{cls:= .type "tuple",data:= .seq #[]})::
 (nat_lit 399,{cls:= .type "tuple",data:= .seq #[.str "_law_script" 766,.str "_law_house" 767,.str "_law_pools_here" 768,.str "_law_k" 769]})::
 (nat_lit 400,{cls:= .type "tuple",data:= .seq #[]})::
 (nat_lit 402,{cls:= .type "code",data:= .fields #[.str "_law_parts" 763,.str "_law_parts" 764,.str "/claim/cut.py" 765,.int 291 0,.int 1 0,.int 0 0,.int 0 0,.int 3 0,.ref 397,.bool true,.int 181 0,.ref 398,.none,.ref 399,.ref 400,.ref 401,.int 770 0,.int 291 0,.str "/claim/cut.py" 771]})::
 (nat_lit 403,⟨.type "function",none,.func (W.fnOf "_law_parts" "_law_parts" (HD.dA (HD.tp zP 48)) (HD.dB (HD.tp zP 48)) (HD.dS (HD.tp zP 48)) (.none) (.none) (.none) (.str "law_bundlehouse_k44_parts_that_ask" 627) (none) (.ref 402) (.none)), #[]⟩)::
 (nat_lit 404,{cls:= .type "tuple",data:= .seq #[]})::
 (nat_lit 407,{cls:= .type "code",data:= .fields #[.str "_law_some_asks" 773,.str "_law_some_asks" 774,.str "/claim/cut.py" 775,.int 297 0,.int 2 0,.int 0 0,.int 0 0,.int 3 0,.ref 404,.bool true,.int 181 0,.ref 405,.none,.none,.none,.ref 406,.int 776 0,.int 297 0,.str "/claim/cut.py" 777]})::
 (nat_lit 408,⟨.type "function",none,.func (W.fnOf "_law_some_asks" "_law_some_asks" (HD.dA (HD.tp zP 49)) (HD.dB (HD.tp zP 49)) (HD.dS (HD.tp zP 49)) (.none) (.none) (.none) (.str "law_bundlehouse_k44_parts_that_ask" 627) (none) (.ref 407) (.none)), #[]⟩)::
 (nat_lit 409,{cls:= .type "tuple",data:= .seq #[]})::
 (nat_lit 411,{cls:= .type "tuple",data:= .seq #[.str "_law_rows_by" 782,.str "_law_root" 783,.str "_law_begun_here" 784,.str "_law_amid" 785,.str "_law_rows" 786,.str "_law_at" 787]})::
 (nat_lit 412,{cls:= .type "tuple",data:= .seq #[]})::
 (nat_lit 414,{cls:= .type "code",data:= .fields #[.str "_law_begun_by" 779,.str "_law_begun_by" 780,.str "/claim/cut.py" 781,.int 305 0,.int 2 0,.int 0 0,.int 0 0,.int 3 0,.ref 409,.bool true,.int 181 0,.ref 410,.none,.ref 411,.ref 412,.ref 413,.int 788 0,.int 305 0,.str "/claim/cut.py" 789]})::
 (nat_lit 415,⟨.type "function",none,.func (W.fnOf "_law_begun_by" "_law_begun_by" (HD.dA (HD.tp zP 50)) (HD.dB (HD.tp zP 50)) (HD.dS (HD.tp zP 50)) (.none) (.none) (.none) (.str "law_bundlehouse_k44_parts_that_ask" 627) (none) (.ref 414) (.none)), #[]⟩)::
 (nat_lit 416,{cls:= .type "tuple",data:= .seq #[]})::
 (nat_lit 418,{cls:= .type "tuple",data:= .seq #[.str "_law_parts_here" 794,.str "_law_root" 795,.str "_law_rows_by" 796,.str "_law_name_here" 797,.str "_law_rows" 798,.str "_law_k" 799]})::
 (nat_lit 419,{cls:= .type "tuple",data:= .seq #[]})::
 (nat_lit 421,{cls:= .type "code",data:= .fields #[.str "_law_due" 791,.str "_law_due" 792,.str "/claim/cut.py" 793,.int 319 0,.int 2 0,.int 0 0,.int 0 0,.int 3 0,.ref 416,.bool true,.int 181 0,.ref 417,.none,.ref 418,.ref 419,.ref 420,.int 800 0,.int 319 0,.str "/claim/cut.py" 801]})::
 (nat_lit 422,⟨.type "function",none,.func (W.fnOf "_law_due" "_law_due" (HD.dA (HD.tp zP 51)) (HD.dB (HD.tp zP 51)) (HD.dS (HD.tp zP 51)) (.none) (.none) (.none) (.str "law_bundlehouse_k44_parts_that_ask" 627) (none) (.ref 421) (.none)), #[]⟩)::
 (nat_lit 423,{cls:= .type "tuple",data:= .seq #[]})::
 (nat_lit 425,{cls:= .type "tuple",data:= .seq #[.str "_law_parts_here" 806,.str "_law_root" 807,.str "_law_found" 808,.str "e" 809,.str "_law_other" 810]})::
 (nat_lit 426,{cls:= .type "tuple",data:= .seq #[]})::
 (nat_lit 428,{cls:= .type "code",data:= .fields #[.str "_law_refused" 803,.str "_law_refused" 804,.str "/claim/cut.py" 805,.int 328 0,.int 2 0,.int 0 0,.int 0 0,.int 3 0,.ref 423,.bool true,.int 181 0,.ref 424,.none,.ref 425,.ref 426,.ref 427,.int 811 0,.int 328 0,.str "/claim/cut.py" 812]})::
 (nat_lit 429,⟨.type "function",none,.func (W.fnOf "_law_refused" "_law_refused" (HD.dA (HD.tp zP 52)) (HD.dB (HD.tp zP 52)) (HD.dS (HD.tp zP 52)) (.none) (.none) (.none) (.str "law_bundlehouse_k44_parts_that_ask" 627) (none) (.ref 428) (.none)), #[]⟩)::
 (nat_lit 430,{cls:= .type "tuple",data:= .seq #[]})::
 (nat_lit 432,{cls:= .type "tuple",data:= .seq #[.str "_law_parts_here" 817,.str "_law_root" 818,.str "_law_due_here" 819,.str "_law_found" 820]})::
 (nat_lit 433,{cls:= .type "tuple",data:= .seq #[]})::
 (nat_lit 435,{cls:= .type "code",data:= .fields #[.str "_law_right" 814,.str "_law_right" 815,.str "/claim/cut.py" 816,.int 336 0,.int 2 0,.int 0 0,.int 0 0,.int 3 0,.ref 430,.bool true,.int 181 0,.ref 431,.none,.ref 432,.ref 433,.ref 434,.int 821 0,.int 336 0,.str "/claim/cut.py" 822]})::
 (nat_lit 436,⟨.type "function",none,.func (W.fnOf "_law_right" "_law_right" (HD.dA (HD.tp zP 53)) (HD.dB (HD.tp zP 53)) (HD.dS (HD.tp zP 53)) (.none) (.none) (.none) (.str "law_bundlehouse_k44_parts_that_ask" 627) (none) (.ref 435) (.none)), #[]⟩)::
 (nat_lit 437,{cls:= .type "tuple",data:= .seq #[]})::
 (nat_lit 440,{cls:= .type "code",data:= .fields #[.str "law" 824,.str "law" 825,.str "/claim/cut.py" 826,.int 344 0,.int 1 0,.int 0 0,.int 0 0,.int 3 0,.ref 437,.bool true,.int 181 0,.ref 438,.none,.none,.none,.ref 439,.int 827 0,.int 344 0,.str "/claim/cut.py" 828]})::
 (nat_lit 441,⟨.type "function",none,.func (W.fnOf "law" "law" (HD.dA (HD.tp zP 54)) (HD.dB (HD.tp zP 54)) (HD.dS (HD.tp zP 54)) (.none) (.none) (.none) (.str "law_bundlehouse_k44_parts_that_ask" 627) (none) (.ref 440) (.none)), #[]⟩)::[]
noncomputable def a6w:List Addr:=[nat_lit 2,nat_lit 3,nat_lit 15,nat_lit 22,nat_lit 23,nat_lit 24,nat_lit 25,nat_lit 28,nat_lit 35,nat_lit 37,nat_lit 38,nat_lit 40,nat_lit 41,nat_lit 42,nat_lit 43,nat_lit 44,nat_lit 47,nat_lit 54,nat_lit 56,nat_lit 57,nat_lit 59,nat_lit 61,nat_lit 62,nat_lit 63,nat_lit 66,nat_lit 73,nat_lit 74,nat_lit 75,nat_lit 78,nat_lit 85,nat_lit 86,nat_lit 87,nat_lit 90,nat_lit 97,nat_lit 98,nat_lit 99,nat_lit 102,nat_lit 109,nat_lit 110,nat_lit 111,nat_lit 114,nat_lit 121,nat_lit 123,nat_lit 124,nat_lit 126,nat_lit 128,nat_lit 129,nat_lit 130,nat_lit 133,nat_lit 140,nat_lit 141,nat_lit 142,nat_lit 145,nat_lit 152,nat_lit 154,nat_lit 155,nat_lit 157,nat_lit 159,nat_lit 160,nat_lit 161,nat_lit 164,nat_lit 171,nat_lit 172,nat_lit 173,nat_lit 176,nat_lit 183,nat_lit 184,nat_lit 185,nat_lit 188,nat_lit 190,nat_lit 191,nat_lit 193,nat_lit 194,nat_lit 195,nat_lit 197,nat_lit 198,nat_lit 200,nat_lit 201,nat_lit 202,nat_lit 204,nat_lit 205,nat_lit 207,nat_lit 208,nat_lit 209,nat_lit 211,nat_lit 212,nat_lit 214,nat_lit 215,nat_lit 216,nat_lit 218,nat_lit 219,nat_lit 221,nat_lit 222,nat_lit 223,nat_lit 225,nat_lit 226,nat_lit 228,nat_lit 229,nat_lit 230,nat_lit 232,nat_lit 233,nat_lit 235,nat_lit 236,nat_lit 237,nat_lit 239,nat_lit 240,nat_lit 242,nat_lit 243,nat_lit 244,nat_lit 246,nat_lit 247,nat_lit 249,nat_lit 250,nat_lit 251,nat_lit 253,nat_lit 254,nat_lit 256,nat_lit 257,nat_lit 258,nat_lit 260,nat_lit 261,nat_lit 263,nat_lit 264,nat_lit 265,nat_lit 267,nat_lit 268,nat_lit 270,nat_lit 271,nat_lit 272,nat_lit 275,nat_lit 276,nat_lit 277,nat_lit 279,nat_lit 280,nat_lit 282,nat_lit 283,nat_lit 284,nat_lit 286,nat_lit 287,nat_lit 289,nat_lit 290,nat_lit 291,nat_lit 294,nat_lit 295,nat_lit 296,nat_lit 298,nat_lit 299,nat_lit 301,nat_lit 302,nat_lit 303,nat_lit 305,nat_lit 306,nat_lit 308,nat_lit 309,nat_lit 310,nat_lit 313,nat_lit 314,nat_lit 315,nat_lit 317,nat_lit 318,nat_lit 320,nat_lit 321,nat_lit 322,nat_lit 324,nat_lit 325,nat_lit 327,nat_lit 328,nat_lit 329,nat_lit 331,nat_lit 332,nat_lit 334,nat_lit 335,nat_lit 336,nat_lit 338,nat_lit 339,nat_lit 341,nat_lit 342,nat_lit 343,nat_lit 345,nat_lit 346,nat_lit 348,nat_lit 349,nat_lit 350,nat_lit 352,nat_lit 353,nat_lit 355,nat_lit 356,nat_lit 357,nat_lit 359,nat_lit 360,nat_lit 362,nat_lit 363,nat_lit 364,nat_lit 366,nat_lit 367,nat_lit 369,nat_lit 370,nat_lit 371,nat_lit 373,nat_lit 374,nat_lit 376,nat_lit 377,nat_lit 378,nat_lit 380,nat_lit 381,nat_lit 383,nat_lit 384,nat_lit 385,nat_lit 388,nat_lit 389,nat_lit 390,nat_lit 392,nat_lit 393,nat_lit 395,nat_lit 396,nat_lit 397,nat_lit 399,nat_lit 400,nat_lit 402,nat_lit 403,nat_lit 404,nat_lit 407,nat_lit 408,nat_lit 409,nat_lit 411,nat_lit 412,nat_lit 414,nat_lit 415,nat_lit 416,nat_lit 418,nat_lit 419,nat_lit 421,nat_lit 422,nat_lit 423,nat_lit 425,nat_lit 426,nat_lit 428,nat_lit 429,nat_lit 430,nat_lit 432,nat_lit 433,nat_lit 435,nat_lit 436,nat_lit 437,nat_lit 440,nat_lit 441]
theorem b2L:∀P,a6w=(a6u P).map (·.1):=fun _=>by kernel_rfl
theorem b7n:∀w,((sE w).map fun s=>(a6w.take 123).map s.heap.get?)=some (((a6u w.params).take 123).map fun p=>some p.2):=fun w=>by kernel_rfl
theorem b7v:∀w,((sE w).map fun s=>(a6w.drop 123).map s.heap.get?)=some (((a6u w.params).drop 123).map fun p=>some p.2):=fun w=>by kernel_rfl
theorem b5K:PySem.Challenge.rw_bundlehouse_k44_parts_that_ask.wellSaid=true:=by kernel_rfl
theorem b4t:LeftO PySem.Challenge.rw_bundlehouse_k44_parts_that_ask.row.prog qP sL sX (kHook a6u a6w b2L).obs (kHook a6u a6w b2L).val 8124:=HD.lfL 123 rS b7n b7v
end K44
namespace L2
open PySem PySem.Spec PyProof.Rows
noncomputable abbrev Key:=Sum Int Str
noncomputable def a5n:Key->Value->Bool
 | .inl k,v=>Value.isInt k v
 | .inr x,v=>Value.isStrOf x v
noncomputable def b7y (w:World):Key->Int
 | .inl k=>hashInt k
 | .inr x=>hashStr w x
theorem O5:∀{k:Key}{v:Value},a5n k v=true->(∃i t,k=Sum.inl i/\v=Value.int i t)\/(∃x t,k=Sum.inr x/\v=Value.str x t)
 | .inl i,v,h=>by
  obtain⟨t,e⟩:=Value.isInt_shape (k:=i) (v:=v) h
  exact .inl ⟨i,t,rfl,e⟩
 | .inr x,v,h=>by
  obtain⟨t,e⟩:=Value.isStrOf_shape (x:=x) (v:=v) h
  exact .inr ⟨x,t,rfl,e⟩
theorem b0u(i:Int)(t:Tok):a5n (.inl i) (.int i t)=true:=by simp[a5n,Value.isInt]
theorem b1u(x:Str)(t:Tok):a5n (.inr x) (.str x t)=true:=by simp[a5n,Value.isStrOf]
theorem b6b(a b:Int):decide ((Sum.inl a:Key)=Sum.inl b)=(a==b):=by
 by_cases e:a=b
 ·subst e;simp
 ·have h:¬(Sum.inl a:Key)=Sum.inl b:=fun q=>e (Sum.inl.inj q)
  rw[AW h]
  exact(beq_eq_false_iff_ne.mpr e).symm
theorem b5n(a b:Str):decide ((Sum.inr a:Key)=Sum.inr b)=decide (a=b):=by
 by_cases e:a=b
 ·subst e;simp
 ·have h:¬(Sum.inr a:Key)=Sum.inr b:=fun q=>e (Sum.inr.inj q)
  rw[AW h,AW e]
theorem b6m(a:Int)(b:Str):decide ((Sum.inl a:Key)=Sum.inr b)=false:=AW (fun q=>nomatch q)
theorem b6f(a:Str)(b:Int):decide ((Sum.inr a:Key)=Sum.inl b)=false:=AW (fun q=>nomatch q)
noncomputable def Y6 (prog:Program) (w:World):PySem.KeyKind prog w Key where
 is:=a5n
 hash:=b7y w
 inj:=fun v a b ha hb=>by
  rcases O5 ha with⟨i,t,rfl,rfl⟩ | ⟨x,t,rfl,rfl⟩
  ·rcases O5 hb with⟨j,u,rfl,e⟩ | ⟨y,u,rfl,e⟩
   ·injection e with e1 _;rw[e1]
   ·exact nomatch e
  ·rcases O5 hb with⟨j,u,rfl,e⟩ | ⟨y,u,rfl,e⟩
   ·exact nomatch e
   ·injection e with e1 _;rw[e1]
 byValue:=fun k v h=>by
  rcases O5 h with⟨i,t,rfl,rfl⟩ | ⟨x,t,rfl,rfl⟩<;>rfl
 pyHash:=fun hv h=>by
  rcases O5 hv with⟨i,t,rfl,rfl⟩ | ⟨x,t,rfl,rfl⟩
  ·exact wpAny_pyHash_int h
  ·exact wpAny_pyHash_str h
 eqBool:=fun hu hv h=>by
  rcases O5 hu with⟨i,t,rfl,rfl⟩ | ⟨x,t,rfl,rfl⟩
  ·rcases O5 hv with⟨j,u,rfl,rfl⟩ | ⟨y,u,rfl,rfl⟩
   ·rw[b6b]at h;exact wpAny_eqBool_int h
   ·rw[b6m]at h;exact SeqAt.EqAt.int_str i t y u _ _ _ _ h
  ·rcases O5 hv with⟨j,u,rfl,rfl⟩ | ⟨y,u,rfl,rfl⟩
   ·rw[b6f]at h;exact SeqAt.EqAt.str_int x t j u _ _ _ _ h
   ·rw[b5n]at h;exact wpAny_eqBool_str h
 «strs»:=fun k x t v h=>by
  rcases O5 h with⟨i,u,rfl,e⟩ | ⟨y,u,rfl,e⟩
  ·exact nomatch e
  ·injection e with e1 _
   subst e1
   cases v<;>rfl
theorem a8b(prog:Program)(w:World)(i:Int)(t:Tok):(Y6 prog w).is (.inl i) (.int i t)=true:=b0u i t
theorem a4l(prog:Program)(w:World)(x:Str)(t:Tok):(Y6 prog w).is (.inr x) (.str x t)=true:=b1u x t
end L2
namespace L2
open PySem PySem.Spec PyProof.Rows
inductive V where
 | non | bl (b:Bool) | int (i:Int) | str (x:Str) | byt (b:Array UInt8) | flt (b:UInt64) | ref (a:Addr) | ty (n:String)
 deriving DecidableEq
noncomputable def U8:V->Value->Prop
 | .non,u=>u=Value.none
 | .bl b,u=>u=Value.bool b
 | .int i,u=>∃t,u=Value.int i t
 | .str x,u=>∃t,u=Value.str x t
 | .byt b,u=>∃t,u=Value.bytes b t
 | .flt b,u=>∃t,u=Value.float b t
 | .ref a,u=>u=Value.ref a
 | .ty n,u=>u=Value.type n
noncomputable abbrev W0:List V->List Value->Prop:=Paired U8
theorem W0.length{xs:List V}{us:List Value}(r:W0 xs us):xs.length=us.length:=AF r
theorem W0.get:∀{xs:List V}{us:List Value}{i:Nat}{x:V},W0 xs us->xs[i]?=some x->∃u,us[i]?=some u/\U8 x u
 | _,_,_,_,.nil,e=>by simp at e
 | _,_,0,_,.cons r _,e=>by simp at e;subst e;exact⟨_,rfl,r⟩
 | _,_,i+1,x,.cons _ t,e=>by
  obtain⟨u,h1,h2⟩:=W0.get (i:=i) (x:=x) t (by simpa using e)
  exact⟨u,by simpa using h1,h2⟩
theorem W0.set{x:V}{u:Value}(r:U8 x u):∀{xs:List V}{us:List Value}(i:Nat),W0 xs us->W0 (xs.set i x) (us.set i u)
 | _,_,_,.nil=> .nil
 | _,_,0,.cons _ t=> .cons r t
 | _,_,i+1,.cons q t=> .cons q (W0.set r i t)
theorem W0.append:∀{xs ys:List V}{us ws:List Value},W0 xs us->W0 ys ws->W0 (xs++ys) (us++ws)
 | _,_,_,_,.nil,s=>s
 | _,_,_,_,.cons r t,s=> .cons r (W0.append t s)
theorem W0.take:∀{xs:List V}{us:List Value}(n:Nat),W0 xs us->W0 (xs.take n) (us.take n)
 | _,_,0,_=> .nil
 | _,_,_+1,.nil=> .nil
 | _,_,n+1,.cons r t=> .cons r (W0.take n t)
theorem W0.drop:∀{xs:List V}{us:List Value}(n:Nat),W0 xs us->W0 (xs.drop n) (us.drop n)
 | _,_,0,r=>r
 | _,_,_+1,.nil=> .nil
 | _,_,n+1,.cons _ t=>W0.drop n t
noncomputable def a3J:Option V->Option Value->Prop
 | some v,some u=>U8 v u
 | none,none=>True
 | _,_=>False
noncomputable def KV {κ:Type}:List (κ×V)->List (κ×Value)->Prop:=Paired fun(p:κ×V)(q:κ×Value)=>p.1=q.1/\U8 p.2 q.2
noncomputable def kV:Key->V
 | .inl i=> .int i
 | .inr x=> .str x
inductive HO where
 | lst (xs:List V)
 | tup (xs:List V)
 | dK (kvs:List (Key×V)) | dT (kvs:List (List Key×V))
 | set (S:Int->Bool) (n:Nat)
 | ins (C dx:Addr) (fs:List (Str×V))
 | own (x:Addr)
 | xd (fs:List (Str×V))
 | met (f x:Addr)
 | rng (lo hi:Int)
 | frz (o:Obj) (u:HO)
 | tbl (ps:Array Value)
 | ext (φ:Heap->Prop)
noncomputable abbrev Hp:=Addr->Option HO
noncomputable def upd (H:Hp) (a:Addr) (o:HO):Hp:=fun b=>if b=a then some o else H b
theorem G1{H:Hp}{a:Addr}{o:HO}:upd H a o a=some o:=by unfold upd;rw[if_pos rfl]
theorem I0{H:Hp}{a b:Addr}{o:HO}(h:b≠a):upd H a o b=H b:=by unfold upd;rw[if_neg h]
theorem b4M{H:Hp}{a:Addr}{o u:HO}:upd (upd H a o) a u=upd H a u:=by
 funext b;unfold upd;split<;>rfl
theorem a7E{H:Hp}{a b:Addr}{o u:HO}(h:H a=some o)(h':H b=some u)(d:o≠u):a≠b:=by
 intro e;subst e;rw[h]at h';exact d (Option.some.inj h')
theorem R6{H:Hp}{a b:Addr}{o:HO}(h:H a=some o)(h':H b=none):a≠b:=by
 intro e;subst e;rw[h]at h';cases h'
section
variable(P:Program)(w:World)
noncomputable def Y3 (H:Hp) (h:Heap) (a:Addr):HO->Prop
 | .lst xs=>xs.length<=sizeLine/\∃(its:List Value)(n:Nat),W0 xs its/\h.get? a=some {cls:= .type "list",data:= .seq its.toArray n}
 | .tup xs=>xs.length<=sizeLine/\∃its:List Value,W0 xs its/\IsTup h a its.toArray
 | .dK kvs=>kvs.length<=sizeLine/\(a==sysModules)=false/\∃vs,KV kvs vs/\h.DictOf (Y6 P w) a vs
 | .dT kvs=>kvs.length<=sizeLine/\(a==sysModules)=false/\∃xs:List (List Key×Addr×Value),
   Paired (fun(p:List Key×V)(q:List Key×Addr×Value)=>p.1=q.1/\H q.2.1=some (.tup (p.1.map kV))/\U8 p.2 q.2.2) kvs xs/\
   ∃o es ep,h.get? a=some o/\o.ExactDict/\o.data= .dict es ep/\es.toList=xs.map (entryOfKey (tupleKind (Y6 P w)))/\(xs.map (·.1)).Nodup
 | .set S n=>h.SetOf (intKind P w) a S n
 | .ins C dx fs=>H dx=some (.own a)/\fs.length<=1000/\dx≠a/\h.get? a=some (W.instObj C dx)/\
   ∃mA,h.Ns1 dx mA/\(∀f,a3J (fs.lookup f) (mA f))/\PySem.Within mA (fs.map (·.1))
 | .own _=>∃o,h.get? a=some o
 | .xd fs=>∃mA,h.Ns1 a mA/\∀f,a3J (fs.lookup f) (mA f)
 | .rng lo hi=>∃t u v,h.get? a=some {cls:= .type "range",data:= .fields #[.int lo t,.int hi u,.int 1 v]}
 | .frz o u=>h.get? a=some o/\Y3 H h a u
 | .tbl ps=>h.get? a=some {cls:= .none,data:= .fields ps}
 | .met f x=>h.get? a=some (W.methodObj (.ref f) (.ref x))
 | .ext φ=>φ h/\(∃o,h.get? a=some o)/\∀h1 h2:Heap,φ h1->(∀o,h1.get? a=some o->h2.get? a=some o)->φ h2
noncomputable def HOk (H:Hp) (h:Heap):Prop:=∀a o,H a=some o->Y3 P w H h a o
end
section
variable{P:Program}{w:World}{H H':Hp}{h h':Heap}{a:Addr}{o:HO}
theorem Y3.lt(x:Y3 P w H h a o):a < h.objs.size:=by
 cases o with
 | lst xs=>obtain⟨_,_,_,_,e⟩:=x;exact AJ e
 | tup xs=>obtain⟨_,_,_,p⟩:=x;exact p.lt
 | dK kvs=>obtain⟨_,_,_,_,o,_,_,e,_⟩:=x;exact AJ e
 | dT kvs=>obtain⟨_,_,_,_,o,_,_,e,_⟩:=x;exact AJ e
 | set S n=>obtain⟨o,_,_,_,e,_⟩:=x;exact AJ e
 | ins C dx fs=>obtain⟨_,_,_,e,_⟩:=x;exact AJ e
 | own y=>obtain⟨_,e⟩:=x;exact AJ e
 | xd fs=>obtain⟨_,⟨_,_,_,e,_⟩,_⟩:=x;exact AJ e
 | rng lo hi=>obtain⟨_,_,_,e⟩:=x;exact AJ e
 | frz ob u=>obtain⟨e,_⟩:=x;exact AJ e
 | tbl ps=>exact AJ (show h.get? a=some _ from x)
 | met f y=>exact AJ (show h.get? a=some _ from x)
 | ext φ=>obtain⟨_,⟨_,e⟩,_⟩:=x;exact AJ e
theorem Paired.mapP{α β:Type}{F G:α->β->Prop}:∀{l₁:List α}{l₂:List β},Paired F l₁ l₂->(∀a b,F a b->G a b)->Paired G l₁ l₂
 | _,_,.nil,_=> .nil
 | _,_,.cons r t,f=> .cons (f _ _ r) (Paired.mapP t f)
theorem Y3.stay(x:Y3 P w H h a o)(k:∀b u,(b=a\/H b=some (.own a))->h.get? b=some u->h'.get? b=some u)
  (ho:∀b,H b=some (.own a)->H' b=some (.own a))(ht:∀b xs,H b=some (.tup xs)->H' b=some (.tup xs)):Y3 P w H' h' a o:=by
 induction o with
 | lst xs=>obtain⟨z,its,n,r,e⟩:=x;exact⟨z,its,n,r,k _ _ (.inl rfl) e⟩
 | tup xs=>obtain⟨z,its,r,ob,e,c⟩:=x;exact⟨z,its,r,ob,k _ _ (.inl rfl) e,c⟩
 | dK kvs=>obtain⟨z,y,vs,r,ob,es,ep,e,c⟩:=x;exact⟨z,y,vs,r,ob,es,ep,k _ _ (.inl rfl) e,c⟩
 | dT kvs=>
  obtain⟨z,y,xs,r,ob,es,ep,e,c⟩:=x
  exact⟨z,y,xs,Paired.mapP r fun p q z=>⟨z.1,ht _ _ z.2.1,z.2.2⟩,ob,es,ep,k _ _ (.inl rfl) e,c⟩
 | set S n=>obtain⟨ob,es,ep,t,e,c⟩:=x;exact⟨ob,es,ep,t,k _ _ (.inl rfl) e,c⟩
 | ins C dx fs=>
  obtain⟨d,z,ne,e,mA,⟨od,es,ep,e2,c⟩,r⟩:=x
  exact⟨ho _ d,z,ne,k _ _ (.inl rfl) e,mA,⟨od,es,ep,k _ _ (.inr d) e2,c⟩,r⟩
 | own y=>obtain⟨ob,e⟩:=x;exact⟨ob,k _ _ (.inl rfl) e⟩
 | xd fs=>obtain⟨mA,⟨od,es,ep,e,c⟩,r⟩:=x;exact⟨mA,⟨od,es,ep,k _ _ (.inl rfl) e,c⟩,r⟩
 | rng lo hi=>obtain⟨t,u,v,e⟩:=x;exact⟨t,u,v,k _ _ (.inl rfl) e⟩
 | frz ob u ih=>obtain⟨e,q⟩:=x;exact⟨k _ _ (.inl rfl) e,ih q⟩
 | tbl ps=>
  have e:h.get? a=some {cls:= .none,data:= .fields ps}:=x
  show h'.get? a=some {cls:= .none,data:= .fields ps}
  exact k a _ (.inl rfl) e
 | met f y=>
  have e:h.get? a=some (W.methodObj (.ref f) (.ref y)):=x
  show h'.get? a=some (W.methodObj (.ref f) (.ref y))
  exact k a _ (.inl rfl) e
 | ext φ=>obtain⟨p,⟨o,e⟩,st⟩:=x;exact⟨st _ _ p fun o q=>k _ _ (.inl rfl) q,⟨o,k _ _ (.inl rfl) e⟩,st⟩
theorem HOk.lt(x:HOk P w H h)(e:H a=some o):a < h.objs.size:=(x a o e).lt
theorem HOk.fresh(x:HOk P w H h)(e:h.objs.size<=a):H a=none:=by
 cases q:H a with
 | none=>rfl
 | some u=>exact absurd (AZ (x.lt q) e) (Nat.lt_irrefl _)
theorem HOk.kept(x:HOk P w H h)(k:∀b u,h.get? b=some u->h'.get? b=some u):HOk P w H h':=fun a o e=>
 (x a o e).stay (fun b u _ q=>k b u q) (fun _ q=>q) fun _ _ q=>q
theorem HOk.laid(x:HOk P w H h)(k:∀b u,h.get? b=some u->h'.get? b=some u)(hp:h.objs.size<=a)(new:Y3 P w (upd H a o) h' a o):HOk P w (upd H a o) h':=fun b u e=>by
 have hn:=x.fresh hp
 by_cases hb:b=a
 ·subst hb;rw[G1]at e;cases e;exact new
 ·rw[I0 hb]at e
  exact(x b u e).stay (fun c v _ q=>k c v q) (fun c q=>by rw[I0 (R6 q hn)];exact q) fun c xs q=>by rw[I0 (R6 q hn)];exact q
end
noncomputable def Rd (H:Hp) (a:Addr) (u:HO):Prop:=H a=some u\/∃o,H a=some (.frz o u)
theorem Rd.ok{P:Program}{w:World}{H:Hp}{h:Heap}{a:Addr}{u:HO}(r:Rd H a u)(x:HOk P w H h):Y3 P w H h a u:=by
 rcases r with r | ⟨o,r⟩
 ·exact x a u r
 ·obtain⟨_,q⟩:=x a _ r
  exact q
noncomputable def Mut:Option HO->Prop
 | some (.lst _)=>True
 | some (.dK _)=>True
 | some (.dT _)=>True
 | some (.set _ _)=>True
 | some (.ins _ _ _)=>True
 | some (.ext _)=>True
 | _=>False
section
variable{P:Program}{w:World}{H:Hp}{h h':Heap}{x e:Addr}{o':HO}
theorem HOk.write(ok:HOk P w H h)(mu:Mut (H x))(he:e=x\/H e=some (.own x))(k:∀b u,b≠e->h.get? b=some u->h'.get? b=some u)(heo:∃u,h'.get? e=some u)
  (new:Y3 P w (upd H x o') h' x o'):HOk P w (upd H x o') h':=fun b u q=>by
 have nown:∀c y,H c=some (.own y)->c≠x:=fun c y r z=>by subst z;rw[r]at mu;exact mu
 have ntup:∀c xs,H c=some (.tup xs)->c≠x:=fun c xs r z=>by subst z;rw[r]at mu;exact mu
 by_cases hb:b=x
 ·subst hb;rw[G1]at q;cases q;exact new
 ·rw[I0 hb]at q
  by_cases hbe:b=e
  ·have q':H b=some (.own x):=by
    rcases he with z | z
    ·exact absurd (hbe.trans z) hb
    ·rw[hbe];exact z
   rw[q]at q';cases q'
   obtain⟨v,hv⟩:=heo
   exact⟨v,by rw[hbe];exact hv⟩
  ·refine(ok b u q).stay (fun c v hc r=>k c v ?_ r) (fun c r=>by rw[I0 (nown c b r)];exact r) fun c xs r=>by rw[I0 (ntup c xs r)];exact r
   rcases hc with rfl | hc
   ·exact hbe
   ·rintro rfl
    rcases he with z | z
    ·exact nown c b hc z
    ·rw[hc]at z;cases z;exact hb rfl
end
structure Un(fs ex:List Addr)(H H':Hp)(h h':Heap):Prop where
 keep:∀b o,h.get? b=some o->H b=none->b∉fs->b∉ex->h'.get? b=some o
 slot:∀b o,h.get? b=some o->H b=none->b∈fs->b∉ex->∃sl,h'.get? b=some {o with slots:=sl}
 free:∀b o,h.get? b=some o->H b=none->b∉ex->H' b=none
 there:∀b o,h.get? b=some o->b∉ex->∃o',h'.get? b=some o'
 tups:∀b xs,H b=some (.tup xs)->H' b=some (.tup xs)
 frzs:∀b o u,H b=some (.frz o u)->H' b=some (.frz o u)
 tbls:∀b ps,H b=some (.tbl ps)->∃more,H' b=some (.tbl (ps++more))
section
variable{fs fs' ex ex':List Addr}{H H1 H2:Hp}{h h1 h2 h':Heap}{a x e:Addr}{o:HO}
theorem Un.any(u:Un fs ex H H1 h h1){b:Addr}{ob:Obj}(q:h.get? b=some ob)(n:H b=none)(hx:b∉ex):∃sl,h1.get? b=some {ob with slots:=sl}:=by
 by_cases hb:b∈fs
 ·exact u.slot b ob q n hb hx
 ·exact⟨ob.slots,u.keep b ob q n hb hx⟩
theorem Un.kept(k:∀b u,h.get? b=some u->h'.get? b=some u):Un fs ex H H h h':=
 ⟨fun b ob q _ _ _=>k b ob q,fun b ob q _ _ _=>⟨ob.slots,k b ob q⟩,fun _ _ _ n _=>n,fun b ob q _=>⟨ob,k b ob q⟩,fun _ _ q=>q,fun _ _ _ q=>q,fun _ ps q=>⟨#[],by rw[q];simp⟩⟩
theorem Un.refl:Un fs ex H H h h:=Un.kept fun _ _ q=>q
theorem Un.laid(k:∀b u,h.get? b=some u->h'.get? b=some u)(hp:h.objs.size<=a)(hn:H a=none):Un fs ex H (upd H a o) h h' where
 keep:=fun b u q _ _ _=>k b u q
 slot:=fun b u q _ _ _=>⟨u.slots,k b u q⟩
 free:=fun b u q n _=>by rw[I0 (BB (AZ (AJ q) hp))];exact n
 there:=fun b u q _=>⟨u,k b u q⟩
 tups:=fun b xs q=>by rw[I0 (R6 q hn)];exact q
 frzs:=fun b u xs q=>by rw[I0 (R6 q hn)];exact q
 tbls:=fun b ps q=>⟨#[],by rw[I0 (R6 q hn),q];simp⟩
theorem Un.write(mu:Mut (H x))(he:e=x\/H e=some (.own x))(k:∀b u,b≠e->h.get? b=some u->h'.get? b=some u)(heo:∃u,h'.get? e=some u):Un fs ex H (upd H x o) h h':=by
 have hx:∀b,H b=none->b≠x:=fun b n z=>by subst z;rw[n]at mu;exact mu
 have hb:∀b,H b=none->b≠e:=fun b n z=>by
  subst z
  rcases he with r | r
  ·exact hx b n r
  ·rw[n]at r;cases r
 have hm:∀b u,H b=some u->¬Mut (some u)->b≠x:=fun b u q nm z=>by subst z;rw[q]at mu;exact nm mu
 refine⟨fun b u q n _ _=>k b u (hb b n) q,fun b u q n _ _=>⟨u.slots,k b u (hb b n) q⟩,fun b u q n _=>by rw[I0 (hx b n)];exact n,fun b u q _=>?_,
  fun b xs q=>by rw[I0 (hm b _ q fun z=>z)];exact q,fun b u xs q=>by rw[I0 (hm b _ q fun z=>z)];exact q,fun b ps q=>⟨#[],by rw[I0 (hm b _ q fun z=>z),q];simp⟩⟩
 by_cases hbe:b=e
 ·subst hbe;exact heo
 ·exact⟨u,k b u hbe q⟩
end
noncomputable def trk (h:Heap) (H:Hp):List Addr:=(List.range h.objs.size).filter fun a=>(H a).isSome
noncomputable def a7o (h:Heap) (H:Hp):Heap:=W.hideAll h (trk h H)
theorem b1J(h:Heap)(H:Hp):(a7o h H).objs.size=h.objs.size:=W.hideAll_size _ _
theorem b2i{h:Heap}{H:Hp}{b:Addr}{o:Obj}(e:h.get? b=some o)(n:H b=none):(a7o h H).get? b=some o:=
 W.hideAll_get _ e fun hm=>by
  have q:(H b).isSome=true:=(List.mem_filter.mp hm).2
  rw[n]at q;simp at q
theorem b3U{h:Heap}{H:Hp}{b:Addr}{o:Obj}(e:(a7o h H).get? b=some o):h.get? b=some o/\H b=none:=by
 have e':h.get? b=some o:=W.of_hideAll (trk h H) e
 refine⟨e',?_⟩
 cases q:H b with
 | none=>rfl
 | some x=>
  have hm:b∈trk h H:=List.mem_filter.mpr ⟨List.mem_range.mpr (AJ e'),by simp[q]⟩
  have z:(a7o h H).get? b=none:=W.hideAll_none (trk h H) hm
  rw[z]at e;cases e
end L2
namespace L2
open PySem PySem.Spec PyProof.Rows
structure Mod(K:W.Frag)(mg:Str->Option Value)(base:Heap):Prop where
 kin:K.In base
 glob:base.Ns mainGlobals mg
 blt:∃mb,base.Ns builtinsNs mb/\∀x:Str,x≠ "__name__" ->mb x=bootBuiltins x
 nolimit:base.NoLimit
structure Cx where
 prog:Program
 w:World
 K:W.Frag
 mg:Str->Option Value
 base:Heap
 A:Around
 N:List Str
 s₀:Shared
 H₀:Hp
 env:Env
 outer:List Env
 stack:List Env
 ex:List Addr
 fn:Str->Bool
 calm:Bool
 pn:List (Addr×Obj)
 xe:Value->Shared->Prop
noncomputable def frs (l:List Env):List Addr:=l.filterMap (·.frame)
noncomputable abbrev Cx.fs (X:Cx):List Addr:=frs X.outer
noncomputable def Vis (sc:Scope) (x:Str):Prop:=sc.names.lookup x=some .local\/sc.names.lookup x=some .cell\/sc.names.lookup x=some .free
noncomputable def Loc (sc:Scope) (x:Str):Prop:=sc.names.lookup x=some .local\/sc.names.lookup x=some .cell
noncomputable def b7D (env:Env) (h:Heap) (m:Str->Option Value) (x:Str) (u:Value):Prop:=
 (env.kindOf x=some .local/\m x=some u)\/((env.kindOf x=some .cell\/env.kindOf x=some .free)/\∃c,env.cells.lookup x=some c/\h.IsCell c (some u))
structure Cx.Ok(X:Cx):Prop where
 mod:Mod X.K X.mg X.base
 kind:X.env.scope.kind= .function
 glob:X.env.globals=mainGlobals
 blt:X.env.builtins=builtinsNs
 above:X.s₀.heap.objs.size<=X.env.locals
 inj:∀x y c,X.env.cells.lookup x=some c->X.env.cells.lookup y=some c->x=y
 has:∀x,(X.env.kindOf x=some .cell\/X.env.kindOf x=some .free)->∃c,X.env.cells.lookup x=some c
 cab:∀x c,X.fn x=true->X.env.cells.lookup x=some c->X.s₀.heap.objs.size<=c
 hd:X.calm=true->X.A.handled=none
 frames:X.A.frames=some X.stack
 stk:X.stack=X.outer\/(X.stack=X.env::X.outer/\X.env.frame=some X.env.locals)
 exf:∀b∈X.ex,b≠X.env.locals/\∀x c,X.env.cells.lookup x=some c->c≠b
 bs:∀b o,X.base.get? b=some o->X.s₀.heap.get? b=some o/\X.H₀ b=none
 bsz:X.base.objs.size<=X.s₀.heap.objs.size
 noex:∀b o,X.base.get? b=some o->b∉X.ex
 exfs:∀b∈X.ex,b∉X.fs
 funs:X.s₀.heap.FunFrames X.base X.outer
 frf:∀b∈X.fs,X.H₀ b=none
structure Inv(X:Cx)(pins:List (Addr×Obj))(σ:List (Option V))(H:Hp)(s:Shared):Prop where
 ok:X.Ok
 os:s.os=X.s₀.os
 bare:AllBare s.gens
 base:Un X.fs X.ex X.H₀ H X.s₀.heap s.heap
 loc:∃m,s.heap.Ns X.env.locals m/\∀(i:Nat)(x:Str)(v:V),X.N[i]?=some x->σ[i]?=some (some v)->Vis X.env.scope x->∃u,U8 v u/\b7D X.env s.heap m x u
 cell:∀x c,X.env.cells.lookup x=some c->∃v,s.heap.IsCell c v
 free:H X.env.locals=none
 freeC:∀x c,X.env.cells.lookup x=some c->H c=none
 pin:∀p∈X.pn++pins,s.heap.get? p.1=some p.2/\H p.1=none/\p.1≠X.env.locals/\p.1∉X.fs/\∀v,p.2.data≠ .cell v
 hok:HOk X.prog X.w H s.heap
 len:σ.length=X.N.length
section
variable{X:Cx}{pins:List (Addr×Obj)}{σ:List (Option V)}{H H':Hp}{s:Shared}{h':Heap}
theorem Cx.Ok.nofr(ok:X.Ok){b:Addr}{o:Obj}(e:X.base.get? b=some o):b∉X.fs:=fun hb=>by
 have:=(ok.funs.mem hb).1
 rw[e]at this;cases this
theorem Inv.bs(I:Inv X pins σ H s):∀b o,X.base.get? b=some o->s.heap.get? b=some o/\H b=none:=fun b o e=>
 ⟨I.base.keep b o (I.ok.bs b o e).1 (I.ok.bs b o e).2 (I.ok.nofr e) (I.ok.noex b o e),I.base.free b o (I.ok.bs b o e).1 (I.ok.bs b o e).2 (I.ok.noex b o e)⟩
theorem Inv.bk(I:Inv X pins σ H s):∀b o,X.base.get? b=some o->s.heap.get? b=some o:=fun b o e=>(I.bs b o e).1
theorem Inv.mod(I:Inv X pins σ H s):Mod X.K X.mg X.base:=I.ok.mod
theorem Inv.kIn(I:Inv X pins σ H s):X.K.In s.heap:=I.ok.mod.kin.keeps I.bk
theorem Inv.lt(I:Inv X pins σ H s):X.env.locals < s.heap.objs.size:=let⟨_,hn,_⟩:=I.loc;hn.lt
theorem Inv.sz(I:Inv X pins σ H s):X.s₀.heap.objs.size<=s.heap.objs.size:=Nat.le_trans I.ok.above (Nat.le_of_lt I.lt)
theorem Inv.nofs(I:Inv X pins σ H s){a:Addr}(h:s.heap.objs.size<=a):a∉X.fs:=fun hb=>by
 obtain⟨_,o,ho,_⟩:=I.ok.funs.mem hb
 exact absurd (AZ (AJ ho) (Nat.le_trans I.sz h)) (Nat.lt_irrefl _)
theorem Inv.cne(I:Inv X pins σ H s):∀x c,X.env.cells.lookup x=some c->c≠X.env.locals:=fun x c e z=>by
 obtain⟨v,o,ho,hd⟩:=I.cell x c e
 obtain⟨m,⟨o',es,ep,ho',hd',_⟩,_⟩:=I.loc
 rw[z,ho']at ho;cases ho;rw[hd']at hd;cases hd
theorem Inv.funs(I:Inv X pins σ H s):s.heap.FunFrames X.base X.outer:=by
 have all:∀(l:List Env),(∀b∈frs l,b∈X.fs)->X.s₀.heap.FunFrames X.base l->s.heap.FunFrames X.base l:=by
  intro l
  induction l with
  | nil=>intro _ _;trivial
  | cons env r ih=>
   intro hs hl
   obtain⟨hk,⟨L,o,hf,hn,ho,hd⟩,hr⟩:=hl
   have hL:L∈X.fs:=hs L (by unfold frs;rw[AS,hf];exact AM)
   obtain⟨sl,e⟩:=I.base.slot L o ho (I.ok.frf L hL) hL fun z=>I.ok.exfs L z hL
   exact⟨hk,⟨L,_,hf,hn,e,hd⟩,ih (fun b hb=>hs b (by unfold frs;rw[AS,hf];exact AK _ hb)) hr⟩
 exact all X.outer (fun _ hb=>hb) I.ok.funs
theorem Inv.stack(I:Inv X pins σ H s):s.heap.FunFrames X.base X.stack:=by
 rcases I.ok.stk with e | ⟨e,hf⟩
 ·rw[e];exact I.funs
 ·rw[e]
  obtain⟨m,hn,_⟩:=I.loc
  refine .cons (by rw[I.ok.kind];decide) hf hn ?_ I.funs
  exact Heap.get?_none_of_le (Nat.le_trans I.ok.bsz I.ok.above)
theorem Inv.stkSub(I:Inv X pins σ H s):∀b∈frs X.stack,b∈X.env.locals::X.fs:=fun b hb=>by
 rcases I.ok.stk with e | ⟨e,hf⟩
 ·rw[e]at hb;exact AK _ hb
 ·rw[e]at hb
  unfold frs at hb
  rw[AS,hf]at hb
  exact hb
theorem Inv.stkFree(I:Inv X pins σ H s):∀b∈frs X.stack,H b=none:=fun b hb=>by
 rcases List.mem_cons.mp (I.stkSub b hb)with e | hb
 ·rw[e];exact I.free
 ·obtain⟨_,o,ho,_⟩:=I.ok.funs.mem hb
  exact I.base.free b o ho (I.ok.frf b hb) fun z=>I.ok.exfs b z hb
theorem Inv.step{g':Array GenState}{t':Nat}{d':Drawn}{ch:List Addr}(I:Inv X pins σ H s)
  (hch:∀b∈ch,(b∈X.ex\/X.s₀.heap.objs.size<=b)/\b≠X.env.locals/\(∀x c,X.env.cells.lookup x=some c->c≠b)/\∀p∈X.pn++pins,p.1≠b)
  (keep:∀b o,b≠X.env.locals->b∉X.fs->b∉ch->s.heap.get? b=some o->H b=none->h'.get? b=some o)
  (slot:∀b o,b≠X.env.locals->b∈X.fs->b∉ch->s.heap.get? b=some o->H b=none->∃sl,h'.get? b=some {o with slots:=sl})(free:∀b o,b∉ch->s.heap.get? b=some o->H b=none->H' b=none)
  (there:∀b o,b∉ch->s.heap.get? b=some o->∃o',h'.get? b=some o')
  (tups:∀b xs,H b=some (.tup xs)->H' b=some (.tup xs))(frzs:∀b o u,H b=some (.frz o u)->H' b=some (.frz o u))(tbls:∀b ps,H b=some (.tbl ps)->∃more,H' b=some (.tbl (ps++more)))
  (ns:∀m,s.heap.Ns X.env.locals m->h'.Ns X.env.locals m)(hok:HOk X.prog X.w H' h')(hg:AllBare g'):
  Inv X pins σ H' {s with heap:=h',gens:=g',drawn:=d',toks:=t'}:=by
 have neL:∀b o,X.s₀.heap.get? b=some o->b≠X.env.locals:=fun b o e=>BB (AZ (AJ e) I.ok.above)
 have neC:∀b o,X.s₀.heap.get? b=some o->b∉X.ex->b∉ch:=fun b o e hx hb=>by
  rcases(hch b hb).1 with z | z
  ·exact hx z
  ·exact absurd (AZ (AJ e) z) (Nat.lt_irrefl _)
 have cellK:∀x c,X.env.cells.lookup x=some c->∀v,s.heap.IsCell c v->h'.IsCell c v:=fun x c e v⟨o,ho,hd⟩=>by
  have nch:c∉ch:=fun z=>(hch c z).2.2.1 x c e rfl
  by_cases hc:c∈X.fs
  ·obtain⟨sl,q⟩:=slot c o (I.cne x c e) hc nch ho (I.freeC x c e)
   exact⟨_,q,hd⟩
  ·exact⟨o,keep c o (I.cne x c e) hc nch ho (I.freeC x c e),hd⟩
 refine⟨I.ok,I.os,hg,⟨fun b o e n hb hx=>?_,fun b o e n hb hx=>?_,fun b o e n hx=>?_,fun b o e hx=>?_,fun b xs e=>tups b xs (I.base.tups b xs e),fun b o xs e=>frzs b o xs (I.base.frzs b o xs e),fun b ps e=>?_⟩,?_,fun x c e=>?_,?_,fun x c e=>?_,fun p hp=>?_,hok,I.len⟩
 ·exact keep b o (neL b o e) hb (neC b o e hx) (I.base.keep b o e n hb hx) (I.base.free b o e n hx)
 ·obtain⟨sl,e1⟩:=I.base.slot b o e n hb hx
  obtain⟨sl',e2⟩:=slot b _ (neL b o e) hb (neC b o e hx) e1 (I.base.free b o e n hx)
  exact⟨sl',e2⟩
 ·obtain⟨o',e1⟩:=I.base.there b o e hx
  exact free b o' (neC b o e hx) e1 (I.base.free b o e n hx)
 ·obtain⟨o',e1⟩:=I.base.there b o e hx
  exact there b o' (neC b o e hx) e1
 ·obtain⟨m1,e1⟩:=I.base.tbls b ps e
  obtain⟨m2,e2⟩:=tbls b _ e1
  exact⟨m1++m2,by rw[e2,Array.append_assoc]⟩
 ·obtain⟨m,hn,hl⟩:=I.loc
  refine⟨m,ns m hn,fun i x v e1 e2 e3=>?_⟩
  obtain⟨u,r,l⟩:=hl i x v e1 e2 e3
  refine⟨u,r,?_⟩
  rcases l with l | ⟨k,c,e,z⟩
  ·exact .inl l
  ·exact .inr ⟨k,c,e,cellK x c e _ z⟩
 ·obtain⟨v,z⟩:=I.cell x c e
  exact⟨v,cellK x c e v z⟩
 ·obtain⟨m,⟨o,_,_,ho,_⟩,_⟩:=I.loc
  exact free _ o (fun z=>(hch _ z).2.1 rfl) ho I.free
 ·obtain⟨v,o,ho,hd⟩:=I.cell x c e
  exact free c o (fun z=>(hch c z).2.2.1 x c e rfl) ho (I.freeC x c e)
 ·obtain⟨e,n,ne,nf,d⟩:=I.pin p hp
  have nch:p.1∉ch:=fun z=>(hch p.1 z).2.2.2 p hp rfl
  exact⟨keep p.1 p.2 ne nf nch e n,free p.1 p.2 nch e n,ne,nf,d⟩
theorem Inv.un{t':Nat}(I:Inv X pins σ H s)(u:Un X.fs [] H H' s.heap h')(hok:HOk X.prog X.w H' h'):Inv X pins σ H' {s with heap:=h',toks:=t'}:=by
 obtain⟨m,⟨o,es,ep,ho,r⟩,_⟩:=id I.loc
 obtain⟨sl,hL⟩:=u.any ho I.free (by simp)
 exact I.step (g':=s.gens) (d':=s.drawn) (ch:=[]) (fun _ z=>nomatch z) (fun b o _ hb _ e n=>u.keep b o e n hb (by simp)) (fun b o _ hb _ e n=>u.slot b o e n hb (by simp)) (fun b o _ e n=>u.free b o e n (by simp)) (fun b o _ e=>u.there b o e (by simp)) u.tups u.frzs u.tbls (fun m' hm=>by
  obtain⟨o',es',ep',ho',r'⟩:=hm
  rw[ho]at ho';cases ho'
  exact⟨_,es',ep',hL,r'⟩) hok I.bare
theorem Inv.call{g':Array GenState}{t':Nat}{d':Drawn}{ch:List Addr}(I:Inv X pins σ H s)(u:Un (frs X.stack) ch H H' s.heap h')(hok:HOk X.prog X.w H' h')(hg:AllBare g')
  (hch:∀b∈ch,(b∈X.ex\/X.s₀.heap.objs.size<=b)/\b≠X.env.locals/\(∀x c,X.env.cells.lookup x=some c->c≠b)/\∀p∈X.pn++pins,p.1≠b):
  Inv X pins σ H' {s with heap:=h',gens:=g',drawn:=d',toks:=t'}:=by
 obtain⟨m,⟨o,es,ep,ho,r⟩,_⟩:=id I.loc
 obtain⟨sl,hL⟩:=u.any ho I.free fun z=>(hch _ z).2.1 rfl
 exact I.step (ch:=ch) hch (fun b o hL hb hc e n=>u.keep b o e n (fun z=>(List.mem_cons.mp (I.stkSub b z)).elim hL hb) hc) (fun b o _ _ hc e n=>u.any e n hc) (fun b o hc e n=>u.free b o e n hc) (fun b o hc e=>u.there b o e hc) u.tups u.frzs u.tbls (fun m' hm=>by
  obtain⟨o',es',ep',ho',r'⟩:=hm
  rw[ho]at ho';cases ho'
  exact⟨_,es',ep',hL,r'⟩) hok hg
theorem Inv.turned{t':Nat}{it:Addr}(I:Inv X pins σ H s)(k:∀b o,b≠it->s.heap.get? b=some o->h'.get? b=some o)(hn:H it=none)(hL:it≠X.env.locals)
  (h1:it∈X.ex\/X.s₀.heap.objs.size<=it)(h2:∀x c,X.env.cells.lookup x=some c->c≠it)(h3:∀p∈X.pn++pins,p.1≠it):Inv X pins σ H {s with heap:=h',toks:=t'}:=by
 have nit:∀b u,H b=some u->b≠it:=fun b u e z=>by rw[z,hn]at e;cases e
 refine I.step (g':=s.gens) (d':=s.drawn) (ch:=[it]) (fun b hb=>?_) (fun b o _ _ hc e _=>k b o (fun z=>hc (by simp[z])) e) (fun b o _ _ hc e _=>⟨o.slots,k b o (fun z=>hc (by simp[z])) e⟩) (fun _ _ _ _ n=>n)
  (fun b o hc e=>⟨o,k b o (fun z=>hc (by simp[z])) e⟩) (fun _ _ e=>e) (fun _ _ _ e=>e) (fun b ps e=>⟨#[],by rw[e];simp⟩) (fun m hm=>?_) (fun b u e=>?_) I.bare
 ·have e:b=it:=by simpa using hb
  subst e
  exact⟨h1,hL,h2,h3⟩
 ·obtain⟨o,es,ep,ho,r⟩:=hm
  exact⟨o,es,ep,k _ o (Ne.symm hL) ho,r⟩
 ·refine(I.hok b u e).stay (fun c v hc q=>k c v ?_ q) (fun _ q=>q) fun _ _ q=>q
  rcases hc with z | z
  ·rw[z];exact nit b u e
  ·exact nit c _ z
theorem Inv.tok(I:Inv X pins σ H s)(t:Nat):Inv X pins σ H {s with toks:=t}:=I.un (h':=s.heap) (t':=t) Un.refl I.hok
theorem Inv.kept{t':Nat}(I:Inv X pins σ H s)(k:∀b u,s.heap.get? b=some u->h'.get? b=some u):Inv X pins σ H {s with heap:=h',toks:=t'}:=I.un (Un.kept k) (I.hok.kept k)
theorem Inv.laid{a:Addr}{o:HO}{t':Nat}(I:Inv X pins σ H s)(k:∀b u,s.heap.get? b=some u->h'.get? b=some u)(hp:s.heap.objs.size<=a)(new:Y3 X.prog X.w (upd H a o) h' a o):
  Inv X pins σ (upd H a o) {s with heap:=h',toks:=t'}:=I.un (Un.laid k hp (I.hok.fresh hp)) (I.hok.laid k hp new)
theorem Inv.write{x e:Addr}{o:HO}{t':Nat}(I:Inv X pins σ H s)(mu:Mut (H x))(he:e=x\/H e=some (.own x))(k:∀b u,b≠e->s.heap.get? b=some u->h'.get? b=some u)(heo:∃u,h'.get? e=some u)
  (new:Y3 X.prog X.w (upd H x o) h' x o):Inv X pins σ (upd H x o) {s with heap:=h',toks:=t'}:=I.un (Un.write mu he k heo) (I.hok.write mu he k heo new)
theorem Inv.pins_of{pins':List (Addr×Obj)}(I:Inv X pins σ H s)(h:∀p∈pins',s.heap.get? p.1=some p.2/\H p.1=none/\p.1≠X.env.locals/\p.1∉X.fs/\∀v,p.2.data≠ .cell v):Inv X pins' σ H s:=
 ⟨I.ok,I.os,I.bare,I.base,I.loc,I.cell,I.free,I.freeC,fun p hp=>(AL.mp hp).elim (fun z=>I.pin p (BF _ z)) (h p),I.hok,I.len⟩
theorem a5x{N:List Str}(hN:N.Nodup){i j:Nat}{x:Str}(a:N[i]?=some x)(b:N[j]?=some x):i=j:=by
 obtain⟨h1,e1⟩:=List.getElem?_eq_some_iff.mp a
 obtain⟨h2,e2⟩:=List.getElem?_eq_some_iff.mp b
 exact(List.getElem_inj hN).mp (e1.trans e2.symm)
theorem a6n{M:Model}{A:Around}{E:Value->Shared->Prop}{i:Nat}{x:Str}{v:V}{u:Value}{Q:Unit->Shared->Prop}(I:Inv X pins σ H s)(hN:X.N.Nodup)(hi:X.N[i]?=some x)(hx:Loc X.env.scope x)(r:U8 v u)
  (h:∀s',Inv X pins (σ.set i (some v)) H s'->(∃a,Heap.SameBut a s.heap s'.heap/\(a=X.env.locals\/X.env.cells.lookup x=some a))->Q () s')(hf:X.fn x=true\/X.env.scope.names.lookup x=some .local:=by first | exact .inl rfl | exact .inr rfl | assumption):wpAny M A (storeName X.env x u) Q E s:=by
 obtain⟨m,hn,hl⟩:=id I.loc
 have hcls:(X.env.scope.kind== .class || (X.env.scope.kind== .module && X.env.locals != X.env.globals))=false:=by rw[I.ok.kind];rfl
 have hiσ:i < σ.length:=by rw[I.len];exact(List.getElem?_eq_some_iff.mp hi).1
 have cne:=I.cne
 have tracked:∀{a:Addr}{h':Heap},(∃o,s.heap.get? a=some o/\H a=none)->Heap.SameBut a s.heap h'->HOk X.prog X.w H h':=fun{a h'}ha hs b ob e=>by
  obtain⟨_,_,hfree⟩:=ha
  refine(I.hok b ob e).stay (fun c w' hc q=>(hs.2 c ?_).trans q) (fun _ q=>q) fun _ _ q=>q
  rintro rfl
  rcases hc with rfl | hc
  ·rw[hfree]at e;cases e
  ·rw[hfree]at hc;cases hc
 rcases hx with hk | hk
 ·refine wpAny_storeName_local hk hn (fun h' hn' hs=>?_) hcls
  obtain⟨oL,_,_,hoL,_⟩:=id hn
  refine h _ ⟨I.ok,I.os,I.bare,⟨fun b o e n hb hx=>?_,fun b o e n hb hx=>?_,I.base.free,fun b o e hx=>?_,I.base.tups,I.base.frzs,I.base.tbls⟩,⟨_,hn',fun j y v' e1 e2 e3=>?_⟩,fun y c e=>?_,I.free,I.freeC,fun p hp=>?_,tracked ⟨oL,hoL,I.free⟩ hs,by simpa using I.len⟩ ⟨_,hs,.inl rfl⟩
  ·exact(hs.2 b (BB (AZ (AJ e) I.ok.above))).trans (I.base.keep b o e n hb hx)
  ·obtain⟨sl,e1⟩:=I.base.slot b o e n hb hx
   exact⟨sl,(hs.2 b (BB (AZ (AJ e) I.ok.above))).trans e1⟩
  ·obtain⟨o',e1⟩:=I.base.there b o e hx
   exact⟨o',(hs.2 b (BB (AZ (AJ e) I.ok.above))).trans e1⟩
  ·by_cases hj:j=i
   ·subst hj
    rw[hi]at e1;cases e1
    rw[BK hiσ]at e2
    cases e2
    exact⟨u,r,.inl ⟨hk,by simp⟩⟩
   ·rw[BP (Ne.symm hj)]at e2
    obtain⟨u',r',q⟩:=hl j y v' e1 e2 e3
    refine⟨u',r',?_⟩
    rcases q with⟨k,e⟩ | ⟨k,c,e,z⟩
    ·refine .inl ⟨k,?_⟩
     have:y≠x:=fun e=>hj (a5x hN e1 (e▸hi))
     simp[this,e]
    ·exact .inr ⟨k,c,e,z.sameBut hs (cne y c e)⟩
  ·obtain⟨w',z⟩:=I.cell y c e
   exact⟨w',z.sameBut hs (cne y c e)⟩
  ·obtain⟨e,n,ne,nf,d⟩:=I.pin p hp
   exact⟨(hs.2 p.1 ne).trans e,n,ne,nf,d⟩
 ·have hfn:X.fn x=true:=by
   rcases hf with z | z
   ·exact z
   ·rw[z]at hk;cases hk
  obtain⟨c,hc⟩:=I.ok.has x (.inl hk)
  obtain⟨w',z⟩:=I.cell x c hc
  refine wpAny_storeName_cell I.ok.kind hk hc z (fun h' hc' hs=>?_)
  obtain⟨oc,hoc,hocd⟩:=id z
  refine h {s with heap:=h'} ⟨I.ok,I.os,I.bare,⟨fun b o e n hb hx=>?_,fun b o e n hb hx=>?_,I.base.free,fun b o e hx=>?_,I.base.tups,I.base.frzs,I.base.tbls⟩,⟨m,hn.sameBut hs (Ne.symm (cne x c hc)),fun j y v' e1 e2 e3=>?_⟩,fun y c' e=>?_,I.free,I.freeC,fun p hp=>?_,tracked ⟨oc,hoc,I.freeC x c hc⟩ hs,by simpa using I.len⟩ ⟨c,hs,.inr hc⟩
  ·exact(hs.2 b (BB (AZ (AJ e) (I.ok.cab x c hfn hc)))).trans (I.base.keep b o e n hb hx)
  ·obtain⟨sl,e1⟩:=I.base.slot b o e n hb hx
   exact⟨sl,(hs.2 b (BB (AZ (AJ e) (I.ok.cab x c hfn hc)))).trans e1⟩
  ·obtain⟨o',e1⟩:=I.base.there b o e hx
   exact⟨o',(hs.2 b (BB (AZ (AJ e) (I.ok.cab x c hfn hc)))).trans e1⟩
  ·by_cases hj:j=i
   ·subst hj
    rw[hi]at e1;cases e1
    rw[BK hiσ]at e2
    cases e2
    exact⟨u,r,.inr ⟨.inl hk,c,hc,hc'⟩⟩
   ·rw[BP (Ne.symm hj)]at e2
    obtain⟨u',r',q⟩:=hl j y v' e1 e2 e3
    refine⟨u',r',?_⟩
    rcases q with q | ⟨k,c',e,z'⟩
    ·exact .inl q
    ·refine .inr ⟨k,c',e,z'.sameBut hs ?_⟩
     rintro rfl
     exact hj (a5x hN e1 (I.ok.inj _ _ _ e hc▸hi))
  ·by_cases hcc:c'=c
   ·subst hcc;exact⟨_,hc'⟩
   ·obtain⟨w2,z2⟩:=I.cell y c' e
    exact⟨w2,z2.sameBut hs hcc⟩
  ·obtain⟨e,n,ne,nf,d⟩:=I.pin p hp
   refine⟨(hs.2 p.1 ?_).trans e,n,ne,nf,d⟩
   intro q
   rw[q,hoc]at e
   have q':oc=p.2:=Option.some.inj e
   exact d w' (by rw[<-q'];exact hocd)
theorem a3H{M:Model}{A:Around}{E:Value->Shared->Prop}{i:Nat}{x:Str}{v:V}{u:Value}{Q:Unit->Shared->Prop}(I:Inv X pins σ H s)(hN:X.N.Nodup)(hi:X.N[i]?=some x)(hx:Loc X.env.scope x)(r:U8 v u)
  (h:∀s',Inv X pins (σ.set i (some v)) H s'->Q () s')(hf:X.fn x=true\/X.env.scope.names.lookup x=some .local:=by first | exact .inl rfl | exact .inr rfl | assumption):wpAny M A (storeName X.env x u) Q E s:=
 a6n I hN hi hx r (fun s' I' _=>h s' I') hf
theorem Inv.call'{s':Shared}{ch:List Addr}(I:Inv X pins σ H s)(ho:s'.os=s.os)(u:Un (frs X.stack) ch H H' s.heap s'.heap)(hok:HOk X.prog X.w H' s'.heap)(hg:AllBare s'.gens)
  (hch:∀b∈ch,(b∈X.ex\/X.s₀.heap.objs.size<=b)/\b≠X.env.locals/\(∀x c,X.env.cells.lookup x=some c->c≠b)/\∀p∈X.pn++pins,p.1≠b):Inv X pins σ H' s':=by
 obtain⟨h',g',d',t',o'⟩:=s'
 have e:o'=s.os:=ho
 subst e
 exact I.call (g':=g') (t':=t') (d':=d') u hok hg hch
end
noncomputable abbrev XK:=Value->Option Addr->Hp->Prop
noncomputable abbrev St:=List (Option V)
noncomputable abbrev VK:=V->Hp->Prop
noncomputable abbrev TE:=St->Hp->VK->Prop
noncomputable abbrev TT:=St->Hp->(Bool->Hp->Prop)->Prop
noncomputable abbrev TA:=St->Hp->(List V->Hp->Prop)->Prop
structure a0X where
 nx:St->Hp->Prop
 rt:VK
 bk:St->Hp->Prop:=fun _ _=>False
 ct:St->Hp->Prop:=fun _ _=>False
noncomputable abbrev TS:=a0X->St->Hp->Prop
noncomputable def EP (X:Cx) (pins:List (Addr×Obj)) (σ:St) (Q:VK) (u:Value) (s':Shared):Prop:=∃v H',Inv X pins σ H' s'/\U8 v u/\Q v H'
noncomputable def TP (X:Cx) (pins:List (Addr×Obj)) (σ:St) (Q:Bool->Hp->Prop) (b:Bool) (s':Shared):Prop:=∃H',Inv X pins σ H' s'/\Q b H'
noncomputable def AP (X:Cx) (pins:List (Addr×Obj)) (σ:St) (Q:List V->Hp->Prop) (us:List Value) (s':Shared):Prop:=∃vs H',Inv X pins σ H' s'/\W0 vs us/\Q vs H'
noncomputable def SP (X:Cx) (pins:List (Addr×Obj)) (D:a0X) (f:Flow) (s':Shared):Prop:=
 match f with
 | .next=>∃σ' H',Inv X pins σ' H' s'/\D.nx σ' H'
 | .brk=>∃σ' H',Inv X pins σ' H' s'/\D.bk σ' H'
 | .cont=>∃σ' H',Inv X pins σ' H' s'/\D.ct σ' H'
 | .ret u=>∃v σ' H',Inv X pins σ' H' s'/\U8 v u/\D.rt v H'
noncomputable def PE (X:Cx) (e:Expr) (t:TE):Prop:=
 ∀(pins:List (Addr×Obj))(s:Shared)(σ:St)(H:Hp)(Q:VK),Inv X pins σ H s->t σ H Q->wpAny (model X.prog X.w) X.A (eval e X.env) (EP X pins σ Q) X.xe s
noncomputable def PT (X:Cx) (e:Expr) (t:TT):Prop:=
 ∀(pins:List (Addr×Obj))(s:Shared)(σ:St)(H:Hp)(Q:Bool->Hp->Prop),Inv X pins σ H s->t σ H Q->wpAny (model X.prog X.w) X.A (isTrue e X.env (eval e X.env)) (TP X pins σ Q) X.xe s
noncomputable def PW (X:Cx) (e:Expr) (t:TT):Prop:=
 ∀(whole:Sem Value)(pins:List (Addr×Obj))(s:Shared)(σ:St)(H:Hp)(Q:Bool->Hp->Prop),Inv X pins σ H s->t σ H Q->wpAny (model X.prog X.w) X.A (isTrue e X.env whole) (TP X pins σ Q) X.xe s
theorem PW.pt{X:Cx}{e:Expr}{t:TT}(h:PW X e t):PT X e t:=h _
noncomputable def PA (X:Cx) (es:List Expr) (t:TA):Prop:=
 ∀(pos:Pos)(pins:List (Addr×Obj))(s:Shared)(σ:St)(H:Hp)(Q:List V->Hp->Prop),Inv X pins σ H s->t σ H Q->wpAny (model X.prog X.w) X.A (spliced (backTo pos (starEach es X.env))) (AP X pins σ Q) X.xe s
noncomputable def PS (X:Cx) (st:Stmt) (t:TS):Prop:=
 ∀(pins:List (Addr×Obj))(s:Shared)(σ:St)(H:Hp)(D:a0X),Inv X pins σ H s->t D σ H->wpAny (model X.prog X.w) X.A (exec st X.env) (SP X pins D) X.xe s
noncomputable def PSs (X:Cx) (st:List Stmt) (t:TS):Prop:=
 ∀(pins:List (Addr×Obj))(s:Shared)(σ:St)(H:Hp)(D:a0X),Inv X pins σ H s->t D σ H->wpAny (model X.prog X.w) X.A (execs st X.env) (SP X pins D) X.xe s
theorem thn{α:Type}{t:Sem α}{Q Q':α->Shared->Prop}{M:Model}{A:Around}{E:Value->Shared->Prop}{s:Shared}(h:wpAny M A t Q E s)(hQ:∀a s,Q a s->Q' a s):wpAny M A t Q' E s:=wpAny_mono h hQ fun _ _ x=>x
end L2
namespace L2
open PySem PySem.Spec PyProof.Rows
section
variable{X:Cx}
noncomputable def b6M (i:Nat):TE:=fun σ H Q=>∃v,σ[i]?=some (some v)/\Q v H
noncomputable def tC (v:V):TE:=fun _ H Q=>Q v H
theorem b5Z{i:Nat}{x:Str}{pos:Pos}(hN:X.N[i]?=some x)(hv:Vis X.env.scope x)(hd:(x==("__debug__":Str))=false:=by decide)(hcd:(x==("__classdict__":Str))=false:=by decide):PE X (.Name x pos) (b6M i):=by
 intro pins s σ H Q I h
 obtain⟨v,e,h⟩:=h
 obtain⟨m,hn,hl⟩:=I.loc
 obtain⟨u,r,l⟩:=hl i x v hN e hv
 have fin:EP X pins σ Q u s:=⟨v,H,I,r,h⟩
 rcases l with⟨hk,hm⟩ | ⟨hk,c,hc,hcell⟩
 ·exact wpAny_Name (wpAny_loadName_local I.ok.kind hk hn hm fin) hd
 ·rcases hk with hk | hk
  ·exact wpAny_Name (wpAny_loadName_cell I.ok.kind hk hc hcell fin) hd
  ·exact wpAny_Name (wpAny_loadName_free I.ok.kind hk hc hcell fin hcd) hd
theorem G2{i j pos}:PE X (.Constant (.int i) j pos) (tC (.int i)):=fun _ _ _ H _ I h=>wpAny_Constant_int ⟨.int i,H,I.tok _,⟨_,rfl⟩,h⟩
theorem a3s{b j pos}:PE X (.Constant (.bool b) j pos) (tC (.bl b)):=fun _ _ _ H _ I h=>Constant_bool ⟨.bl b,H,I,rfl,h⟩
theorem a4P{j pos}:PE X (.Constant .none j pos) (tC .non):=fun _ _ _ H _ I h=>Constant_none ⟨.non,H,I,rfl,h⟩
theorem U5{x j pos}:PE X (.Constant (.str x) j pos) (tC (.str x)):=fun _ _ _ H _ I h=>Calls.Constant_str ⟨.str x,H,I.tok _,⟨_,rfl⟩,h⟩
noncomputable def Gl (X:Cx) (x:Str):Prop:=X.env.kindOf x=some .globalImplicit
theorem a2B{E:Value->Shared->Prop}{pins:List (Addr×Obj)}{s:Shared}{σ:St}{H:Hp}{x:Str}{u:Value}{pos:Pos}{Q:Value->Shared->Prop}(I:Inv X pins σ H s)(hg:Gl X x)(hm:X.mg x=some u)(h:Q u s)
  (hd:(x==("__debug__":Str))=false:=by decide):wpAny (model X.prog X.w) X.A (eval (.Name x pos) X.env) Q E s:=
 Calls.Name_function_global I.ok.kind hg (Calls.loadGlobal_global (by rw[I.ok.glob];exact I.mod.glob.keeps I.bk) hm h) hd
theorem a0T{E:Value->Shared->Prop}{pins:List (Addr×Obj)}{s:Shared}{σ:St}{H:Hp}{x:Str}{u:Value}{pos:Pos}{Q:Value->Shared->Prop}(I:Inv X pins σ H s)(hg:Gl X x)(hm:X.mg x=none)(hv:bootBuiltins x=some u)(h:Q u s)
  (hn:x≠ "__name__":=by decide)(hd:(x==("__debug__":Str))=false:=by decide):wpAny (model X.prog X.w) X.A (eval (.Name x pos) X.env) Q E s:=by
 obtain⟨mb,h1,h2⟩:=I.mod.blt
 exact Calls.Name_function_global I.ok.kind hg (Calls.loadGlobal_builtin (by rw[I.ok.glob];exact I.mod.glob.keeps I.bk) hm (by rw[I.ok.blt];exact h1.keeps I.bk) ((h2 x hn).trans hv) h) hd
theorem a0p{x:Str}{v:V}{u:Value}{pos:Pos}(hg:Gl X x)(hm:X.mg x=some u)(r:U8 v u)(hd:(x==("__debug__":Str))=false:=by decide):PE X (.Name x pos) (tC v):=
 fun _ _ _ H _ I h=>a2B I hg hm ⟨v,H,I,r,h⟩ hd
theorem a3u{x:Str}{v:V}{u:Value}{pos:Pos}(hg:Gl X x)(hm:X.mg x=none)(hv:bootBuiltins x=some u)(r:U8 v u)(hn:x≠ "__name__":=by decide)(hd:(x==("__debug__":Str))=false:=by decide):PE X (.Name x pos) (tC v):=
 fun _ _ _ H _ I h=>a0T I hg hm hv ⟨v,H,I,r,h⟩ hn hd
variable{a b:Expr}{ta tb:TE}{pos:Pos}
noncomputable def PC (X:Cx) (op:CmpOp) (a b:Expr) (t:TE):Prop:=
 ∀(pins:List (Addr×Obj))(s:Shared)(σ:St)(H:Hp)(Q:VK),Inv X pins σ H s->t σ H Q->
  wpAny (model X.prog X.w) X.A (eval a X.env) (fun v s₁=>wpAny (model X.prog X.w) X.A (eval b X.env) (fun u s₂=>wpAny (model X.prog X.w) X.A (compareOp op v u) (EP X pins σ Q) X.xe s₂) X.xe s₁) X.xe s
theorem a8d(b:Expr){op:CmpOp}(h:op≠ .In)(h2:op≠ .NotIn):behindInMarks op b=false:=by
 have e1:(op==CmpOp.In)=false:=by cases op<;>first | rfl | exact absurd rfl h
 have e2:(op==CmpOp.NotIn)=false:=by cases op<;>first | rfl | exact absurd rfl h2
 cases b<;>simp[behindInMarks,e1,e2]
noncomputable def b7s (ta:TE):TE:=fun σ H Q=>ta σ H fun x H1=>Q (.bl (decide (x= .non))) H1
theorem U8.none_iff{x:V}{v:Value}(r:U8 x v):(v==Value.none)=decide (x= .non):=by
 cases x with
 | non=>cases r;rfl
 | bl _=>cases r;rfl
 | int _=>obtain⟨t,rfl⟩:=r;rfl
 | str _=>obtain⟨t,rfl⟩:=r;rfl
 | byt _=>obtain⟨t,rfl⟩:=r;rfl
 | flt _=>obtain⟨t,rfl⟩:=r;rfl
 | ref _=>cases r;rfl
 | ty _=>cases r;rfl
theorem a3T{j pos'}(ha:PE X a ta):PC X .Is a (.Constant .none j pos') (b7s ta):=by
 intro pins s σ H Q I h
 refine thn (ha pins s σ H _ I h) fun v s1⟨x,H1,I1,r1,q1⟩=>?_
 exact Constant_none (is_none_gen ⟨.bl _,H1,I1,by rw[r1.none_iff];rfl,q1⟩)
noncomputable def tB (t:TE):TT:=fun σ H Q=>t σ H fun x H1=>∃c,x= .bl c/\Q c H1
theorem a9I{op:CmpOp}{t:TE}(h:PC X op a b t)(h1:behindInMarks op b=false:=by first | exact a8d _ (by decide) (by decide) | rfl):PE X (.Compare a [op] [b] pos) t:=fun pins s σ H Q I hw=>wpAny_Compare1 (h pins s σ H Q I hw) h1
theorem a2U{op:CmpOp}{t:TE}(h:PC X op a b t)(h1:behindInMarks op b=false:=by first | exact a8d _ (by decide) (by decide) | rfl):PT X (.Compare a [op] [b] pos) (tB t):=by
 intro pins s σ H Q I hw
 refine wpAny_isTrue_Compare1 (thn (h pins s σ H _ I hw) fun v s1 h1=>thn h1 fun u s2 h2=>thn h2 fun c s3⟨x,H1,I1,r1,q1⟩=>?_) h1
 obtain⟨d,rfl,q⟩:=q1
 cases r1
 exact wpAny_truthy_bool ⟨H1,I1,q⟩
theorem a4g{e:Expr}{t:TE}(h:PE X e t)(he:∀whole,isTrue e X.env whole=(do let v<-whole;standAt e.pos;holding [v] (truthy v)):=by intro _;rfl):PT X e (tB t):=by
 intro pins s σ H Q I hw
 refine isTrue_plain (thn (h pins s σ H _ I hw) fun v s1⟨x,H1,I1,r1,q1⟩=>?_) (he _)
 obtain⟨d,rfl,q⟩:=q1
 cases r1
 exact wpAny_truthy_bool ⟨H1,I1,q⟩
variable{tA tB':TT}{rest:List Expr}
noncomputable def b0I (t u:TT):TT:=fun σ H Q=>t σ H fun c H1=>if c=true then u σ H1 Q else Q false H1
noncomputable def tOr (t u:TT):TT:=fun σ H Q=>t σ H fun c H1=>if c=true then Q true H1 else u σ H1 Q
noncomputable def b7C (t:TT):TT:=fun σ H Q=>t σ H fun c H1=>Q (!c) H1
theorem a0E(ha:PT X a tA):PW X (.BoolOp .And [a] pos) tA:=by
 intro wh pins s σ H Q I h
 refine isTrue_and (thn (ha pins s σ H Q I h) fun c s1 e=>?_)
 cases c with
 | true=>exact isTrue_and_nil e
 | false=>exact e
theorem a9a(ha:PT X a tA):PW X (.BoolOp .Or [a] pos) tA:=by
 intro wh pins s σ H Q I h
 refine isTrue_or (thn (ha pins s σ H Q I h) fun c s1 e=>?_)
 cases c with
 | false=>exact isTrue_or_nil e
 | true=>exact e
theorem a1D(ha:PT X a tA)(hb:PW X (.BoolOp .And (b::rest) pos) tB'):PW X (.BoolOp .And (a::b::rest) pos) (b0I tA tB'):=by
 intro wh pins s σ H Q I h
 refine isTrue_and (thn (ha pins s σ H _ I h) fun c s1⟨H1,I1,q1⟩=>?_)
 cases c with
 | true=>exact hb wh pins s1 σ H1 Q I1 q1
 | false=>exact⟨H1,I1,q1⟩
theorem a9W(ha:PT X a tA)(hb:PW X (.BoolOp .Or (b::rest) pos) tB'):PW X (.BoolOp .Or (a::b::rest) pos) (tOr tA tB'):=by
 intro wh pins s σ H Q I h
 refine isTrue_or (thn (ha pins s σ H _ I h) fun c s1⟨H1,I1,q1⟩=>?_)
 cases c with
 | true=>exact⟨H1,I1,q1⟩
 | false=>exact hb wh pins s1 σ H1 Q I1 q1
theorem a9l(ha:PT X a tA):PT X (.UnaryOp .Not a pos) (b7C tA):=by
 intro pins s σ H Q I h
 exact isTrue_not (ha pins s σ H (fun c H1=>Q (!c) H1) I h)
noncomputable def b6B (ta tb:TE):TE:=fun σ H Q=>ta σ H fun x H1=>∃c,x= .bl c/\if c=true then tb σ H1 Q else Q (.bl false) H1
noncomputable def b6v (ta:TE):TE:=fun σ H Q=>ta σ H fun x H1=>∃c,x= .bl c/\Q (.bl (!c)) H1
theorem a7e{op}{t:TE}(h:PE X a t):PE X (.BoolOp op [a] pos) t:=fun pins s σ H Q I hw=>BoolOp_one (h pins s σ H Q I hw)
theorem a5F(ha:PE X a ta)(hb:PE X (.BoolOp .And (b::rest) pos) tb):PE X (.BoolOp .And (a::b::rest) pos) (b6B ta tb):=by
 intro pins s σ H Q I h
 refine BoolOp_and (thn (ha pins s σ H _ I h) fun v s1⟨x,H1,I1,r1,q1⟩=>?_)
 obtain⟨c,rfl,q1⟩:=q1
 cases r1
 refine wpAny_truthy_bool ?_
 cases c with
 | true=>exact hb pins s1 σ H1 Q I1 q1
 | false=>exact⟨.bl false,H1,I1,rfl,q1⟩
theorem b5l(ha:PE X a ta):PE X (.UnaryOp .Not a pos) (b6v ta):=by
 intro pins s σ H Q I h
 refine UnaryOp_ (thn (ha pins s σ H _ I h) fun v s1⟨x,H1,I1,r1,q1⟩=>?_)
 obtain⟨c,rfl,q1⟩:=q1
 cases r1
 exact not_of (wpAny_truthy_bool ⟨.bl (!c),H1,I1,rfl,q1⟩)
noncomputable def tIf (t:TT) (ta tb:TE):TE:=fun σ H Q=>t σ H fun c H1=>if c=true then ta σ H1 Q else tb σ H1 Q
theorem b2q{c:Expr}(hc:PT X c tA)(ha:PE X a ta)(hb:PE X b tb):PE X (.IfExp c a b pos) (tIf tA ta tb):=by
 intro pins s σ H Q I h
 refine wpAny_IfExp (thn (hc pins s σ H _ I h) fun d s1⟨H1,I1,q1⟩=>?_)
 cases d with
 | true=>exact ha pins s1 σ H1 Q I1 q1
 | false=>exact hb pins s1 σ H1 Q I1 q1
end
end L2
namespace L2
open PySem PySem.Spec PyProof.Rows
noncomputable def SqL (K:W.Frag) (H:Hp) (a:Addr) (xs:List V):Prop:=
 Rd H a (.lst xs)\/
  ∃(o:Obj)(its:Array Value)(n:Nat),K.lookup a=some o/\o.cls= .type "list"/\o.dict=none/\o.data= .seq its n/\its.size<=sizeLine/\W0 xs its.toList
noncomputable def SqT (K:W.Frag) (H:Hp) (a:Addr) (xs:List V):Prop:=
 Rd H a (.tup xs)\/
  ∃(o:Obj)(its:Array Value)(n:Nat),K.lookup a=some o/\o.cls= .type "tuple"/\o.data= .seq its n/\its.size<=sizeLine/\W0 xs its.toList
noncomputable def b7S:Value->Option V
 | .none=>some .non
 | .bool b=>some (.bl b)
 | .int i _=>some (.int i)
 | .str x _=>some (.str x)
 | .bytes b _=>some (.byt b)
 | .float b _=>some (.flt b)
 | .ref a=>some (.ref a)
 | .type n=>some (.ty n)
 | _=>none
theorem U8.abs{x:V}{u:Value}(r:U8 x u):b7S u=some x:=by
 cases x with
 | non=>cases r;rfl
 | bl _=>cases r;rfl
 | int _=>obtain⟨t,rfl⟩:=r;rfl
 | str _=>obtain⟨t,rfl⟩:=r;rfl
 | byt _=>obtain⟨t,rfl⟩:=r;rfl
 | flt _=>obtain⟨t,rfl⟩:=r;rfl
 | ref _=>cases r;rfl
 | ty _=>cases r;rfl
theorem U8.inj{x y:V}{u:Value}(r:U8 x u)(q:U8 y u):x=y:=Option.some.inj (r.abs.symm.trans q.abs)
theorem W0.inj:∀{xs ys:List V}{us:List Value},W0 xs us->W0 ys us->xs=ys
 | _,_,_,.nil,.nil=>rfl
 | _,_,_,.cons r t,.cons r' t'=>by rw[r.inj r',W0.inj t t']
section
variable{X:Cx}{pins:List (Addr×Obj)}{σ:St}{H:Hp}{s:Shared}{a:Addr}{xs ys:List V}
theorem SqL.of{K:W.Frag}(h:H a=some (.lst xs)):SqL K H a xs:= .inl (.inl h)
theorem SqT.of{K:W.Frag}(h:H a=some (.tup xs)):SqT K H a xs:= .inl (.inl h)
theorem Inv.list(I:Inv X pins σ H s)(h:SqL X.K H a xs):∃its:List Value,W0 xs its/\PlainL s.heap a its.toArray/\xs.length<=sizeLine:=by
 rcases h with h | ⟨o,its,n,hk,hc,hd,hs,hz,r⟩
 ·obtain⟨z,its,n,r,e⟩:=h.ok I.hok
  exact⟨its,r,⟨_,n,e,rfl,rfl,rfl⟩,z⟩
 ·refine⟨its.toList,r,⟨o,n,I.kIn a o hk,hc,hd,by simpa using hs⟩,?_⟩
  have e:=r.length
  simp only[Array.length_toList]at e
  omega
theorem Inv.tuple(I:Inv X pins σ H s)(h:SqT X.K H a xs):∃its:List Value,W0 xs its/\IsTup s.heap a its.toArray/\xs.length<=sizeLine:=by
 rcases h with h | ⟨o,its,n,hk,hc,hs,hz,r⟩
 ·obtain⟨z,its,r,p⟩:=h.ok I.hok
  exact⟨its,r,p,z⟩
 ·refine⟨its.toList,r,⟨o,I.kIn a o hk,hc,n,by simpa using hs⟩,?_⟩
  have e:=r.length
  simp only[Array.length_toList]at e
  omega
theorem Inv.list_inj(I:Inv X pins σ H s)(h:SqL X.K H a xs)(h':SqL X.K H a ys):xs=ys:=by
 obtain⟨its,r,⟨o,n,e,_,_,d⟩,_⟩:=I.list h
 obtain⟨its',r',⟨o',n',e',_,_,d'⟩,_⟩:=I.list h'
 rw[e]at e';cases e'
 rw[d]at d'
 injection d' with d1 _
 have:its=its':=by simpa using congrArg Array.toList d1
 subst this
 exact r.inj r'
theorem Inv.tuple_inj(I:Inv X pins σ H s)(h:SqT X.K H a xs)(h':SqT X.K H a ys):xs=ys:=by
 obtain⟨its,r,⟨o,e,_,n,d⟩,_⟩:=I.tuple h
 obtain⟨its',r',⟨o',e',_,n',d'⟩,_⟩:=I.tuple h'
 rw[e]at e';cases e'
 rw[d]at d'
 injection d' with d1 _
 have:its=its':=by simpa using congrArg Array.toList d1
 subst this
 exact r.inj r'
end
noncomputable abbrev Cx.wish (X:Cx) (E:Value->Shared->Prop):Cx:={X with xe:=E}
noncomputable abbrev Cx.nox (X:Cx):Cx:=X.wish fun _ _=>False
theorem Cx.Ok.wish{X:Cx}(ok:X.Ok)(E:Value->Shared->Prop):(X.wish E).Ok:=
 ⟨ok.mod,ok.kind,ok.glob,ok.blt,ok.above,ok.inj,ok.has,ok.cab,ok.hd,ok.frames,ok.stk,ok.exf,ok.bs,ok.bsz,ok.noex,ok.exfs,ok.funs,ok.frf⟩
theorem Cx.Ok.unwish{X:Cx}{E:Value->Shared->Prop}(ok:(X.wish E).Ok):X.Ok:=
 ⟨ok.mod,ok.kind,ok.glob,ok.blt,ok.above,ok.inj,ok.has,ok.cab,ok.hd,ok.frames,ok.stk,ok.exf,ok.bs,ok.bsz,ok.noex,ok.exfs,ok.funs,ok.frf⟩
section
variable{X:Cx}{pins:List (Addr×Obj)}{σ:St}{H:Hp}{s:Shared}{E:Value->Shared->Prop}
theorem Inv.wish(I:Inv X pins σ H s)(E:Value->Shared->Prop):Inv (X.wish E) pins σ H s:=⟨I.ok.wish E,I.os,I.bare,I.base,I.loc,I.cell,I.free,I.freeC,I.pin,I.hok,I.len⟩
theorem Inv.unwish(I:Inv (X.wish E) pins σ H s):Inv X pins σ H s:=⟨I.ok.unwish,I.os,I.bare,I.base,I.loc,I.cell,I.free,I.freeC,I.pin,I.hok,I.len⟩
theorem SP.unwish{D:a0X}{f:Flow}{s':Shared}(h:SP (X.wish E) pins D f s'):SP X pins D f s':=by
 cases f with
 | next=>obtain⟨σ',H',I,q⟩:=h;exact⟨σ',H',I.unwish,q⟩
 | brk=>obtain⟨σ',H',I,q⟩:=h;exact⟨σ',H',I.unwish,q⟩
 | cont=>obtain⟨σ',H',I,q⟩:=h;exact⟨σ',H',I.unwish,q⟩
 | ret u=>obtain⟨v,σ',H',I,r,q⟩:=h;exact⟨v,σ',H',I.unwish,r,q⟩
theorem PSs.nox{st:List Stmt}{t:TS}(h:PSs X.nox st t):PSs X st t:=fun pins s σ H D I hw=>
 wpAny_mono (h pins s σ H D (I.wish _) hw) (fun _ _ q=>q.unwish) fun _ _ z=>False.elim z
end
section
variable{X:Cx}{st:Stmt}{rest:List Stmt}{t u:TS}{e:Expr}{te:TE}{pos:Pos}
noncomputable def a4W:TS:=fun D σ H=>D.nx σ H
noncomputable def b0z (t u:TS):TS:=fun D σ H=>t {D with nx:=u D} σ H
theorem U9:PSs X [] a4W:=fun _ _ σ H _ I h=>wpAny_execs_nil ⟨σ,H,I,h⟩
theorem G7(h1:PS X st t)(h2:PSs X rest u):PSs X (st::rest) (b0z t u):=by
 intro pins s σ H D I h
 refine wpAny_execs_cons (thn (h1 pins s σ H {D with nx:=u D} I h) fun f s1 q=>?_)
 cases f with
 | next=>
  obtain⟨σ',H',I',q⟩:=q
  exact h2 pins s1 σ' H' D I' q
 | ret v=>exact q
 | brk=>exact q
 | cont=>exact q
theorem G9(h1:PS X st t):PSs X [st] t:=by
 intro pins s σ H D I h
 refine wpAny_execs_cons (thn (h1 pins s σ H D I h) fun f s1 q=>?_)
 cases f with
 | next=>exact wpAny_execs_nil q
 | ret v=>exact q
 | brk=>exact q
 | cont=>exact q
theorem Inv.quiet{pins:List (Addr×Obj)}{σ:St}{H:Hp}{s:Shared}(I:Inv X pins σ H s):interactive X.env=false:=by simp[interactive,I.ok.kind]
noncomputable def b6z (te:TE):TS:=fun D σ H=>te σ H fun _ H1=>D.nx σ H1
theorem Y5(he:PE X e te)(hs:swapsWith e none pos.line X.env=pure false:=by rfl):PS X (.Expr e pos) (b6z te):=by
 intro pins s σ H D I h
 exact wpAny_Expr_any (thn (he pins s σ H _ I h) fun v s1⟨x,H1,I1,r1,q1⟩=>⟨σ,H1,I1,q1⟩) I.quiet hs
noncomputable def b7t (te:TE):TS:=fun D σ H=>te σ H D.rt
theorem R5(he:PE X e te):PS X (.Return (some e) pos) (b7t te):=by
 intro pins s σ H D I h
 exact wpAny_Return_some (thn (he pins s σ H _ I h) fun v s1⟨x,H1,I1,r1,q1⟩=>⟨x,σ,H1,I1,r1,q1⟩)
noncomputable def b6V:TS:=fun D _ H=>D.rt .non H
theorem b4w:PS X (.Return none pos) b6V:=fun _ _ σ H _ I h=>wpAny_Return_none ⟨.non,σ,H,I,rfl,h⟩
noncomputable def a8Z (c:TT) (t u:TS):TS:=fun D σ H=>c σ H fun b H1=>if b=true then t D σ H1 else u D σ H1
theorem Y8{c:Expr}{a b:List Stmt}{tc:TT}(hc:PT X c tc)(ha:PSs X a t)(hb:PSs X b u):PS X (.If c a b pos) (a8Z tc t u):=by
 intro pins s σ H D I h
 refine wpAny_If (thn (hc pins s σ H _ I h) fun d s1⟨H1,I1,q1⟩=>?_)
 cases d with
 | true=>exact ha pins s1 σ H1 D I1 q1
 | false=>exact hb pins s1 σ H1 D I1 q1
end
noncomputable abbrev TG:=V->St->Hp->(St->Hp->Prop)->Prop
noncomputable abbrev TGs:=List V->St->Hp->(St->Hp->Prop)->Prop
noncomputable def PG (X:Cx) (target:Expr) (t:TG):Prop:=
 ∀(pins:List (Addr×Obj))(s:Shared)(σ:St)(H:Hp)(v:V)(u:Value)(Q:St->Hp->Prop),Inv X pins σ H s->U8 v u->t v σ H Q->
  wpAny (model X.prog X.w) X.A (assign target X.env u) (fun _ s'=>∃σ' H',Inv X pins σ' H' s'/\Q σ' H') X.xe s
noncomputable def PGs (X:Cx) (ts:List Expr) (t:TGs):Prop:=
 ∀(pins:List (Addr×Obj))(s:Shared)(σ:St)(H:Hp)(vs:List V)(us:List Value)(Q:St->Hp->Prop),Inv X pins σ H s->W0 vs us->t vs σ H Q->
  wpAny (model X.prog X.w) X.A (assignInOrder ((assignEach ts X.env).map (·.2)) us) (fun _ s'=>∃σ' H',Inv X pins σ' H' s'/\Q σ' H') X.xe s
noncomputable abbrev b6k:=V->V->V->Hp->(Hp->Prop)->Prop
noncomputable def b6u (X:Cx) (t:b6k):Prop:=
 ∀(pins:List (Addr×Obj))(s:Shared)(σ:St)(H:Hp)(o i v:V)(ov iv u:Value)(Q:Hp->Prop),Inv X pins σ H s->U8 o ov->U8 i iv->U8 v u->t o i v H Q->
  wpAny (model X.prog X.w) X.A (setItem ov iv u) (fun _ s'=>∃H',Inv X pins σ H' s'/\Q H') X.xe s
noncomputable abbrev TIp:=V->V->Hp->VK->Prop
noncomputable def PIp (X:Cx) (op:Operator) (t:TIp):Prop:=
 ∀(pins:List (Addr×Obj))(s:Shared)(σ:St)(H:Hp)(x y:V)(v u:Value)(Q:VK),Inv X pins σ H s->U8 x v->U8 y u->t x y H Q->
  wpAny (model X.prog X.w) X.A (inplaceOp op v u) (EP X pins σ Q) X.xe s
section
variable{X:Cx}{pos:Pos}
noncomputable def a0s (i:Nat):TG:=fun v σ H Q=>Q (σ.set i (some v)) H
theorem J5{i:Nat}{x:Str}(hN:X.N.Nodup)(hi:X.N[i]?=some x)(hx:Loc X.env.scope x)(hf:X.fn x=true\/X.env.scope.names.lookup x=some .local:=by first | exact .inl rfl | exact .inr rfl | assumption):PG X (.Name x pos) (a0s i):=by
 intro pins s σ H v u Q I r h
 exact wpAny_assign_Name (a3H I hN hi hx r (fun s' I'=>⟨_,H,I',h⟩) hf)
noncomputable def b7I:TGs:=fun vs σ H Q=>vs=[]/\Q σ H
noncomputable def b6Q (t:TG) (u:TGs):TGs:=fun vs σ H Q=>∃v r,vs=v::r/\t v σ H fun σ' H'=>u r σ' H' Q
theorem Z9:PGs X [] b7I:=by
 intro pins s σ H vs us Q I r h
 obtain⟨e,h⟩:=h
 subst e
 cases r
 exact assignInOrder_nil ⟨σ,H,I,h⟩
theorem J8{e:Expr}{es:List Expr}{t:TG}{u:TGs}(h1:PG X e t)(h2:PGs X es u)
  (hs:(assignEach (e::es) X.env).map (·.2)=assign e X.env::(assignEach es X.env).map (·.2):=by rfl):PGs X (e::es) (b6Q t u):=by
 intro pins s σ H vs us Q I r h
 obtain⟨v,vr,e1,h⟩:=h
 subst e1
 cases r with
 | cons r rr=>
  rw[hs]
  refine assignInOrder_cons (thn (h1 pins s σ H _ _ _ I r h) fun _ s1⟨σ1,H1,I1,q1⟩=>?_)
  exact h2 pins s1 σ1 H1 _ _ Q I1 rr q1
noncomputable def b6K (K:W.Frag) (n:Nat) (t:TGs):TG:=fun v σ H Q=>∃a xs,v= .ref a/\SqT K H a xs/\xs.length=n/\t xs σ H Q
theorem D8{es:List Expr}{k:Nat}{t:TGs}{n:Nat}(hc:X.calm=true)(h:PGs X es t)
  (hn:(assignEach es X.env).length=n:=by rfl)(hst:(assignEach es X.env).findIdx? (·.1)=none:=by rfl):PG X (.Tuple es k pos) (b6K X.K n t):=by
 intro pins s σ H v u Q I r hw
 obtain⟨a,xs,e1,hq,hl,hw⟩:=hw
 subst e1
 cases r
 obtain⟨its,rv,ht,hz⟩:=I.tuple hq
 refine assign_Tuple_tuple (I.ok.hd hc) ht (by simp[hn,<-hl,rv.length]) hst fun h' hx=>?_
 have I1:Inv X pins σ H {s with heap:=h'}:=I.kept (t':=s.toks) fun b o e=>hx b o (BB (AJ e)) e
 exact h pins _ σ H xs _ Q I1 (by simpa using rv) hw
noncomputable def b7k (to ti:TE) (t:b6k):TG:=fun v σ H Q=>to σ H fun o H1=>ti σ H1 fun i H2=>t o i v H2 fun H3=>Q σ H3
theorem b5R{o i:Expr}{to ti:TE}{t:b6k}(ho:PE X o to)(hi:PE X i ti)(hs:b6u X t)
  (ha:∀v,assign (.Subscript o i pos) X.env v=(do
   let ov<-holding [v] (eval o X.env)
   let iv<-holding [v,ov] (eval i X.env)
   standAt pos
   holding [v,ov,iv] (setItem ov iv v)
   release [v,ov,iv] []):=by intro _;rfl):PG X (.Subscript o i pos) (b7k to ti t):=by
 intro pins s σ H v u Q I r h
 rw[ha]
 refine AA (BG (thn (ho pins s σ H _ I h) fun ov s1⟨x,H1,I1,r1,q1⟩=>?_))
 refine AA (BG (thn (hi pins s1 σ H1 _ I1 q1) fun iv s2⟨y,H2,I2,r2,q2⟩=>?_))
 refine AA (wpAny_standAt (AA (BG (thn (hs pins s2 σ H2 x y v ov iv u _ I2 r1 r2 r q2) fun _ s3⟨H3,I3,q3⟩=>?_))))
 exact wpAny_release ⟨σ,H3,I3,q3⟩
noncomputable def b4y (te:TE) (g:TG):TS:=fun D σ H=>te σ H fun x H1=>g x σ H1 D.nx
theorem a9b{tg e:Expr}{te:TE}{g:TG}(he:PE X e te)(hg:PG X tg g)(hs:swapsWithSole [tg] e pos.line X.env=pure false:=by rfl)(hw:swappedStores [tg] e X.env=pure none:=by rfl)
  (h1:(assignEach [tg] X.env).map (·.2)=[assign tg X.env]:=by rfl):PS X (.Assign [tg] e pos) (b4y te g):=by
 intro pins s σ H D I h
 refine wpAny_Assign_stores (thn (he pins s σ H _ I h) fun v s1⟨x,H1,I1,r1,q1⟩=>?_) hs hw
 rw[h1]
 exact thn (hg pins s1 σ H1 x v _ I1 r1 q1) fun _ s2 q=>q
theorem J3{i:Nat}{x:Str}{e:Expr}{te:TE}{pos':Pos}(hN:X.N.Nodup)(hi:X.N[i]?=some x)(hx:Loc X.env.scope x)(he:PE X e te)(hs:swapsWith e (some (.Name x pos')) pos.line X.env=pure false:=by rfl)(hf:X.fn x=true\/X.env.scope.names.lookup x=some .local:=by first | exact .inl rfl | exact .inr rfl | assumption):
  PS X (.Assign [.Name x pos'] e pos) (b4y te (a0s i)):=by
 intro pins s σ H D I h
 refine wpAny_Assign_Name (thn (he pins s σ H _ I h) fun v s1⟨y,H1,I1,r1,q1⟩=>?_) hs
 exact a3H I1 hN hi hx r1 (fun s2 I2=>⟨_,H1,I2,q1⟩) hf
noncomputable def b7Q (i:Nat) (te:TE) (ti:TIp):TS:=fun D σ H=>∃x,σ[i]?=some (some x)/\te σ H fun y H1=>ti x y H1 fun z H2=>D.nx (σ.set i (some z)) H2
theorem b5S{i:Nat}{x:Str}{e:Expr}{te:TE}{op:Operator}{ti:TIp}{pos':Pos}(hN:X.N.Nodup)(hi:X.N[i]?=some x)(hx:Loc X.env.scope x)(he:PE X e te)(ho:PIp X op ti)(hf:X.fn x=true\/X.env.scope.names.lookup x=some .local:=by first | exact .inl rfl | exact .inr rfl | assumption):
  PS X (.AugAssign (.Name x pos') op e pos) (b7Q i te ti):=by
 intro pins s σ H D I h
 obtain⟨v,e1,h⟩:=h
 obtain⟨m,hn,hl⟩:=I.loc
 have vis:Vis X.env.scope x:=by rcases hx with k | k;exact .inl k;exact .inr (.inl k)
 obtain⟨u,r,l⟩:=hl i x v hi e1 vis
 refine wpAny_AugAssign_Name ?_
 have go:wpAny (model X.prog X.w) X.A (eval e X.env) (fun w s₂=>wpAny (model X.prog X.w) X.A (inplaceOp op u w) (fun r s₃=>wpAny (model X.prog X.w) X.A (storeName X.env x r) (fun _=>SP X pins D .next) X.xe s₃) X.xe s₂) X.xe s:=by
  refine thn (he pins s σ H _ I h) fun w s1⟨y,H1,I1,r1,q1⟩=>?_
  refine thn (ho pins s1 σ H1 v y u w _ I1 r r1 q1) fun z s2⟨zv,H2,I2,r2,q2⟩=>?_
  exact a3H I2 hN hi hx r2 (fun s3 I3=>⟨_,H2,I3,q2⟩) hf
 rcases l with⟨hk,hm⟩ | ⟨hk,c,hc,hcell⟩
 ·exact wpAny_loadName_local I.ok.kind hk hn hm go
 ·rcases hk with hk | hk
  ·exact wpAny_loadName_cell I.ok.kind hk hc hcell go
  ·rcases hx with k | k
   ·have:X.env.scope.names.lookup x=some .free:=hk
    rw[k]at this;cases this
   ·have:X.env.scope.names.lookup x=some .free:=hk
    rw[k]at this;cases this
noncomputable def ipI (f:Int->Int->Int):TIp:=fun x y H Q=>∃i j,x= .int i/\y= .int j/\Q (.int (f i j)) H
theorem b5D:PIp X .Add (ipI fun i j=>i+j):=by
 intro pins s σ H x y v u Q I r1 r2 h
 obtain⟨i,j,e1,e2,q⟩:=h
 subst e1;subst e2
 obtain⟨t,rfl⟩:=r1
 obtain⟨t',rfl⟩:=r2
 exact iadd_int ⟨.int _,H,I.tok _,⟨_,rfl⟩,q⟩
end
section
variable{X:Cx}{pos:Pos}
noncomputable def a6T (c:TT) (tb:TS):TS:=fun D σ H=>∃W:Nat->St->Hp->Prop,(∃m,W m σ H)/\∀m σ H,W m σ H->
 c σ H fun b H1=>if b=true then∃N:St->Hp->Prop,(∀σ' H',N σ' H'->∃m',m' < m/\W m' σ' H')/\tb {D with nx:=N,ct:=N,bk:=D.nx} σ H1 else D.nx σ H1
theorem a2b{c:Expr}{body:List Stmt}{tc:TT}{tb:TS}(hp:PassesOwn (model X.prog X.w) X.A X.env X.xe)(hc:PT X c tc)(hb:PSs X body tb):PS X (.While c body [] pos) (a6T tc tb):=by
 intro pins s σ H D I h
 obtain⟨W,⟨m0,w0⟩,turn⟩:=h
 refine wpAny_While (codeAny_whileLoop (fun n s'=>∃σ' H',Inv X pins σ' H' s'/\W n σ' H') ?_ m0 ⟨σ,H,I,w0⟩)
 rintro n s1 ⟨σ1,H1,I1,w1⟩
 refine wpAny_passesOwn hp (thn (hc pins s1 σ1 H1 _ I1 (turn n σ1 H1 w1)) fun b s2⟨H2,I2,q2⟩=>?_)
 cases b with
 | true=>
  obtain⟨N,hN,q2⟩:=q2
  rw[if_pos rfl]
  refine wpAny_passesOwn hp (thn (hb pins s2 σ1 H2 _ I2 q2) fun f s3 q3=>?_)
  cases f with
  | next=>
   obtain⟨σ3,H3,I3,n3⟩:=q3
   obtain⟨m',hm,w3⟩:=hN σ3 H3 n3
   exact⟨m',hm,σ3,H3,I3,w3⟩
  | cont=>
   obtain⟨σ3,H3,I3,n3⟩:=q3
   obtain⟨m',hm,w3⟩:=hN σ3 H3 n3
   exact⟨m',hm,σ3,H3,I3,w3⟩
  | brk=>exact q3
  | ret v=>exact q3
 | false=>
  rw[if_neg AE]
  exact wpAny_execs_nil ⟨σ1,H2,I2,q2⟩
end
structure It where
 go:Nat->Hp->Prop
 yld:Nat->Hp->V->Hp->Prop
 stop:Nat->Hp->Prop
noncomputable def a2P (X:Cx) (pins:List (Addr×Obj)) (H:Hp) (b:Addr):Prop:=
 H b=none/\b≠X.env.locals/\b∉X.fs/\(b∈X.ex\/X.s₀.heap.objs.size<=b)/\(∀x c,X.env.cells.lookup x=some c->c≠b)/\∀p∈X.pn++pins,p.1≠b
theorem Inv.fpOk{X:Cx}{pins:List (Addr×Obj)}{σ:St}{H H':Hp}{s:Shared}{b:Addr}(I:Inv X pins σ H s)(hb:s.heap.objs.size<=b)(hn:H' b=none):a2P X pins H' b:=by
 refine⟨hn,Nat.ne_of_gt (AZ I.lt hb),I.nofs hb,.inr (Nat.le_trans I.sz hb),fun x c e z=>?_,fun p hp z=>?_⟩
 ·obtain⟨v,q⟩:=I.cell x c e
  exact absurd (AZ q.lt (by rw[z];exact hb)) (Nat.lt_irrefl _)
 ·exact absurd (AZ (AJ (I.pin p hp).1) (by rw[z];exact hb)) (Nat.lt_irrefl _)
structure a7U(P:Program)(w:World)(K:W.Frag)(tg:Expr)(J:It)(fp:List Addr)(it:Addr)(tn:Nat->Heap->Prop):Prop where
 mem:it∈fp
 obj:∀i h,tn i h->∀b∈fp,∃o,h.get? b=some o/\∀v,o.data≠ .cell v
 keep:∀i h h',tn i h->(∀b∈fp,∀o,h.get? b=some o->h'.get? b=some o)->tn i h'
 item:∀(X:Cx),X.prog=P->X.w=w->X.K=K->X.calm=true->∀(i:Nat)(pins:List (Addr×Obj))(s:Shared)(σ:St)(H:Hp)(E:Value->Shared->Prop),Inv X pins σ H s->(∀b∈fp,a2P X pins H b)->tn i s.heap->J.go i H->
  wpAny (model P w) X.A (pyNext (.ref it)) (fun r s1=>∃u,r=some u/\
   wpAny (model P w) X.A (letOwnedTupleGo tg (.ref it) u) (fun _ s2=>∃x H',Inv X pins σ H' s2/\U8 x u/\J.yld i H x H'/\tn (i+1) s2.heap/\∀b∈fp,H' b=none) E s1) E s
 done:∀(X:Cx),X.prog=P->X.w=w->X.K=K->X.calm=true->∀(i:Nat)(pins:List (Addr×Obj))(s:Shared)(σ:St)(H:Hp)(E:Value->Shared->Prop),Inv X pins σ H s->(∀b∈fp,a2P X pins H b)->tn i s.heap->J.stop i H->
  wpAny (model P w) X.A (pyNext (.ref it)) (fun r s1=>r=none/\Inv X pins σ H s1) E s
 self:∀(A:Around)(i:Nat)(s:Shared)(Q:Value->Shared->Prop)(E:Value->Shared->Prop),tn i s.heap->Q (.ref it) s->wpAny (model P w) A (pyIter (.ref it)) Q E s
noncomputable abbrev TI:=St->Hp->(It->Hp->Prop)->Prop
noncomputable def PIE (X:Cx) (pins:List (Addr×Obj)) (σ:St) (tg:Expr) (R:It->Hp->Prop) (itv:Value) (s2:Shared):Prop:=
 ∃(it:Addr)(fp:List Addr)(tn:Nat->Heap->Prop)(J:It)(H':Hp),itv= .ref it/\Inv X pins σ H' s2/\a7U X.prog X.w X.K tg J fp it tn/\tn 0 s2.heap/\(∀b∈fp,a2P X pins H' b)/\R J H'
noncomputable def PI (X:Cx) (tg iter:Expr) (wi:TI):Prop:=
 ∀(pins:List (Addr×Obj))(s:Shared)(σ:St)(H:Hp)(R:It->Hp->Prop),Inv X pins σ H s->wi σ H R->
  wpAny (model X.prog X.w) X.A (eval iter X.env) (fun v s1=>wpAny (model X.prog X.w) X.A (pyIter v) (PIE X pins σ tg R) X.xe s1) X.xe s
theorem a9R{M:Model}{A:Around}{E:Value->Shared->Prop}{s:Shared}{tg:Expr}{it:Addr}{u:Value}{o:Obj}{n:String}{vs:Array Value}{Q:Unit->Shared->Prop}(ho:s.heap.get? it=some o)(hc:o.cls= .type n)(hd:o.data= .fields vs)
  (hn:["enumerate","zip","dict_itemiterator","dict_reverseitemiterator","odict_iterator","itertools.zip_longest","itertools.pairwise"].contains n=false)(hQ:Q () s):wpAny M A (letOwnedTupleGo tg (.ref it) u) Q E s:=by
 unfold letOwnedTupleGo
 cases tg<;>first
  | exact AB hQ
  | (cases u<;>first
    | exact AB hQ
    | (refine AA (wpAny_load ho ?_)
       rw[hc,hd]
       show wpAny M A (if(["enumerate","zip","dict_itemiterator","dict_reverseitemiterator","odict_iterator","itertools.zip_longest","itertools.pairwise"].contains n && vs[0]?==some (rawInt _))=true then _ else _) Q E s
       rw[if_neg (by intro h;rw[hn,Bool.false_and]at h;cases h)]
       exact AB hQ))
noncomputable def Itl (K:W.Frag) (a:Addr):It:=
 ⟨fun i H=>∃xs x,SqL K H a xs/\xs[i]?=some x,fun i H x H'=>H'=H/\∀xs,SqL K H a xs->xs[i]?=some x,fun i H=>∃xs,SqL K H a xs/\xs.length<=i⟩
noncomputable def Itt (K:W.Frag) (a:Addr):It:=
 ⟨fun i H=>∃xs x,SqT K H a xs/\xs[i]?=some x,fun i H x H'=>H'=H/\∀xs,SqT K H a xs->xs[i]?=some x,fun i H=>∃xs,SqT K H a xs/\xs.length<=i⟩
noncomputable def Itr (lo:Int) (n:Nat):It:=⟨fun i _=>i < n,fun i H x H'=>H'=H/\x= .int (lo+i),fun i _=>n<=i⟩
theorem b1G{P:Program}{w:World}{K:W.Frag}{tg:Expr}(a it:Addr):a7U P w K tg (Itl K a) [it] it (fun i h=>h.IsListIter it a i)where
 mem:=by simp
 obj:=fun i h st b hb=>by
  have e:b=it:=by simpa using hb
  subst e
  obtain⟨o,e,c,d⟩:=st
  exact⟨o,e,fun v z=>by rw[d]at z;cases z⟩
 keep:=fun i h h' st k=>st.at fun o e=>k it (by simp) o e
 item:=by
  intro X hP hw hK hc i pins s σ H E I hf st hg
  subst hP hw hK
  obtain⟨xs,x,hq,hx⟩:=hg
  obtain⟨its,rv,p,hz⟩:=I.list hq
  obtain⟨u,hu,ru⟩:=rv.get hx
  obtain⟨f0,f1,f2,f3,f4,f5⟩:=hf it (by simp)
  refine wpAny_pyNext_list_item st p.isList (x:=u) (by simpa using hu) fun h' st' sb=>?_
  have I1:Inv X pins σ H {s with heap:=h'}:=I.turned (t':=s.toks) (fun b o hb e=>(sb.2 b hb).trans e) f0 f1 f3 f4 f5
  obtain⟨o,e,c,d⟩:=id st'
  exact⟨u,rfl,a9R (s:={s with heap:=h'}) e c d (by decide) ⟨x,H,I1,ru,⟨rfl,fun ys hy=>by rw[I.list_inj hy hq];exact hx⟩,st',fun b hb=>(hf b hb).1⟩⟩
 done:=by
  intro X hP hw hK hc i pins s σ H E I hf st hg
  subst hP hw hK
  obtain⟨xs,hq,hx⟩:=hg
  obtain⟨its,rv,p,hz⟩:=I.list hq
  obtain⟨f0,f1,f2,f3,f4,f5⟩:=hf it (by simp)
  have hl:=rv.length
  exact wpAny_pyNext_list_end (I.ok.hd hc) st p.isList (by simp;omega) fun h' eb=>⟨rfl,I.turned (t':=s.toks) (fun b o hb e=>eb b o hb e) f0 f1 f3 f4 f5⟩
 self:=fun _ _ _ _ _ st h=>wpAny_pyIter_listiter st h
theorem a9E{P:Program}{w:World}{K:W.Frag}{tg:Expr}(a it:Addr):a7U P w K tg (Itt K a) [it] it (fun i h=>h.IsTupleIter it a i)where
 mem:=by simp
 obj:=fun i h st b hb=>by
  have e:b=it:=by simpa using hb
  subst e
  obtain⟨o,e,c,d⟩:=st
  exact⟨o,e,fun v z=>by rw[d]at z;cases z⟩
 keep:=fun i h h' st k=>st.at fun o e=>k it (by simp) o e
 item:=by
  intro X hP hw hK hc i pins s σ H E I hf st hg
  subst hP hw hK
  obtain⟨xs,x,hq,hx⟩:=hg
  obtain⟨its,rv,p,hz⟩:=I.tuple hq
  obtain⟨u,hu,ru⟩:=rv.get hx
  obtain⟨f0,f1,f2,f3,f4,f5⟩:=hf it (by simp)
  refine wpAny_pyNext_tuple_item st (show s.heap.IsTuple a its.toArray from p) (x:=u) (by simpa using hu) fun h' st' sb=>?_
  have I1:Inv X pins σ H {s with heap:=h'}:=I.turned (t':=s.toks) (fun b o hb e=>(sb.2 b hb).trans e) f0 f1 f3 f4 f5
  obtain⟨o,e,c,d⟩:=id st'
  exact⟨u,rfl,a9R (s:={s with heap:=h'}) e c d (by decide) ⟨x,H,I1,ru,⟨rfl,fun ys hy=>by rw[I.tuple_inj hy hq];exact hx⟩,st',fun b hb=>(hf b hb).1⟩⟩
 done:=by
  intro X hP hw hK hc i pins s σ H E I hf st hg
  subst hP hw hK
  obtain⟨xs,hq,hx⟩:=hg
  obtain⟨its,rv,p,hz⟩:=I.tuple hq
  obtain⟨f0,f1,f2,f3,f4,f5⟩:=hf it (by simp)
  have hl:=rv.length
  exact wpAny_pyNext_tuple_end (I.ok.hd hc) st (show s.heap.IsTuple a its.toArray from p) (by simp;omega) fun h' eb=>⟨rfl,I.turned (t':=s.toks) (fun b o hb e=>eb b o hb e) f0 f1 f3 f4 f5⟩
 self:=fun _ _ _ _ _ st h=>wpAny_pyIter_tupleiter st h
theorem a9u{P:Program}{w:World}{K:W.Frag}{tg:Expr}(it:Addr)(lo:Int)(n:Nat):a7U P w K tg (Itr lo n) [it] it (fun i h=>IsRangeIter h it (lo+(i:Nat)*1) ((n:Int) - (i:Nat)) 1)where
 mem:=by simp
 obj:=fun i h st b hb=>by
  have e:b=it:=by simpa using hb
  subst e
  exact⟨_,st,fun v z=>by
   have z':Data.fields _=Data.cell v:=z
   cases z'⟩
 keep:=fun i h h' st k=>k it (by simp) _ st
 item:=by
  intro X hP hw hK hc i pins s σ H E I hf st hg
  subst hP hw hK
  obtain⟨f0,f1,f2,f3,f4,f5⟩:=hf it (by simp)
  have W:=Walks.range (prog:=X.prog) (w:=X.w) (I.ok.hd hc) it lo 1 n
  refine W.item i s _ _ hg st fun v h' tk hv st' kk=>?_
  obtain⟨t,rfl⟩:=hv
  have I1:Inv X pins σ H {s with heap:=h',toks:=tk}:=I.turned (fun b o hb e=>kk b o (by simpa using hb) e) f0 f1 f3 f4 f5
  refine⟨_,rfl,a9R (s:={s with heap:=h',toks:=tk}) (n:="range_iterator") st' rfl rfl (by decide) ⟨.int (lo+i),H,I1,⟨t,?_⟩,⟨rfl,rfl⟩,st',fun b hb=>(hf b hb).1⟩⟩
  rw[Int.mul_one]
 done:=by
  intro X hP hw hK hc i pins s σ H E I hf st hg
  subst hP hw hK
  obtain⟨f0,f1,f2,f3,f4,f5⟩:=hf it (by simp)
  exact wpAny_pyNext_range_end (I.ok.hd hc) st (by have:n<=i:=hg;omega) fun h' eb=>⟨rfl,I.turned (t':=s.toks) (fun b o hb e=>eb b o hb e) f0 f1 f3 f4 f5⟩
 self:=fun _ _ _ _ _ st h=>wpAny_pyIter_rangeiter st h
end L2
namespace L2
open PySem PySem.Spec PyProof.Rows
section
variable{X:Cx}{tg:Expr}
noncomputable def b6G (K:W.Frag) (tl:TE):TI:=fun σ H R=>tl σ H fun x H1=>∃a,x= .ref a/\(∃xs,SqL K H1 a xs)/\R (Itl K a) H1
noncomputable def b6w (K:W.Frag) (tl:TE):TI:=fun σ H R=>tl σ H fun x H1=>∃a,x= .ref a/\(∃xs,SqT K H1 a xs)/\R (Itt K a) H1
theorem a1a{l:Expr}{tl:TE}(hl:PE X l tl):PI X tg l (b6G X.K tl):=by
 intro pins s σ H R I h
 refine thn (hl pins s σ H _ I h) fun v s1⟨x,H1,I1,r1,q1⟩=>?_
 obtain⟨a,e,⟨xs,hq⟩,q⟩:=q1
 subst e
 cases r1
 obtain⟨its,rv,p,hz⟩:=I1.list hq
 refine wpAny_pyIter_list p.isList ?_
 refine⟨s1.heap.objs.size,[s1.heap.objs.size],_,_,H1,rfl,I1.kept (t':=s1.toks) fun b o e=>AC _ e,b1G a _,⟨_,AI _ rfl,rfl,rfl⟩,fun b hb=>?_,q⟩
 have e:b=s1.heap.objs.size:=by simpa using hb
 subst e
 exact I1.fpOk (AH _) (I1.hok.fresh (AH _))
theorem a0d{l:Expr}{tl:TE}(hl:PE X l tl):PI X tg l (b6w X.K tl):=by
 intro pins s σ H R I h
 refine thn (hl pins s σ H _ I h) fun v s1⟨x,H1,I1,r1,q1⟩=>?_
 obtain⟨a,e,⟨xs,hq⟩,q⟩:=q1
 subst e
 cases r1
 obtain⟨its,rv,p,hz⟩:=I1.tuple hq
 refine wpAny_pyIter_tuple (show s1.heap.IsTuple a its.toArray from p) ?_
 refine⟨s1.heap.objs.size,[s1.heap.objs.size],_,_,H1,rfl,I1.kept (t':=s1.toks) fun b o e=>AC _ e,a9E a _,⟨_,AI _ rfl,rfl,rfl⟩,fun b hb=>?_,q⟩
 have e:b=s1.heap.objs.size:=by simpa using hb
 subst e
 exact I1.fpOk (AH _) (I1.hok.fresh (AH _))
theorem a7B{pins:List (Addr×Obj)}{σ:St}{H:Hp}{s:Shared}{R:It->Hp->Prop}{E:Value->Shared->Prop}{lo hi:Int}{t u v:Tok}{tk:Nat}(I:Inv X pins σ H s)(h1: -(2 ^ 62)<=lo)(h2:lo < 2 ^ 62)(h3: -(2 ^ 62)<=hi)(h4:hi < 2 ^ 62)
  (q:R (Itr lo (hi - lo).toNat) H):wpAny (model X.prog X.w) X.A (pyIter (.ref s.heap.objs.size)) (PIE X pins σ tg R) E {s with heap:=s.heap.push {cls:= .type "range",data:= .fields #[.int lo t,.int hi u,.int 1 v]},toks:=tk}:=by
 refine wpAny_pyIter_range (IsRange.new ..) (small_one h1 h2 h3 h4) ?_
 have I1:Inv X pins σ H {s with heap:=s.heap.push {cls:= .type "range",data:= .fields #[.int lo t,.int hi u,.int 1 v]},toks:=tk}:=I.kept fun b o e=>AC _ e
 refine⟨(s.heap.push {cls:= .type "range",data:= .fields #[.int lo t,.int hi u,.int 1 v]}).objs.size,[(s.heap.push {cls:= .type "range",data:= .fields #[.int lo t,.int hi u,.int 1 v]}).objs.size],_,_,H,rfl,
  I1.kept (t':=tk) fun b o e=>AC _ e,a9u _ lo (hi - lo).toNat,?_,fun b hb=>?_,q⟩
 ·have e1:lo+((0:Nat):Int)*1=lo:=by simp
  have e2:(((hi - lo).toNat:Nat):Int) - ((0:Nat):Int)=Builtin.Range.rangeSize lo hi 1:=by rw[rangeSize_one];split<;>omega
  show IsRangeIter _ _ (lo+((0:Nat):Int)*1) ((((hi - lo).toNat:Nat):Int) - ((0:Nat):Int)) 1
  rw[e1,e2]
  exact AI _ rfl
 ·have e:b=(s.heap.push {cls:= .type "range",data:= .fields #[.int lo t,.int hi u,.int 1 v]}).objs.size:=by simpa using hb
  subst e
  exact I1.fpOk (AH _) (I1.hok.fresh (AH _))
noncomputable def b6W (ta:TA):TI:=fun σ H R=>ta σ H fun vs H1=>∃j:Int,vs=[.int j]/\ -(2 ^ 62)<=j/\j < 2 ^ 62/\R (Itr 0 j.toNat) H1
noncomputable def b6I (ta:TA):TI:=fun σ H R=>ta σ H fun vs H1=>∃i j:Int,vs=[.int i,.int j]/\(-(2 ^ 62)<=i/\i < 2 ^ 62/\ -(2 ^ 62)<=j/\j < 2 ^ 62)/\R (Itr i (j - i).toNat) H1
theorem a0k{a:Expr}{ta:TA}{p pos:Pos}(hg:Gl X "range")(hm:X.mg "range"=none)(ha:PA X [a] ta)(hs:starEach [a] X.env=[(false,eval a X.env)]:=by rfl):PI X tg (.Call (.Name "range" p) [a] [] pos) (b6W ta):=by
 intro pins s σ H R I h
 refine Call_ (a0T I hg hm boot_range (PyProof.Rows.callWith_type1 (thn (ha pos pins s σ H _ I h) fun us s1⟨vs,H1,I1,r1,q1⟩=>?_) hs rfl))
 obtain⟨j,e,q1,q2,q⟩:=q1
 subst e
 cases r1 with
 | cons r rr=>
  cases rr
  obtain⟨t,rfl⟩:=r
  exact call_range_1 (a7B I1 (by omega) (by omega) q1 q2 (by simpa using q))
theorem b0X{a b:Expr}{ta:TA}{p pos:Pos}(hg:Gl X "range")(hm:X.mg "range"=none)(ha:PA X [a,b] ta)(hs:starEach [a,b] X.env=[(false,eval a X.env),(false,eval b X.env)]:=by rfl)(hs2:starEach [b] X.env=[(false,eval b X.env)]:=by rfl):
  PI X tg (.Call (.Name "range" p) [a,b] [] pos) (b6I ta):=by
 intro pins s σ H R I h
 refine Call_ (a0T I hg hm boot_range (PyProof.Rows.callWith_type1 (thn (ha pos pins s σ H _ I h) fun us s1⟨vs,H1,I1,r1,q1⟩=>?_) (by rw[hs,hs2]) (by rw[hs2];rfl)))
 obtain⟨i,j,e,⟨q1,q2,q3,q4⟩,q⟩:=q1
 subst e
 cases r1 with
 | cons r rr=>
  cases rr with
  | cons r' rr=>
   cases rr
   obtain⟨t,rfl⟩:=r
   obtain⟨t',rfl⟩:=r'
   exact call_range_2 (a7B I1 q1 q2 q3 q4 q)
noncomputable def b7p (wi:TI) (g:TG) (tb:TS):TS:=fun D σ H=>wi σ H fun J H1=>∃W:Nat->Nat->St->Hp->Prop,(∃m,W 0 m σ H1)/\∀i m σ H,W i m σ H->
 (J.stop i H/\D.nx σ H)\/(J.go i H/\∃N:St->Hp->Prop,(∀σ' H',N σ' H'->∃m',m' < m/\W (i+1) m' σ' H')/\∀x H',J.yld i H x H'->g x σ H' fun σ2 H2=>tb {D with nx:=N,ct:=N,bk:=D.nx} σ2 H2)
noncomputable def a5D (fp:List Addr) (h:Heap):List (Addr×Obj):=fp.filterMap fun b=>(h.get? b).map fun o=>(b,o)
theorem a1A{fp:List Addr}{h:Heap}{b:Addr}{o:Obj}(hb:b∈fp)(e:h.get? b=some o):(b,o)∈a5D fp h:=List.mem_filterMap.mpr ⟨b,hb,by rw[e];rfl⟩
theorem b0w{fp:List Addr}{h:Heap}{p:Addr×Obj}(hp:p∈a5D fp h):p.1∈fp/\h.get? p.1=some p.2:=by
 obtain⟨b,hb,e⟩:=List.mem_filterMap.mp hp
 cases q:h.get? b with
 | none=>rw[q]at e;cases e
 | some o=>
  rw[q]at e
  have e':(b,o)=p:=Option.some.inj e
  subst e'
  exact⟨hb,q⟩
theorem Inv.pinned{pins:List (Addr×Obj)}{σ:St}{H:Hp}{s:Shared}{fp:List Addr}(I:Inv X pins σ H s)(hf:∀b∈fp,a2P X pins H b)(ho:∀b∈fp,∃o,s.heap.get? b=some o/\∀v,o.data≠ .cell v):Inv X (pins++a5D fp s.heap) σ H s:=
 I.pins_of fun p hp=>(AL.mp hp).elim (fun z=>I.pin p (AR _ z)) fun z=>by
  obtain⟨hb,e⟩:=b0w z
  obtain⟨f0,f1,f2,_⟩:=hf p.1 hb
  obtain⟨o,e',d⟩:=ho p.1 hb
  rw[e]at e';cases e'
  exact⟨e,f0,f1,f2,d⟩
theorem Inv.unpinned{pins pl:List (Addr×Obj)}{σ:St}{H:Hp}{s:Shared}(I:Inv X (pins++pl) σ H s):Inv X pins σ H s:=I.pins_of fun p hp=>I.pin p (AR _ (BF _ hp))
theorem Z7{iter:Expr}{body:List Stmt}{wi:TI}{g:TG}{tb:TS}{pos:Pos}(hp:PassesOwn (model X.prog X.w) X.A X.env X.xe)(hc:X.calm=true)(hi:PI X tg iter wi)(hg:PG X tg g)(hb:PSs X body tb)
  (hs:∀x,foldedSetIterable iter X.env x=pure x:=by intro _;rfl):PS X (.For tg iter body [] pos) (b7p wi g tb):=by
 intro pins s σ H D I h
 refine wpAny_For (thn (hi pins s σ H _ I h) fun v s1 h1=>thn h1 fun itv s2 h2=>?_) hs
 obtain⟨it,fp,tn,J,H2,e,I2,T,st2,f2,W,⟨m0,w0⟩,turn⟩:=h2
 subst e
 have stat:∀{H':Hp},(∀b∈fp,H' b=none)->∀b∈fp,a2P X pins H' b:=fun hn b hb=>⟨hn b hb,(f2 b hb).2⟩
 refine codeAny_forLoop_any (fun n s'=>∃i σ' H',Inv X pins σ' H' s'/\tn i s'.heap/\(∀b∈fp,H' b=none)/\W i n σ' H') ?_ m0 ⟨0,σ,H2,I2,st2,fun b hb=>(f2 b hb).1,w0⟩
 rintro n s3 ⟨i,σ3,H3,I3,st3,fr3,w3⟩
 rcases turn i n σ3 H3 w3 with⟨stop,qn⟩ | ⟨go,N,hN,step⟩
 ·refine wpAny_passesOwn hp (thn (T.done X rfl rfl rfl hc i pins s3 σ3 H3 X.xe I3 (stat fr3) st3 stop) fun r s4⟨hr,I4⟩=>?_)
  subst hr
  exact wpAny_execs_nil ⟨σ3,H3,I4,qn⟩
 ·refine wpAny_passesOwn hp (thn (T.item X rfl rfl rfl hc i pins s3 σ3 H3 X.xe I3 (stat fr3) st3 go) fun r s4⟨u,hr,h4⟩=>?_)
  subst hr
  refine wpAny_passesOwn hp (thn h4 fun _ s5⟨x,H5,I5,r5,y5,st5,fr5⟩=>?_)
  have I5':=I5.pinned (stat fr5) (T.obj _ _ st5)
  refine wpAny_passesOwn hp (thn (hg _ s5 σ3 H5 x u _ I5' r5 (step x H5 y5)) fun _ s6⟨σ6,H6,I6,q6⟩=>?_)
  refine wpAny_passesOwn hp (thn (hb _ s6 σ6 H6 _ I6 q6) fun f s7 q7=>?_)
  have again:∀{σ7:St}{H7:Hp},Inv X (pins++a5D fp s5.heap) σ7 H7 s7->N σ7 H7->∃m,m < n/\∃i σ' H',Inv X pins σ' H' s7/\tn i s7.heap/\(∀b∈fp,H' b=none)/\W i m σ' H':=fun{σ7 H7}I7 n7=>by
   obtain⟨m',hm,w7⟩:=hN σ7 H7 n7
   refine⟨m',hm,i+1,σ7,H7,I7.unpinned,T.keep _ _ _ st5 fun b hb o e=>(I7.pin (b,o) (AR _ (AR _ (a1A hb e)))).1,fun b hb=>?_,w7⟩
   obtain⟨o,e,d⟩:=T.obj _ _ st5 b hb
   exact(I7.pin (b,o) (AR _ (AR _ (a1A hb e)))).2.1
  cases f with
  | next=>obtain⟨σ7,H7,I7,n7⟩:=q7;exact again I7 n7
  | cont=>obtain⟨σ7,H7,I7,n7⟩:=q7;exact again I7 n7
  | brk=>obtain⟨σ7,H7,I7,q7⟩:=q7;exact⟨σ7,H7,I7.unpinned,q7⟩
  | ret v=>obtain⟨x7,σ7,H7,I7,r7,q7⟩:=q7;exact⟨x7,σ7,H7,I7.unpinned,r7,q7⟩
end
theorem a1W{K:W.Frag}{a:Addr}{xs:List V}{g:TG}{tb:TS}{D:a0X}{σ:St}{H:Hp}(Pv:Nat->St->Hp->Prop)(h0:Pv 0 σ H)(hl:∀i σ H,i<=xs.length->Pv i σ H->SqL K H a xs)
  (hs:∀i x σ H,xs[i]?=some x->Pv i σ H->g x σ H fun σ2 H2=>tb {D with nx:=Pv (i+1),ct:=Pv (i+1),bk:=D.nx} σ2 H2)(hd:∀σ H,Pv xs.length σ H->D.nx σ H):
  ∃W:Nat->Nat->St->Hp->Prop,(∃m,W 0 m σ H)/\∀i m σ H,W i m σ H->
   ((Itl K a).stop i H/\D.nx σ H)\/((Itl K a).go i H/\∃N:St->Hp->Prop,(∀σ' H',N σ' H'->∃m',m' < m/\W (i+1) m' σ' H')/\∀x H',(Itl K a).yld i H x H'->g x σ H' fun σ2 H2=>tb {D with nx:=N,ct:=N,bk:=D.nx} σ2 H2):=by
 refine⟨fun i m σ H=>m=xs.length - i/\i<=xs.length/\Pv i σ H,⟨xs.length,by simp,Nat.zero_le _,h0⟩,?_⟩
 rintro i m σ H ⟨rfl,hi,p⟩
 have q:=hl i σ H hi p
 by_cases hlt:i < xs.length
 ·refine .inr ⟨⟨xs,xs[i],q,by simp[hlt]⟩,Pv (i+1),fun σ' H' p'=>⟨xs.length - (i+1),by omega,rfl,hlt,p'⟩,fun x H' y=>?_⟩
  obtain⟨e,y⟩:=y
  subst e
  exact hs i x σ _ (y xs q) p
 ·have e:i=xs.length:=by omega
  subst e
  exact .inl ⟨⟨xs,q,AH _⟩,hd σ H p⟩
theorem a0o{K:W.Frag}{a:Addr}{xs:List V}{g:TG}{tb:TS}{D:a0X}{σ:St}{H:Hp}(Pv:Nat->St->Hp->Prop)(h0:Pv 0 σ H)(hl:∀i σ H,i<=xs.length->Pv i σ H->SqT K H a xs)
  (hs:∀i x σ H,xs[i]?=some x->Pv i σ H->g x σ H fun σ2 H2=>tb {D with nx:=Pv (i+1),ct:=Pv (i+1),bk:=D.nx} σ2 H2)(hd:∀σ H,Pv xs.length σ H->D.nx σ H):
  ∃W:Nat->Nat->St->Hp->Prop,(∃m,W 0 m σ H)/\∀i m σ H,W i m σ H->
   ((Itt K a).stop i H/\D.nx σ H)\/((Itt K a).go i H/\∃N:St->Hp->Prop,(∀σ' H',N σ' H'->∃m',m' < m/\W (i+1) m' σ' H')/\∀x H',(Itt K a).yld i H x H'->g x σ H' fun σ2 H2=>tb {D with nx:=N,ct:=N,bk:=D.nx} σ2 H2):=by
 refine⟨fun i m σ H=>m=xs.length - i/\i<=xs.length/\Pv i σ H,⟨xs.length,by simp,Nat.zero_le _,h0⟩,?_⟩
 rintro i m σ H ⟨rfl,hi,p⟩
 have q:=hl i σ H hi p
 by_cases hlt:i < xs.length
 ·refine .inr ⟨⟨xs,xs[i],q,by simp[hlt]⟩,Pv (i+1),fun σ' H' p'=>⟨xs.length - (i+1),by omega,rfl,hlt,p'⟩,fun x H' y=>?_⟩
  obtain⟨e,y⟩:=y
  subst e
  exact hs i x σ _ (y xs q) p
 ·have e:i=xs.length:=by omega
  subst e
  exact .inl ⟨⟨xs,q,AH _⟩,hd σ H p⟩
theorem M9{lo:Int}{n:Nat}{g:TG}{tb:TS}{D:a0X}{σ:St}{H:Hp}(Pv:Nat->St->Hp->Prop)(h0:Pv 0 σ H)
  (hs:∀i σ H,i < n->Pv i σ H->g (.int (lo+i)) σ H fun σ2 H2=>tb {D with nx:=Pv (i+1),ct:=Pv (i+1),bk:=D.nx} σ2 H2)(hd:∀σ H,Pv n σ H->D.nx σ H):
  ∃W:Nat->Nat->St->Hp->Prop,(∃m,W 0 m σ H)/\∀i m σ H,W i m σ H->
   ((Itr lo n).stop i H/\D.nx σ H)\/((Itr lo n).go i H/\∃N:St->Hp->Prop,(∀σ' H',N σ' H'->∃m',m' < m/\W (i+1) m' σ' H')/\∀x H',(Itr lo n).yld i H x H'->g x σ H' fun σ2 H2=>tb {D with nx:=N,ct:=N,bk:=D.nx} σ2 H2):=by
 refine⟨fun i m σ H=>m=n - i/\i<=n/\Pv i σ H,⟨n,by simp,Nat.zero_le _,h0⟩,?_⟩
 rintro i m σ H ⟨rfl,hi,p⟩
 by_cases hlt:i < n
 ·refine .inr ⟨hlt,Pv (i+1),fun σ' H' p'=>⟨n - (i+1),by omega,rfl,hlt,p'⟩,fun x H' y=>?_⟩
  obtain⟨e,y⟩:=y
  subst e y
  exact hs i σ _ hlt p
 ·have e:i=n:=by omega
  subst e
  exact .inl ⟨AH _,hd σ H p⟩
theorem a1V{c:TT}{tb:TS}{D:a0X}{σ:St}{H:Hp}(Pv:St->Hp->Prop)(μ:St->Hp->Nat)(h0:Pv σ H)
  (hs:∀σ H,Pv σ H->c σ H fun b H1=>if b=true then tb {D with nx:=fun σ' H'=>Pv σ' H'/\μ σ' H' < μ σ H,ct:=fun σ' H'=>Pv σ' H'/\μ σ' H' < μ σ H,bk:=D.nx} σ H1 else D.nx σ H1)
  (mono:∀σ H Q Q',(∀b H1,Q b H1->Q' b H1)->c σ H Q->c σ H Q'):a6T c tb D σ H:=by
 refine⟨fun m σ H=>m=μ σ H/\Pv σ H,⟨_,rfl,h0⟩,?_⟩
 rintro m σ H ⟨rfl,p⟩
 refine mono σ H _ _ (fun b H1 q=>?_) (hs σ H p)
 cases b with
 | true=>exact⟨_,fun σ' H'⟨p',l⟩=>⟨_,l,rfl,p'⟩,q⟩
 | false=>exact q
end L2
namespace L2
open PySem PySem.Spec PyProof.Rows
noncomputable abbrev R2:=V->V->Hp->VK->Prop
noncomputable def OpR (X:Cx) (f:Value->Value->Sem Value) (r:R2):Prop:=
 ∀(pins:List (Addr×Obj))(s:Shared)(σ:St)(H:Hp)(x y:V)(v u:Value)(Q:VK),Inv X pins σ H s->U8 x v->U8 y u->r x y H Q->
  wpAny (model X.prog X.w) X.A (f v u) (EP X pins σ Q) X.xe s
noncomputable def UnR (X:Cx) (f:Value->Sem Value) (r:V->Hp->VK->Prop):Prop:=
 ∀(pins:List (Addr×Obj))(s:Shared)(σ:St)(H:Hp)(x:V)(v:Value)(Q:VK),Inv X pins σ H s->U8 x v->r x H Q->
  wpAny (model X.prog X.w) X.A (f v) (EP X pins σ Q) X.xe s
noncomputable def a0R (X:Cx) (f:Value) (r:List V->Hp->VK->Prop):Prop:=
 ∀(pins:List (Addr×Obj))(s:Shared)(σ:St)(H:Hp)(xs:List V)(us:List Value)(Q:VK),Inv X pins σ H s->W0 xs us->r xs H Q->
  wpAny (model X.prog X.w) X.A (call f us) (EP X pins σ Q) X.xe s
noncomputable def b7H (X:Cx) (r:V->Hp->(Bool->Hp->Prop)->Prop):Prop:=
 ∀(pins:List (Addr×Obj))(s:Shared)(σ:St)(H:Hp)(x:V)(v:Value)(Q:Bool->Hp->Prop),Inv X pins σ H s->U8 x v->r x H Q->
  wpAny (model X.prog X.w) X.A (truthy v) (TP X pins σ Q) X.xe s
noncomputable def tOp (r:R2) (ta tb:TE):TE:=fun σ H Q=>ta σ H fun x H1=>tb σ H1 fun y H2=>r x y H2 Q
noncomputable def tUn (r:V->Hp->VK->Prop) (ta:TE):TE:=fun σ H Q=>ta σ H fun x H1=>r x H1 Q
noncomputable def rI (C:Int->Int->Prop) (g:Int->Int->V):R2:=fun x y H Q=>∃i j,x= .int i/\y= .int j/\C i j/\Q (g i j) H
noncomputable def rI0 (g:Int->Int->V):R2:=fun x y H Q=>∃i j,x= .int i/\y= .int j/\Q (g i j) H
noncomputable def rU (g:Int->V):V->Hp->VK->Prop:=fun x H Q=>∃i,x= .int i/\Q (g i) H
section
variable{X:Cx}{a b c:Expr}{ta tb tc:TE}{pos:Pos}
theorem b5w(ha:PE X a ta)(hb:PE X b tb){pins:List (Addr×Obj)}{s:Shared}{σ:St}{H:Hp}{R:V->V->Hp->Prop}(I:Inv X pins σ H s)
  (h:ta σ H fun x H1=>tb σ H1 fun y H2=>R x y H2){Q:Value->Shared->Prop}{f:Value->Value->Sem Value}
  (hf:∀v u s2 x y H2,Inv X pins σ H2 s2->U8 x v->U8 y u->R x y H2->wpAny (model X.prog X.w) X.A (f v u) Q X.xe s2):
  wpAny (model X.prog X.w) X.A (eval a X.env) (fun v s₁=>wpAny (model X.prog X.w) X.A (eval b X.env) (fun u s₂=>wpAny (model X.prog X.w) X.A (f v u) Q X.xe s₂) X.xe s₁) X.xe s:=by
 refine thn (ha pins s σ H _ I h) fun v s1⟨x,H1,I1,r1,q1⟩=>?_
 refine thn (hb pins s1 σ H1 _ I1 q1) fun u s2⟨y,H2,I2,r2,q2⟩=>?_
 exact hf v u s2 x y H2 I2 r1 r2 q2
theorem J1{op:Operator}{r:R2}(ho:OpR X (binaryOp op) r)(ha:PE X a ta)(hb:PE X b tb):PE X (.BinOp a op b pos) (tOp r ta tb):=by
 intro pins s σ H Q I h
 exact wpAny_BinOp (b5w ha hb I h fun v u s2 x y H2 I2 rx ry q=>ho pins s2 σ H2 x y v u Q I2 rx ry q)
theorem b0f{op:UnaryOp}{r:V->Hp->VK->Prop}(ho:UnR X (unaryOp op) r)(ha:PE X a ta):PE X (.UnaryOp op a pos) (tUn r ta):=by
 intro pins s σ H Q I h
 exact UnaryOp_ (thn (ha pins s σ H _ I h) fun v s1⟨x,H1,I1,r1,q1⟩=>ho pins s1 σ H1 x v Q I1 r1 q1)
theorem opI{f:Value->Value->Sem Value}{C:Int->Int->Prop}{g:Int->Int->Int}
  (rule:∀(i j:Int)(t u:Tok)(s:Shared)(Q:Value->Shared->Prop)(E:Value->Shared->Prop),C i j->Q (.int (g i j) s.toks) {s with toks:=s.toks+1}->wpAny (model X.prog X.w) X.A (f (.int i t) (.int j u)) Q E s):
  OpR X f (rI C fun i j=> .int (g i j)):=by
 intro pins s σ H x y v u Q I rx ry h
 obtain⟨i,j,rfl,rfl,hc,q⟩:=h
 obtain⟨t,rfl⟩:=rx
 obtain⟨t',rfl⟩:=ry
 exact rule i j t t' s _ _ hc ⟨.int (g i j),H,I.tok _,⟨_,rfl⟩,q⟩
theorem b7i{f:Value->Value->Sem Value}{g:Int->Int->Int}
  (rule:∀(i j:Int)(t u:Tok)(s:Shared)(Q:Value->Shared->Prop)(E:Value->Shared->Prop),Q (.int (g i j) s.toks) {s with toks:=s.toks+1}->wpAny (model X.prog X.w) X.A (f (.int i t) (.int j u)) Q E s):
  OpR X f (rI0 fun i j=> .int (g i j)):=by
 intro pins s σ H x y v u Q I rx ry h
 obtain⟨i,j,rfl,rfl,q⟩:=h
 obtain⟨t,rfl⟩:=rx
 obtain⟨t',rfl⟩:=ry
 exact rule i j t t' s _ _ ⟨.int (g i j),H,I.tok _,⟨_,rfl⟩,q⟩
theorem b6F{f:Value->Value->Sem Value}{g:Int->Int->Bool}
  (rule:∀(i j:Int)(t u:Tok)(s:Shared)(Q:Value->Shared->Prop)(E:Value->Shared->Prop),Q (.bool (g i j)) s->wpAny (model X.prog X.w) X.A (f (.int i t) (.int j u)) Q E s):
  OpR X f (rI0 fun i j=> .bl (g i j)):=by
 intro pins s σ H x y v u Q I rx ry h
 obtain⟨i,j,rfl,rfl,q⟩:=h
 obtain⟨t,rfl⟩:=rx
 obtain⟨t',rfl⟩:=ry
 exact rule i j t t' s _ _ ⟨.bl (g i j),H,I,rfl,q⟩
noncomputable def b7K (i j:Int):Prop:=0 < j/\j < 1073741824
noncomputable def b7x (i j:Int):Prop:=0<=j/\j<=1000000/\i.natAbs < 2 ^ 64
noncomputable def b5s (i j:Int):Prop:=(-(2 ^ 64) < i/\i < 2 ^ 64)\/(-(2 ^ 64) < j/\j < 2 ^ 64)
theorem b5s.ok{i j:Int}(h:b5s i j):IntMulOk i j:=by
 rcases h with⟨h1,h2⟩ | ⟨h1,h2⟩
 ·exact .of_left (intBits_le_64 h1 h2)
 ·exact .of_right (intBits_le_64 h1 h2)
theorem Z6:OpR X (binaryOp .Add) (rI0 fun i j=> .int (i+j)):=b7i fun _ _ _ _ _ _ _ q=>add_int q
theorem b6e:OpR X (binaryOp .Sub) (rI0 fun i j=> .int (i - j)):=b7i fun _ _ _ _ _ _ _ q=>sub_int q
theorem E6:OpR X (binaryOp .Mult) (rI b5s fun i j=> .int (i*j)):=opI fun _ _ _ _ _ _ _ hc q=>mul_int q hc.ok
theorem W7:OpR X (binaryOp .FloorDiv) (rI b7K fun i j=> .int (i/j)):=opI fun i j _ _ _ _ _ hc q=>by
 have h1:(0:Int) < j:=hc.1
 have h2:j < 1073741824:=hc.2
 exact floordiv_int (by omega) (by rw[Int.fdiv_eq_ediv_of_nonneg i (by omega)];exact q) (.inl (PyProof.noPylong_small (by omega)))
theorem U1:OpR X (binaryOp .Mod) (rI (fun _ j=>0 < j) fun i j=> .int (i % j)):=opI fun i j _ _ _ _ _ hc q=>by
 have h1:(0:Int) < j:=hc
 exact mod_int' (by omega) (by rw[Int.fmod_eq_emod_of_nonneg i (by omega)];exact q)
theorem b5Q:OpR X (binaryOp .Pow) (rI b7x fun i j=> .int (i ^ j.toNat)):=opI fun _ _ _ _ _ _ _ hc q=>pow_int_small hc.1 hc.2.1 hc.2.2 q
theorem unI{f:Value->Sem Value}{g:Int->Int}
  (rule:∀(i:Int)(t:Tok)(s:Shared)(Q:Value->Shared->Prop)(E:Value->Shared->Prop),Q (.int (g i) s.toks) {s with toks:=s.toks+1}->wpAny (model X.prog X.w) X.A (f (.int i t)) Q E s):
  UnR X f (rU fun i=> .int (g i)):=by
 intro pins s σ H x v Q I rx h
 obtain⟨i,rfl,q⟩:=h
 obtain⟨t,rfl⟩:=rx
 exact rule i t s _ _ ⟨.int (g i),H,I.tok _,⟨_,rfl⟩,q⟩
theorem a7g:UnR X (unaryOp .USub) (rU fun i=> .int (-i)):=unI fun _ _ _ _ _ q=>neg_int q
end
noncomputable def b6T:V->V->Bool
 | .non,.non=>true | .non,.int _=>true | .int _,.non=>true | .non,.bl _=>true | .bl _,.non=>true | .non,.str _=>true | .str _,.non=>true
 | .int _,.int _=>true | .bl _,.bl _=>true | .str _,.str _=>true | .byt _,.byt _=>true
 | .int _,.str _=>true | .str _,.int _=>true | .bl _,.str _=>true | .str _,.bl _=>true
 | _,_=>false
noncomputable def rEq:R2:=fun x y H Q=>b6T x y=true/\Q (.bl (decide (x=y))) H
noncomputable def rNe:R2:=fun x y H Q=>b6T x y=true/\Q (.bl (!decide (x=y))) H
theorem b0b{i j:Int}:decide (V.int i=V.int j)=(i==j):=by
 rw[Bool.eq_iff_iff]
 simp
theorem b3u{i j:Bool}:decide (V.bl i=V.bl j)=(i==j):=by
 rw[Bool.eq_iff_iff]
 simp
theorem b0a{i j:Str}:decide (V.str i=V.str j)=(i==j):=by
 rw[Bool.eq_iff_iff]
 simp
theorem b0r{i j:Array UInt8}:decide (V.byt i=V.byt j)=(i.toList==j.toList):=by
 rw[Bool.eq_iff_iff]
 cases i
 cases j
 simp
section
variable{X:Cx}{a b c:Expr}{ta tb tc:TE}{pos:Pos}
theorem Z1{pins:List (Addr×Obj)}{σ:St}{H:Hp}{s:Shared}{Q:VK}{k k':Bool}(I:Inv X pins σ H s)(q:Q (.bl k) H)(e:k=k'):EP X pins σ Q (.bool k') s:=by
 subst e
 exact⟨.bl k,H,I,rfl,q⟩
theorem F3:OpR X (compareOp .Eq) rEq:=by
 intro pins s σ H x y v u Q I rx ry h
 obtain⟨hs,q⟩:=h
 cases x with
 | non=>
  cases rx
  cases y with
  | non=>cases ry;exact PySem.EqNone.eq_none_none (Z1 I q (by simp))
  | bl j=>cases ry;exact PySem.EqNone.eq_none_bool (Z1 I q (by simp))
  | int j=>obtain⟨t',rfl⟩:=ry;exact PySem.EqNone.eq_none_int (Z1 I q (by simp))
  | str j=>obtain⟨t',rfl⟩:=ry;exact PySem.EqNone.eq_none_str (Z1 I q (by simp))
  | _=>exact absurd (show false=true from hs) AE
 | bl i=>
  cases rx
  cases y with
  | non=>cases ry;exact PySem.EqNone.eq_bool_none (Z1 I q (by simp))
  | bl j=>cases ry;exact eq_bool (Z1 I q b3u)
  | str j=>obtain⟨t',rfl⟩:=ry;exact PySem.EqMixed.eq_bool_str (Z1 I q (by simp))
  | _=>exact absurd (show false=true from hs) AE
 | int i=>
  obtain⟨t,rfl⟩:=rx
  cases y with
  | non=>cases ry;exact PySem.EqNone.eq_int_none (Z1 I q (by simp))
  | int j=>obtain⟨t',rfl⟩:=ry;exact eq_int (Z1 I q b0b)
  | str j=>obtain⟨t',rfl⟩:=ry;exact PySem.EqMixed.eq_int_str (Z1 I q (by simp))
  | _=>exact absurd (show false=true from hs) AE
 | str i=>
  obtain⟨t,rfl⟩:=rx
  cases y with
  | non=>cases ry;exact PySem.EqNone.eq_str_none (Z1 I q (by simp))
  | bl j=>cases ry;exact PySem.EqMixed.eq_str_bool (Z1 I q (by simp))
  | int j=>obtain⟨t',rfl⟩:=ry;exact PySem.EqMixed.eq_str_int (Z1 I q (by simp))
  | str j=>obtain⟨t',rfl⟩:=ry;exact eq_str (Z1 I q b0a)
  | _=>exact absurd (show false=true from hs) AE
 | byt i=>
  obtain⟨t,rfl⟩:=rx
  cases y with
  | byt j=>obtain⟨t',rfl⟩:=ry;exact W.eq_bytes (Z1 I q b0r)
  | _=>exact absurd (show false=true from hs) AE
 | _=>cases y<;>exact absurd (show false=true from hs) AE
theorem b5c:OpR X (compareOp .NotEq) rNe:=by
 intro pins s σ H x y v u Q I rx ry h
 obtain⟨hs,q⟩:=h
 cases x with
 | non=>
  cases rx
  cases y with
  | non=>cases ry;exact PySem.EqNone.ne_none_none (Z1 I q (by simp))
  | bl j=>cases ry;exact PySem.EqNone.ne_none_bool (Z1 I q (by simp))
  | int j=>obtain⟨t',rfl⟩:=ry;exact PySem.EqNone.ne_none_int (Z1 I q (by simp))
  | str j=>obtain⟨t',rfl⟩:=ry;exact PySem.EqNone.ne_none_str (Z1 I q (by simp))
  | _=>exact absurd (show false=true from hs) AE
 | bl i=>
  cases rx
  cases y with
  | non=>cases ry;exact PySem.EqNone.ne_bool_none (Z1 I q (by simp))
  | bl j=>cases ry;exact ne_bool (Z1 I q (congrArg not b3u))
  | str j=>obtain⟨t',rfl⟩:=ry;exact PySem.EqMixed.ne_bool_str (Z1 I q (by simp))
  | _=>exact absurd (show false=true from hs) AE
 | int i=>
  obtain⟨t,rfl⟩:=rx
  cases y with
  | non=>cases ry;exact PySem.EqNone.ne_int_none (Z1 I q (by simp))
  | int j=>obtain⟨t',rfl⟩:=ry;exact ne_int (Z1 I q (congrArg not b0b))
  | str j=>obtain⟨t',rfl⟩:=ry;exact PySem.EqMixed.ne_int_str (Z1 I q (by simp))
  | _=>exact absurd (show false=true from hs) AE
 | str i=>
  obtain⟨t,rfl⟩:=rx
  cases y with
  | non=>cases ry;exact PySem.EqNone.ne_str_none (Z1 I q (by simp))
  | bl j=>cases ry;exact PySem.EqMixed.ne_str_bool (Z1 I q (by simp))
  | int j=>obtain⟨t',rfl⟩:=ry;exact PySem.EqMixed.ne_str_int (Z1 I q (by simp))
  | str j=>obtain⟨t',rfl⟩:=ry;exact ne_str (Z1 I q (congrArg not b0a))
  | _=>exact absurd (show false=true from hs) AE
 | byt i=>
  obtain⟨t,rfl⟩:=rx
  cases y with
  | byt j=>obtain⟨t',rfl⟩:=ry;exact W.ne_bytes (Z1 I q (congrArg not b0r))
  | _=>exact absurd (show false=true from hs) AE
 | _=>cases y<;>exact absurd (show false=true from hs) AE
theorem a6D:OpR X (compareOp .Lt) (rI0 fun i j=> .bl (decide (i < j))):=b6F fun _ _ _ _ _ _ _ q=>lt_int q
theorem a5r:OpR X (compareOp .Gt) (rI0 fun i j=> .bl (decide (j < i))):=b6F fun _ _ _ _ _ _ _ q=>gt_int q
theorem U4(b:Expr){op:CmpOp}(h:op≠ .In:=by decide)(h2:op≠ .NotIn:=by decide):behindInMarks op b=false:=by
 have e1:(op==CmpOp.In)=false:=by cases op<;>first | rfl | exact absurd rfl h
 have e2:(op==CmpOp.NotIn)=false:=by cases op<;>first | rfl | exact absurd rfl h2
 cases b<;>simp[behindInMarks,e1,e2]
theorem b0l{op:CmpOp}{r:R2}(ho:OpR X (compareOp op) r)(ha:PE X a ta)(hb:PE X b tb)(hm:behindInMarks op b=false):PE X (.Compare a [op] [b] pos) (tOp r ta tb):=by
 intro pins s σ H Q I h
 exact wpAny_Compare1 (b5w ha hb I h fun v u s2 x y H2 I2 rx ry q=>ho pins s2 σ H2 x y v u Q I2 rx ry q) hm
noncomputable def b7h (t:TE):TT:=fun σ H Q=>t σ H fun x H'=>∃k,x= .bl k/\Q k H'
theorem R0{op:CmpOp}{r:R2}(ho:OpR X (compareOp op) r)(ha:PE X a ta)(hb:PE X b tb)(hm:behindInMarks op b=false):PT X (.Compare a [op] [b] pos) (b7h (tOp r ta tb)):=by
 intro pins s σ H Q I h
 refine wpAny_isTrue_Compare1 (thn (ha pins s σ H _ I h) fun v s1⟨x,H1,I1,r1,q1⟩=>thn (hb pins s1 σ H1 _ I1 q1) fun u s2⟨y,H2,I2,r2,q2⟩=>
  thn (ho pins s2 σ H2 x y v u _ I2 r1 r2 q2) fun c s3⟨z,H3,I3,r3,k,e,q3⟩=>?_) hm
 subst e
 cases r3
 exact wpAny_truthy_bool ⟨H3,I3,q3⟩
noncomputable def b6O (K:W.Frag) (x:V) (H:Hp) (k:Bool):Prop:=
 match x with
 | .non=>k=false
 | .bl b=>k=b
 | .int i=>k=(i != 0)
 | .str y=>y.length<=sizeLine/\k=((y.length:Int) != 0)
 | .byt y=>y.size<=sizeLine/\k=((y.size:Int) != 0)
 | .ref p=>(∃xs,SqL K H p xs/\k= !xs.isEmpty)\/(∃xs,SqT K H p xs/\k= !xs.isEmpty)\/∃kvs,H p=some (.dK kvs)/\k= !kvs.isEmpty
 | _=>False
theorem a8U{κ:Type}{kvs:List (κ×V)}{vs:List (κ×Value)}(r:KV kvs vs):(!vs.isEmpty)= !kvs.isEmpty:=by
 cases r<;>rfl
theorem a4S{xs:List V}{its:List Value}(r:W0 xs its):(!its.toArray.isEmpty)= !xs.isEmpty:=by
 cases r<;>simp
theorem a4d:(sizeLine:Nat) < 2 ^ 63:=by rw[sizeLine_eq];decide
theorem b5E:b7H X (fun x H Q=>∃k,b6O X.K x H k/\Q k H):=by
 intro pins s σ H x v Q I rx h
 obtain⟨k,e,q⟩:=h
 have hl:=a4d
 have hs:sizeLine=16777216:=sizeLine_eq
 cases x with
 | non=>
  cases rx
  have e':k=false:=e
  subst e'
  exact truthy_none ⟨H,I,q⟩
 | bl b=>
  cases rx
  have e':k=b:=e
  subst e'
  exact wpAny_truthy_bool ⟨H,I,q⟩
 | int i=>
  obtain⟨t,rfl⟩:=rx
  have e':k=(i != 0):=e
  subst e'
  exact PySem.P.truthy_int ⟨H,I,q⟩
 | str y=>
  obtain⟨t,rfl⟩:=rx
  obtain⟨hy,e'⟩:y.length<=sizeLine/\k=((y.length:Int) != 0):=e
  subst e'
  exact PySem.P.truthy_str (by omega) ⟨H,I.tok _,q⟩
 | byt y=>
  obtain⟨t,rfl⟩:=rx
  obtain⟨hy,e'⟩:y.size<=sizeLine/\k=((y.size:Int) != 0):=e
  subst e'
  exact W.truthy_bytes (by omega) ⟨H,I.tok _,q⟩
 | ref p=>
  cases rx
  have e':(∃xs,SqL X.K H p xs/\k= !xs.isEmpty)\/(∃xs,SqT X.K H p xs/\k= !xs.isEmpty)\/∃kvs,H p=some (.dK kvs)/\k= !kvs.isEmpty:=e
  rcases e' with⟨xs,hx,e'⟩ | ⟨xs,hx,e'⟩ | ⟨kvs,hx,e'⟩
  ·subst e'
   obtain⟨its,r,pl,hz⟩:=I.list hx
   have hlen:=r.length
   exact wpAny_truthy_list pl.isList (by simp only[List.size_toArray];omega) ⟨H,I.tok _,by rw[a4S r];exact q⟩
  ·subst e'
   obtain⟨its,r,pl,hz⟩:=I.tuple hx
   have hlen:=r.length
   exact truthy_tuple pl (by simp only[List.size_toArray];omega) ⟨H,I.tok _,by rw[a4S r];exact q⟩
  ·subst e'
   obtain⟨hz,hS,vs,r,m⟩:kvs.length<=sizeLine/\(p==sysModules)=false/\∃vs,KV kvs vs/\s.heap.DictOf (Y6 X.prog X.w) p vs:=I.hok p _ hx
   have hlen:kvs.length=vs.length:=AF r
   exact wpAny_truthy_dict hS m (by omega) ⟨H,I.tok _,by rw[a8U r];exact q⟩
 | _=>exact(show False from e).elim
theorem a7L(ha:PE X a ta)(he:∀whole,isTrue a X.env whole=(do let v<-whole;standAt a.pos;holding [v] (truthy v))):
  PT X a (fun σ H Q=>ta σ H fun x H'=>∃k,b6O X.K x H' k/\Q k H'):=by
 intro pins s σ H Q I h
 exact isTrue_plain (thn (ha pins s σ H _ I h) fun v s1⟨x,H1,I1,r1,q1⟩=>b5E pins s1 σ H1 x v Q I1 r1 q1) (he _)
theorem M1:OpR X (binaryOp .Add) (fun x y H Q=>∃i j,x= .str i/\y= .str j/\i.length+j.length<=sizeLine/\Q (.str (i++j)) H):=by
 intro pins s σ H x y v u Q I rx ry h
 obtain⟨i,j,rfl,rfl,hz,q⟩:=h
 obtain⟨t,rfl⟩:=rx
 obtain⟨t',rfl⟩:=ry
 exact add_str (fun t' tk=>⟨.str (i++j),H,I.tok _,⟨_,rfl⟩,q⟩) hz
theorem a5k{x:V}{us:List Value}(r:W0 [x] us):∃u,us=[u]/\U8 x u:=by
 cases r with
 | cons r1 r2=>cases r2;exact⟨_,rfl,r1⟩
theorem a7T{x y:V}{us:List Value}(r:W0 [x,y] us):∃u w',us=[u,w']/\U8 x u/\U8 y w':=by
 cases r with
 | cons r1 r2=>
  cases r2 with
  | cons r3 r4=>cases r4;exact⟨_,_,rfl,r1,r3⟩
theorem a6c(hc:X.calm=true):a0R X (.builtin "max") (fun xs H Q=>∃i j,xs=[.int i,.int j]/\Q (.int (if j > i then j else i)) H):=by
 intro pins s σ H xs us Q I r h
 obtain⟨i,j,rfl,q⟩:=h
 obtain⟨u,w',rfl,⟨t,rfl⟩,⟨t',rfl⟩⟩:=a7T r
 refine max_two_ints (I.ok.hd hc) fun h' tk k=>⟨_,H,I.kept k,?_,q⟩
 by_cases hj:j > i
 ·rw[if_pos hj,if_pos hj];exact⟨_,rfl⟩
 ·rw[if_neg hj,if_neg hj];exact⟨_,rfl⟩
theorem a3Y(hc:X.calm=true):a0R X (.builtin "min") (fun xs H Q=>∃i j,xs=[.int i,.int j]/\Q (.int (if j < i then j else i)) H):=by
 intro pins s σ H xs us Q I r h
 obtain⟨i,j,rfl,q⟩:=h
 obtain⟨u,w',rfl,⟨t,rfl⟩,⟨t',rfl⟩⟩:=a7T r
 refine min_two_ints (I.ok.hd hc) fun h' tk k=>⟨_,H,I.kept k,?_,q⟩
 by_cases hj:j < i
 ·rw[if_pos hj,if_pos hj];exact⟨_,rfl⟩
 ·rw[if_neg hj,if_neg hj];exact⟨_,rfl⟩
theorem a1F:a0R X (.type "str") (fun xs H Q=>∃i,xs=[.int i]/\i.natAbs.log2 < 1920/\Q (.str (toString i)) H):=by
 intro pins s σ H xs us Q I r h
 obtain⟨i,rfl,hz,q⟩:=h
 obtain⟨u,rfl,t,rfl⟩:=a5k r
 exact PySem.P.str_of_int hz ⟨.str _,H,I.tok _,⟨_,rfl⟩,q⟩
end
end L2
namespace L2
open PySem PySem.Spec PyProof.Rows
structure b5U(h:Heap)(x dx C:Addr)(mA:Str->Option Value):Prop where
 obj:h.get? x=some (W.instObj C dx)
 ns:h.Ns1 dx mA
 ne:dx≠x
theorem b0x{h:Heap}{dx:Addr}{mA:Str->Option Value}(n:h.Ns1 dx mA):∃od,h.get? dx=some od/\∀name,W.lookIn name od=some (mA name):=by
 obtain⟨o,es,ep,ho,hd,hk,_,hm⟩:=n
 refine⟨o,ho,fun name=>?_⟩
 have e:=hm name
 unfold nsFind findBy at e
 rw[<-Array.find?_toList]at e
 unfold W.lookIn
 rw[hd]
 dsimp only
 split
 ·rename_i y q
  rw[q]at e
  exact congrArg some e
 ·rename_i q
  rw[q]at e
  have a:es.toList.any (·.refKey)=false:=by
   rw[List.any_eq_false]
   intro y hy
   obtain⟨z,t,hkey⟩:=hk y (Array.mem_toList_iff.mp hy)
   simp[DictEntry.refKey,hkey]
  have a':¬es.toList.any (·.refKey)=true:=by rw[a];exact AE
  rw[if_neg a']
  exact congrArg some e
theorem b5U.look{h:Heap}{x dx C:Addr}{mA:Str->Option Value}(I:b5U h x dx C mA):∃od,W.InstAt h x (W.instObj C dx) C (some od)/\∀name,W.lookIn name od=some (mA name):=
 let⟨od,ho,hl⟩:=b0x I.ns
 ⟨od,⟨I.obj,rfl,rfl,ho⟩,hl⟩
section
variable{prog:Program}{w:World}{A:Around}{E:Value->Shared->Prop}{s:Shared}{K:W.Frag}{x dx C f:Addr}{mA:Str->Option Value}{name:Str}{v:Value}
end
theorem a3J.some_of{v:V}{o:Option Value}(r:a3J (some v) o):∃u,o=some u/\U8 v u:=by
 cases o with
 | none=>exact(show False from r).elim
 | some u=>exact⟨u,rfl,r⟩
section
variable{P:Program}{w:World}{H H':Hp}{h h':Heap}{a C dx:Addr}{fs fs':List (Str×V)}
theorem b3R(hok:HOk P w H h)(e:H a=some (.ins C dx fs)):∃mA,b5U h a dx C mA/\(∀f,a3J (fs.lookup f) (mA f))/\PySem.Within mA (fs.map (·.1))/\fs.length<=1000/\H dx=some (.own a):=by
 obtain⟨d,z,ne,ob,mA,n,r,q⟩:=(show Y3 P w H h a (.ins C dx fs)from hok a _ e)
 exact⟨mA,⟨ob,n,ne⟩,r,q,z,d⟩
end
structure Cls(K:W.Frag)(C:Addr):Prop where
 pg:W.plainGet K C Str.empty=true
 hd:W.hasDictIn K C=true
 po:W.plainOver K C=true
 sa:W.findIn K (.ref C) "__setattr__"=some (some (.builtin "object.__setattr__"))
theorem Cls.get{K:W.Frag}{C:Addr}(c:Cls K C)(f:Str):W.plainGet K C f=true:=c.pg
section
variable{X:Cx}{pins:List (Addr×Obj)}{σ:St}{H:Hp}{s:Shared}{a C dx:Addr}{fs:List (Str×V)}{f:Str}{v:V}{A:Around}{E:Value->Shared->Prop}
theorem b3Z{prog:Program}{w:World}{env:Env}{e:Expr}{f:Str}{pos:Pos}{s:Shared}{Q:Value->Shared->Prop}(hb:attributeBase e f env (eval e env)=eval e env)
  (h:wpAny (model prog w) A (eval e env) (fun o s₁=>wpAny (model prog w) A (getAttr o f true) Q E s₁) E s):wpAny (model prog w) A (eval (.Attribute e f pos) env) Q E s:=
 Attribute_any_ h (by rw[arm_eval_Attribute,hb])
end
section
variable{X:Cx}{o e value:Expr}{f:Str}{pos pos' tpos:Pos}{ta tv:TE}
end
section
variable{X:Cx}{pins:List (Addr×Obj)}{σ:St}{H:Hp}{s:Shared}{A:Around}{E:Value->Shared->Prop}{Q:Value->Shared->Prop}{c:Value}{b:Bool}
inductive a4i (K:W.Frag) (H:Hp):V->Value->Prop where
 | non:a4i K H .non (.type "NoneType")
 | bl (x:Bool):a4i K H (.bl x) (.type "bool")
 | int (i:Int):a4i K H (.int i) (.type "int")
 | str (x:Str):a4i K H (.str x) (.type "str")
 | flt (x:UInt64):a4i K H (.flt x) (.type "float")
 | lst {a:Addr} {xs:List V} (e:H a=some (.lst xs)):a4i K H (.ref a) (.type "list")
 | frz {a:Addr} {o:Obj} {xs:List V} (e:H a=some (.frz o (.lst xs))):a4i K H (.ref a) (.type "list")
 | tup {a:Addr} {xs:List V} (e:H a=some (.tup xs)):a4i K H (.ref a) (.type "tuple")
 | dK {a:Addr} {kvs:List (Key×V)} (e:H a=some (.dK kvs)):a4i K H (.ref a) (.type "dict")
 | dT {a:Addr} {kvs:List (List Key×V)} (e:H a=some (.dT kvs)):a4i K H (.ref a) (.type "dict")
 | ins {a C dx:Addr} {fs:List (Str×V)} (e:H a=some (.ins C dx fs)) (cl:Cls K C) (ha:W.findIn K (.ref C) "__class__"=some (some (.builtin "object.__class__")))
   (hn:W.specialIn K (.builtin "object.__class__") "__get__"=some (some (.builtin "getset_descriptor.__get__"))) (htk:W.takesIn K (.builtin "object.__class__")=some true)
   (hm:W.mroIn K C (.type "object")=some true):a4i K H (.ref a) (.ref C)
theorem b1n{x:V}{u t:Value}(I:Inv X pins σ H s)(rx:U8 x u)(ty:a4i X.K H x t)(e:W.kitOne X.K t c=some b)(h:∀tk,Q (.bool b) {s with toks:=tk}):
  wpAny (model X.prog X.w) A (call (.builtin "isinstance") [u,c]) Q E s:=by
 cases ty with
 | non=>cases(show u=Value.none from rx);exact W.kia_one W.kitx_none I.kIn True.intro e (fun z=>nomatch z) h
 | bl y=>cases(show u=Value.bool y from rx);exact W.kia_one W.kitx_bool I.kIn True.intro e (fun z=>nomatch z) h
 | int i=>obtain⟨t,q⟩:=(show∃t,u=Value.int i t from rx);cases q;exact W.kia_one W.kitx_int I.kIn True.intro e (fun z=>nomatch z) h
 | str y=>obtain⟨t,q⟩:=(show∃t,u=Value.str y t from rx);cases q;exact W.kia_one W.kitx_str I.kIn True.intro e (fun z=>nomatch z) h
 | flt y=>obtain⟨t,q⟩:=(show∃t,u=Value.float y t from rx);cases q;exact W.kia_one W.kitx_float I.kIn True.intro e (fun z=>nomatch z) h
 | @lst a xs ea=>
  cases(show u=Value.ref a from rx)
  obtain⟨_,_,n,_,h1⟩:=(show Y3 X.prog X.w H s.heap a (.lst xs)from I.hok a _ ea)
  exact W.kia_one W.kitx_list I.kIn ⟨_,h1,rfl⟩ e (fun z=>nomatch z) h
 | @frz a ob xs ea=>
  cases(show u=Value.ref a from rx)
  obtain⟨_,_,_,n,_,h1⟩:=(show Y3 X.prog X.w H s.heap a (.frz ob (.lst xs))from I.hok a _ ea)
  exact W.kia_one W.kitx_list I.kIn ⟨_,h1,rfl⟩ e (fun z=>nomatch z) h
 | @tup a xs ea=>
  cases(show u=Value.ref a from rx)
  obtain⟨_,_,_,p⟩:=(show Y3 X.prog X.w H s.heap a (.tup xs)from I.hok a _ ea)
  obtain⟨o,h1,h2,_⟩:=p
  exact W.kia_one W.kitx_tuple I.kIn ⟨o,h1,h2⟩ e (fun z=>nomatch z) h
 | @dK a kvs ea=>
  cases(show u=Value.ref a from rx)
  obtain⟨_,_,vs,_,p⟩:=(show Y3 X.prog X.w H s.heap a (.dK kvs)from I.hok a _ ea)
  obtain⟨o,es,ep,h1,h2,_⟩:=p
  exact W.kia_one W.kitx_dict I.kIn ⟨o,h1,h2.1⟩ e (fun z=>nomatch z) h
 | @dT a kvs ea=>
  cases(show u=Value.ref a from rx)
  obtain⟨_,_,xs,_,o,es,ep,h1,h2,_⟩:=(show Y3 X.prog X.w H s.heap a (.dT kvs)from I.hok a _ ea)
  exact W.kia_one W.kitx_dict I.kIn ⟨o,h1,h2.1⟩ e (fun z=>nomatch z) h
 | @ins a C dx fs ea cl ha hn htk hm=>
  cases(show u=Value.ref a from rx)
  obtain⟨mA,O,_⟩:=b3R I.hok ea
  obtain⟨od,J,_⟩:=O.look
  exact W.kia_one (W.kitx_own (cl.get _) cl.hd ha hn htk hm) I.kIn J e (fun z=>nomatch z) h
end
end L2
namespace L2
open PySem PySem.Spec PyProof.Rows
structure a0c(k:Nat)(A:Around):Prop where
 hd:A.handled=none
 dp:A.depth+3*k+5 < recursionLimit
 un:A.units+16*k+200 < cLine
theorem a0c.mono{j k:Nat}{A:Around}(r:a0c k A)(h:j<=k):a0c j A:=⟨r.hd,by have:=r.dp;omega,by have:=r.un;omega⟩
theorem a0c.deeper{k:Nat}{A:Around}(r:a0c (k+1) A)(env:Env):a0c k (A.deeper env):=
 ⟨r.hd,by have:=r.dp;show A.depth+1+3*k+5 < _;omega,by have:=r.un;show A.units+3+16*k+200 < _;omega⟩
theorem a8V{A:Around}{C:Addr}{us:List Value}{kw:List (Str×Value)}:(A.under (.builtin "type.__call__" ⟨.ref C::us,kw⟩)).depth=A.depth+1:=by
 first | rfl | simp[Around.under,Code.weight,Code.isCreation,Code.isGuard,Code.isCaller,Code.frames,Code.isFrame,guardIds]
theorem a9h{A:Around}{C:Addr}{us:List Value}{kw:List (Str×Value)}:(A.under (.builtin "type.__call__" ⟨.ref C::us,kw⟩)).units=A.units+1:=by
 first | rfl | simp[Around.under,Code.cUnits,Code.frames,Code.isFrame]
theorem a0c.make{k:Nat}{A:Around}(r:a0c (k+1) A)(C:Addr)(us:List Value)(kw:List (Str×Value)):a0c k (A.under (.builtin "type.__call__" ⟨.ref C::us,kw⟩)):=
 ⟨r.hd,by have:=r.dp;rw[a8V];omega,by have:=r.un;rw[a9h];omega⟩
theorem a0c.depth{k:Nat}{A:Around}(r:a0c k A):A.depth < recursionLimit:=by have:=r.dp;omega
theorem a0c.units{k:Nat}{A:Around}(r:a0c k A):A.units+64 < cLine:=by have:=r.un;omega
noncomputable def b7l:TA:=fun _ H Q=>Q [] H
noncomputable def b6R (ta:TE) (tr:TA):TA:=fun σ H Q=>ta σ H fun x H1=>tr σ H1 fun xs H2=>Q (x::xs) H2
section
variable{X:Cx}{e:Expr}{es:List Expr}{te:TE}{t:TA}{pos:Pos}
theorem G6:PA X [] b7l:=fun _ _ _ _ H Q I h=>Calls.spliced_nil ⟨[],H,I,.nil,h⟩
theorem G0(ha:PE X e te)(hr:PA X es t)(hs:starEach (e::es) X.env=(false,eval e X.env)::starEach es X.env:=by rfl):PA X (e::es) (b6R te t):=by
 intro pos pins s σ H Q I h
 rw[hs]
 show wpAny _ _ (spliced ((false,eval e X.env)::backTo pos (starEach es X.env))) _ _ s
 refine Calls.spliced_cons (thn (ha pins s σ H _ I h) fun u s1⟨x,H1,I1,r1,q1⟩=>?_)
 exact thn (hr pos pins s1 σ H1 _ I1 q1) fun us s2⟨xs,H2,I2,r2,q2⟩=>⟨x::xs,H2,I2,.cons r1 r2,q2⟩
noncomputable def b7P (t:TA):TE:=fun σ H Q=>t σ H fun xs H1=>xs.length<=sizeLine/\∀p,H1 p=none->Q (.ref p) (upd H1 p (.tup xs))
noncomputable def b7M (t:TA):TE:=fun σ H Q=>t σ H fun xs H1=>xs.length<=sizeLine/\∀p,H1 p=none->Q (.ref p) (upd H1 p (.lst xs))
theorem U6{x1}(h:PA X es t):PE X (.Tuple es x1 pos) (b7P t):=by
 intro pins s σ H Q I hq
 refine wpAny_Tuple_spliced (thn (h pos pins s σ H _ I hq) fun us s1⟨xs,H1,I1,r,z,q⟩=>⟨by rw[<-r.length];exact z,?_⟩)
 have hf:H1 s1.heap.objs.size=none:=I1.hok.fresh (AH _)
 refine⟨.ref s1.heap.objs.size,upd H1 s1.heap.objs.size (.tup xs),I1.laid (t':=s1.toks) (fun b u e=>AC _ e) (AH _) ?_,rfl,q _ hf⟩
 exact⟨z,us,r,⟨_,AI _ rfl,rfl,_,rfl⟩⟩
theorem Y2(h:PA X es t):PE X (.List es pos) (b7M t):=by
 intro pins s σ H Q I hq
 refine wpAny_List_spliced (thn (h pos pins s σ H _ I hq) fun us s1⟨xs,H1,I1,r,z,q⟩=>⟨by rw[<-r.length];exact z,?_⟩)
 have hf:H1 s1.heap.objs.size=none:=I1.hok.fresh (AH _)
 refine⟨.ref s1.heap.objs.size,upd H1 s1.heap.objs.size (.lst xs),I1.laid (t':=s1.toks) (fun b u e=>AC _ e) (AH _) ?_,rfl,q _ hf⟩
 exact⟨z,us,0,r,AI _ rfl⟩
end
noncomputable abbrev Sp:=List V->Hp->VK->XK->Prop
noncomputable abbrev CXT:=List Env->Hp->Shared->XK->Value->Shared->Prop
structure a8N(P:Program)(w:World)(K:W.Frag)(mg:Str->Option Value)(base:Heap)(A:Around)(outer:List Env)(s:Shared)(H:Hp):Prop where
 frames:A.frames=some outer
 mod:Mod K mg base
 bs:∀b o,base.get? b=some o->s.heap.get? b=some o/\H b=none
 bsz:base.objs.size<=s.heap.objs.size
 funs:s.heap.FunFrames base outer
 frf:∀b∈frs outer,H b=none
 hok:HOk P w H s.heap
 bare:AllBare s.gens
noncomputable def CE (outer:List Env) (P:Program) (w:World) (H:Hp) (s:Shared) (Q:VK) (u:Value) (s':Shared):Prop:=
 ∃v H',s'.os=s.os/\AllBare s'.gens/\Un (frs outer) [] H H' s.heap s'.heap/\HOk P w H' s'.heap/\U8 v u/\Q v H'
noncomputable def CR (CX:CXT) (outer:List Env) (P:Program) (w:World) (H:Hp) (s:Shared) (Q:VK) (E:XK) (r:Result) (s':Shared):Prop:=
 match r with
 | .ok (.ret u)=>CE outer P w H s Q u s'
 | .ok _=>False
 | .error e=>CX outer H s E e s'
structure a4C(P:Program)(w:World)(K:W.Frag)(mg:Str->Option Value)(base:Heap)(CX:CXT)(k:Nat)(f:Addr)(fd:FuncData)(ps:List Str)(sp:Sp):Prop where
 len:∀vs H Q E,sp vs H Q E->vs.length=ps.length
 run:∀(A:Around)(outer:List Env)(s:Shared)(H:Hp)(args:Args)(us:List Value)(vs:List V)(Q:VK)(E:XK),a0c k A->a8N P w K mg base A outer s H->BindsTo s fd args (ps.zip us)->W0 vs us->sp vs H Q E->
  codeAny (model P w) A (.call (.ref f) args) (CR CX outer P w H s Q E) s
theorem a8N.make{P:Program}{w:World}{K:W.Frag}{mg:Str->Option Value}{base:Heap}{A:Around}{outer:List Env}{s:Shared}{H:Hp}(e:a8N P w K mg base A outer s H)(C:Addr)(us:List Value)(kw:List (Str×Value)):
  a8N P w K mg base (A.under (.builtin "type.__call__" ⟨.ref C::us,kw⟩)) outer s H:=⟨by first | exact e.frames | (simpa [Around.under,Code.envs,Code.isFrame,pushEnvs]using e.frames),e.mod,e.bs,e.bsz,e.funs,e.frf,e.hok,e.bare⟩
section
variable{X:Cx}{pins:List (Addr×Obj)}{σ:St}{H:Hp}{s s':Shared}
theorem Inv.env0(I:Inv X pins σ H s):a8N X.prog X.w X.K X.mg X.base X.A X.stack s H:=
 ⟨I.ok.frames,I.ok.mod,I.bs,Nat.le_trans I.ok.bsz I.sz,I.stack,I.stkFree,I.hok,I.bare⟩
theorem Inv.after{Q:VK}{u:Value}(I:Inv X pins σ H s)(h:CE X.stack X.prog X.w H s Q u s'):EP X pins σ Q u s':=by
 obtain⟨v,H',os,bare,un,hok,r,q⟩:=h
 obtain⟨hh,g,d,t,os'⟩:=s'
 obtain rfl:os'=s.os:=os
 exact⟨v,H',I.call (h':=hh) (g':=g) (d':=d) (t':=t) (ch:=[]) un hok bare (fun b z=>absurd z (by simp)),r,q⟩
end
noncomputable def b2c (sp:Sp) (dvs:List V) (E:XK) (t:TA):TE:=fun σ H Q=>t σ H fun vs H1=>sp (vs++dvs) H1 Q E
noncomputable def a4t (K:W.Frag) (fd:FuncData) (ps:List Str) (ds:List Value):Prop:=
 ∀(s:Shared)(us:List Value),K.In s.heap->(us++ds).length=ps.length->BindsTo s fd ⟨us,[]⟩ (ps.zip (us++ds))
theorem a4t.all{K:W.Frag}{fd:FuncData}{ps:List Str}(h:∀us:List Value,us.length=ps.length->bindArgs fd ⟨us,[]⟩=pure (ps.zip us)):a4t K fd ps []:=fun s us _ hl=>by
 rw[List.append_nil]at hl⊢
 exact .of_eq (h us hl)
noncomputable def a5K (CX:CXT) (X:Cx) (E:XK):Prop:=∀(pins:List (Addr×Obj))(σ:St)(H:Hp)(s:Shared)(e:Value)(s':Shared),Inv X pins σ H s->CX X.stack H s E e s'->X.xe e s'
section
variable{X:Cx}{CX:CXT}{k:Nat}{f C:Addr}{fd:FuncData}{ps:List Str}{sp:Sp}{dvs:List V}{ds:List Value}{E:XK}{x m:Str}{p pos apos:Pos}{e o:Expr}{es:List Expr}{ta:TE}{t:TA}
theorem b5v{pins:List (Addr×Obj)}{σ:St}{H:Hp}{s:Shared}{Q:VK}{us:List Value}{vs:List V}(F:a4C X.prog X.w X.K X.mg X.base CX k f fd ps sp)(hr:a0c k X.A)(hb:a4t X.K fd ps ds)(hd:W0 dvs ds)(hx:a5K CX X E)
  (I:Inv X pins σ H s)(r:W0 vs us)(h:sp (vs++dvs) H Q E):wpAny (model X.prog X.w) X.A (call (.ref f) us) (EP X pins σ Q) X.xe s:=by
 have r2:W0 (vs++dvs) (us++ds):=r.append hd
 have hl:(us++ds).length=ps.length:=by rw[<-r2.length];exact F.len _ _ _ _ h
 refine wpAny_call (codeAny_mono (F.run X.A X.stack s H ⟨us,[]⟩ (us++ds) (vs++dvs) Q E hr I.env0 (hb s us I.kIn hl) r2 h) fun r s' hq=>?_)
 cases r with
 | error e=>exact hx pins σ H s e s' I hq
 | ok fl=>
  cases fl with
  | ret u=>exact I.after hq
  | next=>exact False.elim hq
  | brk=>exact False.elim hq
  | cont=>exact False.elim hq
theorem b0e(F:a4C X.prog X.w X.K X.mg X.base CX k f fd ps sp)(hr:a0c k X.A)(hg:Gl X x)(hm:X.mg x=some (.ref f))(hk:W.keepIn X.K (.ref f)=true)(hb:a4t X.K fd ps ds)(hd:W0 dvs ds)(hx:a5K CX X E)
  (ha:PA X (e::es) t)(hdb:(x==("__debug__":Str))=false:=by decide)(he:starEach (e::es) X.env=(false,eval e X.env)::starEach es X.env:=by rfl)(hpl:(backTo pos (starEach es X.env)).any (·.1)=false:=by rfl):
  PE X (.Call (.Name x p) (e::es) [] pos) (b2c sp dvs E t):=by
 intro pins s σ H Q I h
 refine wpAny_Call_Name_kw (a2B I hg hm ?_ hdb)
 refine W.callWith_K (h₀:=X.base) I.ok.mod.kin hk (thn (ha pos pins s σ H _ I h) fun us s1⟨vs,H1,I1,r,q⟩=>⟨I1.kIn,?_⟩) he hpl
 exact b5v F hr hb hd hx I1 r q
end
section
variable{X:Cx}{CX:CXT}{k:Nat}{f C:Addr}{fd:FuncData}{ps ks:List Str}{sp:Sp}{E:XK}{x m:Str}{p pos apos kpos:Pos}{e o:Expr}{es:List Expr}{kws:List Keyword}{te ta:TE}{t tk:TA}{nm:Option Str}
variable{g:List Value->List Value->List Value}{gV:List V->List V->List V}
end
structure R3(N P:List Str)(sc:Scope):Prop where
 kind:sc.kind= .function
 co:sc.isCoroutine=false
 gen:sc.isGenerator=false
 nd:N.Nodup
 pre:N.take P.length=P
 par:∀x∈P,sc.names.lookup x=some .local\/sc.names.lookup x=some .cell
 nofree:∀y∈sc.names,y.2≠ .free
theorem a6b{kindOf:Str->Option NameKind}{x:Str}:∀{binds:List (Str×Value)}{m:Str->Option Value},(∀v,(x,v)∉binds)->bindL kindOf binds m x=m x
 | [],_,_=>rfl
 | (n,v)::r,m,h=>by
  unfold bindL
  rw[a6b fun w hw=>h w (AK _ hw)]
  split
  ·have:x≠n:=by rintro rfl;exact h v AM
   simp[this]
  ·rfl
theorem a6H{kindOf:Str->Option NameKind}{x:Str}:∀{binds:List (Str×Value)}{m:Str->Option Value},(∀v,(x,v)∉binds)->bindC kindOf binds m x=m x
 | [],_,_=>rfl
 | (n,v)::r,m,h=>by
  unfold bindC
  rw[a6H fun w hw=>h w (AK _ hw)]
  split
  ·rfl
  ·have:x≠n:=by rintro rfl;exact h v AM
   simp[this]
theorem a5Y{kindOf:Str->Option NameKind}{x:Str}{v:Value}:∀{P:List Str}{vs:List Value}{i:Nat}{m:Str->Option Value},P.Nodup->P[i]?=some x->vs[i]?=some v->kindOf x=some .local->
  bindL kindOf (P.zip vs) m x=some v
 | [],_,_,_,_,h,_,_=>by simp at h
 | _::_,[],_,_,_,_,h,_=>by simp at h
 | p::P,w::vs,0,m,nd,h1,h2,hk=>by
  simp at h1 h2;subst h1;subst h2
  show bindL kindOf ((p,w)::P.zip vs) m p=_
  unfold bindL
  rw[a6b fun v hv=>(BN.mp nd).1 (List.of_mem_zip hv).1,if_pos hk]
  simp
 | p::P,w::vs,i+1,m,nd,h1,h2,hk=>by
  show bindL kindOf ((p,w)::P.zip vs) m x=_
  unfold bindL
  exact a5Y (i:=i) (BN.mp nd).2 (by simpa using h1) (by simpa using h2) hk
theorem a6q{kindOf:Str->Option NameKind}{x:Str}{v:Value}:∀{P:List Str}{vs:List Value}{i:Nat}{m:Str->Option Value},P.Nodup->P[i]?=some x->vs[i]?=some v->kindOf x≠some .local->
  bindC kindOf (P.zip vs) m x=some v
 | [],_,_,_,_,h,_,_=>by simp at h
 | _::_,[],_,_,_,_,h,_=>by simp at h
 | p::P,w::vs,0,m,nd,h1,h2,hk=>by
  simp at h1 h2;subst h1;subst h2
  show bindC kindOf ((p,w)::P.zip vs) m p=_
  unfold bindC
  rw[a6H fun v hv=>(BN.mp nd).1 (List.of_mem_zip hv).1,if_neg hk]
  simp
 | p::P,w::vs,i+1,m,nd,h1,h2,hk=>by
  show bindC kindOf ((p,w)::P.zip vs) m x=_
  unfold bindC
  exact a6q (i:=i) (BN.mp nd).2 (by simpa using h1) (by simpa using h2) hk
noncomputable def a2a (N:List Str) (vs:List V):St:=vs.map some++List.replicate (N.length - vs.length) none
noncomputable def a0h (CX:CXT) (P:Program) (w:World) (K:W.Frag) (mg:Str->Option Value) (base:Heap) (N:List Str) (qual:Str) (scope:Scope) (f:Addr) (cd:Value) (A:Around) (outer:List Env) (s:Shared) (H:Hp) (E:XK):Cx where
 prog:=P
 w:=w
 K:=K
 mg:=mg
 base:=base
 A:=A.deeper (envOfC qual scope s.heap.objs.size f cd)
 N:=N
 s₀:=s
 H₀:=H
 env:=envOfC qual scope s.heap.objs.size f cd
 outer:=outer
 stack:=envOfC qual scope s.heap.objs.size f cd::outer
 ex:=[]
 calm:=true
 fn:=fun _=>true
 pn:=[]
 xe:=fun e s'=>wpAny (model P w) (A.deeper (envOfC qual scope s.heap.objs.size f cd)) (leaving (envOfC qual scope s.heap.objs.size f cd) e) (fun _ s''=>CX outer H s E e s'') (fun e' s''=>CX outer H s E e' s'') s'
theorem a8v{sc:Scope}{n:Nat}{x:Str}(h:sc.names.lookup x=some .cell):∃c,(cellsFrom n sc.names []).lookup x=some c:=by
 have q:=W.cellsFrom_some sc.names n [] (.inl h)
 exact Option.isSome_iff_exists.mp q
theorem b1h{CX:CXT}{P:Program}{w:World}{K:W.Frag}{mg:Str->Option Value}{base:Heap}{N ps:List Str}{qual:Str}{scope:Scope}{f:Addr}{cd:Value}{A:Around}{outer:List Env}{s s1:Shared}{H:Hp}{E:XK}{us:List Value}{vs:List V}
  (S:R3 N ps scope)(hd:A.handled=none)(e0:a8N P w K mg base A outer s H)(hl:vs.length=ps.length)(r:W0 vs us)
  (x:InCallC s s.heap.objs.size (bindL (envOfC qual scope s.heap.objs.size f cd).kindOf (ps.zip us) fun _=>none) (cellsFrom (s.heap.objs.size+1) scope.names []) (bindC (envOfC qual scope s.heap.objs.size f cd).kindOf (ps.zip us) fun _=>none) s1):
  Inv (a0h CX P w K mg base N qual scope f cd A outer s H E) [] (a2a N vs) H s1:=by
 have hpl:ps.length<=N.length:=by have:=congrArg List.length S.pre;rw[BD]at this;omega
 obtain⟨h1,tk,rfl,hk⟩:=x.done
 have noA:∀b:Addr,b∉(a0h CX P w K mg base N qual scope f cd A outer s H E).ex:=fun b z=>absurd (show b∈([]:List Addr)from z) (by simp)
 refine⟨⟨e0.mod,S.kind,rfl,rfl,AH _,fun y z c h1 h2=>?_,fun y hy=>?_,fun y c _ h=>?_,fun _=>hd,Around.frames_deeper e0.frames,.inr ⟨rfl,rfl⟩,fun b z=>absurd z (noA b),e0.bs,e0.bsz,fun b _ _=>noA b,fun b z=>absurd z (noA b),e0.funs,e0.frf⟩,
  rfl,e0.bare,Un.kept hk,⟨_,x.toInCall.ns,fun i y v h1 h2 h3=>?_⟩,fun y c h=>⟨_,x.cell y c h⟩,e0.hok.fresh (AH _),fun y c h=>?_,fun p hp=>absurd (show p∈([]:List (Addr×Obj))from hp) (by simp),e0.hok.kept hk,?_⟩
 ·exact name_of_addr x.apart (PySem.mem_of_lookup h1) (PySem.mem_of_lookup h2)
 ·have hy:scope.names.lookup y=some .cell\/scope.names.lookup y=some .free:=hy
  rcases hy with hy | hy
  ·exact a8v hy
  ·exact absurd rfl (S.nofree _ (PySem.mem_of_lookup hy))
 ·exact Nat.le_of_lt (x.above y c (PySem.mem_of_lookup h))
 ·have hi:i < vs.length:=by
   unfold a2a at h2
   by_cases hi:i < vs.length
   ·exact hi
   ·rw[List.getElem?_append_right (by simpa using hi)]at h2
    rw[List.getElem?_replicate]at h2
    split at h2<;>cases h2
  have ha:vs[i]?=some v:=by
   unfold a2a at h2
   rw[List.getElem?_append_left (by simpa using hi),List.getElem?_map]at h2
   cases e:vs[i]? with
   | none=>rw[e]at h2;cases h2
   | some a=>rw[e]at h2;cases h2;rfl
  obtain⟨u,hu,rv⟩:=r.get ha
  have hp:ps[i]?=some y:=by
   rw[<-S.pre,List.getElem?_take_of_lt (by omega)];exact h1
  have ndP:ps.Nodup:=by rw[<-S.pre];exact S.nd.sublist (List.take_sublist _ _)
  refine⟨u,rv,?_⟩
  rcases S.par y (AG hp)with k | k
  ·exact .inl ⟨k,a5Y ndP hp hu k⟩
  ·obtain⟨c,e⟩:=a8v (n:=s.heap.objs.size+1) k
   refine .inr ⟨.inl k,c,e,?_⟩
   have q:=x.cell y c e
   rw[a6q ndP hp hu (by show scope.names.lookup y≠_;rw[k];decide)]at q
   exact q
 ·exact e0.hok.fresh (Nat.le_of_lt (x.above y c (PySem.mem_of_lookup h)))
 ·unfold a2a
  show _=N.length
  rw[List.length_append,List.length_map,List.length_replicate]
  omega
theorem b5i{CX:CXT}{P:Program}{w:World}{K:W.Frag}{mg:Str->Option Value}{base:Heap}{k:Nat}{f:Addr}{name qual:Str}{params:Arguments}{body:List Stmt}{scope:Scope}{dV kV doc pm cdv ct oc:Value}{an od:Option Addr}
  {osl:Array (Option Value)}{N ps:List Str}{sp:Sp}(lk:K.lookup f=some ⟨oc,od,.func (W.fnOf name qual params body scope dV kV doc pm an cdv ct),osl⟩)(hcd:W.codeIn K cdv qual=true)(S:R3 N ps scope)
  (len:∀vs H Q E,sp vs H Q E->vs.length=ps.length)
  (hbody:∀(A:Around)(outer:List Env)(s:Shared)(H:Hp)(vs:List V)(Q:VK)(E:XK),a0c k (A.deeper (envOfC qual scope s.heap.objs.size f cdv))->sp vs H Q E->
   ∃t,PSs (a0h CX P w K mg base N qual scope f cdv A outer s H E) body t/\t {nx:=fun _ H'=>Q .non H',rt:=Q} (a2a N vs) H):
  a4C P w K mg base CX (k+1) f (W.fnOf name qual params body scope dV kV doc pm an cdv ct) ps sp:=by
 refine⟨len,fun A outer s H args us vs Q E hr e0 hb r hsp=>?_⟩
 have hl:=len _ _ _ _ hsp
 have KX:K.In s.heap:=e0.mod.kin.keeps fun b o e=>(e0.bs b o e).1
 have lim:s.heap.NoLimit:=e0.mod.nolimit.keeps fun b o e=>(e0.bs b o e).1
 have hkind:∀y∈ps.zip us,scope.names.lookup y.1=some .local\/(scope.names.lookup y.1=some .cell/\((cellsFrom (s.heap.objs.size+1) scope.names []).lookup y.1).isSome=true):=fun⟨n,v⟩hy=>by
  rcases S.par n (List.of_mem_zip hy).1 with q | q
  ·exact .inl q
  ·exact .inr ⟨q,W.cellsFrom_some _ _ _ (.inl q)⟩
 refine codeAny_call_function hr.depth (KX _ _ lk) rfl S.co S.gen rfl (W.codeRec_of KX hcd) (hb _ _ _ _ ?_)
 refine wpAny_newFunctionEnv_cells S.kind hkind fun env he s1 x=>?_
 subst he
 refine⟨lim.keeps x.toInCall.keep,codeAny_func ?_⟩
 obtain⟨t,ht,hq⟩:=hbody A outer s H vs Q E (hr.deeper _) hsp
 have I:Inv (a0h CX P w K mg base N qual scope f cdv A outer s H E) [] (a2a N vs) H s1:=b1h S hr.hd e0 hl r x
 refine wpAny_mono (ht [] s1 (a2a N vs) H _ I hq) (fun fl s' hs=>?_) fun e s' hs=>hs
 have fin:∀{σ':St}{H':Hp}{v:V}{u:Value},Inv (a0h CX P w K mg base N qual scope f cdv A outer s H E) [] σ' H' s'->U8 v u->Q v H'->CE outer P w H s Q u s':=
  fun{σ' H' v u}J rv q=>⟨v,H',J.os,J.bare,J.base,J.hok,rv,q⟩
 cases fl with
 | ret u=>
  obtain⟨v,σ',H',J,rv,q⟩:=hs
  exact fin J rv q
 | next=>
  obtain⟨σ',H',J,q⟩:=hs
  exact fin (v:=V.non) (u:=Value.none) J rfl q
 | brk=>
  obtain⟨_,_,_,q⟩:=hs
  exact False.elim q
 | cont=>
  obtain⟨_,_,_,q⟩:=hs
  exact False.elim q
end L2
namespace L2
open PySem PySem.Spec PyProof.Rows
section
variable{X:Cx}{x:Str}{p pos:Pos}{e:Expr}{es:List Expr}{t:TA}{id T:String}{r:List V->Hp->VK->Prop}
noncomputable def tCB (r:List V->Hp->VK->Prop) (t:TA):TE:=fun σ H Q=>t σ H fun vs H1=>r vs H1 Q
theorem R4(hc:a0R X (.builtin id) r)(hg:Gl X x)(hm:X.mg x=none)(hv:bootBuiltins x=some (.builtin id))(ha:PA X (e::es) t)(hn:x≠ "__name__":=by decide)(hdb:(x==("__debug__":Str))=false:=by decide)
  (he:starEach (e::es) X.env=(false,eval e X.env)::starEach es X.env:=by rfl)(hpl:(backTo pos (starEach es X.env)).any (·.1)=false:=by rfl):PE X (.Call (.Name x p) (e::es) [] pos) (tCB r t):=by
 intro pins s σ H Q I h
 refine wpAny_Call_Name_kw (a0T I hg hm hv ?_ hn hdb)
 exact PyProof.Rows.callWith_builtin1 (thn (ha pos pins s σ H _ I h) fun us s1⟨vs,H1,I1,r1,q1⟩=>hc pins s1 σ H1 vs us Q I1 r1 q1) he hpl
theorem W3(hc:a0R X (.type T) r)(hg:Gl X x)(hm:X.mg x=none)(hv:bootBuiltins x=some (.type T))(ha:PA X (e::es) t)(hn:x≠ "__name__":=by decide)(hdb:(x==("__debug__":Str))=false:=by decide)
  (he:starEach (e::es) X.env=(false,eval e X.env)::starEach es X.env:=by rfl)(hpl:(backTo pos (starEach es X.env)).any (·.1)=false:=by rfl):PE X (.Call (.Name x p) (e::es) [] pos) (tCB r t):=by
 intro pins s σ H Q I h
 refine wpAny_Call_Name_kw (a0T I hg hm hv ?_ hn hdb)
 exact PyProof.Rows.callWith_type1 (thn (ha pos pins s σ H _ I h) fun us s1⟨vs,H1,I1,r1,q1⟩=>hc pins s1 σ H1 vs us Q I1 r1 q1) he hpl
end
end L2
namespace HT
open PySem PyProof.Rows
section
open PySem.SeqAt
open PySem.AutoSeq1 (wpAny_loadPart')
open PySem.MeetsSeq PySem.MeetsSeq2 PySem.MeetsSeq3
end
section
variable{prog:Program}{w:World}{A:Around}{E:Value->Shared->Prop}{s:Shared}
noncomputable def sIx (n d:Nat):Option Int->Nat
 | none=>d
 | some v=>if v < 0 then(v+(n:Int)).toNat else min v.toNat n
theorem b3e(n d:Nat)(hd:d<=n)(o:Option Int):sIx n d o<=n:=by
 cases o with
 | none=>exact hd
 | some v=>
  show(if v < 0 then(v+(n:Int)).toNat else min v.toNat n)<=n
  by_cases hv:v < 0
  ·rw[if_pos hv];omega
  ·rw[if_neg hv];exact Nat.min_le_right _ _
theorem a4D(v:Int)(n d:Nat):(if v < 0 then max (v+(n:Int)) 0 else min v (n:Int))=((sIx n d (some v):Nat):Int):=by
 show(if v < 0 then max (v+(n:Int)) 0 else min v (n:Int))=(((if v < 0 then(v+(n:Int)).toNat else min v.toNat n):Nat):Int)
 by_cases hv:v < 0
 ·simp only[if_pos hv];omega
 ·simp only[if_neg hv];omega
theorem a9k(lo hi:Option Int)(n:Nat):Builtin.Slice.sliceAdjust lo hi 1 (n:Int)=(((sIx n 0 lo:Nat):Int),((sIx n n hi:Nat):Int)):=by
 have h1:¬((1:Int) < 0):=by omega
 unfold Builtin.Slice.sliceAdjust
 simp only[h1,if_false]
 refine Prod.ext ?_ ?_
 ·cases lo with
  | none=>rfl
  | some v=>exact a4D v n 0
 ·cases hi with
  | none=>rfl
  | some v=>exact a4D v n n
theorem a9m(i j:Nat):Builtin.Slice.slicePlaces (i:Int) (j:Int) 1=j - i:=by
 unfold Builtin.Slice.slicePlaces
 have h1:(1:Int) > 0:=by omega
 simp only[h1,if_true,Int.ediv_one]
 split<;>omega
theorem a0U{v:Value}{o:Option Int}{Q:Option Int->Shared->Prop}(p:IsPart v o)(h:Q o s):wpAny (model prog w) A (Builtin.Slice.slicePartIndex v) Q E s:=by
 cases p with
 | none=>exact slicePart_none h
 | int i t=>exact slicePart_int h
theorem a1q{sl:Addr}{vl vu:Value}{lo hi:Option Int}{n:Nat}{Q:Int×Int×Nat->Shared->Prop}(hs:s.heap.IsSliceOf sl vl vu .none)(pl:IsPart vl lo)(pu:IsPart vu hi)
  (h:Q (((sIx n 0 lo:Nat):Int),1,sIx n n hi - sIx n 0 lo) s):wpAny (model prog w) A (Builtin.Slice.sliceApplied (.ref sl) (pure (n:Int))) Q E s:=by
 obtain⟨os,hos,hcs,hds⟩:=id hs
 unfold Builtin.Slice.sliceApplied Builtin.Slice.sliceFields
 refine AA (AA (wpAny_field hos hds (x:=vl) rfl (AA (wpAny_field hos hds (x:=vu) rfl (AA (wpAny_field hos hds (x:= .none) rfl (AB ?_)))))))
 refine AA (slicePart_none ?_)
 show wpAny _ _ (if((1:Int)==0)=true then _ else _) _ _ s
 rw[if_neg (by decide)]
 refine AA (a0U pl (AA (a0U pu (AA (AB ?_)))))
 show wpAny _ _ (match Builtin.Slice.sliceAdjust lo hi 1 (n:Int)with | (lo,hi)=>pure (lo,(1:Int),Builtin.Slice.slicePlaces lo hi 1)) _ _ s
 rw[a9k lo hi n]
 show wpAny _ _ (pure (((sIx n 0 lo:Nat):Int),(1:Int),Builtin.Slice.slicePlaces ((sIx n 0 lo:Nat):Int) ((sIx n n hi:Nat):Int) 1)) _ _ s
 rw[a9m]
 exact AB h
theorem b2D(xs:Array Value)(i k:Nat):((List.range k).filterMap fun(m:Nat)=>xs[((i:Int)+(m:Int)*1).toNat]?).toArray=((xs.toList.drop i).take k).toArray:=by
 have e:(fun(m:Nat)=>xs[((i:Int)+(m:Int)*1).toNat]?)=fun m=>xs[i+m]?:=by
  funext m
  have:((i:Int)+(m:Int)*1).toNat=i+m:=by omega
  rw[this]
 rw[e]
 have:=pick_run xs i k
 rw[List.filterMap_map]at this
 have e2:((fun x=>xs[x]?)∘fun x=>i+x)=fun m=>xs[i+m]?:=rfl
 rw[e2]at this
 rw[this]
theorem a3F{t sl:Addr}{items:Array Value}{vl vu:Value}{lo hi:Option Int}{Q:Value->Shared->Prop}(ht:IsTup s.heap t items)(hs:s.heap.IsSliceOf sl vl vu .none)(pl:IsPart vl lo)(pu:IsPart vu hi)
  (hw:¬(sIx items.size 0 lo=0/\sIx items.size items.size hi=items.size))
  (h:Q (.ref s.heap.objs.size) {s with heap:=s.heap.push {cls:= .type "tuple",data:= .seq ((items.toList.drop (sIx items.size 0 lo)).take (sIx items.size items.size hi - sIx items.size 0 lo)).toArray}})
  (hsz:items.size<=sizeLine):wpAny (model prog w) A (getItem (.ref t) (.ref sl)) Q E s:=by
 have htake:sizeOk (.seq ((items.toList.drop (sIx items.size 0 lo)).take (sIx items.size items.size hi - sIx items.size 0 lo)).toArray):=by
  show((items.toList.drop (sIx items.size 0 lo)).take (sIx items.size items.size hi - sIx items.size 0 lo)).toArray.size<=sizeLine
  rw[List.size_toArray,BD,List.length_drop,Array.length_toList]
  omega
 have hj:sIx items.size items.size hi<=items.size:=b3e _ _ (AH _) hi
 obtain⟨os,hos,hcs,hds⟩:=id hs
 have hTs:s.TypeIs (.ref sl) "slice":=⟨os,hos,hcs⟩
 unfold getItem
 try with_reducible refine BG ?_
 first | refine AA (AB ?_) | skip
 refine AA (wpAny_sequenceKey ht.typeIs (by decide) ?_)
 refine AA (wpAny_callSpecial?_slot (name:=Str.ofString "__getitem__") ht.typeIs PyProof.Rows.slot_tuple_getitem
  (wpAny_call_entry PyProof.Rows.slot_tuple_getitem ht.typeIs entry_tuple_getitem ?_ (args_tuple_getitem _ _)))
 show wpAny _ _ (Builtin.Tuple.tupleItemsOf (.ref t) >>= _) _ _ s
 refine AA (tupleItemsOf_ ht ?_)
 refine AA (wpAny_typeOf hTs ?_)
 rw[if_pos (by decide)]
 refine AA (a1q hs pl pu ?_)
 have hno:¬((((sIx items.size 0 lo:Nat):Int)==0 && (1:Int)==1 && (sIx items.size items.size hi - sIx items.size 0 lo)==items.size)=true):=by
  intro q
  rw[Bool.and_eq_true,Bool.and_eq_true]at q
  have q1:((sIx items.size 0 lo:Nat):Int)=0:=eq_of_beq q.1.1
  have q2:sIx items.size items.size hi - sIx items.size 0 lo=items.size:=eq_of_beq q.2
  exact hw ⟨by omega,by omega⟩
 show wpAny _ _ (if(((sIx items.size 0 lo:Nat):Int)==0 && (1:Int)==1 && (sIx items.size items.size hi - sIx items.size 0 lo)==items.size)=true then _ else _) _ _ s
 rw[if_neg hno,b2D]
 first
  | exact AA (m:=Builtin.Tuple.tupleExact _) (wpAny_newObj_type (AB ⟨_,rfl,AB h⟩) htake)
  | exact AA (m:=Builtin.Tuple.tupleExact _) (wpAny_newObj_type (AA (AB (AB ⟨_,rfl,AB h⟩))) htake)
  | exact AA (AA (m:=Builtin.Tuple.tupleExact _) (wpAny_newObj_type (AB (AB ⟨_,rfl,AB h⟩)) htake))
  | exact AA (AA (m:=Builtin.Tuple.tupleExact _) (wpAny_newObj_type (AB ⟨_,rfl,AB h⟩) htake))
end
end HT
namespace L2
open PySem PySem.Spec PyProof.Rows
noncomputable abbrev TO:=St->Hp->(Option Int->Hp->Prop)->Prop
noncomputable def PO (X:Cx) (e:Option Expr) (t:TO):Prop:=
 ∀(pins:List (Addr×Obj))(s:Shared)(σ:St)(H:Hp)(Q:Option Int->Hp->Prop),Inv X pins σ H s->t σ H Q->
  wpAny (model X.prog X.w) X.A (evalPart e X.env) (fun u s'=>∃o H',Inv X pins σ H' s'/\IsPart u o/\Q o H') X.xe s
noncomputable def b3D:TO:=fun _ H Q=>Q none H
noncomputable def b7b (t:TE):TO:=fun σ H Q=>t σ H fun x H1=>∃i,x= .int i/\Q (some i) H1
section
variable{X:Cx}{e:Expr}{te:TE}{lo hi:Option Expr}{tl th:TO}{pos p2:Pos}
theorem a9M:PO X none b3D:=by
 intro pins s σ H Q I h
 rw[evalPart_none]
 exact AB ⟨none,H,I,.none,h⟩
theorem a7j(h:PE X e te):PO X (some e) (b7b te):=by
 intro pins s σ H Q I hw
 rw[evalPart_some]
 refine thn (h pins s σ H _ I hw) fun u s1⟨x,H1,I1,r1,q1⟩=>?_
 obtain⟨i,rfl,q⟩:=q1
 obtain⟨t,rfl⟩:=r1
 exact⟨some i,H1,I1,.int i t,q⟩
noncomputable def SlR (X:Cx) (r:V->Option Int->Option Int->Hp->VK->Prop):Prop:=
 ∀(pins:List (Addr×Obj))(s:Shared)(σ:St)(H:Hp)(x:V)(v vl vu:Value)(lo hi:Option Int)(sl:Addr)(Q:VK),Inv X pins σ H s->U8 x v->s.heap.IsSliceOf sl vl vu .none->IsPart vl lo->IsPart vu hi->r x lo hi H Q->
  ∃T id,typeLookup (.type T) "__getitem__"=pure (some (.builtin id))/\s.TypeIs v T/\wpAny (model X.prog X.w) X.A (getItem v (.ref sl)) (EP X pins σ Q) X.xe s
noncomputable def tSl (r:V->Option Int->Option Int->Hp->VK->Prop) (te:TE) (tl th:TO):TE:=fun σ H Q=>te σ H fun x H1=>tl σ H1 fun l H2=>th σ H2 fun u H3=>r x l u H3 Q
theorem b2h{r:V->Option Int->Option Int->Hp->VK->Prop}(hr:SlR X r)(he:PE X e te)(hl:PO X lo tl)(hu:PO X hi th):PE X (.Subscript e (.Slice lo hi none p2) pos) (tSl r te tl th):=by
 intro pins s σ H Q I h
 refine Subscript_ (thn (he pins s σ H _ I h) fun v s1⟨x,H1,I1,r1,q1⟩=>?_)
 refine wpAny_Slice (thn (hl pins s1 σ H1 _ I1 q1) fun vl s2⟨l,H2,I2,pl,q2⟩=>thn (hu pins s2 σ H2 _ I2 q2) fun vu s3⟨u,H3,I3,pu,q3⟩=>?_)
 rw[evalPart_none]
 refine AB ?_
 have I4:Inv X pins σ H3 {s3 with heap:=s3.heap.push {cls:= .type "slice",data:= .fields #[vl,vu,.none]}}:=I3.kept (t':=s3.toks) fun b ob q=>AC _ q
 obtain⟨T,id,hT,ht,hg⟩:=hr pins {s3 with heap:=s3.heap.push {cls:= .type "slice",data:= .fields #[vl,vu,.none]}} σ H3 x v vl vu l u s3.heap.objs.size Q I4 r1 (Heap.IsSliceOf.new ..) pl pu q3
 show wpAny (model X.prog X.w) X.A (subscriptTail e (.Slice lo hi none p2) v (.ref s3.heap.objs.size)) (EP X pins σ Q) X.xe {s3 with heap:=s3.heap.push {cls:= .type "slice",data:= .fields #[vl,vu,.none]}}
 exact tail_any (ops:=[.ref s3.heap.objs.size,v]) ht hT hg (by with_unfolding_all rfl)
noncomputable def b3s (xs:List V) (lo hi:Option Int):List V:=(xs.drop (HT.sIx xs.length 0 lo)).take (HT.sIx xs.length xs.length hi - HT.sIx xs.length 0 lo)
theorem a7Y(xs:List V)(lo hi:Option Int):(b3s xs lo hi).length<=xs.length:=by
 unfold b3s
 rw[BD,List.length_drop]
 omega
noncomputable def b7N (K:W.Frag):V->Option Int->Option Int->Hp->VK->Prop:=fun x lo hi H Q=>∃a xs,x= .ref a/\SqT K H a xs/\
 ¬(HT.sIx xs.length 0 lo=0/\HT.sIx xs.length xs.length hi=xs.length)/\∀p,H p=none->Q (.ref p) (upd H p (.tup (b3s xs lo hi)))
theorem b5y:SlR X (b7N X.K):=by
 intro pins s σ H x v vl vu lo hi sl Q I rx hs pl pu h
 obtain⟨a,xs,rfl,hx,hw,q⟩:=h
 cases rx
 obtain⟨its,r,ht,hz⟩:=I.tuple hx
 have hlen:its.toArray.size=xs.length:=by rw[List.size_toArray];exact r.length.symm
 refine⟨"tuple",_,PyProof.Rows.slot_tuple_getitem.lookup,ht.typeIs,?_⟩
 refine HT.a3F ht hs pl pu (by rw[hlen];exact hw) ?_ (by rw[hlen];exact hz)
 rw[hlen]
 refine⟨.ref s.heap.objs.size,_,I.laid (t':=s.toks) (o:= .tup (b3s xs lo hi)) (fun b ob q=>AC _ q) (AH _) ?_,rfl,q _ (I.hok.fresh (AH _))⟩
 exact⟨Nat.le_trans (a7Y xs lo hi) hz,_,(r.drop (HT.sIx xs.length 0 lo)).take (HT.sIx xs.length xs.length hi - HT.sIx xs.length 0 lo),IsTup.new _ _⟩
end
end L2
namespace L2
open PySem PySem.Spec PyProof.Rows
noncomputable def ixN (n:Nat) (i:Int):Option Nat:=if 0<=i then(if i < n then some i.toNat else none)else if -(n:Int)<=i then some (i+n).toNat else none
noncomputable def atI {α:Type} (xs:List α) (i:Int):Option α:=(ixN xs.length i).bind fun j=>xs[j]?
theorem b0o{n:Nat}{i:Int}{j:Nat}(h:ixN n i=some j):seqIndex? i n=some j/\j < n/\ -(n:Int)<=i/\i < n:=by
 unfold ixN at h
 by_cases h0:0<=i
 ·rw[if_pos h0]at h
  by_cases h1:i < n
  ·rw[if_pos h1]at h
   have e:i.toNat=j:=Option.some.inj h
   exact⟨by rw[seqIndex_of h0 h1,e],by omega,by omega,h1⟩
  ·rw[if_neg h1]at h;cases h
 ·rw[if_neg h0]at h
  by_cases h1: -(n:Int)<=i
  ·rw[if_pos h1]at h
   have e:(i+n).toNat=j:=Option.some.inj h
   exact⟨by rw[seqIndex_neg (by omega) h1,e],by omega,h1,by omega⟩
  ·rw[if_neg h1]at h;cases h
theorem a6U{α:Type}{xs:List α}{i:Int}{v:α}(h:atI xs i=some v):∃j,seqIndex? i xs.length=some j/\xs[j]?=some v/\j < xs.length/\ -(xs.length:Int)<=i/\i < xs.length:=by
 unfold atI at h
 cases e:ixN xs.length i with
 | none=>rw[e]at h;cases h
 | some j=>
  rw[e]at h
  obtain⟨h1,h2,h3,h4⟩:=b0o e
  exact⟨j,h1,h,h2,h3,h4⟩
theorem W9{α:Type}{xs:List α}{j:Nat}{v:α}(h:xs[j]?=some v):atI xs (j:Int)=some v:=by
 have hj:j < xs.length:=(List.getElem?_eq_some_iff.mp h).1
 have e:ixN xs.length (j:Int)=some j:=by
  unfold ixN
  rw[if_pos (by omega),if_pos (by omega)];simp
 unfold atI;rw[e];exact h
theorem b2H{α:Type}(xs:List α)(v:α):atI (xs++[v]) (-1)=some v:=by
 have hl:(xs++[v]).length=xs.length+1:=by simp
 have e:ixN (xs++[v]).length (-1)=some xs.length:=by
  unfold ixN
  rw[hl,if_neg (by decide),if_pos (by omega)]
  congr 1
  omega
 unfold atI
 rw[e]
 show(xs++[v])[xs.length]?=some v
 simp
noncomputable def b4r (b:Expr):Prop:=∀o i,subscripted b false o i=operate [o,i] (getItem o i)
noncomputable def IxR (X:Cx) (r:R2):Prop:=
 ∀(value slice:Expr)(pins:List (Addr×Obj))(s:Shared)(σ:St)(H:Hp)(x y:V)(v u:Value)(Q:VK),Inv X pins σ H s->U8 x v->U8 y u->r x y H Q->
  subscripted slice false v u=operate [v,u] (getItem v u)->wpAny (model X.prog X.w) X.A (subscriptTail value slice v u) (EP X pins σ Q) X.xe s
noncomputable def MtR (X:Cx) (id:String) (r:V->List V->Hp->VK->Prop):Prop:=
 ∀(pins:List (Addr×Obj))(s:Shared)(σ:St)(H:Hp)(x:V)(xs:List V)(v:Value)(us:List Value)(Q:VK),Inv X pins σ H s->U8 x v->W0 xs us->r x xs H Q->
  wpAny (model X.prog X.w) X.A (call (.builtin id) (v::us)) (EP X pins σ Q) X.xe s
section
variable{X:Cx}{a b:Expr}{ta tb:TE}{pos:Pos}
theorem J2{r:R2}(hr:IxR X r)(ha:PE X a ta)(hb:PE X b tb)(hs:b4r b):PE X (.Subscript a b pos) (tOp r ta tb):=by
 intro pins s σ H Q I h
 exact Subscript_ (b5w ha hb I h fun v u s2 x y H2 I2 rx ry q=>hr a b pins s2 σ H2 x y v u Q I2 rx ry q (hs _ _))
noncomputable def b7w (K:W.Frag):R2:=fun x y H Q=>∃p xs i v,x= .ref p/\y= .int i/\SqL K H p xs/\atI xs i=some v/\Q v H
noncomputable def b6y (K:W.Frag):R2:=fun x y H Q=>∃p xs i v,x= .ref p/\y= .int i/\SqT K H p xs/\atI xs i=some v/\Q v H
noncomputable def b7E:R2:=fun x y H Q=>∃z i c,x= .str z/\y= .int i/\z.length<=sizeLine/\atI z.cps.toList i=some c/\Q (.str ⟨#[c]⟩) H
theorem J4:IxR X (b7w X.K):=by
 intro value slice pins s σ H x y v u Q I rx ry h hs
 obtain⟨p,xs,i,z,rfl,rfl,hq,he,q⟩:=h
 cases rx
 obtain⟨t,rfl⟩:=ry
 obtain⟨its,r,pl,hz⟩:=I.list hq
 obtain⟨j,h1,h2,h3,h4,h5⟩:=a6U he
 obtain⟨w,ew,rw'⟩:=r.get h2
 have hl:=r.length
 have hn:=a4d
 have fin:EP X pins σ Q w s:=⟨z,H,I,rw',q⟩
 by_cases h0:0<=i
 ·have hj:i.toNat=j:=by
   rw[seqIndex_of h0 h5]at h1
   exact Option.some.inj h1
  exact item_listR pl.isList h0 (by omega) (by rw[hj];simpa using ew) fin hs
 ·have hj:(i+(its.toArray.size:Int)).toNat=j:=by
   rw[seqIndex_neg (by omega) h4]at h1
   rw[List.size_toArray,<-hl]
   exact Option.some.inj h1
  exact subscriptTail_builtinR (x:=w) pl.isList.typeIs slot_list_getitem.lookup
   (wpAny_getItem_list_neg (Q:=fun r s'=>r=w/\EP X pins σ Q r s') pl.isList (by omega) (by rw[List.size_toArray]<;>omega) (by omega) (by rw[hj];simpa using ew) ⟨rfl,fin⟩) hs
theorem U0:IxR X (b6y X.K):=by
 intro value slice pins s σ H x y v u Q I rx ry h hs
 obtain⟨p,xs,i,z,rfl,rfl,hq,he,q⟩:=h
 cases rx
 obtain⟨t,rfl⟩:=ry
 obtain⟨its,r,pl,hz⟩:=I.tuple hq
 obtain⟨j,h1,h2,h3,h4,h5⟩:=a6U he
 obtain⟨w,ew,rw'⟩:=r.get h2
 have hl:=r.length
 have hn:=a4d
 have fin:EP X pins σ Q w s:=⟨z,H,I,rw',q⟩
 exact subscriptTail_builtinR (x:=w) pl.typeIs slot_tuple_getitem.lookup
  (getItem_tuple (j:=j) (Q:=fun r s'=>r=w/\EP X pins σ Q r s') pl (by omega) (by omega) (by rw[List.size_toArray,<-hl];exact h1) (by simpa using ew) ⟨rfl,fin⟩) hs
theorem a5B:IxR X b7E:=by
 intro value slice pins s σ H x y v u Q I rx ry h hs
 obtain⟨z,i,c,rfl,rfl,hz,he,q⟩:=h
 obtain⟨t,rfl⟩:=rx
 obtain⟨t',rfl⟩:=ry
 obtain⟨j,h1,h2,h3,h4,h5⟩:=a6U he
 have hl:z.cps.toList.length=z.length:=by simp[Str.length]
 rw[hl]at h1 h4 h5
 have hn:=a4d
 exact tail_any (typeIs_str s z t) slot_str_getitem.lookup (getItem_str (c:=c) (by
  have e1:decide (i < -(2 ^ 63:Int))=false:=AW (by omega)
  have e2:decide (i≥2 ^ 63)=false:=AW (by omega)
  rw[e1,e2,Bool.or_false]) (by rw[h1];simpa using h2) ⟨.str ⟨#[c]⟩,H,I.tok _,⟨_,rfl⟩,q⟩) hs
theorem a9J(its:List Value)(n j:Nat)(u:Value):Obj.mapSeq (·.setIfInBounds j u) {cls:= .type "list",data:= .seq its.toArray n}={cls:= .type "list",data:= .seq (its.set j u).toArray n}:=by
 simp[Obj.mapSeq]
theorem Inv.lst{pins:List (Addr×Obj)}{σ:St}{H:Hp}{s:Shared}{p:Addr}{xs:List V}(I:Inv X pins σ H s)(h:H p=some (.lst xs)):
  ∃(its:List Value)(n:Nat),W0 xs its/\s.heap.get? p=some {cls:= .type "list",data:= .seq its.toArray n}/\xs.length<=sizeLine:=by
 obtain⟨z,its,n,r,e⟩:=I.hok p _ h
 exact⟨its,n,r,e,z⟩
theorem Inv.lstUpd{pins:List (Addr×Obj)}{σ:St}{H:Hp}{s:Shared}{p:Addr}{xs ys:List V}{its its':List Value}{n n':Nat}{f:Obj->Obj}(I:Inv X pins σ H s)(h:H p=some (.lst xs))
  (ho:s.heap.get? p=some {cls:= .type "list",data:= .seq its.toArray n})(hf:f {cls:= .type "list",data:= .seq its.toArray n}={cls:= .type "list",data:= .seq its'.toArray n'})(r:W0 ys its')(hz:ys.length<=sizeLine)(t:Nat):
  Inv X pins σ (upd H p (.lst ys)) {s with heap:=s.heap.update p f,toks:=t}:=by
 have e:(s.heap.update p f).get? p=some {cls:= .type "list",data:= .seq its'.toArray n'}:=by
  rw[BE f ho (by rw[hf]<;>rfl),hf]
 refine I.write (x:=p) (e:=p) (by rw[h];trivial) (.inl rfl) (fun b u hb q=>(BA _ _ (Ne.symm hb)).trans q) ⟨_,e⟩ ?_
 exact⟨hz,its',n',r,e⟩
noncomputable def b6J:V->V->V->Hp->(Hp->Prop)->Prop:=fun o i v H Q=>∃p xs k j,o= .ref p/\i= .int k/\H p=some (.lst xs)/\ixN xs.length k=some j/\Q (upd H p (.lst (xs.set j v)))
theorem b2l:b6u X b6J:=by
 intro pins s σ H o i v ov iv u Q I ro ri rv h
 obtain⟨p,xs,k,j,rfl,rfl,hp,hj,q⟩:=h
 cases ro
 obtain⟨t,rfl⟩:=ri
 obtain⟨its,n,r,ho,hz⟩:=I.lst hp
 obtain⟨h1,h2,h3,h4⟩:=b0o hj
 have hl:=r.length
 have hn:=a4d
 have I':Inv X pins σ (upd H p (.lst (xs.set j v))) {s with heap:=s.heap.update p (Obj.mapSeq (·.setIfInBounds j u))}:=
  I.lstUpd hp ho (a9J its n j u) (r.set rv j) (by rw[List.length_set];exact hz) s.toks
 by_cases h0:0<=k
 ·have hk:k.toNat=j:=by
   rw[seqIndex_of h0 h4]at h1
   exact Option.some.inj h1
  exact W.ki_setAt ho h0 (by omega) (by rw[List.size_toArray,<-hl];exact h4) (by rw[hk];exact⟨_,I',q⟩)
 ·have hk:(k+(its.toArray.size:Int)).toNat=j:=by
   rw[seqIndex_neg (by omega) h3]at h1
   rw[List.size_toArray,<-hl]
   exact Option.some.inj h1
  exact W.ki_setBack ho (by omega) (by rw[List.size_toArray,<-hl];exact h3) (by omega) (by rw[hk];exact⟨_,I',q⟩)
noncomputable def a1M:V->Bool
 | .non=>true
 | .bl _=>true
 | .int _=>true
 | .str _=>true
 | _=>false
noncomputable def eqV:V->V->Bool
 | .non,.non=>true
 | .bl a,.bl b=>a==b
 | .bl a,.int b=>(if a then 1 else 0)==b
 | .int a,.bl b=>a==(if b then 1 else 0)
 | .int a,.int b=>a==b
 | .str a,.str b=>a==b
 | _,_=>false
theorem a9B{A:Around}{s:Shared}{y x:V}{u v:Value}(ry:U8 y u)(rx:U8 x v)(fy:a1M y=true)(fx:a1M x=true):SeqAt.EqAt A s u v (eqV y x):=by
 cases y with
 | non=>
  cases ry
  cases x with
  | non=>cases rx;exact SeqAt.EqAt.same _
  | bl b=>cases rx;exact SeqAt.EqAt.none_bool b
  | int b=>obtain⟨t,rfl⟩:=rx;exact SeqAt.EqAt.none_int b t
  | str b=>obtain⟨t,rfl⟩:=rx;exact SeqAt.EqAt.none_str b t
  | _=>exact absurd (show false=true from fx) AE
 | bl a=>
  cases ry
  cases x with
  | non=>cases rx;exact SeqAt.EqAt.bool_none a
  | bl b=>cases rx;exact SeqAt.EqAt.bool_bool a b
  | int b=>obtain⟨t,rfl⟩:=rx;exact SeqAt.EqAt.bool_int a b t
  | str b=>obtain⟨t,rfl⟩:=rx;exact SeqAt.EqAt.bool_str a b t
  | _=>exact absurd (show false=true from fx) AE
 | int a=>
  obtain⟨t',rfl⟩:=ry
  cases x with
  | non=>cases rx;exact SeqAt.EqAt.int_none a t'
  | bl b=>cases rx;exact SeqAt.EqAt.int_bool a t' b
  | int b=>obtain⟨t,rfl⟩:=rx;exact SeqAt.EqAt.int_int a t' b t
  | str b=>obtain⟨t,rfl⟩:=rx;exact SeqAt.EqAt.int_str a t' b t
  | _=>exact absurd (show false=true from fx) AE
 | str a=>
  obtain⟨t',rfl⟩:=ry
  cases x with
  | non=>cases rx;exact SeqAt.EqAt.str_none a t'
  | bl b=>cases rx;exact SeqAt.EqAt.str_bool a t' b
  | int b=>obtain⟨t,rfl⟩:=rx;exact SeqAt.EqAt.str_int a t' b t
  | str b=>obtain⟨t,rfl⟩:=rx;exact SeqAt.EqAt.str_str a t' b t
  | _=>exact absurd (show false=true from fx) AE
 | _=>exact absurd (show false=true from fy) AE
noncomputable def eqU (x:V) (u:Value):Bool:=match u with
 | .none=>eqV .non x
 | .bool b=>eqV (.bl b) x
 | .int i _=>eqV (.int i) x
 | .str z _=>eqV (.str z) x
 | _=>false
theorem b2d{x y:V}{u:Value}(r:U8 y u)(f:a1M y=true):eqU x u=eqV y x:=by
 cases y with
 | non=>cases r;rfl
 | bl b=>cases r;rfl
 | int i=>obtain⟨t,rfl⟩:=r;rfl
 | str z=>obtain⟨t,rfl⟩:=r;rfl
 | _=>exact absurd (show false=true from f) AE
theorem a3y{x:V}:∀{xs:List V}{us:List Value},W0 xs us->xs.all a1M=true->us.any (eqU x)=xs.any fun y=>eqV y x
 | _,_,.nil,_=>rfl
 | y::xs,u::us,.cons r t,f=>by
  rw[List.all_cons,Bool.and_eq_true]at f
  rw[List.any_cons,List.any_cons,b2d r f.1,a3y t f.2]
theorem a2m{A:Around}{s:Shared}{x:V}{v:Value}(rx:U8 x v)(fx:a1M x=true):∀{xs:List V}{us:List Value},W0 xs us->xs.all a1M=true->∀u∈us,SeqAt.EqAt A s u v (eqU x u)
 | _,_,.nil,_=>fun u hu=>by cases hu
 | y::xs,u::us,.cons r t,f=>fun u' hu=>by
  rw[List.all_cons,Bool.and_eq_true]at f
  rcases List.mem_cons.mp hu with rfl | hu
  ·rw[b2d r f.1];exact a9B r rx f.1 fx
  ·exact a2m rx fx t f.2 u' hu
noncomputable def inV (x:V) (xs:List V):Bool:=xs.any fun y=>eqV y x
noncomputable def rIn (K:W.Frag) (neg:Bool):R2:=fun x y H Q=>∃p xs,y= .ref p/\(SqL K H p xs\/SqT K H p xs)/\a1M x=true/\xs.all a1M=true/\Q (.bl (if neg then !inV x xs else inV x xs)) H
theorem a6F:OpR X (compareOp .In) (rIn X.K false):=by
 intro pins s σ H x y v u Q I rx ry h
 obtain⟨p,xs,rfl,hq,fx,fs,q⟩:=h
 cases ry
 rcases hq with hq | hq
 ·obtain⟨its,r,pl,hz⟩:=I.list hq
  refine SeqAt.in_listAt (eqU x) pl.isList (fun w hw=>a2m rx fx r fs w (by simpa using hw)) ⟨.bl _,H,I,rfl,?_⟩
  rw[show its.toArray.any (eqU x)=its.any (eqU x)by simp,a3y r fs]
  exact q
 ·obtain⟨its,r,pl,hz⟩:=I.tuple hq
  refine SeqAt.in_tupleAt (eqU x) pl (fun w hw=>a2m rx fx r fs w (by simpa using hw)) ⟨.bl _,H,I,rfl,?_⟩
  rw[show its.toArray.any (eqU x)=its.any (eqU x)by simp,a3y r fs]
  exact q
theorem a6K:OpR X (compareOp .NotIn) (rIn X.K true):=by
 intro pins s σ H x y v u Q I rx ry h
 obtain⟨p,xs,rfl,hq,fx,fs,q⟩:=h
 cases ry
 rcases hq with hq | hq
 ·obtain⟨its,r,pl,hz⟩:=I.list hq
  refine SeqAt.notIn_listAt (eqU x) pl.isList (fun w hw=>a2m rx fx r fs w (by simpa using hw)) ⟨.bl _,H,I,rfl,?_⟩
  rw[show its.toArray.any (eqU x)=its.any (eqU x)by simp,a3y r fs]
  exact q
 ·obtain⟨its,r,pl,hz⟩:=I.tuple hq
  refine SeqAt.notIn_tupleAt (eqU x) pl (fun w hw=>a2m rx fx r fs w (by simpa using hw)) ⟨.bl _,H,I,rfl,?_⟩
  rw[show its.toArray.any (eqU x)=its.any (eqU x)by simp,a3y r fs]
  exact q
theorem J9:a0R X (.builtin "len") (fun xs H Q=>∃p ys,xs=[.ref p]/\(SqL X.K H p ys\/SqT X.K H p ys)/\Q (.int ys.length) H):=by
 intro pins s σ H xs us Q I r h
 obtain⟨p,ys,rfl,hq,q⟩:=h
 obtain⟨u,rfl,rx⟩:=a5k r
 cases rx
 have hn:=a4d
 rcases hq with hq | hq
 ·obtain⟨its,r',pl,hz⟩:=I.list hq
  have hlen:=r'.length
  exact Calls.call_len_list pl.isList (by simp only[List.size_toArray]<;>omega) ⟨.int ys.length,H,I.tok _,⟨s.toks+1,by rw[List.size_toArray,hlen]⟩,q⟩
 ·obtain⟨its,r',pl,hz⟩:=I.tuple hq
  have hlen:=r'.length
  exact len_tuple pl (by simp only[List.size_toArray]<;>omega) ⟨.int ys.length,H,I.tok _,⟨s.toks+1,by rw[List.size_toArray,hlen]⟩,q⟩
theorem Z3:a0R X (.type "tuple") (fun xs H Q=>∃p ys,xs=[.ref p]/\((SqL X.K H p ys/\∀l,H l=none->Q (.ref l) (upd H l (.tup ys)))\/(SqT X.K H p ys/\Q (.ref p) H))):=by
 intro pins s σ H xs us Q I r h
 obtain⟨p,ys,rfl,h⟩:=h
 obtain⟨u,rfl,rx⟩:=a5k r
 cases rx
 rcases h with⟨hq,q⟩ | ⟨hq,q⟩
 ·obtain⟨its,r',pl,hz⟩:=I.list hq
  have hlen:=r'.length
  refine call_tuple_list pl.isList (fun h' kp=>?_) (by simp only[List.size_toArray]<;>omega)
  have I1:Inv X pins σ H {s with heap:=h'}:=I.kept (t':=s.toks) kp
  have I2:Inv X pins σ (upd H h'.objs.size (.tup ys)) {s with heap:=h'.push {cls:= .type "tuple",data:= .seq its.toArray}}:=
   I1.laid (t':=s.toks) (fun b o e=>AC _ e) (AH _) (show Y3 X.prog X.w _ _ _ (.tup ys)from⟨hz,its,r',IsTup.new _ _⟩)
  exact⟨.ref h'.objs.size,_,I2,rfl,q _ (I1.hok.fresh (AH _))⟩
 ·obtain⟨its,r',pl,hz⟩:=I.tuple hq
  exact call_tuple_same pl ⟨.ref p,H,I,rfl,q⟩
noncomputable def tyV (K:W.Frag) (T:String) (x:V) (H:Hp):Prop:=match x with
 | .str _=>T="str"
 | .int _=>T="int"
 | .ref p=>(T="list"/\∃xs,SqL K H p xs)\/(T="tuple"/\∃o,K.lookup p=some o/\o.cls= .type "tuple"/\o.dict=none)\/
   (T="dict"/\((∃kvs,H p=some (.dK kvs))\/∃kvs,H p=some (.dT kvs)))\/(T="set"/\∃S n,H p=some (.set S n))
 | _=>False
theorem b3y{pins:List (Addr×Obj)}{σ:St}{H:Hp}{s:Shared}{T:String}{x:V}{v:Value}(I:Inv X pins σ H s)(r:U8 x v)(ty:tyV X.K T x H):
  s.TypeIs v T/\∀a,v= .ref a->∃ob,s.heap.get? a=some ob/\ob.dict=none:=by
 cases x with
 | str z=>
  obtain⟨t,rfl⟩:=r
  cases(show T="str" from ty)
  exact⟨typeIs_str s z t,fun _ e=>nomatch e⟩
 | int i=>
  obtain⟨t,rfl⟩:=r
  cases(show T="int" from ty)
  exact⟨typeIs_int s i t,fun _ e=>nomatch e⟩
 | ref p=>
  cases r
  rcases ty with⟨rfl,xs,hq⟩ | ⟨rfl,o,hk,hc,hd⟩ | ⟨rfl,hk⟩ | ⟨rfl,S,n,hk⟩
  ·obtain⟨its,_,pl,_⟩:=I.list hq
   refine⟨pl.isList.typeIs,fun a e=>?_⟩
   cases e
   obtain⟨o,n,e,c,hd,_⟩:=pl
   exact⟨o,e,hd⟩
  ·refine⟨⟨o,I.kIn p o hk,hc⟩,fun a e=>?_⟩
   cases e
   exact⟨o,I.kIn _ o hk,hd⟩
  ·have z:∃o,s.heap.get? p=some o/\o.ExactDict:=by
    rcases hk with⟨kvs,hk⟩ | ⟨kvs,hk⟩
    ·obtain⟨_,_,_,_,o,_,_,e,ex,_⟩:=I.hok p _ hk
     exact⟨o,e,ex⟩
    ·obtain⟨_,_,_,_,o,_,_,e,ex,_⟩:=I.hok p _ hk
     exact⟨o,e,ex⟩
   obtain⟨o,e,ex⟩:=z
   refine⟨⟨o,e,ex.1⟩,fun a e2=>?_⟩
   cases e2
   exact⟨o,e,ex.2.1⟩
  ·obtain⟨o,_,_,_,e,ex,_⟩:=I.hok p _ hk
   refine⟨⟨o,e,ex.1⟩,fun a e2=>?_⟩
   cases e2
   exact⟨o,e,ex.2.1⟩
 | _=>exact False.elim ty
noncomputable def b7L (K:W.Frag) (T:String) (r:V->List V->Hp->VK->Prop) (to:TE):TE:=fun σ H Q=>to σ H fun x H1=>tyV K T x H1/\r x [] H1 Q
noncomputable def tBM (K:W.Frag) (T:String) (r:V->List V->Hp->VK->Prop) (to:TE) (t:TA):TE:=fun σ H Q=>to σ H fun x H1=>tyV K T x H1/\t σ H1 fun xs H2=>r x xs H2 Q
variable{o e:Expr}{es:List Expr}{to:TE}{t:TA}{name:Str}{apos cpos:Pos}{T id:String}{r:V->List V->Hp->VK->Prop}
theorem a9o(pa:PlainAttrs T)(slot:Slot T name id)(hty:typeOf (.builtin id)=pure (.type "method_descriptor"))(hm:MtR X id r)(ho:PE X o to)
  (hbase:attributeBase o name X.env (eval o X.env)=eval o X.env:=by rfl)(hline:(apos.endLine==cpos.line)=true:=by rfl):PE X (.Call (.Attribute o name apos) [] [] cpos) (b7L X.K T r to):=by
 intro pins s σ H Q I h
 refine wpAny_Call_method0_late hbase hline (thn (ho pins s σ H _ I h) fun v s1⟨x,H1,I1,r1,ty,q1⟩=>?_)
 obtain⟨h1,h2⟩:=b3y I1 r1 ty
 exact⟨T,id,pa,slot,hty,h1,h2,Calls.callWith_builtin rfl (PySem.evalArgs_none (hm pins s1 σ H1 x [] v [] Q I1 r1 .nil q1))⟩
theorem B4(pa:PlainAttrs T)(slot:Slot T name id)(hty:typeOf (.builtin id)=pure (.type "method_descriptor"))(hm:MtR X id r)(ho:PE X o to)(ha:PA X (e::es) t)
  (hbase:attributeBase o name X.env (eval o X.env)=eval o X.env:=by rfl)
  (hfew:((backTo cpos (starEach (e::es) X.env)).all (fun x=>!x.1) && (backToKw cpos (keywordEach [] X.env)).all (fun x=>x.1.isSome)
   && decide ((e::es).length+([]:List Keyword).length+(if([]:List Keyword).isEmpty then 0 else 1) < 30))=true:=by rfl)
  (hline:(apos.endLine==cpos.line)=true:=by rfl)(hs:starEach (e::es) X.env=(false,eval e X.env)::starEach es X.env:=by rfl)(hplain:(backTo cpos (starEach es X.env)).any (·.1)=false:=by rfl):
  PE X (.Call (.Attribute o name apos) (e::es) [] cpos) (tBM X.K T r to t):=by
 intro pins s σ H Q I h
 refine wpAny_Call_method_late hbase hfew hline rfl (thn (ho pins s σ H _ I h) fun v s1⟨x,H1,I1,r1,ty,q1⟩=>?_)
 obtain⟨h1,h2⟩:=b3y I1 r1 ty
 refine⟨T,id,pa,slot,hty,h1,h2,?_⟩
 have hA:=ha cpos pins s1 σ H1 _ I1 q1
 rw[hs]at hA⊢
 refine Calls.callWith_builtin (by show(false || (backTo cpos (starEach es X.env)).any (·.1))=false;rw[hplain]<;>rfl) (Calls.evalArgs_plain ?_)
 exact thn hA fun us s2⟨vs,H2,I2,r2,q2⟩=>hm pins s2 σ H2 x vs v us Q I2 r1 r2 q2
end
end L2
namespace L2
open PySem PySem.Spec PyProof.Rows
noncomputable def MtM (X:Cx) (id:String) (r:V->List V->Hp->VK->Prop):Prop:=
 ∀(pins:List (Addr×Obj))(s:Shared)(σ:St)(H:Hp)(x:V)(xs:List V)(v:Value)(us:List Value)(Q:VK),Inv X pins σ H s->U8 x v->W0 xs us->r x xs H Q->
  wpAny (model X.prog X.w) X.A (call (.builtin id) (v::us)) (EP X pins σ Q) X.xe s
theorem W0.one:∀{x:V}{us:List Value},W0 [x] us->∃u,us=[u]/\U8 x u
 | _,_,.cons r .nil=>⟨_,rfl,r⟩
theorem W0.zero:∀{us:List Value},W0 [] us->us=[]
 | _,.nil=>rfl
theorem W0.dropLast{xs:List V}{us:List Value}(h:W0 xs us):W0 xs.dropLast us.dropLast:=by
 induction h with
 | nil=>exact .nil
 | cons r t ih=>
  cases t with
  | nil=>exact .nil
  | cons q t'=>exact .cons r ih
theorem a9y{α:Type}(l:List α):l.eraseIdx (l.length - 1)=l.dropLast:=by
 induction l with
 | nil=>rfl
 | cons a r ih=>
  cases r with
  | nil=>rfl
  | cons b r=>
   have e:(a::b::r).length - 1=((b::r).length - 1)+1:=by
    have h1:(a::b::r).length=r.length+2:=rfl
    have h2:(b::r).length=r.length+1:=rfl
    omega
   rw[e,List.eraseIdx_cons_succ,ih]
   all_goals rfl
section
variable{X:Cx}{pins:List (Addr×Obj)}{σ:St}{H:Hp}{s:Shared}{l b:Addr}{xs ys zs:List V}
theorem Inv.lset{its its':List Value}{n:Nat}{f:Array Value->Array Value}{t':Nat}(I:Inv X pins σ H s)(hH:H l=some (.lst xs))
  (e:s.heap.get? l=some {cls:= .type "list",data:= .seq its.toArray n})(hf:f its.toArray=its'.toArray)(hv:W0 ys its')(hz:ys.length<=sizeLine):
  Inv X pins σ (upd H l (.lst ys)) {s with heap:=s.heap.update l (Obj.mapSeq f),toks:=t'}:=by
 have q:=PySem.IsL.update e f
 rw[hf]at q
 refine I.write (x:=l) (e:=l) (by rw[hH];exact trivial) (.inl rfl) (fun b' u hb hu=>(BA s.heap (Obj.mapSeq f) (Ne.symm hb)).trans hu) ⟨_,q⟩ ?_
 exact⟨hz,its',_,hv,q⟩
theorem Inv.lstM(I:Inv X pins σ H s)(hH:H l=some (.lst xs)):xs.length<=sizeLine/\∃(its:List Value)(n:Nat),W0 xs its/\xs.length=its.length/\s.heap.get? l=some {cls:= .type "list",data:= .seq its.toArray n}:=by
 obtain⟨z,its,n,r,e⟩:=I.hok l _ hH
 exact⟨z,its,n,r,r.length,e⟩
theorem b3q{n:Nat}(h:n<=sizeLine):Builtin.List.listTooLong n=false:=by
 unfold Builtin.List.listTooLong
 exact AW (by omega)
end
section
variable{X:Cx}
noncomputable def b4c:V->List V->Hp->VK->Prop:=fun x vs H Q=>∃l xs y,x= .ref l/\vs=[y]/\H l=some (.lst xs)/\xs.length < sizeLine/\Q .non (upd H l (.lst (xs++[y])))
theorem Z8:MtM X "list.append" b4c:=by
 intro pins s σ H x vs v us Q I rx rv h
 obtain⟨l,xs,y,rfl,rfl,hH,hz,q⟩:=h
 cases rx
 obtain⟨u,rfl,ru⟩:=rv.one
 obtain⟨z,its,n,r,hl,e⟩:=I.lstM hH
 refine call_meets F.slot_list_append ⟨_,e,rfl⟩ F.entry_list_append (F.args_list_append_2 _ _) (PySem.list_append l its.toArray n u (by rw[List.size_toArray];omega)) ⟨e,?_⟩
 refine⟨.non,_,I.lset (its':=its++[u]) hH e (by simp) (r.append (.cons ru .nil)) ?_,rfl,q⟩
 rw[List.length_append,List.length_singleton]
 omega
noncomputable def b4i:V->List V->Hp->VK->Prop:=fun x vs H Q=>∃l b xs zs,x= .ref l/\vs=[.ref b]/\H l=some (.lst xs)/\H b=some (.lst zs)/\xs.length+zs.length<=sizeLine/\Q .non (upd H l (.lst (xs++zs)))
theorem a6g:MtM X "list.extend" b4i:=by
 intro pins s σ H x vs v us Q I rx rv h
 obtain⟨l,b,xs,zs,rfl,rfl,hH,hB,hz,q⟩:=h
 cases rx
 obtain⟨u,rfl,ru⟩:=rv.one
 cases ru
 obtain⟨z,its,n,r,hl,e⟩:=I.lstM hH
 obtain⟨z2,its2,n2,r2,hl2,e2⟩:=I.lstM hB
 have hsz:its.toArray.size+its2.toArray.size<=sizeLine:=by rw[List.size_toArray,List.size_toArray];omega
 have hlong:¬(!its.toArray.isEmpty && Builtin.List.listTooLong (its.toArray.size+its2.toArray.size))=true:=by
  rw[b3q hsz,Bool.and_false]
  exact AE
 refine call_meets F.slot_list_extend ⟨_,e,rfl⟩ F.entry_list_extend (F.args_list_extend_2 _ _)
  (AutoSeq1.list_extend_list_list_0 l its.toArray n b its2.toArray n2 hlong (by rw[List.size_toArray];omega) (by omega)) ⟨e,e2,?_⟩
 refine⟨.non,_,I.lset (its':=its++its2) hH e (by simp) (r.append r2) ?_,rfl,q⟩
 rw[List.length_append]
 omega
noncomputable def b7u:V->List V->Hp->VK->Prop:=fun x vs H Q=>∃l xs y,x= .ref l/\vs=[]/\H l=some (.lst xs)/\xs[xs.length - 1]?=some y/\Q y (upd H l (.lst xs.dropLast))
theorem a9n:MtM X "list.pop" b7u:=by
 intro pins s σ H x vs v us Q I rx rv h
 obtain⟨l,xs,y,rfl,rfl,hH,hy,q⟩:=h
 cases rx
 have hus:=rv.zero
 subst hus
 obtain⟨z,its,n,r,hl,e⟩:=I.lstM hH
 obtain⟨u,hu,ru⟩:=r.get hy
 have hy':its.toArray[its.toArray.size - 1]?=some u:=by
  show its.toArray[its.length - 1]?=some u
  rw[<-BR,<-hl]
  exact hu
 refine call_meets F.slot_list_pop ⟨_,e,rfl⟩ F.entry_list_pop (F.args_list_pop_1 _) (MeetsSeq.list_pop_last l its.toArray n u hy' (by rw[List.size_toArray];omega)) ⟨e,?_⟩
 refine⟨y,_,I.lset (its':=its.dropLast) hH e ?_ r.dropLast ?_,ru,q⟩
 ·show its.toArray.eraseIdxIfInBounds (its.toArray.size - 1)=its.dropLast.toArray
  rw[List.size_toArray,List.eraseIdxIfInBounds_toArray,a9y]
 ·rw[List.length_dropLast]
  omega
end
section
variable{prog:Program}{w:World}{A:Around}{E:Value->Shared->Prop}{s:Shared}
set_option maxRecDepth 100000 in
end
section
variable{X:Cx}
end
end L2
namespace Att
open PySem PySem.W PySem.Calls PyProof.Rows
theorem a4y{P:Params}{h:Heap}:∀(ns:List Int)(vs:List Value),WellAll P h vs (ns.map WData.int)->IntsAre vs ns:=by
 intro ns
 induction ns with
 | nil=>
  intro vs w
  rw[List.map_nil]at w
  cases w
  exact .nil
 | cons n ns ih=>
  intro vs w
  rw[List.map_cons]at w
  cases w with
  | cons a b=>
   cases a
   exact .cons _ _ (ih _ b)
theorem b1H{l:OpenLaw}{n:Nat}(hn:l.most=some n){P:Params}{h:Heap}{args:List WData}{vals:List Value}
  (hpre:l.row.toRowW.claim.pre args=true)(hwl:WellAll P h vals args):
  ∃a vs ns,vals=[Value.ref a]/\args=[WData.list (ns.map WData.int)]/\h.get? a=some {cls:= .type "list",data:= .seq vs.toArray}/\IntsAre vs ns/\ns.length<=n:=by
 have hsh:WShape.hasAll [] args [.list .int]=true:=(pre_splitW hpre).1
 have hc:l.pre.holds [] {args:=args}=true:=(pre_splitW hpre).2
 obtain⟨d,r,rfl,h1,h2⟩:=hasAllW_cons hsh
 obtain rfl:=hasAllW_nil h2
 obtain⟨xs,rfl,h3⟩:=hasW_list h1
 obtain⟨ns,rfl⟩:=items_int h3
 have hlen:ns.length<=n:=by
  unfold OpenLaw.pre at hc
  have h4:(WTm.not (.lt (.lit (.int (n:Int))) (.len (.arg 0)))).holds [] {args:=[.list (ns.map .int)]}=true:=by
   have h4:=(holds_andW hc).1
   rw[hn]at h4
   exact h4
  have h5:=condW_of h4 (w_not (w_lt w_lit (w_len_list (w_arg rfl))))
  rw[List.length_map]at h5
  refine Nat.le_of_not_lt fun q=>?_
  have q':(n:Int) < ((ns.length:Nat):Int):=by omega
  first
   | (rw[decide_eq_true q']at h5;exact absurd h5 (by decide))
   | (simp at h5;omega)
 cases hwl with
 | cons w1 w2=>
  cases w2
  cases w1 with
  | list ho hall=>exact⟨_,_,ns,rfl,rfl,ho,a4y ns _ hall,hlen⟩
theorem b1T(l:OpenLaw)(args:List WData):l.row.toRowW.claim.post args (.bool true) args=true:=
 postW_of (r:=l.row.toRowW) (X:=(true==true))
  (show WShape.has [] (.bool true) .bool=true by first | rfl | decide | simp[WShape.has,WShape.arms,WShape.armsAll])
  (show(WTm.eq .res (.lit (.bool true))).value [] {args:=args,res:=some (.bool true),after:=args}=some (.bool (true==true))from w_eq_bool (w_res rfl) w_lit) rfl
theorem a8j{l:OpenLaw}{n:Nat}{q:Program}{loose:List Str}{XP:(Str->Option Value)->Heap->Prop}{YP:World->Heap->Prop}{d:DefRec}
  (hn:l.most=some n)(hdf:d.params.defaults=[])
  (call:∀(w:World)(s₀ s₁:Shared)(mg mb:Str->Option Value)(fa:Addr)(o:Obj)(pm cd doc:Value)(a:Addr)(vs:List Value)(ns:List Int),
   Ground q loose [] XP w s₀ mg mb s₁.heap->YP w s₁.heap->
   s₁.heap.get? fa=some o->o.data= .func (docDef d.name d.params d.body d.scope pm cd doc)->s₁.heap.CodeRec cd d.name->mg d.name=some (.ref fa)->
   s₁.heap.get? a=some {cls:= .type "list",data:= .seq vs.toArray}->IntsAre vs ns->ns.length<=n->s₁.gens= #[]->
   codeAny (model l.prog w) callerA (.call (.ref fa) ⟨[.ref a],[]⟩) (fun r s'=>r= .ok (.ret (.bool true))/\OldK s₁.heap s'.heap/\s'.os=s₁.os/\AllBare s'.gens) s₁):
  WalkO q loose XP YP l.row.toRowW d [] (fun f vs=>PySem.call f vs):=by
 intro w s₀ s₁ mg mb G Y fa o pm cd doc dV kV ho hd hcd hD hmg hg args vals as hpre hlay hrd hwl hlo
 obtain rfl:dV= .none:=Dflts.none hD hdf
 obtain rfl:kV= .none:=Dflts.noKw hD
 obtain⟨a,vs,ns,rfl,rfl,hobj,hints,hlen⟩:=b1H hn hpre hwl
 refine enter_call (codeAny_mono (call w s₀ s₁ mg mb fa o pm cd doc a vs ns G Y ho (fd_plain hd) hcd hmg hobj hints hlen hg) fun r s' hq=>?_)
 obtain⟨rfl,h2,h3,h4⟩:=hq
 exact⟨.inl ⟨.bool true,.bool true,[],rfl,fun _=>rfl,.bool true,b1T l _,fun _=>⟨List.Pairwise.nil,fun _ hm=>(nomatch hm)⟩⟩,h2,h3,h4⟩
section
variable{prog:Program}{w:World}{A:Around}{E:Value->Shared->Prop}{s:Shared}{K:Frag}
end
end Att
namespace L2
open PySem PySem.Spec PyProof.Rows
theorem a6s:∀{vs:List Value}{ns:List Int},IntsAre vs ns->W0 (ns.map V.int) vs
 | _,_,.nil=> .nil
 | _,_,.cons n t h=> .cons ⟨t,rfl⟩ (a6s h)
noncomputable def b5r (H:Hp):Prop:=∀b,H b=none\/∃o xs,H b=some (.frz o (.lst xs))
theorem b2A{P:Program}{w:World}{K:W.Frag}{mg mb:Str->Option Value}{CX:CXT}{k:Nat}{fa a:Addr}{fd:FuncData}{x:Str}{sp:Sp}{s₁:Shared}{vs:List Value}{ns:List Int}
  (KX:K.In s₁.heap)(hns:s₁.heap.Ns mainGlobals mg)(hb:s₁.heap.Ns builtinsNs mb)(hbb:∀x:Str,x≠ "__name__" ->mb x=bootBuiltins x)(hlim:s₁.heap.NoLimit)(hg:s₁.gens= #[])
  (ha:s₁.heap.get? a=some {cls:= .type "list",data:= .seq vs.toArray})(hi:IntsAre vs ns)(hl:ns.length<=sizeLine)(hr:a0c k callerA)
  (F:∀base:Heap,K.In base->base.Ns mainGlobals mg->a4C P w K mg base CX k fa fd [x] sp)(hbind:∀(s:Shared)(u:Value),BindsTo s fd ⟨[u],[]⟩ [(x,u)])
  (hsp:∀H:Hp,b5r H->SqL K H a (ns.map V.int)->sp [.ref a] H (fun v _=>v= .bl true) fun _ _ _=>False)
  (hCX:∀H e s',CX [] H s₁ (fun _ _ _=>False) e s'->False):
  codeAny (model P w) callerA (.call (.ref fa) ⟨[.ref a],[]⟩) (fun r s'=>r= .ok (.ret (.bool true))/\OldK s₁.heap s'.heap/\s'.os=s₁.os/\AllBare s'.gens) s₁:=by
 have rv:=a6s hi
 have lenV:=hi.length
 have core:∀H:Hp,b5r H->SqL K H a (ns.map V.int)->HOk P w H s₁.heap->(∀b,H b≠none->b=a)->(H a≠none->K.lookup a=none)->
   codeAny (model P w) callerA (.call (.ref fa) ⟨[.ref a],[]⟩) (fun r s'=>r= .ok (.ret (.bool true))/\OldK s₁.heap s'.heap/\s'.os=s₁.os/\AllBare s'.gens) s₁:=by
  intro H hO hS hok hA hK
  have base_of:∀{b:Addr}{o:Obj},s₁.heap.get? b=some o->H b=none->(a7o s₁.heap H).get? b=some o:=fun e n=>b2i e n
  have noA:∀{b:Addr}{o:Obj}{es:Array DictEntry}{ep:Nat},s₁.heap.get? b=some o->o.data= .dict es ep->H b=none:=fun{b o es ep}e d=>by
   cases q:H b with
   | none=>rfl
   | some u=>
    have e':b=a:=hA b (by rw[q];simp)
    subst e'
    rw[ha]at e;cases e
    have d':Data.seq vs.toArray _=Data.dict es ep:=d
    cases d'
  have nsK:∀{b:Addr}{m:Str->Option Value},s₁.heap.Ns b m->(a7o s₁.heap H).Ns b m:=fun{b m}⟨o,es,ep,e,d,r⟩=>⟨o,es,ep,base_of e (noA e d),d,r⟩
  have hKb:K.In (a7o s₁.heap H):=fun b o e=>base_of (KX b o e) (by
   cases q:H b with
   | none=>rfl
   | some u=>
    have e':b=a:=hA b (by rw[q];simp)
    subst e'
    rw[hK (by rw[q];simp)]at e;cases e)
  have hM:Mod K mg (a7o s₁.heap H):=⟨hKb,nsK hns,⟨mb,nsK hb,hbb⟩,let⟨mc,h1,h2⟩:=hlim;⟨mc,nsK h1,h2⟩⟩
  have e0:a8N P w K mg (a7o s₁.heap H) callerA [] s₁ H:=⟨rfl,hM,fun b o e=>b3U e,Nat.le_of_eq (b1J _ _),trivial,fun b hb=>absurd (show b∈([]:List Addr)from hb) (by simp),hok,.of_eq hg⟩
  refine codeAny_mono ((F _ hKb (nsK hns)).run callerA [] s₁ H ⟨[.ref a],[]⟩ [.ref a] [.ref a] _ _ hr e0 (hbind s₁ (.ref a)) (.cons rfl .nil) (hsp H hO hS)) fun r s' h=>?_
  cases r with
  | error e=>exact(hCX H e s' h).elim
  | ok fl=>
   cases fl with
   | next=>exact False.elim h
   | brk=>exact False.elim h
   | cont=>exact False.elim h
   | ret u=>
    obtain⟨v,H',os,bare,un,hok',r',q⟩:=h
    have q':v= .bl true:=q
    subst q'
    obtain rfl:u=Value.bool true:=r'
    refine⟨rfl,OldK.of_keep fun b o e=>?_,os,bare⟩
    cases q:H b with
    | none=>exact un.keep b o e q (by intro z;exact absurd (show b∈([]:List Addr)from z) (by simp)) (by simp)
    | some u=>
     rcases hO b with z | ⟨ob,xs,z⟩
     ·rw[q]at z;cases z
     ·have z2:=un.frzs b ob _ z
      obtain⟨e1,_⟩:=hok b _ z
      obtain⟨e2,_⟩:=hok' b _ z2
      rw[e]at e1;cases e1
      exact e2
 cases hk:K.lookup a with
 | some o=>
  have e:=KX a o hk
  rw[ha]at e
  cases e
  refine core (fun _=>none) (fun _=> .inl rfl) (.inr ⟨_,vs.toArray,_,hk,rfl,rfl,rfl,by rw[List.size_toArray,lenV];exact hl,by simpa using rv⟩) (fun b u z=>by have z':(none:Option HO)=some u:=z;cases z') (fun b z=>absurd rfl z) fun z=>absurd rfl z
 | none=>
  refine core (fun b=>if b=a then some (.frz {cls:= .type "list",data:= .seq vs.toArray} (.lst (ns.map V.int)))else none) (fun b=>?_) (.inl (.inr ⟨{cls:= .type "list",data:= .seq vs.toArray},if_pos rfl⟩)) (fun b u z=>?_) (fun b z=>?_) fun _=>hk
  ·by_cases hb:b=a
   ·exact .inr ⟨_,_,if_pos hb⟩
   ·exact .inl (if_neg hb)
  ·by_cases hb:b=a
   ·have z':=(if_pos hb).symm.trans z
    cases z'
    subst hb
    exact⟨ha,by rw[List.length_map];exact hl,vs,_,rv,ha⟩
   ·have z':=(if_neg hb).symm.trans z
    cases z'
  ·by_cases hb:b=a
   ·exact hb
   ·exact absurd (if_neg hb) z
end L2
namespace L2
open PySem PySem.Spec PyProof.Rows
noncomputable abbrev KOf {K:W.Frag} {h:Heap} (_:K.In h):W.Frag:=K
theorem b4n{l:W.OpenLaw}{n k:Nat}{q:Program}{loose:List Str}{XP:(Str->Option Value)->Heap->Prop}{YP:World->Heap->Prop}{d:DefRec}{K:Params->W.Frag}{CX:World->CXT}{sp:World->Sp}{x:Str}
  (hn:l.most=some n)(hn2:n<=sizeLine)(hdf:d.params.defaults=[])(hr:a0c k callerA)
  (hY:∀(w:World)(h:Heap),YP w h->(K w.params).In h)
  (F:∀(w:World)(mg:Str->Option Value)(fa:Addr)(h:Heap),(K w.params).In h->h.Ns mainGlobals mg->mg d.name=some (.ref fa)->
   ∃fd:FuncData,(∀(s:Shared)(u:Value),BindsTo s fd ⟨[u],[]⟩ [(x,u)])/\
    ∀base:Heap,(K w.params).In base->base.Ns mainGlobals mg->a4C l.prog w (K w.params) mg base (CX w) k fa fd [x] (sp w))
  (hsp:∀(w:World)(H:Hp)(a:Addr)(ns:List Int),ns.length<=n->b5r H->SqL (K w.params) H a (ns.map V.int)->sp w [.ref a] H (fun v _=>v= .bl true) fun _ _ _=>False)
  (hCX:∀(w:World)(H:Hp)(s:Shared)(e:Value)(s':Shared),CX w [] H s (fun _ _ _=>False) e s'->False):
  W.WalkO q loose XP YP l.row.toRowW d [] (fun f vs=>PySem.call f vs):=by
 refine Att.a8j hn hdf fun w s₀ s₁ mg mb fa o pm cd doc a vs ns G Y ho hd hcd hmg hobj hints hlen hg=>?_
 have KX:=hY w _ Y
 obtain⟨fd,hb,hF⟩:=F w mg fa _ KX G.T.g hmg
 exact b2A KX G.T.g G.T.b G.T.builtins G.T.nolimit hg hobj hints (Nat.le_trans hlen hn2) hr hF hb (fun H hO hS=>hsp w H a ns hlen hO hS) fun H e s'=>hCX w H s₁ e s'
end L2
namespace L2
open PySem PySem.Spec PyProof.Rows
noncomputable def b4G (s:Stmt) (j:Nat):Stmt:=match s with
 | .ClassDef _ _ _ body _ _ _ _ _ _ _=>body.getD j (.Pass ⟨0,0,0,0⟩)
 | _=> .Pass ⟨0,0,0,0⟩
noncomputable def a0f (s:Stmt):Arguments:=match s with
 | .FunctionDef _ a _ _ _ _ _ _ _ _=>a
 | _=>{posonlyargs:=[],args:=[],vararg:=none,kwonlyargs:=[],kw_defaults:=[],kwarg:=none,defaults:=[]}
noncomputable def F6 (s:Stmt):List Stmt:=match s with
 | .FunctionDef _ _ b _ _ _ _ _ _ _=>b
 | _=> []
noncomputable def J0 (s:Stmt):Scope:=match s with
 | .FunctionDef _ _ _ _ _ _ sc _ _ _=>sc
 | _=>{kind:= .function,names:=[],isGenerator:=false,isCoroutine:=false}
noncomputable abbrev CX0:CXT:=fun _ _ _ _ _ _=>False
noncomputable abbrev E0:XK:=fun _ _ _=>False
theorem b6Y{X:Cx}:a5K CX0 X E0:=fun _ _ _ _ _ _ _ h=>h.elim
structure Fun(K:W.Frag)(x qual:Str)(st:Stmt)(f:Addr)(fd:FuncData):Prop where
 ex:∃(oc:Value)(od:Option Addr)(kV doc pm:Value)(an:Option Addr)(cdv ct:Value)(osl:Array (Option Value)),
  fd=W.fnOf x qual (a0f st) (F6 st) (J0 st) .none kV doc pm an cdv ct/\K.lookup f=some ⟨oc,od,.func fd,osl⟩/\W.codeIn K cdv qual=true
 kp:W.keepIn K (.ref f)=true
section
variable{P:Program}{w:World}{K:W.Frag}{mg:Str->Option Value}{base:Heap}
theorem Fun.ok{x qual:Str}{st:Stmt}{f:Addr}{fd:FuncData}{N ps:List Str}{k:Nat}{sp:Sp}(F:Fun K x qual st f fd)(S:R3 N ps (J0 st))(len:∀vs H Q E,sp vs H Q E->vs.length=ps.length)
  (hbody:∀(cdv:Value)(A:Around)(outer:List Env)(s:Shared)(H:Hp)(vs:List V)(Q:VK)(E:XK),a0c k (A.deeper (envOfC qual (J0 st) s.heap.objs.size f cdv))->sp vs H Q E->
   ∃t,PSs (a0h CX0 P w K mg base N qual (J0 st) f cdv A outer s H E).nox (F6 st) t/\t {nx:=fun _ H'=>Q .non H',rt:=Q} (a2a N vs) H):a4C P w K mg base CX0 (k+1) f fd ps sp:=by
 obtain⟨oc,od,kV,doc,pm,an,cdv,ct,osl,rfl,lk,hcd⟩:=F.ex
 refine b5i lk hcd S len fun A outer s H vs Q E hr hsp=>?_
 obtain⟨t,h,q⟩:=hbody cdv A outer s H vs Q E hr hsp
 exact⟨t,h.nox,q⟩
theorem Fun.binds{x qual:Str}{st:Stmt}{f:Addr}{fd:FuncData}{ps:List Str}(F:Fun K x qual st f fd)
  (h:∀(kV doc pm:Value)(an:Option Addr)(cdv ct:Value)(us:List Value),us.length=ps.length->bindArgs (W.fnOf x qual (a0f st) (F6 st) (J0 st) .none kV doc pm an cdv ct) ⟨us,[]⟩=pure (ps.zip us)):a4t K fd ps []:=by
 obtain⟨oc,od,kV,doc,pm,an,cdv,ct,osl,rfl,lk,hcd⟩:=F.ex
 exact .all (h kV doc pm an cdv ct)
theorem a8Y{x qual:Str}{st:Stmt}{f:Addr}{oc:Value}{od an:Option Addr}{osl:Array (Option Value)}{kV doc pm cdv ct:Value}(l:K.lookup f=some ⟨oc,od,.func (W.fnOf x qual (a0f st) (F6 st) (J0 st) .none kV doc pm an cdv ct),osl⟩)
  (c:W.codeIn K cdv qual=true)(k:W.keepIn K (.ref f)=true):Fun K x qual st f (W.fnOf x qual (a0f st) (F6 st) (J0 st) .none kV doc pm an cdv ct):=⟨⟨oc,od,kV,doc,pm,an,cdv,ct,osl,rfl,l,c⟩,k⟩
end
theorem B5{A:Around}{k:Nat}(hr:a0c k A):A.units+1 < cLine:=Nat.lt_of_le_of_lt (Nat.add_le_add_left (by decide:1<=64) _) hr.units
theorem J6{n:Nat}(h:n<=1000):n < sizeLine:=Nat.lt_of_le_of_lt h (by decide)
section
variable{X:Cx}
theorem pv(i:Nat){x:Str}{pos:Pos}(hN:X.N[i]?=some x:=by rfl)(hv:Vis X.env.scope x:=by first | exact Or.inl rfl | exact Or.inr (Or.inl rfl) | exact Or.inr (Or.inr rfl))(hd:(x==("__debug__":Str))=false:=by decide)
  (hcd:(x==("__classdict__":Str))=false:=by decide):PE X (.Name x pos) (b6M i):=b5Z hN hv hd hcd
end
theorem B6{A B:Prop}(h:B):if false=true then A else B:=by
 rw[if_neg AE]
 exact h
theorem a0b{A B:Prop}(h:A):if true=true then A else B:=by
 rw[if_pos rfl]
 exact h
theorem a4X{c A B:Prop}[Decidable c](h1:c->A)(h2:¬c->B):if c then A else B:=by
 by_cases h:c
 ·rw[if_pos h]
  exact h1 h
 ·rw[if_neg h]
  exact h2 h
noncomputable def G8 (H H':Hp):Prop:=∀b o,H b=some o->H' b=some o
theorem G8.refl(H:Hp):G8 H H:=fun _ _ h=>h
theorem G8.trans{H H1 H2:Hp}(a:G8 H H1)(b:G8 H1 H2):G8 H H2:=fun c o h=>b c o (a c o h)
theorem G8.free{H H':Hp}(e:G8 H H'){l:Addr}(h:H' l=Option.none):H l=Option.none:=by
 cases q:H l with
 | none=>rfl
 | some o=>
  rw[e l o q]at h
  cases h
theorem G8.seq{K:W.Frag}{H H':Hp}{a:Addr}{xs:List V}(e:G8 H H')(h:SqL K H a xs):SqL K H' a xs:=by
 rcases h with(h | ⟨o,h⟩) | h
 ·exact .inl (.inl (e _ _ h))
 ·exact .inl (.inr ⟨o,e _ _ h⟩)
 ·exact .inr h
end L2
set_option maxHeartbeats 16000000
namespace L2
open PySem PySem.Spec PyProof.Rows
section
variable{X:Cx}{pins:List (Addr×Obj)}{σ:List (Option V)}{H:Hp}{s:Shared}{h':Heap}
theorem Inv.turnedL{t':Nat}{ch:List Addr}(I:Inv X pins σ H s)(k:∀b o,b∉ch->s.heap.get? b=some o->h'.get? b=some o)(hf:∀b∈ch,a2P X pins H b):
  Inv X pins σ H {s with heap:=h',toks:=t'}:=by
 have nit:∀b u,H b=some u->b∉ch:=fun b u e z=>by rw[(hf b z).1]at e;cases e
 refine I.step (g':=s.gens) (d':=s.drawn) (ch:=ch) (fun b hb=>?_) (fun b o _ _ hc e _=>k b o hc e) (fun b o _ _ hc e _=>⟨o.slots,k b o hc e⟩) (fun _ _ _ _ n=>n)
  (fun b o hc e=>⟨o,k b o hc e⟩) (fun _ _ e=>e) (fun _ _ _ e=>e) (fun b ps e=>⟨#[],by rw[e];simp⟩) (fun m hm=>?_) (fun b u e=>?_) I.bare
 ·obtain⟨_,h1,_,h2,h3,h4⟩:=hf b hb
  exact⟨h2,h1,h3,h4⟩
 ·obtain⟨o,es,ep,ho,r⟩:=hm
  exact⟨o,es,ep,k _ o (fun z=>(hf _ z).2.1 rfl) ho,r⟩
 ·refine(I.hok b u e).stay (fun c v hc q=>k c v ?_ q) (fun _ q=>q) fun _ _ q=>q
  rcases hc with z | z
  ·rw[z];exact nit b u e
  ·exact nit c _ z
theorem Inv.track{T:Addr}{o:HO}(I:Inv X pins σ H s)(hf:a2P X pins H T)(new:Y3 X.prog X.w (upd H T o) s.heap T o):Inv X pins σ (upd H T o) s:=by
 obtain⟨h0,h1,h5,h2,h3,h4⟩:=hf
 have nT:∀b u,H b=some u->b≠T:=fun b u e z=>by rw[z,h0]at e;cases e
 refine I.step (h':=s.heap) (g':=s.gens) (d':=s.drawn) (t':=s.toks) (ch:=[T]) (fun b hb=>?_) (fun b o _ _ hc e _=>e) (fun b o _ _ hc e _=>⟨o.slots,e⟩)
  (fun b o hc _ n=>by rw[I0 (fun z=>hc (by simp[z]))];exact n)
  (fun b o hc e=>⟨o,e⟩) (fun b xs e=>by rw[I0 (nT _ _ e)];exact e) (fun b ob u e=>by rw[I0 (nT _ _ e)];exact e) (fun b ps e=>⟨#[],by rw[I0 (nT _ _ e),e];simp⟩) (fun m hm=>hm) (fun b u e=>?_) I.bare
 ·have e:b=T:=by simpa using hb
  subst e
  exact⟨h2,h1,h3,h4⟩
 ·by_cases hb:b=T
  ·subst hb;rw[G1]at e;cases e;exact new
  ·rw[I0 hb]at e
   exact(I.hok b u e).stay (fun c v _ q=>q) (fun c q=>by rw[I0 (nT _ _ q)];exact q) fun c xs q=>by rw[I0 (nT _ _ q)];exact q
end
section
variable{X:Cx}
theorem a1b:a0R X (.builtin "isinstance") (fun xs H Q=>∃x t T b,xs=[x,.ty T]/\a4i X.K H x t/\W.kitOne X.K t (.type T)=some b/\Q (.bl b) H):=by
 intro pins s σ H xs us Q I r h
 obtain⟨x,t,T,b,rfl,ty,e,q⟩:=h
 obtain⟨u,w',rfl,rx,ry⟩:=a7T r
 cases(show w'=Value.type T from ry)
 exact b1n I rx ty e fun tk=>⟨.bl b,H,I.tok _,rfl,q⟩
theorem a8B:∀{x:V},a1M x=true->eqV x x=true
 | .non,_=>by rfl
 | .bl b,_=>by simp[eqV]
 | .int i,_=>by simp[eqV]
 | .str z,_=>by simp[eqV]
 | .byt _,h=>by first | exact absurd (show false=true from h) AE | simp[eqV]
 | .flt _,h=>by first | exact absurd (show false=true from h) AE | simp[eqV]
 | .ref _,h=>by first | exact absurd (show false=true from h) AE | simp[eqV]
 | .ty _,h=>by first | exact absurd (show false=true from h) AE | simp[eqV]
end
end L2
namespace ET
open PySem PySem.Spec
open PySem.AutoSeq1 (wpAny_loadPart')
section
variable{prog:Program}{w:World}{A:Around}{E:Value->Shared->Prop}{s:Shared}
theorem a3d{it l:Addr}{i:Nat}{items:Array Value}{x:Value}{Q:Value->Shared->Prop}(hit:s.heap.IsTupleIter it l i)
  (hl:s.heap.IsTuple l items)(hx:items[i]?=some x)
  (hQ:∀h',h'.IsTupleIter it l (i+1)->Heap.SameBut it s.heap h'->Q x {s with heap:=h'}):
  wpAny (model prog w) A (Builtin.SmallTypes.nextOf (.ref it)) Q E s:=by
 obtain⟨o,ho,hc,hd⟩:=id hit
 obtain⟨ol,hol,_,nl,hdl⟩:=hl
 unfold Builtin.SmallTypes.nextOf
 refine AA (wpAny_callSpecial?_slot (name:=Str.ofString "__next__") hit.typeIs F.slot_tuple_iterator_next
  (wpAny_call_entry F.slot_tuple_iterator_next hit.typeIs F.entry_tuple_iterator_next ?_ (F.args_tuple_iterator_next_1 _)))
 show wpAny _ _ (field (.ref it) 0 >>= _) _ _ s
 refine AA (wpAny_field ho hd (x:= .ref l) rfl ?_)
 show wpAny _ _ (if(Value.ref l==Value.none)=true then _ else _) _ _ s
 rw[if_neg (show¬((Value.ref l==Value.none)=true)from AE)]
 show wpAny _ _ (field (.ref it) 1 >>= _) _ _ s
 refine AA (wpAny_field ho hd (x:= .int i 0) rfl ?_)
 show wpAny _ _ (seqItems? (.ref l) >>= _) _ _ s
 refine AA (wpAny_seqItems hol hdl ?_)
 simp only[Int.toNat_natCast,hx]
 refine AA (wpAny_setField ho hd (by simp) (AB ⟨x,rfl,AB (hQ _ ?_ (Heap.SameBut.update ..))⟩))
 exact⟨_,BE _ ho (Obj.isFreed_of_fields (Obj.data_mapFields hd _)),(Obj.cls_mapFields ..).trans hc,by
  rw[Obj.data_mapFields hd];simp[rawInt]⟩
theorem a3X{it l:Addr}{i:Nat}{items:Array Value}{Q:Value->Shared->Prop}(hh:A.handled=none)
  (hit:s.heap.IsTupleIter it l i)(hl:s.heap.IsTuple l items)(hx:items[i]?=none)
  (hE:∀h' e,Heap.ExtBut it s.heap h'->(∃o,h'.get? e=some o/\o.cls= .type "StopIteration")->E (.ref e) {s with heap:=h'}):
  wpAny (model prog w) A (Builtin.SmallTypes.nextOf (.ref it)) Q E s:=by
 obtain⟨o,ho,hc,hd⟩:=id hit
 obtain⟨ol,hol,_,nl,hdl⟩:=hl
 unfold Builtin.SmallTypes.nextOf
 refine AA (wpAny_callSpecial?_slot (name:=Str.ofString "__next__") hit.typeIs F.slot_tuple_iterator_next
  (wpAny_call_entry F.slot_tuple_iterator_next hit.typeIs F.entry_tuple_iterator_next ?_ (F.args_tuple_iterator_next_1 _)))
 show wpAny _ _ (field (.ref it) 0 >>= _) _ _ s
 refine AA (wpAny_field ho hd (x:= .ref l) rfl ?_)
 show wpAny _ _ (if(Value.ref l==Value.none)=true then _ else _) _ _ s
 rw[if_neg (show¬((Value.ref l==Value.none)=true)from AE)]
 show wpAny _ _ (field (.ref it) 1 >>= _) _ _ s
 refine AA (wpAny_field ho hd (x:= .int i 0) rfl ?_)
 show wpAny _ _ (seqItems? (.ref l) >>= _) _ _ s
 refine AA (wpAny_seqItems hol hdl ?_)
 simp only[Int.toNat_natCast,hx]
 refine AA (wpAny_rule (AA (wpAny_setField ho hd (by simp) ?_)))
 show wpAny _ _ (newExc (.type "StopIteration") [] >>= _) _ _ _
 refine AA ?_
 simp only[newExc,newTuple]
 refine AA (wpAny_newObj_type ?_ (by size_fits))
 refine AA (m:=firstArgMember _ _) (AX (a:=Value.none) (by first | rfl | (simp only[firstArgMember];rfl)) ?_)
 refine wpAny_newObj_type ?_ (by size_fits)
 simp only[raiseNew]
 refine AA (wpAny_handled ?_)
 first | rw[show A.in1.handled=none from hh] | rw[hh]
 refine AA (AB (wpAny_throw ?_))
 exact hE _ _ (((Heap.SameBut.update ..).extBut.push _).push _) ⟨_,AI _ rfl,rfl⟩
end
theorem a4q{prog:Program}{w:World}{A:Around}(hh:A.handled=none)(it l:Addr)(hne:l≠it)(items:Array Value):
  Draws prog w A it [it,l] items.size (fun i v=>items[i]?=some v) (fun i h=>h.IsTupleIter it l i/\h.IsTuple l items)where
 live:=fun _ _ st=>let⟨o,ho,_⟩:=st.1;⟨o,ho⟩
 frame:=fun _ _ _ st hk=>⟨let⟨o,ho,r⟩:=st.1;⟨o,hk it (by simp) o ho,r⟩,let⟨o,ho,r⟩:=st.2;⟨o,hk l (by simp) o ho,r⟩⟩
 item:=fun i s Q E hi st hQ=>by
  refine a3d st.1 st.2 (x:=items[i]) (by simp[hi]) fun h' hit' hs'=>?_
  exact hQ _ h' s.toks (by simp[hi]) ⟨hit',st.2.extBut hs'.extBut hne⟩ hs'
 done:=fun s Q E st hE=>a3X hh st.1 st.2 (by simp) hE
theorem a2c(l:Addr)(items:Array Value)(n:Nat)(dct:Option Addr)(sl:Array (Option Value)):
  Meets (Builtin.«enumerate.__new__» ⟨[.type "enumerate",.ref l],[]⟩) (fun _ R s=>s.heap.get? l=some {cls:= .type "tuple",dict:=dct,data:= .seq items n,slots:=sl}/\
   R (.ok (.ret (.ref (s.heap.push {cls:= .type "tuple_iterator",data:= .fields #[.ref l,.int 0 0]}).objs.size)))
    {s with heap:=(s.heap.push {cls:= .type "tuple_iterator",data:= .fields #[.ref l,.int 0 0]}).push {cls:= .type "enumerate",data:= .fields #[.none,.bool false,.ref s.heap.objs.size,rawInt 0,.none,.none]}}):=
 .of_wp fun prog w A R s h=>by
  obtain⟨hp,g,d,tk,os⟩:=s;obtain⟨hl,h⟩:=h
  have hsub:=sub_enumerate
  have hL:Heap.IsTuple (Shared.heap ⟨hp,g,d,tk,os⟩) l items:=⟨_,hl,rfl,n,rfl⟩
  wp_walk using wpAny_loadPart' hl
  refine wpAny_stack_any fun st=>AB ?_
  split
  ·rename_i c _ _ _ _ _
   cases(c==Value.type "enumerate")
   ·wp_walk using wpAny_loadPart' hl,wpAny_pyIter_tuple hL
    exact⟨_,rfl,h⟩
   ·wp_walk using wpAny_loadPart' hl,wpAny_pyIter_tuple hL
    exact⟨_,rfl,h⟩
  ·wp_walk using wpAny_loadPart' hl,wpAny_pyIter_tuple hL
   exact⟨_,rfl,h⟩
theorem a2p{prog:Program}{w:World}{A:Around}{E:Value->Shared->Prop}{s:Shared}{l:Addr}{items:Array Value}{Q:Value->Shared->Prop}(hL:s.heap.IsTuple l items)
  (h:∀h',IsEnum h' (s.heap.objs.size+1) s.heap.objs.size 0 .none->h'.IsTupleIter s.heap.objs.size l 0->h'.objs.size=s.heap.objs.size+2->
   (∀b o,s.heap.get? b=some o->h'.get? b=some o)->Q (.ref (s.heap.objs.size+1)) {s with heap:=h'}):
  wpAny (model prog w) A (call (.type "enumerate") [.ref l]) Q E s:=by
 obtain⟨⟨c,dct,dt,sl⟩,hl,hc,n,hd⟩:=hL
 replace hc:c= .type "tuple":=hc
 replace hd:dt= .seq items n:=hd
 subst hc hd
 refine callType_new F.called_enumerate (by decide) (F.typeCall_enumerate_1 _) (F.newCall_enumerate_1 _) (fun obj=>F.args_object_init_2 obj _) F.entry_enumerate_new
  (a2c l items n dct sl) ⟨hl,?_⟩
 have hz:(s.heap.push {cls:= .type "tuple_iterator",data:= .fields #[.ref l,.int 0 0]}).objs.size=s.heap.objs.size+1:=Heap.size_push ..
 show _/\_
 rw[hz]
 have he:IsEnum ((s.heap.push {cls:= .type "tuple_iterator",data:= .fields #[.ref l,.int 0 0]}).push
   {cls:= .type "enumerate",data:= .fields #[.none,.bool false,.ref s.heap.objs.size,rawInt 0,.none,.none]}) (s.heap.objs.size+1) s.heap.objs.size 0 .none:=by
  have:=AI (s.heap.push {cls:= .type "tuple_iterator",data:= .fields #[.ref l,.int 0 0]})
   (o:={cls:= .type "enumerate",data:= .fields #[.none,.bool false,.ref s.heap.objs.size,rawInt 0,.none,.none]}) rfl
  rw[hz]at this;exact this
 refine⟨⟨_,he,rfl⟩,h _ he ⟨_,AC _ (AI _ rfl),rfl,rfl⟩ (by rw[Heap.size_push,hz]) fun b o x=>AC _ (AC _ x)⟩
end ET
namespace L2
open PySem PySem.Spec PyProof.Rows
noncomputable def Ite (K:W.Frag) (a:Addr):It:=
 ⟨fun i H=>∃xs x,SqT K H a xs/\xs[i]?=some x,
   fun i H x H'=>∃p v,(∀xs,SqT K H a xs->xs[i]?=some v)/\H p=none/\x= .ref p/\H'=upd H p (.tup [.int i,v]),
   fun i H=>∃xs,SqT K H a xs/\xs.length=i⟩
theorem a8L{P:Program}{w:World}{K:W.Frag}{elts:List Expr}{k:Nat}{pos:Pos}(a e it:Addr)(hei:e≠it):
  a7U P w K (.Tuple elts k pos) (Ite K a) [e,it] e (fun i h=>(∃old,IsEnum h e it i old)/\h.IsTupleIter it a i)where
 mem:=by simp
 obj:=fun i h st b hb=>by
  obtain⟨⟨old,he⟩,o,ho,hc,hd⟩:=st
  rcases List.mem_cons.mp hb with z | hb
  ·subst z
   exact⟨_,he,fun v z=>by
    have z':Data.fields _=Data.cell v:=z
    cases z'⟩
  ·obtain z:=AD.mp hb
   subst z
   exact⟨o,ho,fun v z=>by rw[hd]at z;cases z⟩
 keep:=fun i h h' st kk=>by
  obtain⟨⟨old,he⟩,o,ho,r⟩:=st
  exact⟨⟨old,kk e (by simp) _ he⟩,o,kk it (by simp) o ho,r⟩
 item:=by
  intro X hP hw hK hc i pins s σ H E I hf st hg
  subst hP hw hK
  obtain⟨xs,x,hq,hx⟩:=hg
  obtain⟨its,rv,p,hz⟩:=I.tuple hq
  obtain⟨u,hu,ru⟩:=rv.get hx
  obtain⟨⟨old,he⟩,hit⟩:=st
  have ht:s.heap.IsTuple a its.toArray:=p
  have hai:a≠it:=by
   intro z
   obtain⟨o,ho,hc1,_⟩:=id hit
   obtain⟨o2,ho2,hc2,_⟩:=id ht
   rw[z,ho]at ho2
   cases ho2
   rw[hc1]at hc2
   exact absurd hc2 (by decide)
  have hae:a≠e:=by
   intro z
   obtain⟨o2,ho2,hc2,_⟩:=id ht
   have he':=he
   unfold IsEnum at he'
   rw[z,he']at ho2
   cases ho2
   exact absurd (show Value.type "enumerate"=Value.type "tuple" from hc2) (by decide)
  have D:=ET.a4q (prog:=X.prog) (w:=X.w) (A:=X.A.in1) (show X.A.in1.handled=none from I.ok.hd hc) it a hai its.toArray
  have hef:e∉ [it,a]:=by
   intro z
   rcases List.mem_cons.mp z with z | z
   ·exact hei z
   ·exact hae (AD.mp z).symm
  have W:=WalksT.enumerateD D e hei hef (by simp)
  have hlt:i < its.toArray.size:=by
   have h1:=(List.getElem?_eq_some_iff.mp hu).1
   simpa using h1
  refine W.item i s _ _ hlt ⟨⟨old,he⟩,hit,ht⟩ fun T vals h' tk hP hT hTup hM hk=>?_
  obtain⟨t,y,hy,rfl⟩:=hP
  have ey:y=u:=by
   have:its[i]?=some y:=by simpa using hy
   rw[hu]at this
   exact(Option.some.inj this).symm
  subst ey
  have I1:Inv X pins σ H {s with heap:=h',toks:=tk}:=I.turnedL (ch:=[e,it]) hk hf
  have hHT:H T=none:=I.hok.fresh hT
  have fT:a2P X pins H T:=I.fpOk hT hHT
  refine⟨_,rfl,?_⟩
  refine W.go elts k pos i T {s with heap:=h',toks:=tk} _ _ hM fun h2 st2 hk2=>?_
  have I2':=I1.turnedL (h':=h2) (t':=tk) (ch:=[e,it]) hk2 hf
  have I2:Inv X pins σ H {s with heap:=h2,toks:=tk}:=I2'
  have hT2:h2.IsTuple T #[.int i t,y]:=by
   obtain⟨o,ho,r⟩:=hTup
   exact⟨o,hk2 T o (W.apart i T h' hM) ho,r⟩
  have I3:Inv X pins σ (upd H T (.tup [.int i,x])) {s with heap:=h2,toks:=tk}:=
   I2.track fT ⟨by show 2<=sizeLine;decide,[.int i t,y],.cons ⟨t,rfl⟩ (.cons ru .nil),hT2⟩
  refine⟨.ref T,_,I3,rfl,⟨T,x,fun ys hy'=>by rw[I.tuple_inj hy' hq];exact hx,hHT,rfl,rfl⟩,⟨by simpa using st2.1,st2.2.1⟩,fun b hb=>?_⟩
  rw[I0 (fun z=>W.apart i T h' hM (by rw[<-z];exact hb))]
  exact(hf b hb).1
 done:=by
  intro X hP hw hK hc i pins s σ H E I hf st hg
  subst hP hw hK
  obtain⟨xs,hq,hx⟩:=hg
  obtain⟨its,rv,p,hz⟩:=I.tuple hq
  obtain⟨⟨old,he⟩,hit⟩:=st
  have ht:s.heap.IsTuple a its.toArray:=p
  have hai:a≠it:=by
   intro z
   obtain⟨o,ho,hc1,_⟩:=id hit
   obtain⟨o2,ho2,hc2,_⟩:=id ht
   rw[z,ho]at ho2
   cases ho2
   rw[hc1]at hc2
   exact absurd hc2 (by decide)
  have hae:a≠e:=by
   intro z
   obtain⟨o2,ho2,hc2,_⟩:=id ht
   have he':=he
   unfold IsEnum at he'
   rw[z,he']at ho2
   cases ho2
   exact absurd (show Value.type "enumerate"=Value.type "tuple" from hc2) (by decide)
  have D:=ET.a4q (prog:=X.prog) (w:=X.w) (A:=X.A.in1) (show X.A.in1.handled=none from I.ok.hd hc) it a hai its.toArray
  have hef:e∉ [it,a]:=by
   intro z
   rcases List.mem_cons.mp z with z | z
   ·exact hei z
   ·exact hae (AD.mp z).symm
  have W:=WalksT.enumerateD D e hei hef (by simp)
  have hl:=rv.length
  have hn:i=its.toArray.size:=by simp;omega
  refine W.done s _ _ ⟨⟨old,by rw[<-hn];exact he⟩,by rw[<-hn];exact hit,ht⟩ fun h' tk hk=>⟨rfl,?_⟩
  exact I.turnedL (ch:=[e,it]) hk hf
 self:=fun _ _ _ _ _ st h=>by
  obtain⟨⟨old,he⟩,_⟩:=st
  exact wpAny_pyIter_enum he h
section
variable{X:Cx}{elts:List Expr}{k:Nat}{tpos:Pos}
noncomputable def b7f (K:W.Frag) (ta:TA):TI:=fun σ H R=>ta σ H fun vs H1=>∃a,vs=[.ref a]/\(∃xs,SqT K H1 a xs)/\R (Ite K a) H1
theorem a5v{a:Expr}{ta:TA}{p pos:Pos}(hg:Gl X "enumerate")(hm:X.mg "enumerate"=none)(ha:PA X [a] ta)(hs:starEach [a] X.env=[(false,eval a X.env)]:=by rfl):
  PI X (.Tuple elts k tpos) (.Call (.Name "enumerate" p) [a] [] pos) (b7f X.K ta):=by
 intro pins s σ H R I h
 refine Call_ (a0T I hg hm boot_enumerate (PyProof.Rows.callWith_type1 (thn (ha pos pins s σ H _ I h) fun us s1⟨vs,H1,I1,r1,q1⟩=>?_) hs rfl))
 obtain⟨a,e,⟨xs,hq⟩,q⟩:=q1
 subst e
 cases r1 with
 | cons r rr=>
  cases rr
  cases r
  obtain⟨its,rv,p,hz⟩:=I1.tuple hq
  refine ET.a2p (show s1.heap.IsTuple a its.toArray from p) fun h' he hit hsz hk=>?_
  have I2:Inv X pins σ H1 {s1 with heap:=h'}:=I1.kept (t':=s1.toks) hk
  refine wpAny_pyIter_enum he ?_
  refine⟨s1.heap.objs.size+1,[s1.heap.objs.size+1,s1.heap.objs.size],_,_,H1,rfl,I2,a8L a (s1.heap.objs.size+1) s1.heap.objs.size (Nat.succ_ne_self _),⟨⟨_,he⟩,hit⟩,fun b hb=>?_,q⟩
  have hb':s1.heap.objs.size<=b:=by
   rcases List.mem_cons.mp hb with z | z
   ·rw[z];exact Nat.le_succ _
   ·rw[AD.mp z];exact AH _
  exact I1.fpOk hb' (I1.hok.fresh hb')
end
theorem a7F{K:W.Frag}{a:Addr}{xs:List V}{g:TG}{tb:TS}{D:a0X}{σ:St}{H:Hp}(Pv:Nat->St->Hp->Prop)(h0:Pv 0 σ H)(hl:∀i σ H,i<=xs.length->Pv i σ H->SqT K H a xs)
  (hs:∀i x p σ H,xs[i]?=some x->Pv i σ H->H p=none->g (.ref p) σ (upd H p (.tup [.int i,x])) fun σ2 H2=>tb {D with nx:=Pv (i+1),ct:=Pv (i+1),bk:=D.nx} σ2 H2)(hd:∀σ H,Pv xs.length σ H->D.nx σ H):
  ∃W:Nat->Nat->St->Hp->Prop,(∃m,W 0 m σ H)/\∀i m σ H,W i m σ H->
   ((Ite K a).stop i H/\D.nx σ H)\/((Ite K a).go i H/\∃N:St->Hp->Prop,(∀σ' H',N σ' H'->∃m',m' < m/\W (i+1) m' σ' H')/\∀x H',(Ite K a).yld i H x H'->g x σ H' fun σ2 H2=>tb {D with nx:=N,ct:=N,bk:=D.nx} σ2 H2):=by
 refine⟨fun i m σ H=>m=xs.length - i/\i<=xs.length/\Pv i σ H,⟨xs.length,by simp,Nat.zero_le _,h0⟩,?_⟩
 rintro i m σ H ⟨rfl,hi,p⟩
 have q:=hl i σ H hi p
 by_cases hlt:i < xs.length
 ·refine .inr ⟨⟨xs,xs[i],q,by simp[hlt]⟩,Pv (i+1),fun σ' H' p'=>⟨xs.length - (i+1),by omega,rfl,hlt,p'⟩,fun x H' y=>?_⟩
  obtain⟨pp,v,y,hn,e1,e2⟩:=y
  subst e1 e2
  exact hs i v pp σ _ (y xs q) p hn
 ·have e:i=xs.length:=by omega
  subst e
  exact .inl ⟨⟨xs,q,rfl⟩,hd σ H p⟩
end L2
namespace L2
open PySem PySem.Spec PyProof.Rows
structure Cl(P:Program)(w:World)(K:W.Frag)(mg:Str->Option Value)(base:Heap)(k:Nat)(x:Str)(ps:List Str)(sp:Sp):Prop where
 ex:∃f fd,a4C P w K mg base CX0 k f fd ps sp/\mg x=some (.ref f)/\W.keepIn K (.ref f)=true/\a4t K fd ps []
theorem W4{X:Cx}{j k:Nat}{x:Str}{ps:List Str}{sp:Sp}{e:Expr}{es:List Expr}{t:TA}{p pos:Pos}(C:Cl X.prog X.w X.K X.mg X.base j x ps sp)(hr:a0c k X.A)(hg:Gl X x)(ha:PA X (e::es) t)(hjk:j<=k:=by decide)
  (hdb:(x==("__debug__":Str))=false:=by decide)(he:starEach (e::es) X.env=(false,eval e X.env)::starEach es X.env:=by rfl)(hpl:(backTo pos (starEach es X.env)).any (·.1)=false:=by rfl):
  PE X (.Call (.Name x p) (e::es) [] pos) (b2c sp [] E0 t):=by
 obtain⟨f,fd,F,hm,hk,hb⟩:=C.ex
 exact b0e F (hr.mono hjk) hg hm hk hb .nil b6Y ha hdb he hpl
noncomputable def W2 (K:W.Frag) (mg:Str->Option Value) (x:Str) (st:Stmt):Prop:=∃f fd,Fun K x x st f fd/\mg x=some (.ref f)
theorem b0A{K:W.Frag}{mg:Str->Option Value}{h:Heap}{x:Str}{st:Stmt}{f:Addr}{oc:Value}{od an:Option Addr}{osl:Array (Option Value)}{kV doc pm cdv ct:Value}(X:K.In h)(G:h.Ns mainGlobals mg)
  (a:W.nsIn K mainGlobals x=some (some (.ref f)))(l:K.lookup f=some ⟨oc,od,.func (W.fnOf x x (a0f st) (F6 st) (J0 st) .none kV doc pm an cdv ct),osl⟩)
  (c:W.codeIn K cdv x=true)(k:W.keepIn K (.ref f)=true):W2 K mg x st:=
 ⟨f,_,a8Y l c k,W.mg_of X G a⟩
theorem Cl.of{P:Program}{w:World}{K:W.Frag}{mg:Str->Option Value}{base:Heap}{x:Str}{st:Stmt}{N ps:List Str}{k:Nat}{sp:Sp}(T:W2 K mg x st)(S:R3 N ps (J0 st))(len:∀vs H Q E,sp vs H Q E->vs.length=ps.length)
  (hb:∀(kV doc pm:Value)(an:Option Addr)(cdv ct:Value)(us:List Value),us.length=ps.length->bindArgs (W.fnOf x x (a0f st) (F6 st) (J0 st) .none kV doc pm an cdv ct) ⟨us,[]⟩=pure (ps.zip us))
  (hbody:∀(f:Addr)(cdv:Value)(A:Around)(outer:List Env)(s:Shared)(H:Hp)(vs:List V)(Q:VK)(E:XK),a0c k (A.deeper (envOfC x (J0 st) s.heap.objs.size f cdv))->sp vs H Q E->
   ∃t,PSs (a0h CX0 P w K mg base N x (J0 st) f cdv A outer s H E).nox (F6 st) t/\t {nx:=fun _ H'=>Q .non H',rt:=Q} (a2a N vs) H):Cl P w K mg base (k+1) x ps sp:=by
 obtain⟨f,fd,F,m⟩:=T
 exact⟨f,fd,F.ok S len (fun cdv A outer s H vs Q E=>hbody f cdv A outer s H vs Q E),m,F.kp,F.binds hb⟩
noncomputable def R1 (H H':Hp):Prop:=∀b xs,H b=some (.tup xs)->H' b=some (.tup xs)
section
variable{H H1 H2:Hp}{l p:Addr}{o:HO}{xs ys:List V}
theorem G8.tups(e:G8 H H1):R1 H H1:=fun b xs q=>e b _ q
theorem R1.refl(H:Hp):R1 H H:=fun _ _ q=>q
theorem R1.trans(a:R1 H H1)(b:R1 H1 H2):R1 H H2:=fun c xs q=>b c xs (a c xs q)
theorem R1.lst(h:H l=some (.lst xs)):R1 H (upd H l (.lst ys)):=fun b zs q=>by
 rw[I0 (a7E q h (by intro z;cases z))];exact q
theorem R1.new(h:H p=none):R1 H (upd H p o):=fun b zs q=>by
 rw[I0 (R6 q h)];exact q
theorem G8.put(s:G8 H H1)(h:H l=none):G8 H (upd H1 l o):=fun b u q=>by
 rw[I0 (R6 q h)];exact s b u q
theorem G8.new(s:G8 H H1)(h:H1 p=none):G8 H (upd H1 p o):=s.put (s.free h)
theorem U3{u:HO}(h:H l=some u)(hp:H p=none):upd H p o l=some u:=by
 rw[I0 (R6 h hp)];exact h
end
theorem a1r{α:Type}(xs:List α)(d:α){i:Int}(h0:0<=i)(h1:i < (xs.length:Int)):atI xs i=some (xs.getD i.toNat d):=by
 have e:i=((i.toNat:Nat):Int):=by omega
 have hl:i.toNat < xs.length:=by omega
 have hx:xs[i.toNat]?=some (xs.getD i.toNat d):=by
  rw[BH]
  simp[hl]
 have:=W9 hx
 rw[<-e]at this
 exact this
theorem Y0{α:Type}(f:α->V)(xs:List α)(d:α){i:Int}(h0:0<=i)(h1:i < (xs.length:Int)):atI (xs.map f) i=some (f (xs.getD i.toNat d)):=by
 have:=a1r (xs.map f) (f d) h0 (by simpa using h1)
 rw[this,BH,List.getElem?_map,BH]
 have hl:i.toNat < xs.length:=by omega
 simp[hl]
theorem a0t{x:Str}{A B:Prop}(h:A):if decide (V.str x=V.str x)=true then A else B:=by
 rw[if_pos (decide_eq_true rfl)];exact h
theorem Z4{x y:Str}{A B:Prop}(e:¬x=y)(h:B):if decide (V.str x=V.str y)=true then A else B:=by
 rw[if_neg (by rw[AW (fun q=>e (V.str.inj q))];exact AE)];exact h
theorem a6B{i j:Int}{A B:Prop}(h1:i=j->A)(h2:¬i=j->B):if decide (V.int i=V.int j)=true then A else B:=
 a4X (fun h=>h1 (V.int.inj (of_decide_eq_true h))) fun h=>h2 fun e=>h (decide_eq_true (congrArg V.int e))
theorem a5m(K:W.Frag)(T:String):W.kitOne K (.type T) (.type T)=some true:=by
 unfold W.kitOne
 rw[if_pos (by simp)]
theorem a7z(K:W.Frag):W.kitOne K (.type "int") (.type "str")=some false:=by kernel_rfl
theorem a7t(K:W.Frag):W.kitOne K (.type "int") (.type "bool")=some false:=by kernel_rfl
noncomputable def a3v (c:Nat):Bool:=decide (97<=c) && decide (c<=122)
noncomputable def b7e (c:Nat):Bool:=decide (48<=c) && decide (c<=57)
noncomputable def a3n (c:Nat):Bool:=a3v c || b7e c
noncomputable def b7F:List Nat->Bool
 | []=>false
 | c::r=>a3v c && r.all a3n && decide (r.length<=7)
noncomputable def F7 (x:Str):Prop:=b7F x.cps.toList=true
noncomputable instance (x:Str):Decidable (F7 x):=inferInstanceAs (Decidable (_=true))
theorem F7.len{x:Str}(h:F7 x):1<=x.length/\x.length<=8:=by
 unfold F7 at h
 obtain⟨⟨l⟩⟩:=x
 cases l with
 | nil=>exact absurd (show false=true from h) AE
 | cons c r=>
  have h':(a3v c && r.all a3n && decide (r.length<=7))=true:=h
  simp only[Bool.and_eq_true,decide_eq_true_eq]at h'
  show 1<=(Array.mk (c::r)).size/\(Array.mk (c::r)).size<=8
  simp only[List.size_toArray,List.length_cons]
  omega
inductive Th where
 | num (n:Int)
 | nam (x:Str)
noncomputable def thV:Th->V
 | .num n=> .int n
 | .nam x=> .str x
noncomputable def b1K:Th->Prop
 | .num n=>0<=n/\n < 10 ^ 60
 | .nam x=>F7 x
noncomputable def a6Y (H:Hp) (v:V) (t:Int×Th):Prop:=∃p,v= .ref p/\H p=some (.tup [.int t.1,thV t.2])/\b1K t.2
noncomputable abbrev a5g (H:Hp):List V->List (Int×Th)->Prop:=Paired (a6Y H)
theorem Paired.get?{α β:Type}{F:α->β->Prop}:∀{xs:List α}{ys:List β}{i:Nat}{x:α},Paired F xs ys->xs[i]?=some x->∃y,ys[i]?=some y/\F x y
 | _,_,_,_,.nil,e=>by simp at e
 | _,_,0,_,.cons r _,e=>by simp at e;subst e;exact⟨_,rfl,r⟩
 | _,_,i+1,x,.cons _ t,e=>by
  obtain⟨u,h1,h2⟩:=Paired.get? (i:=i) (x:=x) t (by simpa using e)
  exact⟨u,by simpa using h1,h2⟩
theorem Paired.get?'{α β:Type}{F:α->β->Prop}:∀{xs:List α}{ys:List β}{i:Nat}{y:β},Paired F xs ys->ys[i]?=some y->∃x,xs[i]?=some x/\F x y
 | _,_,_,_,.nil,e=>by simp at e
 | _,_,0,_,.cons r _,e=>by simp at e;subst e;exact⟨_,rfl,r⟩
 | _,_,i+1,x,.cons _ t,e=>by
  obtain⟨u,h1,h2⟩:=Paired.get?' (i:=i) (y:=x) t (by simpa using e)
  exact⟨u,by simpa using h1,h2⟩
theorem a6Y.mono{H H':Hp}(s:R1 H H'){v:V}{t:Int×Th}(h:a6Y H v t):a6Y H' v t:=by
 obtain⟨p,e,h,o⟩:=h
 exact⟨p,e,s p _ h,o⟩
theorem a5g.mono{H H':Hp}(s:R1 H H'){vs:List V}{ts:List (Int×Th)}(h:a5g H vs ts):a5g H' vs ts:=Paired.mapP h fun _ _ q=>q.mono s
structure a1c(H:Hp)(t:Addr)(ts:List (Int×Th)):Prop where
 ex:∃vs,H t=some (.tup vs)/\a5g H vs ts
 lo:1<=ts.length
 hi:ts.length<=6
theorem a1c.mono{H H':Hp}(s:R1 H H'){t:Addr}{ts:List (Int×Th)}(h:a1c H t ts):a1c H' t ts:=by
 obtain⟨⟨vs,h1,h2⟩,lo,hi⟩:=h
 exact⟨⟨vs,s t _ h1,h2.mono s⟩,lo,hi⟩
theorem J7{α:Type}{l:List α}{i:Nat}{x:α}(h:l[i]?=some x):l.take (i+1)=l.take i++[x]:=by
 rw[List.take_succ,h];rfl
end L2
namespace L2
open PySem PySem.Spec PyProof.Rows
section
variable{X:Cx}
end
structure b2s(x:Str):Prop where
 nb:32∉x.cps.toList
 len:x.length<=61
noncomputable instance (x:Str):Decidable (b2s x):=decidable_of_iff (32∉x.cps.toList/\x.length<=61) ⟨fun h=>⟨h.1,h.2⟩,fun h=>⟨h.nb,h.len⟩⟩
theorem b4R{c:Nat}(h:a3n c=true):c≠32:=by
 rintro rfl
 exact absurd h (by decide)
theorem F7.signs{x:Str}(h:F7 x):∀c∈x.cps.toList,a3n c=true:=by
 unfold F7 at h
 intro c hc
 cases e:x.cps.toList with
 | nil=>rw[e]at hc;simp at hc
 | cons d r=>
  rw[e]at h hc
  have h':(a3v d && r.all a3n && decide (r.length<=7))=true:=h
  simp only[Bool.and_eq_true,decide_eq_true_eq,List.all_eq_true]at h'
  rcases List.mem_cons.mp hc with z | z
  ·rw[z];unfold a3n;rw[h'.1.1];rfl
  ·exact h'.1.2 c z
theorem F7.word{x:Str}(h:F7 x):b2s x:=⟨fun z=>b4R (h.signs 32 z) rfl,by have:=h.len;omega⟩
theorem a3B{n:Int}(h0:0<=n)(h1:n < 10 ^ 60):(Str.ofString (toString n)).cps.toList=(Nat.toDigits 10 n.toNat).map Char.toNat/\(Nat.toDigits 10 n.toNat).length<=60:=by
 have e:n=((n.toNat:Nat):Int):=by omega
 constructor
 ·have h:=text_ofNat n.toNat
  rw[show Int.ofNat n.toNat=n from e.symm]at h
  rw[h]
 ·exact digits10_le (by decide) (by omega)
inductive a9U:List Expr->List Str->Prop
 | nil:a9U [] []
 | cons {x:Str} {j pos} {es:List Expr} {ys:List Str} (h:a9U es ys):a9U (.Constant (.str x) j pos::es) (x::ys)
section
variable{X:Cx}
theorem b4a{es:List Expr}{ys:List Str}(h:a9U es ys):PA X es (fun _ H Q=>Q (ys.map V.str) H):=by
 induction h with
 | nil=>exact G6
 | @cons x j pos es ys h ih=>
  exact G0 (es:=es) (U5 (x:=x) (j:=j) (pos:=pos)) ih rfl
end
end L2
namespace L2
open PySem PySem.Spec PyProof.Rows
noncomputable def a0M (cells:List (Str×Addr)):List (Str×NameKind)->List (Str×Addr)->List (Str×Addr)
 | [],cs=>cs
 | (n,k)::r,cs=>a0M cells r (if k== .free then(n,(cells.lookup n).getD 0)::cs else cs)
theorem a8H{cells:List (Str×Addr)}{env:Env}(he:env.cells=cells):∀(l:List (Str×NameKind))(cs:List (Str×Addr)),(∀y∈l,y.2= .free->∃c,cells.lookup y.1=some c)->
  (forIn l cs fun p cs=>(do if p.2== .free then(do let a<-cellOf env p.1;pure (ForInStep.yield ((p.1,a)::cs)))else pure (ForInStep.yield cs):Sem (ForInStep (List (Str×Addr)))))=pure (a0M cells l cs):=by
 intro l
 induction l with
 | nil=>intro cs _;rfl
 | cons p r ih=>
  intro cs h
  obtain⟨n,k⟩:=p
  rw[List.forIn_cons]
  have hr:∀y∈r,y.2= .free->∃c,cells.lookup y.1=some c:=fun y hy=>h y (AK _ hy)
  by_cases hk:k= .free
  ·subst hk
   obtain⟨c,hc⟩:=h (n,.free) AM rfl
   have hc':env.cells.lookup n=some c:=by rw[he];exact hc
   have e:cellOf env n=pure c:=by unfold cellOf;rw[hc']
   simp only[beq_self_eq_true,if_true,e,pure_bind]
   rw[ih _ hr]
   unfold a0M
   rw[if_pos (by simp),show(cells.lookup n).getD 0=c by rw[show cells.lookup n=some c from hc];rfl]
   conv=>rhs;unfold a0M
  ·have hb:(k==NameKind.free)=false:=by simpa using hk
   simp only[hb,Bool.false_eq_true,if_false,pure_bind]
   rw[ih _ hr]
   conv=>rhs;unfold a0M
   rw[if_neg (by rw[hb];exact AE)]
theorem a3w{cells:List (Str×Addr)}{x:Str}{c:Addr}:∀(l:List (Str×NameKind))(cs:List (Str×Addr)),(∀y∈l,y.2= .free->∃c,cells.lookup y.1=some c)->(a0M cells l cs).lookup x=some c->cells.lookup x=some c\/cs.lookup x=some c
 | [],cs,_,h=> .inr h
 | (n,k)::r,cs,hy,h=>by
  unfold a0M at h
  rcases a3w r _ (fun y q=>hy y (AK _ q)) h with h | h
  ·exact .inl h
  ·by_cases hk:k= .free
   ·subst hk
    obtain⟨c',hc⟩:=hy (n,.free) AM rfl
    have hc:cells.lookup n=some c':=hc
    rw[if_pos (by simp),List.lookup_cons]at h
    split at h
    ·rename_i e
     have e':x=n:=by simpa using e
     subst e'
     rw[hc]at h
     cases h
     exact .inl hc
    ·exact .inr h
   ·rw[if_neg (by simpa using hk)]at h
    exact .inr h
theorem a5s{cells:List (Str×Addr)}{x:Str}:∀(l:List (Str×NameKind))(cs:List (Str×Addr)),(∃c,cs.lookup x=some c)->∃c,(a0M cells l cs).lookup x=some c
 | [],_,h=>h
 | (n,k)::r,cs,h=>by
  unfold a0M
  refine a5s r _ ?_
  split
  ·rw[List.lookup_cons]
   split
   ·exact⟨_,rfl⟩
   ·exact h
  ·exact h
theorem a3N{cells:List (Str×Addr)}{x:Str}:∀(l:List (Str×NameKind))(cs:List (Str×Addr)),(x,NameKind.free)∈l->∃c,(a0M cells l cs).lookup x=some c
 | (n,k)::r,cs,h=>by
  unfold a0M
  rcases List.mem_cons.mp h with e | h
  ·cases e
   refine a5s r _ ?_
   rw[if_pos (by simp),List.lookup_cons]
   simp
  ·exact a3N r _ h
theorem a3m{sc:Scope}{env:Env}(h:∀y∈sc.names,y.2= .free->∃c,env.cells.lookup y.1=some c):closureFor sc env=pure (a0M env.cells sc.names []):=by
 have:=a8H (env:=env) rfl sc.names [] h
 unfold closureFor
 simp only[bind_pure]
 exact this
theorem a3x{env:Env}{x:Str}:∀{names:List (Str×NameKind)},names.lookup x=some .free->
  (names.map fun(n,k)=>if(k==NameKind.free && env.scope.kind== .function && env.kindOf n==some .cell)then(n,NameKind.cell)else(n,k)).lookup x=some .cell\/
  (names.map fun(n,k)=>if(k==NameKind.free && env.scope.kind== .function && env.kindOf n==some .cell)then(n,NameKind.cell)else(n,k)).lookup x=some .free
 | [],h=>by simp at h
 | (n,k)::r,h=>by
  have ih:=@a3x env x r
  simp only[List.map_cons]
  by_cases hc:(k==NameKind.free && env.scope.kind== .function && env.kindOf n==some .cell)=true
  ·rw[if_pos hc]
   simp only[List.lookup_cons]at h⊢
   cases hx:x==n with
   | true=>exact .inl rfl
   | false=>simp only[hx]at h⊢;exact ih h
  ·rw[if_neg hc]
   simp only[List.lookup_cons]at h⊢
   cases hx:x==n with
   | true=>simp only[hx]at h⊢;exact .inr h
   | false=>simp only[hx]at h⊢;exact ih h
theorem a3a{env:Env}{x:Str}:∀{names:List (Str×NameKind)},
  (names.map fun(n,k)=>if(k==NameKind.free && env.scope.kind== .function && env.kindOf n==some .cell)then(n,NameKind.cell)else(n,k)).lookup x=some .cell\/
  (names.map fun(n,k)=>if(k==NameKind.free && env.scope.kind== .function && env.kindOf n==some .cell)then(n,NameKind.cell)else(n,k)).lookup x=some .free->
  (x,NameKind.free)∈names\/(x,NameKind.cell)∈names
 | [],h=>by simp at h
 | (n,k)::r,h=>by
  have ih:=@a3a env x r
  simp only[List.map_cons]at h
  have tl:(x,NameKind.free)∈r\/(x,NameKind.cell)∈r->(x,NameKind.free)∈(n,k)::r\/(x,NameKind.cell)∈(n,k)::r:=fun q=>q.imp (AK _) (AK _)
  by_cases hc:(k==NameKind.free && env.scope.kind== .function && env.kindOf n==some .cell)=true
  ·rw[if_pos hc]at h
   have hk:k= .free:=by
    simp only[Bool.and_eq_true]at hc
    simpa using hc.1.1
   simp only[List.lookup_cons]at h
   cases hx:x==n with
   | true=>
    have e:x=n:=by simpa using hx
    subst e hk
    exact .inl AM
   | false=>simp only[hx]at h;exact tl (ih h)
  ·rw[if_neg hc]at h
   simp only[List.lookup_cons]at h
   cases hx:x==n with
   | true=>
    have e:x=n:=by simpa using hx
    subst e
    simp only[hx]at h
    rcases h with h | h
    ·cases h;exact .inr AM
    ·cases h;exact .inl AM
   | false=>simp only[hx]at h;exact tl (ih h)
structure a2y(osc:Scope)(N:List Str)(sc:Scope)(M:List Str)(ρ:List (Option Nat)):Prop where
 kind:sc.kind= .function
 nocell:∀y∈sc.names,y.2≠ .cell
 own:∀y∈sc.names,y.2= .local->sc.names.lookup y.1=some .local
 fre:∀y∈sc.names,y.2= .free->osc.names.lookup y.1=some .cell\/osc.names.lookup y.1=some .free
 len:ρ.length=M.length
 ren:∀p∈ρ.zip M,(match p.1 with | none=>true | some i=>decide (N[i]?=some p.2/\sc.names.lookup p.2=some .free))=true
 nd:M.Nodup
noncomputable def b1e (ρ:List (Option Nat)) (σ:St):St:=ρ.map fun o=>match o with | none=>none | some i=>(σ[i]?).join
noncomputable def D4 (X:Cx) (sc:Scope) (cl:List (Str×Addr)) (C:Addr) (M:List Str) (s:Shared) (H:Hp) (fp:List Addr) (xe:Value->Shared->Prop):Cx where
 prog:=X.prog
 w:=X.w
 K:=X.K
 mg:=X.mg
 base:=X.base
 A:=X.A
 N:=M
 s₀:=s
 H₀:=H
 env:=compEnvC sc cl C X.env
 outer:=X.stack
 stack:=X.stack
 ex:=fp
 fn:=fun _=>false
 calm:=X.calm
 pn:=[]
 xe:=xe
theorem b1v{P:Program}{w:World}{A:Around}{R:Result->Shared->Prop}{s:Shared}{elt tg iter:Expr}{ifs:List Expr}{sc:Scope}{pos:Pos}{it acc:Value}{env:Env}(J:Nat->Shared->Prop)
  (turn:∀n s,J n s->wpAny (model P w) A (pyNext it) (fun r s1=>match r with
   | none=>R (.ok .next) s1
   | some v=>wpAny (model P w) A (letOwnedTupleGo tg it v) (fun _ s2=>wpAny (model P w) A (assign tg env v) (fun _ s3=>
     wpAny (model P w) A (forIn ifs true fun c r=>if r=true then do let ok<-isTrue c env (eval c env);pure (ForInStep.yield ok)else pure (ForInStep.yield r)) (fun ok s4=>
      if ok=true then wpAny (model P w) A (eval elt env) (fun x s5=>wpAny (model P w) A (call (.builtin "list.append") [acc,x]) (fun _ s6=>∃m,m < n/\J m s6) (notedBy (model P w) A env fun e s'=>R (.error e) s') s5)
       (notedBy (model P w) A env fun e s'=>R (.error e) s') s4
      else∃m,m < n/\J m s4) (notedBy (model P w) A env fun e s'=>R (.error e) s') s3) (notedBy (model P w) A env fun e s'=>R (.error e) s') s2) (notedBy (model P w) A env fun e s'=>R (.error e) s') s1)
   (notedBy (model P w) A env fun e s'=>R (.error e) s') s)
  (n:Nat)(h:J n s):codeAny (model P w) A (.compLoop (.ListComp elt [⟨tg,iter,ifs,0⟩] sc pos) 0 it acc env) R s:=by
 refine codeAny_loop rfl J (fun n s hJ=>?_) n h
 show wpAny (model P w) A ((compTurn (.ListComp elt [⟨tg,iter,ifs,0⟩] sc pos) 0 it acc env).onRaise fun x=>do noteFrame x env;theTreesLotGoes x) _ _ s
 refine wpAny_noted ?_
 rw[compTurn_list]
 refine AA (wpAny_standAt (AA (thn (turn n s hJ) fun r s1 h1=>?_)))
 cases r with
 | none=>exact AB h1
 | some v=>
  refine AA (thn h1 fun _ s2 h2=>AA (thn h2 fun _ s3 h3=>AA (thn h3 fun ok s4 h4=>?_)))
  cases ok with
  | false=>exact AB ⟨rfl,h4⟩
  | true=>exact AA (AA (thn h4 fun x s5 h5=>AA (thn h5 fun _ s6 h6=>AB (AB ⟨rfl,h6⟩))))
noncomputable def PTs (X:Cx) (ifs:List Expr) (t:TT):Prop:=
 ∀(pins:List (Addr×Obj))(s:Shared)(σ:St)(H:Hp)(Q:Bool->Hp->Prop),Inv X pins σ H s->t σ H Q->
  wpAny (model X.prog X.w) X.A (forIn ifs true fun c r=>if r=true then do let ok<-isTrue c X.env (eval c X.env);pure (ForInStep.yield ok)else pure (ForInStep.yield r)) (TP X pins σ Q) X.xe s
noncomputable def b0c:TT:=fun _ H Q=>Q true H
theorem ntG{i:Nat}{v:V}{σ:St}{H:Hp}{A B:St->Hp->Prop}(h:A (σ.set i (some v)) H):a0s i v σ H (fun σ4 H4=>b0c σ4 H4 fun b H5=>if b=true then A σ4 H5 else B σ4 H5):=by
 show if true=true then A (σ.set i (some v)) H else B (σ.set i (some v)) H
 exact a0b h
theorem a1y{X:Cx}:PTs X [] b0c:=fun _ _ _ H _ I h=>wpAny_tests_nil ⟨H,I,h⟩
theorem b0p{X:Cx}{c:Expr}{t:TT}(h:PT X c t):PTs X [c] t:=fun pins s σ H Q I q=>wpAny_tests_one (h pins s σ H Q I q)
noncomputable def b5d (wi:TI) (ρ:List (Option Nat)) (g:TG) (tt:TT) (te:TE):TE:=fun σ H Q=>wi σ H fun J H1=>∀D,H1 D=none->∃W:Nat->Nat->St->Hp->Prop,(∃m,W 0 m (b1e ρ σ) (upd H1 D (.lst [])))/\∀i m σ2 H2,W i m σ2 H2->
 (J.stop i H2/\Q (.ref D) H2)\/(J.go i H2/\∃N:St->Hp->Prop,(∀σ' H',N σ' H'->∃m',m' < m/\W (i+1) m' σ' H')/\∀x H3,J.yld i H2 x H3->g x σ2 H3 fun σ4 H4=>tt σ4 H4 fun b H5=>
  if b=true then te σ4 H5 fun y H6=>∃ys,H6 D=some (.lst ys)/\ys.length < sizeLine/\N σ4 (upd H6 D (.lst (ys++[y])))
  else N σ4 H5)
theorem a3A{J:It}{g:TG}{tt:TT}{te:TE}{Q:Hp->Prop}{σ:St}{H:Hp}{D:Addr}(n:Nat)(Pv:Nat->St->Hp->Prop)(h0:Pv 0 σ (upd H D (.lst [])))
  (hs:∀i σ2 H2,i < n->Pv i σ2 H2->J.go i H2/\∀x H3,J.yld i H2 x H3->g x σ2 H3 fun σ4 H4=>tt σ4 H4 fun b H5=>
   if b=true then te σ4 H5 fun y H6=>∃ys,H6 D=some (.lst ys)/\ys.length < sizeLine/\Pv (i+1) σ4 (upd H6 D (.lst (ys++[y])))else Pv (i+1) σ4 H5)
  (hd:∀σ2 H2,Pv n σ2 H2->J.stop n H2/\Q H2):
  ∃W:Nat->Nat->St->Hp->Prop,(∃m,W 0 m σ (upd H D (.lst [])))/\∀i m σ2 H2,W i m σ2 H2->
   (J.stop i H2/\Q H2)\/(J.go i H2/\∃N:St->Hp->Prop,(∀σ' H',N σ' H'->∃m',m' < m/\W (i+1) m' σ' H')/\∀x H3,J.yld i H2 x H3->g x σ2 H3 fun σ4 H4=>tt σ4 H4 fun b H5=>
    if b=true then te σ4 H5 fun y H6=>∃ys,H6 D=some (.lst ys)/\ys.length < sizeLine/\N σ4 (upd H6 D (.lst (ys++[y])))else N σ4 H5):=by
 refine⟨fun i m σ H=>m=n - i/\i<=n/\Pv i σ H,⟨n,by simp,Nat.zero_le _,h0⟩,?_⟩
 rintro i m σ2 H2 ⟨rfl,hi,p⟩
 by_cases hlt:i < n
 ·obtain⟨h1,h2⟩:=hs i σ2 H2 hlt p
  exact .inr ⟨h1,Pv (i+1),fun σ' H' p'=>⟨n - (i+1),by omega,rfl,hlt,p'⟩,h2⟩
 ·have e:i=n:=by omega
  subst e
  exact .inl (hd σ2 H2 p)
section
variable{X:Cx}{tg elt iter:Expr}{ifs:List Expr}{sc:Scope}{pos:Pos}{M:List Str}{ρ:List (Option Nat)}{wi:TI}{g:TG}{tt:TT}{te:TE}
theorem a5J(osc:Scope)(hosc:X.env.scope=osc)(N:List Str)(hN:X.N=N)(S:a2y osc N sc M ρ)(hc:X.calm=true)
  (hg:∀cl C s H fp xe,PG (D4 X sc cl C M s H fp xe) tg g)(ht:∀cl C s H fp xe,PTs (D4 X sc cl C M s H fp xe) ifs tt)(he:∀cl C s H fp xe,PE (D4 X sc cl C M s H fp xe) elt te)
  {pins:List (Addr×Obj)}{σ:St}{H:Hp}{s:Shared}{itv:Value}{Q:VK}{RR:Value->Addr->Result->Shared->Prop}(I:Inv X pins σ H s)
  (h2:PIE X pins σ tg (fun J H1=>∀D,H1 D=none->∃W:Nat->Nat->St->Hp->Prop,(∃m,W 0 m (b1e ρ σ) (upd H1 D (.lst [])))/\∀i m σ2 H2,W i m σ2 H2->
   (J.stop i H2/\Q (.ref D) H2)\/(J.go i H2/\∃N:St->Hp->Prop,(∀σ' H',N σ' H'->∃m',m' < m/\W (i+1) m' σ' H')/\∀x H3,J.yld i H2 x H3->g x σ2 H3 fun σ4 H4=>tt σ4 H4 fun b H5=>
    if b=true then te σ4 H5 fun y H6=>∃ys,H6 D=some (.lst ys)/\ys.length < sizeLine/\N σ4 (upd H6 D (.lst (ys++[y])))
    else N σ4 H5)) itv s)
  (hR:∀(D C:Addr)(H':Hp)(s':Shared)(mC:Str->Option Value),Inv X pins σ H' s'->s'.heap.Ns C mC->a2P X pins H' C->Q (.ref D) H'->RR (.ref D) C (.ok .next) s'):
  wpAny (model X.prog X.w) X.A (newList []) (fun acc s3=>wpAny (model X.prog X.w) X.A (newFunctionEnv sc X.env.globals (a0M X.env.cells sc.names []) [] X.env.qual none .none (some X.env)) (fun cenv s4=>
   codeAny (model X.prog X.w) X.A (.compStart (.ListComp elt [⟨tg,iter,ifs,0⟩] sc pos) 0 itv acc {cenv with scope:=relabel sc X.env}) (RR acc cenv.locals) s4) X.xe s3) X.xe s:=by
 subst hosc hN
 obtain⟨it,fp,tn,J,H2,rfl,I2,T,st2,f2,q2⟩:=h2
 have hcells:∀y∈sc.names,y.2= .free->∃c,X.env.cells.lookup y.1=some c:=fun y hy hf=>I2.ok.has y.1 (S.fre y hy hf)
 have hclx:∀{x c},(a0M X.env.cells sc.names []).lookup x=some c->X.env.cells.lookup x=some c:=fun{x c}e=>(a3w _ _ hcells e).elim id fun z=>by simp at z
 generalize hcl:a0M X.env.cells sc.names []=cl at hclx⊢
 refine wpAny_newObj_type (wpAny_newFunctionEnv S.nocell (by intro y hy;simp at hy) (fun h1 hns hsb=>?_) S.kind)
 dsimp only at hns hsb⊢
 generalize hG:s.heap.push {cls:= .type "list",dict:=none,data:= .seq ([]:List Value).toArray}=G at hns hsb⊢
 have hC:G.objs.size=s.heap.objs.size+1:=by rw[<-hG,Heap.size_push]
 have old:∀b o,s.heap.get? b=some o->h1.get? b=some o:=fun b o e=>
  hsb.extBut b o (BB (by rw[hC];exact Nat.lt_succ_of_lt (AJ e))) (AC _ (hG▸AC _ e))
 have hD1:h1.get? s.heap.objs.size=some {cls:= .type "list",dict:=none,data:= .seq ([]:List Value).toArray}:=
  hsb.extBut _ _ (by rw[hC];exact BB (Nat.lt_succ_self _)) (AC _ (hG▸AI _ rfl))
 have hDn:H2 s.heap.objs.size=none:=I2.hok.fresh (AH _)
 obtain⟨W,⟨m0,w0⟩,turn⟩:=q2 s.heap.objs.size hDn
 have hCle:s.heap.objs.size<=G.objs.size:=by rw[hC];exact Nat.le_succ _
 have hCD:G.objs.size≠s.heap.objs.size:=by rw[hC];exact Nat.succ_ne_self _
 generalize hxe:notedBy (model X.prog X.w) X.A (compEnvC sc cl G.objs.size X.env) (fun e s'=>RR (.ref s.heap.objs.size) G.objs.size (.error e) s')=xe
 have fpC:∀b∈fp,b≠G.objs.size:=fun b hb=>by
  obtain⟨o,e,_⟩:=T.obj 0 _ st2 b hb
  have:=AJ e
  exact BB (AZ this hCle)
 have fpS:∀b∈fp,b∉frs X.stack:=fun b hb z=>by
  obtain⟨f0,f1,f3,_⟩:=f2 b hb
  rcases List.mem_cons.mp (I2.stkSub b z)with e | e
  ·exact f1 e
  ·exact f3 e
 have hok:(D4 X sc cl G.objs.size M s H2 fp xe).Ok:=by
  refine⟨I2.ok.mod,S.kind,I2.ok.glob,I2.ok.blt,hCle,fun x y c e1 e2=>I2.ok.inj x y c (hclx e1) (hclx e2),fun x hx=>?_,(fun x c e _=>absurd (show false=true from e) AE),I2.ok.hd,I2.ok.frames,.inl rfl,fun b hb=>⟨fpC b hb,fun x c e=>(f2 b hb).2.2.2.2.1 x c (hclx e)⟩,
   I2.bs,Nat.le_trans I2.ok.bsz I2.sz,fun b o e hb=>?_,fpS,I2.stack,I2.stkFree⟩
  ·rcases a3a (names:=sc.names) (env:=X.env) hx with q | q
   ·rw[<-hcl];exact a3N _ _ q
   ·exact absurd rfl (S.nocell _ q)
  ·rcases(f2 b hb).2.2.2.1 with z | z
   ·exact I2.ok.noex b o e z
   ·exact absurd (AZ (AJ e) (Nat.le_trans I2.ok.bsz z)) (Nat.lt_irrefl _)
 have I4:Inv (D4 X sc cl G.objs.size M s H2 fp xe) [] (b1e ρ σ) (upd H2 s.heap.objs.size (.lst [])) {s with heap:=h1,toks:=s.toks+([]:List (Str×Value)).length}:=by
  refine⟨hok,rfl,I2.bare,Un.laid old (AH _) hDn,⟨_,hns,fun j x v e1 e2 _=>?_⟩,fun x c e=>?_,?_,fun x c e=>?_,fun p hp=>absurd (show p∈([]:List (Addr×Obj))from hp) (by simp),I2.hok.laid old (AH _) ⟨by show 0<=sizeLine;decide,[],0,.nil,hD1⟩,?_⟩
  ·unfold b1e at e2
   rw[List.getElem?_map]at e2
   cases q:ρ[j]? with
   | none=>rw[q]at e2;cases e2
   | some o=>
    rw[q]at e2
    cases o with
    | none=>cases e2
    | some i=>
     have e2':(σ[i]?).join=some v:=Option.some.inj e2
     have e3:σ[i]?=some (some v):=by
      cases z:σ[i]? with
      | none=>rw[z]at e2';cases e2'
      | some y=>rw[z]at e2';cases y with
       | none=>cases e2'
       | some y=>cases e2';rfl
     have hz:(ρ.zip M)[j]?=some (some i,x):=List.getElem?_zip_eq_some.mpr ⟨q,e1⟩
     have hr:=S.ren (some i,x) (AG hz)
     obtain⟨r1,r2⟩:=of_decide_eq_true hr
     obtain⟨m,hn,hl⟩:=I2.loc
     have hfr:=S.fre _ (PySem.mem_of_lookup r2) rfl
     obtain⟨u,ru,lk⟩:=hl i x v r1 e3 (hfr.elim (fun z=> .inr (.inl z)) fun z=> .inr (.inr z))
     refine⟨u,ru,?_⟩
     rcases lk with⟨k,_⟩ | ⟨_,c,hcc,cell⟩
     ·have k':X.env.scope.names.lookup x=some .local:=k
      rcases hfr with z | z
      ·rw[k']at z;cases z
      ·rw[k']at z;cases z
     ·obtain⟨c',hc'⟩:=a3N (cells:=X.env.cells) sc.names [] (PySem.mem_of_lookup r2)
      rw[hcl]at hc'
      have:=hclx hc'
      rw[hcc]at this
      cases this
      obtain⟨oc,ho,hd⟩:=cell
      exact .inr ⟨a3x r2,_,hc',oc,old _ _ ho,hd⟩
  ·obtain⟨v,oc,ho,hd⟩:=I2.cell x c (hclx e)
   exact⟨v,oc,old _ _ ho,hd⟩
  ·show upd H2 s.heap.objs.size (.lst []) G.objs.size=none
   rw[I0 hCD]
   exact I2.hok.fresh hCle
  ·show upd H2 s.heap.objs.size (.lst []) c=none
   obtain⟨v,oc,ho,hd⟩:=I2.cell x c (hclx e)
   rw[I0 (BB (AJ ho))]
   exact I2.freeC x c (hclx e)
  ·show(b1e ρ σ).length=M.length
   unfold b1e
   rw[List.length_map,S.len]
 have st4:tn 0 h1:=T.keep 0 _ _ st2 fun b _ o e=>old b o e
 have fr4:∀b∈fp,upd H2 s.heap.objs.size (.lst []) b=none:=fun b hb=>by
  obtain⟨o,e,_⟩:=T.obj 0 _ st2 b hb
  rw[I0 (BB (AJ e))]
  exact(f2 b hb).1
 have stat:∀{H':Hp},(∀b∈fp,H' b=none)->∀b∈fp,a2P (D4 X sc cl G.objs.size M s H2 fp xe) [] H' b:=fun hn b hb=>
  ⟨hn b hb,fpC b hb,fpS b hb,.inl hb,fun x c e=>(f2 b hb).2.2.2.2.1 x c (hclx e),fun p hp=>absurd (show p∈([]:List (Addr×Obj))from hp) (by simp)⟩
 have loop:codeAny (model X.prog X.w) X.A (.compLoop (.ListComp elt [⟨tg,iter,ifs,0⟩] sc pos) 0 (.ref it) (.ref s.heap.objs.size) (compEnvC sc cl G.objs.size X.env)) (RR (.ref s.heap.objs.size) G.objs.size)
   {s with heap:=h1,toks:=s.toks+([]:List (Str×Value)).length}:=by
  refine b1v (fun n s'=>∃i σ' H',Inv (D4 X sc cl G.objs.size M s H2 fp xe) [] σ' H' s'/\tn i s'.heap/\(∀b∈fp,H' b=none)/\W i n σ' H') ?_ m0 ⟨0,_,_,I4,st4,fr4,w0⟩
  rw[hxe]
  rintro n s3 ⟨i,σ3,H3,I3,st3,fr3,w3⟩
  rcases turn i n σ3 H3 w3 with⟨stop,qn⟩ | ⟨go,N,hN,step⟩
  ·refine thn (T.done (D4 X sc cl G.objs.size M s H2 fp xe) rfl rfl rfl hc i [] s3 σ3 H3 xe I3 (stat fr3) st3 stop) fun r s4⟨hr,I5⟩=>?_
   subst hr
   obtain⟨mC,nC,_⟩:=I5.loc
   have I6:Inv X pins σ H3 s4:=I2.call' I5.os I5.base I5.hok I5.bare fun b hb=>⟨(f2 b hb).2.2.2.1,(f2 b hb).2.1,(f2 b hb).2.2.2.2.1,(f2 b hb).2.2.2.2.2⟩
   exact hR _ _ H3 s4 mC I6 nC (I2.fpOk hCle I5.free) qn
  ·refine thn (T.item (D4 X sc cl G.objs.size M s H2 fp xe) rfl rfl rfl hc i [] s3 σ3 H3 xe I3 (stat fr3) st3 go) fun r s4⟨u,hr,h4⟩=>?_
   subst hr
   refine thn h4 fun _ s5⟨x,H5,I5,r5,y5,st5,fr5⟩=>?_
   have I5':=I5.pinned (stat fr5) (T.obj _ _ st5)
   refine thn (hg cl G.objs.size s H2 fp xe _ s5 σ3 H5 x u _ I5' r5 (step x H5 y5)) fun _ s6⟨σ6,H6,I6,q6⟩=>?_
   have fin:∀{s7:Shared}{σ7:St}{H7:Hp},Inv (D4 X sc cl G.objs.size M s H2 fp xe) ([]++a5D fp s5.heap) σ7 H7 s7->(∃m',m' < n/\W (i+1) m' σ7 H7)->
     ∃m,m < n/\∃i σ' H',Inv (D4 X sc cl G.objs.size M s H2 fp xe) [] σ' H' s7/\tn i s7.heap/\(∀b∈fp,H' b=none)/\W i m σ' H':=fun{s7 σ7 H7}I7⟨m',hm,w7⟩=>by
    refine⟨m',hm,i+1,σ7,H7,I7.unpinned,T.keep _ _ _ st5 fun b hb o e=>(I7.pin (b,o) (AR _ (AR _ (a1A hb e)))).1,fun b hb=>?_,w7⟩
    obtain⟨o,e,d⟩:=T.obj _ _ st5 b hb
    exact(I7.pin (b,o) (AR _ (AR _ (a1A hb e)))).2.1
   refine thn (ht cl G.objs.size s H2 fp xe _ s6 σ6 H6 _ I6 q6) fun ok s7⟨H7,I7,q7⟩=>?_
   cases ok with
   | false=>
    rw[if_neg AE]at q7⊢
    exact fin I7 (hN _ _ q7)
   | true=>
    rw[if_pos rfl]at q7⊢
    refine thn (he cl G.objs.size s H2 fp xe _ s7 σ6 H7 _ I7 q7) fun y s8⟨yv,H8,I8,r8,ys,hys,hlt,q8⟩=>?_
    obtain⟨z,its,k,rv,hl,e⟩:=I8.lstM hys
    refine call_meets F.slot_list_append ⟨_,e,rfl⟩ F.entry_list_append (F.args_list_append_2 _ _) (PySem.list_append _ its.toArray k y (by rw[List.size_toArray];omega)) ⟨e,?_⟩
    exact fin (I8.lset (its':=its++[y]) hys e (by simp) (rv.append (.cons r8 .nil)) (by rw[List.length_append,List.length_singleton];omega)) (hN _ _ q8)
 exact codeAny_compStart_list loop (T.self X.A 0 _ _ _ st4 loop)
theorem a2G(osc:Scope)(N:List Str)(S:a2y osc N sc M ρ)(hi:PI X tg iter wi)(hg:∀cl C s H fp xe,PG (D4 X sc cl C M s H fp xe) tg g)(ht:∀cl C s H fp xe,PTs (D4 X sc cl C M s H fp xe) ifs tt)
  (he:∀cl C s H fp xe,PE (D4 X sc cl C M s H fp xe) elt te)(hosc:X.env.scope=osc:=by rfl)(hN:X.N=N:=by rfl)(hc:X.calm=true:=by rfl)(hs:∀x,foldedSetIterable iter X.env x=pure x:=by intro _;rfl):
  PE X (.ListComp elt [⟨tg,iter,ifs,0⟩] sc pos) (b5d wi ρ g tt te):=by
 intro pins s σ H Q I h
 have hcells:∀y∈sc.names,y.2= .free->∃c,X.env.cells.lookup y.1=some c:=fun y hy hf=>I.ok.has y.1 (by show X.env.scope.names.lookup y.1=_\/X.env.scope.names.lookup y.1=_;rw[hosc];exact S.fre y hy hf)
 rw[eval_ListComp]
 refine wpAny_comprehension_free (M:=model X.prog X.w) (A:=X.A) (E:=X.xe) (e:= .ListComp elt [⟨tg,iter,ifs,0⟩] sc pos) rfl hs (a3m hcells) S.kind S.own (thn (hi pins s σ H _ I h) fun v s1 h1=>thn h1 fun itv s2 h2=>?_)
 obtain⟨_,_,_,_,_,_,I2,_⟩:=id h2
 refine a5J (RR:=fun acc C=>compPost (model X.prog X.w) X.A X.xe none (EP X pins σ Q) acc C) osc hosc N hN S hc hg ht he I2 h2 fun D C H' s' mC I' nC fC q=>?_
 refine⟨mC,nC,fun h' sb=>?_⟩
 obtain⟨f0,f1,_,f3,f4,f5⟩:=fC
 exact⟨.ref D,H',I'.turned (t':=s'.toks) (fun b o hb e=>(sb.2 b hb).trans e) f0 f1 f3 f4 f5,rfl,q⟩
theorem a7v{j:Nat}{x:Str}{px spos:Pos}(osc:Scope)(N:List Str)(S:a2y osc N sc M ρ)(hNd:X.N.Nodup)(hj:X.N[j]?=some x)(hx:Loc X.env.scope x)(hi:PI X tg iter wi)(hg:∀cl C s H fp xe,PG (D4 X sc cl C M s H fp xe) tg g)
  (ht:∀cl C s H fp xe,PTs (D4 X sc cl C M s H fp xe) ifs tt)(he:∀cl C s H fp xe,PE (D4 X sc cl C M s H fp xe) elt te)
  (hsw:swapsWith (.ListComp elt [⟨tg,iter,ifs,0⟩] sc pos) (some (.Name x px)) spos.line X.env=pure true:=by rfl)(hosc:X.env.scope=osc:=by rfl)(hN:X.N=N:=by rfl)(hc:X.calm=true:=by rfl)(hs:∀x,foldedSetIterable iter X.env x=pure x:=by intro _;rfl)
  (hf:X.fn x=true\/X.env.scope.names.lookup x=some .local:=by first | exact .inl rfl | exact .inr rfl | assumption):
  PS X (.Assign [.Name x px] (.ListComp elt [⟨tg,iter,ifs,0⟩] sc pos) spos) (b4y (b5d wi ρ g tt te) (a0s j)):=by
 intro pins s σ H D I h
 have hcells:∀y∈sc.names,y.2= .free->∃c,X.env.cells.lookup y.1=some c:=fun y hy hf=>I.ok.has y.1 (by show X.env.scope.names.lookup y.1=_\/X.env.scope.names.lookup y.1=_;rw[hosc];exact S.fre y hy hf)
 rw[exec_Assign_Name_used _ _ _ _ hsw]
 refine AA (wpAny_standAt (AA ?_))
 show wpAny (model X.prog X.w) X.A (do let _<-comprehension (.ListComp elt [⟨tg,iter,ifs,0⟩] sc pos) sc X.env (firstIterPos [⟨tg,iter,ifs,0⟩] pos) (newList []) false (eval iter X.env) (some (assign (.Name x px) X.env))) _ X.xe s
 refine AA (thn (Q:=fun _ s'=>SP X pins D .next s') (wpAny_comprehension_free (M:=model X.prog X.w) (A:=X.A) (E:=X.xe) (e:= .ListComp elt [⟨tg,iter,ifs,0⟩] sc pos) (use:=some (assign (.Name x px) X.env)) rfl hs (a3m hcells) S.kind S.own
  (thn (hi pins s σ H _ I h) fun v s1 h1=>thn h1 fun itv s2 h2=>?_)) fun _ s' hq=>AB (AB hq))
 obtain⟨_,_,_,_,_,_,I2,_⟩:=id h2
 refine a5J (Q:=fun v H'=>a0s j v σ H' D.nx) (RR:=fun acc C=>compPost (model X.prog X.w) X.A X.xe (some (assign (.Name x px) X.env)) (fun _ s'=>SP X pins D .next s') acc C) osc hosc N hN S hc hg ht he I2 h2 fun D' C H' s' mC I' nC fC q=>?_
 show wpAny _ _ (assign (.Name x px) X.env (.ref D')) _ _ s'
 refine wpAny_assign_Name (a6n I' hNd hj hx (v:= .ref D') rfl (fun s3 I3⟨a,sb,ha⟩=>?_) hf)
 have hCa:C≠a:=by
  rcases ha with e | e
  ·rw[e];exact fC.2.1
  ·exact fun z=>fC.2.2.2.2.1 x a e z.symm
 refine⟨mC,nC.sameBut sb hCa,fun h' sb2=>?_⟩
 obtain⟨f0,f1,_,f3,f4,f5⟩:=fC
 exact⟨_,H',I3.turned (t':=s3.toks) (fun b o hb e=>(sb2.2 b hb).trans e) f0 f1 f3 f4 f5,q⟩
end
end L2
namespace L2
open PySem PySem.Spec PyProof.Rows
section
variable{X:Cx}{tg:Expr}
theorem b0g{K:W.Frag}(h:X.K=K):IxR X (b6y K):=h▸U0
theorem a5d{K:W.Frag}(h:X.K=K):a0R X (.type "tuple") (fun xs H Q=>∃p ys,xs=[.ref p]/\((SqL K H p ys/\∀l,H l=none->Q (.ref l) (upd H l (.tup ys)))\/(SqT K H p ys/\Q (.ref p) H))):=h▸Z3
theorem a3c{K:W.Frag}{pos:Pos}{es:List Expr}{k:Nat}{t:TGs}{n:Nat}(hK:X.K=K)(hc:X.calm=true)(h:PGs X es t)(hn:(assignEach es X.env).length=n:=by rfl)(hst:(assignEach es X.env).findIdx? (·.1)=none:=by rfl):PG X (.Tuple es k pos) (b6K K n t):=hK▸D8 hc h hn hst
end
end L2
namespace L2
open PySem PySem.Spec PyProof.Rows
noncomputable def a6I (H:Hp) (v:V) (d:Str×Str):Prop:=∃p,v= .ref p/\H p=some (.tup [.str d.1,.str d.2])/\F7 d.1/\F7 d.2
noncomputable abbrev a6G (H:Hp):List V->List (Str×Str)->Prop:=Paired (a6I H)
theorem a6I.mono{H H':Hp}(s:R1 H H'){v:V}{t:Str×Str}(h:a6I H v t):a6I H' v t:=by
 obtain⟨p,e,h,o⟩:=h
 exact⟨p,e,s p _ h,o⟩
theorem a6G.mono{H H':Hp}(s:R1 H H'){vs:List V}{ts:List (Str×Str)}(h:a6G H vs ts):a6G H' vs ts:=Paired.mapP h fun _ _ q=>q.mono s
structure a0Z(H:Hp)(t:Addr)(ps:List (Str×Str)):Prop where
 ex:∃vs,H t=some (.tup vs)/\a6G H vs ps
 hi:ps.length<=6
theorem a0Z.mono{H H':Hp}(s:R1 H H'){t:Addr}{ts:List (Str×Str)}(h:a0Z H t ts):a0Z H' t ts:=by
 obtain⟨⟨vs,h1,h2⟩,hi⟩:=h
 exact⟨⟨vs,s t _ h1,h2.mono s⟩,hi⟩
noncomputable def a7P:Option Str->V
 | none=> .non
 | some x=> .str x
structure a9P(ts:List (Int×Th)):Prop where
 lo:1<=ts.length
 hi:ts.length<=6
 th:∀p∈ts,b1K p.2
 sg:∀p∈ts,p.1=1\/p.1= -1
 hd:∀p,ts.head?=some p->p.1=1
inductive Rw where
 | bring (p:Str) (ps:List (Str×Str))
 | give (o g:Str)
 | set (o:Str) (ts:List (Int×Th))
 | take (o:Str)
 | say (ts:List (Int×Th)) (w:Option Str)
 | need (ts:List (Int×Th))
 | ask (p:Str) (w:Option Str)
 | part (p:Str)
 | doo (p:Str)
noncomputable def a0Q (H:Hp) (r:Addr):Rw->Prop
 | .bring p ps=>∃t,H r=some (.tup [.str "bring",.str p,.ref t])/\a0Z H t ps
 | .give o g=>H r=some (.tup [.str "give",.str o,.str g])
 | .set o ts=>∃t,H r=some (.tup [.str "set",.str o,.ref t])/\a1c H t ts
 | .take o=>H r=some (.tup [.str "take",.str o])
 | .say ts w=>∃t,H r=some (.tup [.str "say",.ref t,a7P w])/\a1c H t ts
 | .need ts=>∃t,H r=some (.tup [.str "need",.ref t])/\a1c H t ts
 | .ask p w=>H r=some (.tup [.str "ask",.str p,a7P w])
 | .part p=>H r=some (.tup [.str "part",.str p])
 | .doo p=>H r=some (.tup [.str "do",.str p])
theorem a0Q.mono{H H':Hp}(s:R1 H H'){r:Addr}{rw:Rw}(h:a0Q H r rw):a0Q H' r rw:=by
 cases rw with
 | bring p ps=>obtain⟨t,h1,h2⟩:=h;exact⟨t,s _ _ h1,h2.mono s⟩
 | give o g=>exact s _ _ h
 | set o ts=>obtain⟨t,h1,h2⟩:=h;exact⟨t,s _ _ h1,h2.mono s⟩
 | take o=>exact s _ _ h
 | say ts w=>obtain⟨t,h1,h2⟩:=h;exact⟨t,s _ _ h1,h2.mono s⟩
 | need ts=>obtain⟨t,h1,h2⟩:=h;exact⟨t,s _ _ h1,h2.mono s⟩
 | ask p w=>exact s _ _ h
 | part p=>exact s _ _ h
 | doo p=>exact s _ _ h
end L2
namespace L2
open PySem PySem.Spec PyProof.Rows
section
variable{X:Cx}{elts:List Expr}{k:Nat}{tpos:Pos}
end
end L2
namespace L2
open PySem PySem.Spec PyProof.Rows
theorem a9N(a b:Str):(a++b).cps.toList=a.cps.toList++b.cps.toList:=by
 show(a.cps++b.cps).toList=_
 simp
noncomputable abbrev Pt:=Str×List Rw
noncomputable def b7q (H:Hp) (v:V) (rw:Rw):Prop:=∃r,v= .ref r/\a0Q H r rw
noncomputable abbrev a0e (H:Hp):List V->List Rw->Prop:=Paired (b7q H)
theorem a0e.mono{H H':Hp}(s:R1 H H'){vs:List V}{rs:List Rw}(h:a0e H vs rs):a0e H' vs rs:=Paired.mapP h fun _ _⟨r,e,q⟩=>⟨r,e,q.mono s⟩
noncomputable def a1G (H:Hp) (v:V) (p:Pt):Prop:=∃t u vs,v= .ref t/\H t=some (.tup [.str p.1,.ref u])/\H u=some (.tup vs)/\a0e H vs p.2
theorem a1G.mono{H H':Hp}(s:R1 H H'){v:V}{p:Pt}(h:a1G H v p):a1G H' v p:=by
 obtain⟨t,u,vs,e,h1,h2,h3⟩:=h
 exact⟨t,u,vs,e,s _ _ h1,s _ _ h2,h3.mono s⟩
end L2
namespace L2
open PySem PySem.Spec PyProof.Rows
section
variable{κ:Type}[DecidableEq κ]
noncomputable def Y7 (kvs:List (κ×V)) (k:κ):Option V:=(kvs.find? fun kv=>decide (kv.1=k)).map (·.2)
noncomputable def O0 (kvs:List (κ×V)) (k:κ) (v:V):List (κ×V):=
 if(kvs.any fun kv=>decide (kv.1=k))=true then kvs.map (fun kv=>if kv.1=k then(kv.1,v)else kv)else kvs++[(k,v)]
theorem b2Y{k:κ}:Y7 ([]:List (κ×V)) k=none:=rfl
theorem E1{p:κ×V}{r:List (κ×V)}{k:κ}(e:p.1=k):Y7 (p::r) k=some p.2:=by simp[Y7,List.find?_cons,e]
theorem O2{p:κ×V}{r:List (κ×V)}{k:κ}(e:¬p.1=k):Y7 (p::r) k=Y7 r k:=by simp[Y7,List.find?_cons,e]
theorem a1Y(k:κ):∀kvs:List (κ×V),(kvs.any fun kv=>decide (kv.1=k))=(Y7 kvs k).isSome
 | []=>rfl
 | p::r=>by
  rw[List.any_cons]
  by_cases e:p.1=k
  ·simp only[E1 e,decide_eq_true e,Bool.true_or,Option.isSome_some]
  ·rw[O2 e,AW e,Bool.false_or];exact a1Y k r
theorem a8e(k j:κ)(y:V):∀kvs:List (κ×V),Y7 (kvs.map fun kv=>if kv.1=k then(kv.1,y)else kv) j=(Y7 kvs j).map fun x=>if j=k then y else x
 | []=>rfl
 | p::r=>by
  have ih:=a8e k j y r
  rw[List.map_cons]
  by_cases h:p.1=k
  ·rw[if_pos h]
   by_cases e:p.1=j
   ·rw[E1 (p:=(p.1,y)) e,E1 e,Option.map_some,if_pos (e.symm.trans h)]
   ·rw[O2 (p:=(p.1,y)) e,O2 e,ih]
  ·rw[if_neg h]
   by_cases e:p.1=j
   ·rw[E1 (p:=p) e,E1 e,Option.map_some,if_neg (fun z=>h (e.trans z))]
   ·rw[O2 (p:=p) e,O2 e,ih]
theorem a6l(k j:κ)(y:V):∀kvs:List (κ×V),Y7 kvs k=none->Y7 (kvs++[(k,y)]) j=if j=k then some y else Y7 kvs j
 | [],_=>by
  by_cases e:k=j
  ·rw[if_pos e.symm];exact E1 (p:=(k,y)) e
  ·rw[if_neg (fun z=>e z.symm)];exact O2 (p:=(k,y)) e
 | p::r,hn=>by
  rw[List.cons_append]
  have hk:¬p.1=k:=fun z=>by rw[E1 z]at hn;cases hn
  rw[O2 hk]at hn
  have ih:=a6l k j y r hn
  by_cases e:p.1=j
  ·rw[E1 e,E1 e,if_neg (fun z=>hk (e.trans z))]
  ·rw[O2 e,O2 e,ih]
theorem O8(kvs:List (κ×V))(k j:κ)(y:V):Y7 (O0 kvs k y) j=if j=k then some y else Y7 kvs j:=by
 unfold O0
 by_cases a:(kvs.any fun kv=>decide (kv.1=k))=true
 ·rw[if_pos a,a8e]
  rw[a1Y]at a
  by_cases e:j=k
  ·obtain⟨x,hx⟩:=Option.isSome_iff_exists.mp a
   rw[if_pos e,e,hx,Option.map_some,if_pos rfl]
  ·rw[if_neg e]
   cases Y7 kvs j with
   | none=>rfl
   | some x=>rw[Option.map_some,if_neg e]
 ·rw[if_neg a]
  refine a6l k j y kvs ?_
  rw[a1Y]at a
  cases q:Y7 kvs k with
  | none=>rfl
  | some x=>rw[q]at a;exact(a rfl).elim
theorem D5(kvs:List (κ×V))(k:κ)(v:V):(O0 kvs k v).length<=kvs.length+1:=by
 unfold O0
 split
 ·rw[List.length_map];omega
 ·rw[List.length_append,List.length_cons,List.length_nil];omega
theorem a3J.isSome_eq{o:Option V}{u:Option Value}(r:a3J o u):o.isSome=u.isSome:=by
 cases o with
 | none=>cases u with
  | none=>rfl
  | some _=>exact(show False from r).elim
 | some _=>cases u with
  | none=>exact(show False from r).elim
  | some _=>rfl
theorem KV.val{kvs:List (κ×V)}{vs:List (κ×Value)}(r:KV kvs vs)(k:κ):a3J (Y7 kvs k) (valueAt vs k):=by
 unfold KV at r
 induction r with
 | nil=>exact True.intro
 | @cons p q ps qs h t ih=>
  obtain⟨h1,h2⟩:=h
  by_cases e:p.1=k
  ·have e':q.1=k:=h1.symm.trans e
   have b:valueAt (q::qs) k=some q.2:=by simp[valueAt,List.find?_cons,e']
   rw[E1 e,b];exact h2
  ·have e':¬q.1=k:=fun z=>e (h1.trans z)
   have b:valueAt (q::qs) k=valueAt qs k:=by simp[valueAt,List.find?_cons,e']
   rw[O2 e,b];exact ih
theorem KV.any{kvs:List (κ×V)}{vs:List (κ×Value)}(r:KV kvs vs)(k:κ):(kvs.any fun kv=>decide (kv.1=k))=vs.any fun kv=>decide (kv.1=k):=by
 unfold KV at r
 induction r with
 | nil=>rfl
 | cons h t ih=>rw[List.any_cons,List.any_cons,ih,h.1]
theorem KV.repl{kvs:List (κ×V)}{vs:List (κ×Value)}(r:KV kvs vs)(k:κ){y:V}{u:Value}(ry:U8 y u):
  KV (kvs.map fun kv=>if kv.1=k then(kv.1,y)else kv) (vs.map fun kv=>if kv.1=k then(kv.1,u)else kv):=by
 unfold KV at r⊢
 induction r with
 | nil=>exact .nil
 | @cons p q ps qs h t ih=>
  rw[List.map_cons,List.map_cons]
  refine .cons ?_ ih
  obtain⟨h1,h2⟩:=h
  by_cases e:p.1=k
  ·rw[if_pos e,if_pos (h1.symm.trans e)];exact⟨h1,ry⟩
  ·rw[if_neg e,if_neg (fun z=>e (h1.trans z))];exact⟨h1,h2⟩
theorem KV.put{kvs:List (κ×V)}{vs:List (κ×Value)}(r:KV kvs vs)(k:κ){y:V}{u:Value}(ry:U8 y u):KV (O0 kvs k y) (stored vs k u):=by
 unfold O0 stored
 rw[r.any k]
 by_cases e:(vs.any fun kv=>decide (kv.1=k))=true
 ·rw[if_pos e,if_pos e];exact r.repl k ry
 ·rw[if_neg e,if_neg e];exact Paired.snoc r ⟨rfl,ry⟩
theorem KV.length{kvs:List (κ×V)}{vs:List (κ×Value)}(r:KV kvs vs):kvs.length=vs.length:=AF r
end
theorem a6r{P:Program}{w:World}{k:Key}{u:Value}(r:U8 (kV k) u):(Y6 P w).is k u=true:=by
 cases k with
 | inl i=>obtain⟨t,e⟩:=(show∃t,u=Value.int i t from r);subst e;exact a8b P w i t
 | inr x=>obtain⟨t,e⟩:=(show∃t,u=Value.str x t from r);subst e;exact a4l P w x t
theorem a5T{P:Program}{w:World}:∀{ks:List Key}{us:List Value},W0 (ks.map kV) us->ItemsAre (Y6 P w) ks us
 | [],_,r=>by rw[List.map_nil]at r;cases r;exact .nil
 | k::ks,_,r=>by
  rw[List.map_cons]at r
  cases r with
  | cons h t=>exact .cons (a6r h) (a5T t)
noncomputable abbrev KT (H:Hp):List (List Key×V)->List (List Key×Addr×Value)->Prop:=Paired fun p q=>p.1=q.1/\H q.2.1=some (.tup (p.1.map kV))/\U8 p.2 q.2.2
theorem KT.val{H:Hp}{kvs:List (List Key×V)}{xs:List (List Key×Addr×Value)}(r:KT H kvs xs)(k:List Key):a3J (Y7 kvs k) ((atKey xs k).map (·.2)):=by
 induction r with
 | nil=>exact True.intro
 | @cons p q ps qs h t ih=>
  obtain⟨h1,_,h2⟩:=h
  by_cases e:p.1=k
  ·have e':q.1=k:=h1.symm.trans e
   have b:atKey (q::qs) k=some q.2:=by simp[atKey,List.find?_cons,e']
   rw[E1 e,b];exact h2
  ·have e':¬q.1=k:=fun z=>e (h1.trans z)
   have b:atKey (q::qs) k=atKey qs k:=by simp[atKey,List.find?_cons,e']
   rw[O2 e,b];exact ih
theorem KT.repl{H:Hp}{kvs:List (List Key×V)}{xs:List (List Key×Addr×Value)}(r:KT H kvs xs)(k:List Key){y:V}{u:Value}(ry:U8 y u):
  KT H (kvs.map fun kv=>if kv.1=k then(kv.1,y)else kv) (xs.map (putAt k u)):=by
 induction r with
 | nil=>exact .nil
 | @cons p q ps qs h t ih=>
  rw[List.map_cons,List.map_cons]
  refine .cons ?_ ih
  obtain⟨h1,h2,h3⟩:=h
  unfold putAt
  by_cases e:p.1=k
  ·rw[if_pos e,if_pos (h1.symm.trans e)];exact⟨h1,h2,ry⟩
  ·rw[if_neg e,if_neg (fun z=>e (h1.trans z))];exact⟨h1,h2,h3⟩
theorem KT.put{H:Hp}{kvs:List (List Key×V)}{xs:List (List Key×Addr×Value)}(r:KT H kvs xs)(k:List Key){b:Addr}{y:V}{u:Value}(hb:H b=some (.tup (k.map kV)))(ry:U8 y u):
  KT H (O0 kvs k y) (storedH xs k b u):=by
 have e:(kvs.any fun kv=>decide (kv.1=k))=(atKey xs k).isSome:=by
  rw[a1Y,(r.val k).isSome_eq,Option.isSome_map]
 unfold O0 storedH
 rw[e]
 by_cases q:(atKey xs k).isSome=true
 ·rw[if_pos q,if_pos q];exact r.repl k ry
 ·rw[if_neg q,if_neg q];exact Paired.snoc r ⟨rfl,hb,ry⟩
theorem KT.keeps{H H':Hp}{kvs:List (List Key×V)}{xs:List (List Key×Addr×Value)}(r:KT H kvs xs)(ht:∀b ys,H b=some (.tup ys)->H' b=some (.tup ys)):KT H' kvs xs:=
 Paired.mapP r fun _ _ z=>⟨z.1,ht _ _ z.2.1,z.2.2⟩
section
variable{P:Program}{w:World}{H:Hp}{h:Heap}{a:Addr}
theorem b4Z{u:HO}(ok:HOk P w H h)(e:Rd H a u):Y3 P w H h a u:=e.ok ok
theorem a6E{kvs:List (Key×V)}(ok:HOk P w H h)(e:Rd H a (.dK kvs)):kvs.length<=sizeLine/\(a==sysModules)=false/\∃vs,KV kvs vs/\h.DictOf (Y6 P w) a vs:=
 show Y3 P w H h a (.dK kvs)from b4Z ok e
theorem b3h{kvs:List (Key×V)}(ok:HOk P w H h)(e:H a=some (.dK kvs)):kvs.length<=sizeLine/\(a==sysModules)=false/\∃vs,KV kvs vs/\h.DictOf (Y6 P w) a vs:=a6E ok (.inl e)
theorem a5f{ks:List Key}(ok:HOk P w H h)(e:H a=some (.tup (ks.map kV))):(tupleKind (Y6 P w)).is h ks a:=by
 obtain⟨_,its,r,o,h1,h2,n,h3⟩:=(show Y3 P w H h a (.tup (ks.map kV))from ok a _ e)
 exact⟨o,its.toArray,n,h1,h2,h3,by simpa using a5T r⟩
theorem a6t{kvs:List (List Key×V)}(ok:HOk P w H h)(e:Rd H a (.dT kvs)):kvs.length<=sizeLine/\(a==sysModules)=false/\
  ∃xs,KT H kvs xs/\h.DictOfH (tupleKind (Y6 P w)) a xs:=by
 obtain⟨z,y,xs,r,o,es,ep,h1,h2,h3,h4,h5⟩:=(show Y3 P w H h a (.dT kvs)from b4Z ok e)
 refine⟨z,y,xs,r,o,es,ep,h1,h2,h3,h4,fun x hx=>?_,h5⟩
 have all:∀{l:List (List Key×V)}{m:List (List Key×Addr×Value)},KT H l m->∀x∈m,(tupleKind (Y6 P w)).is h x.1 x.2.1:=by
  intro l m q
  induction q with
  | nil=>intro x hx;exact nomatch hx
  | @cons p q ps qs hq t ih=>
   intro x hx
   rcases List.mem_cons.mp hx with e | hx
   ·subst e
    exact a5f ok (by rw[<-hq.1];exact hq.2.1)
   ·exact ih x hx
 exact all r x hx
theorem b6X{kvs:List (List Key×V)}(ok:HOk P w H h)(e:H a=some (.dT kvs)):kvs.length<=sizeLine/\(a==sysModules)=false/\
  ∃xs,KT H kvs xs/\h.DictOfH (tupleKind (Y6 P w)) a xs:=a6t ok (.inl e)
end
noncomputable def D3 (H:Hp) (a:Addr) (y:V) (r:Option V):Prop:=
 (∃kvs k,Rd H a (.dK kvs)/\y=kV k/\r=Y7 kvs k)\/∃kvs k b,Rd H a (.dT kvs)/\y= .ref b/\H b=some (.tup (k.map kV))/\r=Y7 kvs k
noncomputable def a1L (H:Hp) (a:Addr) (y v:V) (H':Hp):Prop:=
 (∃kvs k,H a=some (.dK kvs)/\y=kV k/\kvs.length < sizeLine/\H'=upd H a (.dK (O0 kvs k v)))\/
 ∃kvs k b,H a=some (.dT kvs)/\y= .ref b/\H b=some (.tup (k.map kV))/\kvs.length < sizeLine/\H'=upd H a (.dT (O0 kvs k v))
theorem D3.k{H:Hp}{a:Addr}{kvs:List (Key×V)}{k:Key}(e:H a=some (.dK kvs)):D3 H a (kV k) (Y7 kvs k):= .inl ⟨kvs,k,.inl e,rfl,rfl⟩
theorem D3.t{H:Hp}{a b:Addr}{kvs:List (List Key×V)}{k:List Key}(e:H a=some (.dT kvs))(eb:H b=some (.tup (k.map kV))):D3 H a (.ref b) (Y7 kvs k):= .inr ⟨kvs,k,b,.inl e,rfl,eb,rfl⟩
theorem a1L.k{H:Hp}{a:Addr}{kvs:List (Key×V)}{k:Key}{v:V}(e:H a=some (.dK kvs))(hl:kvs.length < sizeLine):a1L H a (kV k) v (upd H a (.dK (O0 kvs k v))):= .inl ⟨kvs,k,e,rfl,hl,rfl⟩
theorem a1L.t{H:Hp}{a b:Addr}{kvs:List (List Key×V)}{k:List Key}{v:V}(e:H a=some (.dT kvs))(eb:H b=some (.tup (k.map kV)))(hl:kvs.length < sizeLine):
  a1L H a (.ref b) v (upd H a (.dT (O0 kvs k v))):= .inr ⟨kvs,k,b,e,rfl,eb,hl,rfl⟩
section
variable{X:Cx}{pins:List (Addr×Obj)}{σ:St}{H:Hp}{s:Shared}{a:Addr}{y v:V}{u r:Value}{o:Option V}{A:Around}{E:Value->Shared->Prop}
theorem Inv.big(I:Inv X pins σ H s):sysModules < s.heap.objs.size:=by
 have h:mainGlobals < s.heap.objs.size:=(I.mod.glob.keeps I.bk).lt
 exact Nat.lt_trans (by decide) h
theorem b0Z{Q:Value->Shared->Prop}(hu:A.units+1 < cLine)(I:Inv X pins σ H s)(g:D3 H a y (some v))(ry:U8 y u)(h:∀w' s',Inv X pins σ H s'->U8 v w'->Q w' s'):
  wpAny (model X.prog X.w) A (getItem (.ref a) u) Q E s:=by
 rcases g with⟨kvs,k,e,ey,l⟩ | ⟨kvs,k,b,e,ey,eb,l⟩
 ·subst ey
  obtain⟨z,hd,vs,rel,dd⟩:=a6E I.hok e
  obtain⟨w',hw,rw'⟩:=a3J.some_of (v:=v) (o:=valueAt vs k) (by rw[l];exact rel.val k)
  exact wpAny_getItem_of (a6r ry) dd.mapOf hw (h w' _ (I.tok _) rw')
 ·subst ey
  cases(show u=Value.ref b from ry)
  obtain⟨z,hd,xs,rel,dd⟩:=a6t I.hok e
  obtain⟨w',hw,rw'⟩:=a3J.some_of (v:=v) (o:=(atKey xs k).map (·.2)) (by rw[l];exact rel.val k)
  obtain⟨p,hp,hp2⟩:=Option.map_eq_some_iff.mp hw
  refine wpAny_getItem_heap (tupleKind_room_in1 hu) (a5f I.hok eb) dd hp ?_
  rw[hp2]
  exact h w' _ (I.tok _) rw'
theorem b7r{Q:Value->Shared->Prop}(hu:A.units+1 < cLine)(I:Inv X pins σ H s)(g:D3 H a y o)(ry:U8 y u)(h:∀s',Inv X pins σ H s'->Q (.bool o.isSome) s'):
  wpAny (model X.prog X.w) A (compareOp .In u (.ref a)) Q E s:=by
 rcases g with⟨kvs,k,e,ey,l⟩ | ⟨kvs,k,b,e,ey,eb,l⟩
 ·subst ey
  obtain⟨z,hd,vs,rel,dd⟩:=a6E I.hok e
  refine wpAny_in_of (a6r ry) hd dd.mapOf ?_
  rw[<-(rel.val k).isSome_eq,<-l]
  exact h _ (I.tok _)
 ·subst ey
  cases(show u=Value.ref b from ry)
  obtain⟨z,hd,xs,rel,dd⟩:=a6t I.hok e
  refine wpAny_in_heap (tupleKind_room_in1 hu) (a5f I.hok eb) hd dd ?_
  have q:=(rel.val k).isSome_eq
  rw[Option.isSome_map]at q
  rw[<-q,<-l]
  exact h _ (I.tok _)
theorem b4x{Q:Value->Shared->Prop}(hu:A.units+1 < cLine)(I:Inv X pins σ H s)(g:D3 H a y o)(ry:U8 y u)(h:∀s',Inv X pins σ H s'->Q (.bool (!o.isSome)) s'):
  wpAny (model X.prog X.w) A (compareOp .NotIn u (.ref a)) Q E s:=by
 rcases g with⟨kvs,k,e,ey,l⟩ | ⟨kvs,k,b,e,ey,eb,l⟩
 ·subst ey
  obtain⟨z,hd,vs,rel,dd⟩:=a6E I.hok e
  refine wpAny_notIn_of (a6r ry) hd dd.mapOf ?_
  rw[<-(rel.val k).isSome_eq,<-l]
  exact h _ (I.tok _)
 ·subst ey
  cases(show u=Value.ref b from ry)
  obtain⟨z,hd,xs,rel,dd⟩:=a6t I.hok e
  refine wpAny_notIn_heap (tupleKind_room_in1 hu) (a5f I.hok eb) hd dd ?_
  have q:=(rel.val k).isSome_eq
  rw[Option.isSome_map]at q
  rw[<-q,<-l]
  exact h _ (I.tok _)
theorem a4E{h':Heap}{t':Nat}{ob:HO}(I:Inv X pins σ H s)(mu:Mut (H a))(hs:Heap.SameBut a s.heap h')(he:∃q,h'.get? a=some q)(new:Y3 X.prog X.w (upd H a ob) h' a ob):
  Inv X pins σ (upd H a ob) {s with heap:=h',toks:=t'}:=
 I.write (x:=a) (e:=a) mu (.inl rfl) (fun b q hb z=>(hs.2 b hb).trans z) he new
theorem a8P{P:Program}{w:World}{H':Hp}{h':Heap}{kvs:List (Key×V)}{vs:List (Key×Value)}(z:kvs.length<=sizeLine)(hd:(a==sysModules)=false)(rel:KV kvs vs)(dd:h'.DictOf (Y6 P w) a vs):
  Y3 P w H' h' a (.dK kvs):=⟨z,hd,vs,rel,dd⟩
theorem b1C{H':Hp}{Q:Unit->Shared->Prop}(hu:A.units+1 < cLine)(I:Inv X pins σ H s)(g:a1L H a y v H')(ry:U8 y u)(rv:U8 v r)(h:∀s',Inv X pins σ H' s'->Q () s'):
  wpAny (model X.prog X.w) A (setItem (.ref a) u r) Q E s:=by
 rcases g with⟨kvs,k,e,ey,l,eH⟩ | ⟨kvs,k,b,e,ey,eb,l,eH⟩
 ·subst ey eH
  obtain⟨z,hd,vs,rel,dd⟩:=b3h I.hok e
  have hz:vs.length<=sizeLine:=by rw[<-rel.length];exact z
  have hl:(O0 kvs k v).length<=sizeLine:=by have:=D5 kvs k v;omega
  refine wpAny_setItem_pairs (hsz:=hz) (a6r ry) dd fun h' dd' hs=>h _ ?_
  have he:∃q,h'.get? a=some q:=let⟨q,_,_,hq,_⟩:=dd';⟨q,hq⟩
  exact a4E I (by rw[e];exact True.intro) hs he (a8P hl hd (rel.put k rv) dd')
 ·subst ey eH
  cases(show u=Value.ref b from ry)
  obtain⟨z,hd,xs,rel,dd⟩:=b6X I.hok e
  have hz:xs.length<=sizeLine:=by rw[<-AF rel];exact z
  have hl:(O0 kvs k v).length<=sizeLine:=by have:=D5 kvs k v;omega
  refine wpAny_setItem_heap (hsz:=hz) (tupleKind_room_in1 hu) (a5f I.hok eb) dd fun h' dd' hs=>h _ ?_
  obtain⟨q,es,ep,hq,h2,h3,h4,_,h5⟩:=dd'
  refine a4E I (by rw[e];exact True.intro) hs ⟨q,hq⟩ ⟨hl,hd,_,(rel.put k eb rv).keeps fun c ys ec=>?_,q,es,ep,hq,h2,h3,h4,h5⟩
  rw[I0 (a7E ec e (fun z=>nomatch z))]
  exact ec
end
section
variable{X:Cx}{pins:List (Addr×Obj)}{σ:St}{H:Hp}{s:Shared}{a:Addr}{kvs:List (Key×V)}{k:Key}{u:Value}{A:Around}{E:Value->Shared->Prop}
end
noncomputable def b6E (i:Expr):Prop:=∀ov iv,subscripted i false ov iv=operate [ov,iv] (getItem ov iv)
theorem b4Q{prog:Program}{w:World}{A:Around}{E:Value->Shared->Prop}{s:Shared}{env:Env}{value slice:Expr}{pos:Pos}{T id:String}{Q:Value->Shared->Prop}
  (hl:typeLookup (.type T) "__getitem__"=pure (some (.builtin id)))(hs:b6E slice)
  (h:wpAny (model prog w) A (eval value env) (fun o s₁=>wpAny (model prog w) A (eval slice env) (fun i s₂=>s₂.TypeIs o T/\wpAny (model prog w) A (getItem o i) Q E s₂) E s₁) E s):
  wpAny (model prog w) A (eval (.Subscript value slice pos) env) Q E s:=by
 refine Subscript_ (wpAny_mono h (fun o s₁ h₁=>wpAny_mono h₁ (fun i s₂ h₂=>?_) fun _ _ x=>x) fun _ _ x=>x)
 obtain⟨hT,h₂⟩:=h₂
 unfold subscriptTail
 refine AA ?_
 rw[getitemInPython_of_ne hT.not_modules]
 refine AA (wpAny_specialOf hT hl ?_)
 have fin:wpAny (model prog w) A (subscripted slice false o i) (fun r s₃=>wpAny (model prog w) A (letTemporaryGo value o r >>= fun _=>pure r) Q E s₃) E s₂:=by
  rw[hs o i]
  exact wpAny_operating (wpAny_mono h₂ (fun r s₃ h₃=>AA (wpAny_letTemporaryGo (AB h₃))) fun _ _ x=>x)
 first
  | exact AB (AA fin)
  | exact AA (AB (AA fin))
  | exact AA fin
theorem a7G{X:Cx}{pins:List (Addr×Obj)}{σ:St}{H:Hp}{s:Shared}{a:Addr}{y:V}{o:Option V}(I:Inv X pins σ H s)(g:D3 H a y o):s.TypeIs (.ref a) "dict":=by
 rcases g with⟨kvs,k,e,_,_⟩ | ⟨kvs,k,b,e,_,_,_⟩
 ·obtain⟨_,_,vs,_,dd⟩:=a6E I.hok e
  exact dd.typeIs
 ·obtain⟨_,_,xs,_,dd⟩:=a6t I.hok e
  exact dd.typeIs
noncomputable def b6Z (td ty:TE):TE:=fun σ H Q=>td σ H fun x H1=>ty σ H1 fun y H2=>∃a v,x= .ref a/\D3 H2 a y (some v)/\Q v H2
noncomputable def b7z (ty td:TE):TE:=fun σ H Q=>ty σ H fun y H1=>td σ H1 fun x H2=>∃a o,x= .ref a/\D3 H2 a y o/\Q (.bl o.isSome) H2
noncomputable def b4E (ty td:TE):TE:=fun σ H Q=>ty σ H fun y H1=>td σ H1 fun x H2=>∃a o,x= .ref a/\D3 H2 a y o/\Q (.bl (!o.isSome)) H2
noncomputable def b6N (td ty tv:TE):TS:=fun D σ H=>tv σ H fun v H1=>td σ H1 fun x H2=>ty σ H2 fun y H3=>∃a H4,x= .ref a/\a1L H3 a y v H4/\D.nx σ H4
section
variable{X:Cx}{o i e value:Expr}{pos pos' tpos:Pos}{td ty tv:TE}
theorem E5(hu:X.A.units+1 < cLine)(ho:PE X o td)(hi:PE X i ty)(hs:b6E i):PE X (.Subscript o i pos) (b6Z td ty):=by
 intro pins s σ H Q I h
 refine b4Q PySem.F.slot_dict_getitem.lookup hs (thn (ho pins s σ H _ I h) fun u s1⟨x,H1,I1,rx,q1⟩=>thn (hi pins s1 σ H1 _ I1 q1) fun iv s2⟨y,H2,I2,ry,a,v,ex,g,q2⟩=>?_)
 subst ex
 obtain rfl:u=Value.ref a:=rx
 exact⟨a7G I2 g,b0Z hu I2 g ry fun w' s3 I3 rw'=>⟨v,H2,I3,rw',q2⟩⟩
theorem b5m(hu:X.A.units+1 < cLine)(hi:PE X i ty)(ho:PE X o td):PC X .In i o (b7z ty td):=by
 intro pins s σ H Q I h
 refine thn (hi pins s σ H _ I h) fun iv s1⟨y,H1,I1,ry,q1⟩=>thn (ho pins s1 σ H1 _ I1 q1) fun u s2⟨x,H2,I2,rx,a,ov,ex,g,q2⟩=>?_
 subst ex
 obtain rfl:u=Value.ref a:=rx
 exact b7r hu I2 g ry fun s3 I3=>⟨.bl ov.isSome,H2,I3,rfl,q2⟩
theorem a3P(hu:X.A.units+1 < cLine)(hi:PE X i ty)(ho:PE X o td):PC X .NotIn i o (b4E ty td):=by
 intro pins s σ H Q I h
 refine thn (hi pins s σ H _ I h) fun iv s1⟨y,H1,I1,ry,q1⟩=>thn (ho pins s1 σ H1 _ I1 q1) fun u s2⟨x,H2,I2,rx,a,ov,ex,g,q2⟩=>?_
 subst ex
 obtain rfl:u=Value.ref a:=rx
 exact b4x hu I2 g ry fun s3 I3=>⟨.bl (!ov.isSome),H2,I3,rfl,q2⟩
theorem M0(hu:X.A.units+1 < cLine)(ho:PE X o td)(hi:PE X i ty)(hv:PE X value tv)(hs:swapsWith value (some (.Subscript o i pos')) pos.line X.env=pure false):
  PS X (.Assign [.Subscript o i pos'] value pos) (b6N td ty tv):=by
 intro pins s σ H D I h
 refine wpAny_Assign_Subscript (thn (hv pins s σ H _ I h) fun r s1⟨v,H1,I1,rv,q1⟩=>thn (ho pins s1 σ H1 _ I1 q1) fun u s2⟨x,H2,I2,rx,q2⟩=>thn (hi pins s2 σ H2 _ I2 q2) fun iv s3⟨y,H3,I3,ry,a,H4,ex,g,q3⟩=>?_) hs
 subst ex
 obtain rfl:u=Value.ref a:=rx
 exact b1C hu I3 g ry rv fun s4 I4=>⟨σ,H4,I4,q3⟩
end
theorem a5u{P:Program}{w:World}{H:Hp}(h:Heap)(hb:sysModules < h.objs.size):Y3 P w H (h.push {cls:= .type "dict",data:= .dict #[]}) h.objs.size (.dK []):=
 ⟨Nat.zero_le _,beq_eq_false_iff_ne.mpr (Ne.symm (BB hb)),[],.nil,Heap.DictOf.new h⟩
theorem b2p{P:Program}{w:World}{H:Hp}(h:Heap)(hb:sysModules < h.objs.size):Y3 P w H (h.push {cls:= .type "dict",data:= .dict #[]}) h.objs.size (.dT []):=
 ⟨Nat.zero_le _,beq_eq_false_iff_ne.mpr (Ne.symm (BB hb)),[],.nil,_, #[],0,AI _ rfl,⟨rfl,rfl,rfl⟩,rfl,rfl,List.nodup_nil⟩
noncomputable def b5T:TE:=fun _ H Q=>∀p,H p=none->Q (.ref p) (upd H p (.dK []))
noncomputable def b5G:TE:=fun _ H Q=>∀p,H p=none->Q (.ref p) (upd H p (.dT []))
section
variable{X:Cx}{pos:Pos}
theorem a3k:PE X (.Dict [] [] pos) b5T:=fun pins s σ H Q I h=>
 wpAny_Dict_empty ⟨.ref s.heap.objs.size,_,I.laid (a:=s.heap.objs.size) (o:= .dK []) (t':=s.toks) (fun _ _ q=>AC _ q) (AH _) (a5u s.heap I.big),rfl,h _ (I.hok.fresh (AH _))⟩
theorem a2s:PE X (.Dict [] [] pos) b5G:=fun pins s σ H Q I h=>
 wpAny_Dict_empty ⟨.ref s.heap.objs.size,_,I.laid (a:=s.heap.objs.size) (o:= .dT []) (t':=s.toks) (fun _ _ q=>AC _ q) (AH _) (b2p s.heap I.big),rfl,h _ (I.hok.fresh (AH _))⟩
end
noncomputable def a9s:List (TE×TE)->St->Hp->(List (V×V)->Hp->Prop)->Prop
 | [],_,H,Q=>Q [] H
 | (tk,tv)::r,σ,H,Q=>tk σ H fun x H1=>tv σ H1 fun y H2=>a9s r σ H2 fun ps H3=>Q ((x,y)::ps) H3
noncomputable abbrev VV:List (V×V)->List (Value×Value)->Prop:=Paired fun p q=>U8 p.1 q.1/\U8 p.2 q.2
noncomputable def PPs (X:Cx) (pos:Pos) (keys:List (Option Expr)) (values:List Expr) (trs:List (TE×TE)):Prop:=
 ∀(pins:List (Addr×Obj))(s:Shared)(σ:St)(H:Hp)(Q:List (V×V)->Hp->Prop),Inv X pins σ H s->a9s trs σ H Q->
  wpAny (model X.prog X.w) X.A (evalPairs (pairTrees keys values X.env pos)) (fun vs s'=>∃ps H',Inv X pins σ H' s'/\VV ps vs/\Q ps H') X.xe s
theorem b4O{X:Cx}{pos:Pos}:PPs X pos [] [] []:=fun pins s σ H Q I h=>pairTrees_nil_walk ⟨[],H,I,.nil,h⟩
theorem b3a{X:Cx}{pos:Pos}{k v:Expr}{ks:List (Option Expr)}{vs:List Expr}{tk tv:TE}{trs:List (TE×TE)}(hk:PE X k tk)(hv:PE X v tv)(hr:PPs X pos ks vs trs):
  PPs X pos (some k::ks) (v::vs) ((tk,tv)::trs):=fun pins s σ H Q I h=>
 pairTrees_cons_walk (thn (hk pins s σ H _ I h) fun u s1⟨x,H1,I1,rx,q1⟩=>thn (hv pins s1 σ H1 _ I1 q1) fun w2 s2⟨y,H2,I2,ry,q2⟩=>
  thn (hr pins s2 σ H2 _ I2 q2) fun ws s3⟨ps,H3,I3,rel,q3⟩=>⟨(x,y)::ps,H3,I3,.cons ⟨rx,ry⟩ rel,q3⟩)
noncomputable def a2j (kvs more:List (Key×V)):List (Key×V):=more.foldl (fun acc kv=>O0 acc kv.1 kv.2) kvs
theorem KV.merge:∀{more:List (Key×V)}{rs:List (Key×Value)}{kvs:List (Key×V)}{vs:List (Key×Value)},KV more rs->KV kvs vs->KV (a2j kvs more) (merged vs rs):=by
 intro more rs kvs vs r
 unfold KV at r
 induction r generalizing kvs vs with
 | nil=>intro q;exact q
 | @cons p q ps qs h t ih=>
  intro r0
  have e:KV (O0 kvs p.1 p.2) (stored vs q.1 q.2):=by
   have:=r0.put p.1 h.2
   rw[<-h.1];exact this
  exact ih e
theorem a2N:∀(more kvs:List (Key×V)),(a2j kvs more).length<=kvs.length+more.length
 | [],kvs=>by show kvs.length<=kvs.length+0;omega
 | p::r,kvs=>by
  have h1:=a2N r (O0 kvs p.1 p.2)
  have h2:=D5 kvs p.1 p.2
  show(a2j (O0 kvs p.1 p.2) r).length<=_
  rw[List.length_cons];omega
theorem a5h{P:Program}{w:World}:∀{kvs:List (Key×V)}{ws:List (Value×Value)},VV (kvs.map fun kv=>(kV kv.1,kv.2)) ws->∃rs,Carries (Y6 P w) ws rs/\KV kvs rs
 | [],_,r=>by rw[List.map_nil]at r;cases r;exact⟨[],True.intro,.nil⟩
 | p::kvs,_,r=>by
  rw[List.map_cons]at r
  cases r with
  | @cons a b as bs h t=>
   obtain⟨rs,c,q⟩:=a5h (P:=P) (w:=w) t
   obtain⟨b1,b2⟩:=b
   exact⟨(p.1,b2)::rs,⟨a6r h.1,rfl,c⟩,.cons ⟨rfl,h.2⟩ q⟩
noncomputable def b6x (trs:List (TE×TE)):TE:=fun σ H Q=>∀p,H p=none->a9s trs σ (upd H p (.dK [])) fun ps H2=>H2 p=some (.dK [])/\∃kvs:List (Key×V),ps=kvs.map (fun kv=>(kV kv.1,kv.2))/\kvs.length<=15/\Q (.ref p) (upd H2 p (.dK (a2j [] kvs)))
theorem b3Y{X:Cx}{pos:Pos}{keys:List (Option Expr)}{values:List Expr}{trs:List (TE×TE)}(h:PPs X pos keys values trs)(hall:keys.all (·.isSome)=true)(hl:keys.length=values.length)(h0:keys≠[])
  (h15:keys.length<=15):PE X (.Dict keys values pos) (b6x trs):=by
 intro pins s σ H Q I q
 have hn:=I.hok.fresh (AH s.heap.objs.size)
 have I1:=I.laid (a:=s.heap.objs.size) (o:= .dK []) (h':=s.heap.push {cls:= .type "dict",data:= .dict #[]}) (t':=s.toks) (fun _ _ q=>AC _ q) (AH _) (a5u s.heap I.big)
 refine wpAny_Dict_walk (knd:=Y6 X.prog X.w) hall hl h0 h15 (thn (h pins _ σ _ _ I1 (q _ hn)) fun ws s2⟨ps,H2,I2,rel,e,kvs,ep,lk,q2⟩=>?_)
 subst ep
 obtain⟨rs,c,rk⟩:=a5h (P:=X.prog) (w:=X.w) rel
 obtain⟨z,hd,vs0,r0,dd⟩:=b3h I2.hok e
 cases r0
 refine⟨rs,c,dd,fun h' dd' hs=>⟨.ref s.heap.objs.size,_,?_,rfl,q2⟩⟩
 have hz:(a2j [] kvs).length<=sizeLine:=by
  have h1:=a2N kvs []
  rw[List.length_nil]at h1
  rw[sizeLine_eq];omega
 have he:∃q,h'.get? s.heap.objs.size=some q:=let⟨q,_,_,hq,_⟩:=dd';⟨q,hq⟩
 exact a4E I2 (by rw[e];exact True.intro) hs he (a8P hz hd (rk.merge .nil) dd')
section
variable{X:Cx}{pins:List (Addr×Obj)}{σ:St}{H:Hp}{s:Shared}{a:Addr}{y d:V}{u r:Value}{o:Option V}{A:Around}{E:Value->Shared->Prop}
end
section
variable{X:Cx}{o e f:Expr}{apos cpos:Pos}{td ty tx:TE}
end
section
variable{X:Cx}{pins:List (Addr×Obj)}{σ:St}{H:Hp}{s:Shared}{a:Addr}{kvs:List (Key×V)}{A:Around}{E:Value->Shared->Prop}
end
section
variable{X:Cx}{pins:List (Addr×Obj)}{σ:St}{H:Hp}{s:Shared}{a:Addr}{y:V}{u:Value}{A:Around}{E:Value->Shared->Prop}
end
end L2
namespace L2
open PySem PySem.Spec PyProof.Rows
section
variable{X:Cx}
end
section
variable{κ:Type}[DecidableEq κ]
theorem a9T{kvs:List (κ×V)}{k:κ}{v:V}(h:Y7 kvs k=some v):k∈kvs.map (·.1):=by
 have q:(kvs.any fun kv=>decide (kv.1=k))=true:=by
  rw[a1Y,h]
  all_goals rfl
 obtain⟨p,hp,e⟩:=List.any_eq_true.mp q
 exact AT.mpr ⟨p,hp,of_decide_eq_true e⟩
end
end L2
namespace L2
open PySem PySem.Spec PyProof.Rows
theorem b0U{prog:Program}{w:World}{A:Around}{E:Value->Shared->Prop}{s:Shared}{a:Addr}{items:Array Value}{Q:Option Value->Shared->Prop}(hL:s.heap.IsTuple a items)(hn:∀o,s.heap.get? a=some o->o.dict=none)(hA:A.handled=none)
  (h:∀h' tk,(∀b ob,s.heap.get? b=some ob->h'.get? b=some ob)->Q none {s with heap:=h',toks:=tk}):wpAny (model prog w) A (getAttr? (.ref a) "keys") Q E s:=by
 obtain⟨⟨c,dct,dat,sl⟩,hx,hc,k,hd⟩:=hL
 have hdn:=hn _ hx
 simp only at hc hd hdn
 subst hc hd hdn
 obtain⟨hp,g,d,tk,os⟩:=s
 have hT:∀tk',(⟨hp,g,d,tk',os⟩:Shared).TypeIs (.ref a) "tuple":=fun _=>⟨_,hx,rfl⟩
 have f1:=sub_AttributeError
 have f3:=F.slot_tuple_getattribute.lookup
 have f4:=F.slot_tuple_getattribute.bind (.ref a)
 have f5:=am_tuple_getattr_none
 have hmiss:typeLookup (.type "tuple") "keys"=pure none:=am_miss_of_fast (by decide +kernel)
 unfold getAttr? getAttrBy? getAttrBy
 repeat (any_goals (first | assumption | exact hT _ | ((with_reducible show wpAny _ _ (call (Value.builtin "tuple.__getattribute__") _ _) _ _ _);refine call_meets F.slot_tuple_getattribute (hT _) am_entry_tuple_getattribute (F.args_tuple_getattribute_2 _ _) (meets_getattribute_miss_tuple a items k sl "keys" _ hmiss (by decide +kernel) (by decide +kernel)) ⟨hx,hA,fun h' tk' e hx'=>?_⟩) | wp_step))
 obtain⟨t',u',he⟩:=hx'.there
 show wpAny _ _ (getattributeRaised _ _ _ _ _ _ _) _ _ _
 unfold getattributeRaised
 repeat (any_goals (first | assumption | wp_step))
 exact h _ _ hx'.keeps
theorem a6i:entryFor table "dict.update.loop"=some Builtin.«dict.update.loop»:=entryFor_of_fast (by kernel_rfl)
theorem a2F:plainId "dict.update.loop"=true:=by decide +kernel
section
variable{X:Cx}
noncomputable def M5 (ps:List (Str×V)) (m:List (Key×V)):List (Key×V):=ps.foldl (fun m p=>O0 m (Sum.inr p.1) p.2) m
theorem b1p(hc:X.calm=true){A:Around}(hA:A.handled=none){pins:List (Addr×Obj)}{σ:St}{H0:Hp}{Q:VK}{a d it:Addr}{vs:List V}(hda:d≠a)(hit:it≠a)(hdi:d≠it):
  ∀(n i:Nat)(s:Shared)(m:List (Key×V))(ps:List (Str×V))(j:Int)(tk:Tok),n=vs.length - i->Inv X pins σ (upd H0 d (.dK m)) s->s.heap.IsTupleIter it a i->a2P X pins (upd H0 d (.dK m)) it->SqT X.K (upd H0 d (.dK m)) a vs->
   Paired (fun v(p:Str×V)=>∃t,v= .ref t/\t≠d/\SqT X.K H0 t [.str p.1,p.2]) (vs.drop i) ps->m.length+ps.length<=1000->H0 it=none->
   Q (.ref d) (upd H0 d (.dK (M5 ps m)))->codeAny (model X.prog X.w) A (.builtin "dict.update.loop" ⟨[.ref d,.ref it,.int j tk,.none],[]⟩) (wants (fun u s'=>u= .none/\∃H',Inv X pins σ H' s'/\Q (.ref d) H') (fun _ _=>False)) s:=by
 intro n
 induction n with
 | zero=>
  intro i s m ps j tk hn I st fp hsq hp hlen hn0 q
  have hd:vs.drop i=[]:=List.drop_eq_nil_of_le (by omega)
  rw[hd]at hp
  cases hp
  obtain⟨its,rv,pt,hz⟩:=I.tuple hsq
  have hl:=rv.length
  obtain⟨f0,f1,f2,f3,f4,f5⟩:=fp
  refine codeAny_builtin a6i ?_
  rw[Around.under_plainId a2F _]
  show wpAny _ A.in1 (pyNext (.ref it) >>= _) _ _ s
  refine AA (wpAny_pyNext_tuple_end (A:=A.in1) hA st (show s.heap.IsTuple a its.toArray from pt) (by simp;omega) fun h' eb=>?_)
  have I':Inv X pins σ (upd H0 d (.dK m)) {s with heap:=h'}:=I.turned (t':=s.toks) (fun b o hb e=>eb b o hb e) f0 f1 f3 f4 f5
  show wpAny _ _ (Builtin.Dict.addKeywords d [] >>= _) _ _ _
  exact AA (AB (AB ⟨rfl,_,I',q⟩))
 | succ n ih=>
  intro i s m ps j tk hn I st fp hsq hp hlen hn0 q
  have hi:i < vs.length:=by omega
  have hdr:vs.drop i=vs[i]::vs.drop (i+1):=List.drop_eq_getElem_cons hi
  rw[hdr]at hp
  cases hp with
  | @cons _ p _ ps' h1 hrest=>
  obtain⟨t,e,htd,ht⟩:=h1
  obtain⟨its,rv,pt,hz⟩:=I.tuple hsq
  have hl:=rv.length
  have hx:vs[i]?=some (V.ref t):=by simp[hi,e]
  obtain⟨u,hu,ru⟩:=rv.get hx
  cases ru
  obtain⟨f0,f1,f2,f3,f4,f5⟩:=id fp
  refine codeAny_builtin a6i ?_
  rw[Around.under_plainId a2F _]
  show wpAny _ A.in1 (pyNext (.ref it) >>= _) _ _ s
  refine AA (wpAny_pyNext_tuple_item (A:=A.in1) st (show s.heap.IsTuple a its.toArray from pt) (x:= .ref t) (by simpa using hu) fun h' st' sb=>?_)
  have I':Inv X pins σ (upd H0 d (.dK m)) {s with heap:=h'}:=I.turned (t':=s.toks) (fun b o hb e=>(sb.2 b hb).trans e) f0 f1 f3 f4 f5
  have ht':SqT X.K (upd H0 d (.dK m)) t [.str p.1,p.2]:=by
   rcases ht with(ht | ⟨o,ht⟩) | ht
   ·exact .inl (.inl (by rw[I0 htd];exact ht))
   ·exact .inl (.inr ⟨o,by rw[I0 htd];exact ht⟩)
   ·exact .inr ht
  obtain⟨kv,rkv,ptt,_⟩:=I'.tuple ht'
  cases rkv with
  | @cons _ ku _ _ rk rr=>
  cases rr with
  | @cons _ vu _ _ rvv rr=>
  cases rr
  obtain⟨tk2,rfl⟩:=rk
  have hTy:(⟨h',s.gens,s.drawn,s.toks,s.os⟩:Shared).TypeIs (.ref t) "tuple":=by obtain⟨o,ho,hcl,_⟩:=ptt;exact⟨o,ho,hcl⟩
  dsimp only
  obtain⟨ot,hot,hoc,kt,hodat⟩:=ptt
  obtain⟨z,hsm,ws,rel,dd⟩:=b3h I'.hok (G1 (H:=H0) (a:=d) (o:= .dK m))
  have hz2:ws.length<=sizeLine:=by rw[<-rel.length];exact z
  refine AA (BG (AA (wpAny_tryCatch ?_)))
  unfold Builtin.Dict.pairItems
  refine AA (wpAny_typeOf hTy ?_)
  rw[if_pos (by decide)]
  refine AA (wpAny_seqItems hot hodat (AB ?_))
  show wpAny _ _ (holding [Value.str p.1 tk2,vu] (dictSet d (Value.str p.1 tk2) vu)) _ _ _
  refine BG (wpAny_dictSet_pairs (knd:=Y6 X.prog X.w) (k:=Sum.inr p.1) (a4l X.prog X.w p.1 tk2) dd (fun h2 dd2 sb2=>?_) hz2)
  have hl2:(O0 m (Sum.inr p.1) p.2).length<=sizeLine:=by
   have h3:=D5 m (Sum.inr p.1) p.2
   have:sizeLine=16777216:=sizeLine_eq
   simp only[List.length_cons]at hlen
   omega
  have he:∃q,h2.get? d=some q:=let⟨q,_,_,hq,_⟩:=dd2;⟨q,hq⟩
  have I2:Inv X pins σ (upd (upd H0 d (.dK m)) d (.dK (O0 m (Sum.inr p.1) p.2))) {heap:=h2,gens:=s.gens,drawn:=s.drawn,toks:=s.toks+1,os:=s.os}:=
   a4E (s:={heap:=h',gens:=s.gens,drawn:=s.drawn,toks:=s.toks,os:=s.os}) (t':=s.toks+1) I' (by rw[G1];exact True.intro) sb2 he (a8P hl2 hsm (rel.put _ rvv) dd2)
  rw[b4M]at I2
  refine AB ⟨plainId_quiet a2F _,?_⟩
  have hsq2:SqT X.K (upd H0 d (.dK (O0 m (Sum.inr p.1) p.2))) a vs:=by
   rcases hsq with(h | ⟨o,h⟩) | h
   ·rw[I0 hda.symm]at h;exact .inl (.inl (by rw[I0 hda.symm];exact h))
   ·rw[I0 hda.symm]at h;exact .inl (.inr ⟨o,by rw[I0 hda.symm];exact h⟩)
   ·exact .inr h
  refine ih (i+1) _ (O0 m (Sum.inr p.1) p.2) ps' (j+1) _ (by omega) I2 ?_ ⟨by rw[I0 hdi.symm];exact hn0,f1,f2,f3,f4,f5⟩ hsq2 hrest ?_ hn0 q
  ·obtain⟨oi,hoi,r⟩:=st'
   exact⟨oi,(sb2.2 it hdi.symm).trans hoi,r⟩
  ·have h3:=D5 m (Sum.inr p.1) p.2
   simp only[List.length_cons]at hlen
   omega
theorem a2Q(hc:X.calm=true):a0R X (.type "dict") (fun xs H Q=>∃(a:Addr)(o:Obj)(vs:List V)(ps:List (Str×V)),xs=[.ref a]/\H a=some (.frz o (.tup vs))/\o.dict=none/\Paired (fun v(p:Str×V)=>∃t,v= .ref t/\SqT X.K H t [.str p.1,p.2]) vs ps/\ps.length<=1000/\
  ∀d,H d=none->Q (.ref d) (upd H d (.dK (M5 ps [])))):=by
 intro pins s σ H xs us Q I r h
 obtain⟨a,o,vs,ps,rfl,ha,hod,hp,hlen,q⟩:=h
 obtain⟨u,rfl,ru⟩:=a5k r
 cases ru
 have hsq:SqT X.K H a vs:= .inl (.inr ⟨o,ha⟩)
 obtain⟨its,rv,pt,hz⟩:=I.tuple hsq
 have hobj:s.heap.get? a=some o:=(I.hok a _ ha).1
 have hfr:H s.heap.objs.size=none:=I.hok.fresh (AH _)
 refine callType_codes (Q₁:=fun obj s₁=>obj= .ref s.heap.objs.size/\s₁={s with heap:=s.heap.push {cls:= .type "dict",data:= .dict #[]}}) F.kt_called_dict (F.kt_typeCall_dict_1 _) F.entry_dict_init (kt_code_dict_new _ ⟨rfl,rfl⟩) ?_
 rintro obj s₁ ⟨rfl,rfl⟩
 have I1:Inv X pins σ (upd H s.heap.objs.size (.dK [])) {s with heap:=s.heap.push {cls:= .type "dict",data:= .dict #[]}}:=
  I.laid (a:=s.heap.objs.size) (o:= .dK []) (t':=s.toks) (fun _ _ q=>AC _ q) (AH _) (a5u s.heap I.big)
 have hnew:(s.heap.push {cls:= .type "dict",data:= .dict #[]}).DictOf (Y6 X.prog X.w) s.heap.objs.size []:=Heap.DictOf.new s.heap
 refine⟨hnew.typeIs,F.args_dict_init_2 _ _,?_⟩
 unfold Builtin.«dict.__init__»
 refine AA ?_
 unfold Builtin.Dict.selfAndRest
 refine AA (wpAny_notOrdered_dict hnew.typeIs ?_)
 show wpAny _ _ (pure (s.heap.objs.size,[Value.ref a])) _ _ _
 refine AB ?_
 show wpAny _ _ (Builtin.Dict.updateFrom "dict.__init__" s.heap.objs.size (.ref a) [] .none) _ _ _
 have had:s.heap.objs.size≠a:=Ne.symm (R6 ha hfr)
 have hobj1:(s.heap.push {cls:= .type "dict",data:= .dict #[]}).get? a=some o:=AC _ hobj
 have htp:(s.heap.push {cls:= .type "dict",data:= .dict #[]}).IsTuple a its.toArray:=by
  obtain⟨o2,h1,h2⟩:=pt
  exact⟨o2,AC _ h1,h2⟩
 unfold Builtin.Dict.updateFrom
 refine AA (wpAny_typeOf (s:={s with heap:=s.heap.push {cls:= .type "dict",data:= .dict #[]}}) (T:="tuple") (by obtain⟨o2,h1,h2,_⟩:=htp;exact⟨o2,h1,h2⟩) ?_)
 rw[if_pos (by decide)]
 refine AA (b0U htp (fun o2 h2=>by rw[hobj1]at h2;cases h2;exact hod) (I.ok.hd hc) fun h' tk hk=>?_)
 rw[if_pos (show(none:Option Value).isNone=true from rfl)]
 refine AA (wpAny_rule ?_)
 have I2:Inv X pins σ (upd H s.heap.objs.size (.dK [])) {s with heap:=h',toks:=tk}:=I1.kept hk
 have htp2:h'.IsTuple a its.toArray:=by
  obtain⟨o2,h1,h2⟩:=htp
  exact⟨o2,hk _ _ h1,h2⟩
 refine AA (wpAny_pyIter_tuple (s:={s with heap:=h',toks:=tk}) htp2 ?_)
 refine AB ⟨plainId_quiet a2F _,?_⟩
 have I3:=I2.kept (h':=h'.push {cls:= .type "tuple_iterator",data:= .fields #[.ref a,.int 0 0]}) (t':=tk) fun b ob e=>AC _ e
 have hfi:upd H s.heap.objs.size (.dK []) h'.objs.size=none:=I2.hok.fresh (AH _)
 have hdi:s.heap.objs.size≠h'.objs.size:=by
  intro z
  rw[<-z,G1]at hfi
  cases hfi
 have hfi0:H h'.objs.size=none:=by rw[I0 hdi.symm]at hfi;exact hfi
 have hia:h'.objs.size≠a:=fun z=>by
  rw[z,ha]at hfi0
  cases hfi0
 have hsq1:SqT X.K (upd H s.heap.objs.size (.dK [])) a vs:= .inl (.inr ⟨o,by rw[I0 had.symm];exact ha⟩)
 have L:=b1p (X:=X) hc (A:=X.A.in1) (I.ok.hd hc) (pins:=pins) (σ:=σ) (H0:=H) (Q:=Q) (a:=a) (d:=s.heap.objs.size) (it:=h'.objs.size) (vs:=vs) had hia hdi vs.length 0 _ [] ps 0 0 (by omega) I3 ⟨_,AI _ rfl,rfl,rfl⟩ (I2.fpOk (AH _) hfi) hsq1
  (Paired.mapP hp fun v p⟨t,e,ht⟩=>⟨t,e,fun z=>?_,ht⟩) (by simpa using hlen) hfi0 (q _ hfr)
 ·refine codeAny_mono L fun r s' hr=>?_
  cases r with
  | error e=>exact False.elim hr
  | ok f=>
   cases f with
   | ret v=>
    obtain⟨e,H',I',q'⟩:=hr
    exact⟨e,.ref s.heap.objs.size,H',I',rfl,q'⟩
   | next=>exact False.elim hr
   | brk=>exact False.elim hr
   | cont=>exact False.elim hr
 ·obtain⟨its2,_,⟨o2,h2,_⟩,_⟩:=I.tuple ht
  rw[z]at h2
  exact absurd (AJ h2) (Nat.lt_irrefl _)
end
end L2
namespace L2
open PySem PySem.Spec PyProof.Rows PySem.W
section
variable{prog:Program}{w:World}{A:Around}{E:Value->Shared->Prop}{s:Shared}{T:String}{r d:Addr}{n:Nat}{P:Nat->Value->Prop}{OK:Heap->Prop}
theorem a8x{Q:List Value->Shared->Prop}(K:KdlSrc prog w T r d n P OK)(hh:A.handled=none)(hok:OK s.heap)(hn:n<=sizeLine)
  (hQ:∀(h':Heap)(tk:Nat)(acc:Array Value),(∀b o,s.heap.get? b=some o->h'.get? b=some o)->ItemsOf P acc n->Q acc.toList {s with heap:=h',toks:=tk}):wpAny (model prog w) A (collect (.ref r)) Q E s:=by
 unfold collect
 refine AA (wpAny_runValue (codeAny_builtin F.entry_proto_collect ?_))
 rw[Around.under_plainId F.plain_proto_collect _]
 show wpAny _ A.in1 (newList [] >>= fun l=>again (.builtin "list.__iadd__" ⟨[l,.ref r],[]⟩)) _ _ s
 refine AA (wpAny_newObj_type ?_)
 refine AB ⟨plainId_quiet F.plain_list_iadd _,codeAny_builtin F.entry_list_iadd ?_⟩
 rw[Around.under_plainId F.plain_list_iadd _]
 have hS:(s.heap.push {cls:= .type "list",data:= .seq ([]:List Value).toArray}).get? s.heap.objs.size=some {cls:= .type "list",data:= .seq #[] 0}:=AI _ rfl
 have hlt:=K.there _ hok
 show wpAny _ A.in1 (Builtin.List.listExtendWith (.ref s.heap.objs.size) (.ref r) (.ref s.heap.objs.size)) _ _ _
 have fin':∀(h':Heap)(tk c':Nat)(acc':Array Value),(∀b o,b≠s.heap.objs.size->(s.heap.push {cls:= .type "list",data:= .seq ([]:List Value).toArray}).get? b=some o->h'.get? b=some o)->h'.get? s.heap.objs.size=some {cls:= .type "list",dict:=none,data:= .seq acc' c',slots:= #[]}->ItemsOf P acc' n->
   wpAny (model prog w) A (match Value.ref s.heap.objs.size with
   | Value.ref a=>do
    match(<-load a).data with
     | Data.seq xs _=>pure xs.toList
     | _=>unsupported "internal:collect"
   | _=>unsupported "internal:collect") Q E {s with heap:=h',toks:=tk}:=by
  intro h' tk c' acc' hk hS' hacc
  show wpAny _ A (load s.heap.objs.size >>= _) _ _ _
  refine AA (wpAny_load hS' ?_)
  exact AB (hQ h' tk acc' (fun b o e=>hk b o (BB (AJ e)) (AC _ e)) hacc)
 refine wpAny_mono (kdl_extend (A:=A) (R:=fun r s'=>∃(h':Heap)(tk c':Nat)(acc':Array Value),r= .ok (.ret (.ref s.heap.objs.size))/\s'={s with heap:=h',toks:=tk}/\(∀b o,b≠s.heap.objs.size->(s.heap.push {cls:= .type "list",data:= .seq ([]:List Value).toArray}).get? b=some o->h'.get? b=some o)/\h'.get? s.heap.objs.size=some {cls:= .type "list",dict:=none,data:= .seq acc' c',slots:= #[]}/\ItemsOf P acc' n)
  (s:={s with heap:=s.heap.push {cls:= .type "list",data:= .seq ([]:List Value).toArray}}) K hh (K.keep _ _ hok fun b _ o e=>AC _ e) s.heap.objs.size (Nat.ne_of_gt hlt.1) (Nat.ne_of_gt hlt.2) (.ref s.heap.objs.size) 0 hS (fun h' tk acc' c' hk hS' hacc=>⟨h',tk,c',acc',rfl,rfl,hk,hS',hacc⟩) hn) (fun fin s' h=>?_) (fun e s' h=>?_)
 ·cases fin with
  | done f=>
   obtain⟨h',tk,c',acc',e,rfl,hk,hS',hacc⟩:=h
   cases e
   exact fin' h' tk c' acc' hk hS' hacc
  | again c'=>exact⟨h.1,codeAny_mono h.2 fun r s'' hr=>by obtain⟨h',tk,c',acc',rfl,rfl,hk,hS',hacc⟩:=hr;exact fin' h' tk c' acc' hk hS' hacc⟩
 ·obtain⟨h',tk,c',acc',e,_⟩:=h
  cases e
theorem a2Y{Q₁:Value->Shared->Prop}(K:KdlSrc prog w "dict" r d n P OK)(hh:A.handled=none)(hok:OK s.heap)
  (h:∀(h':Heap)(tk:Nat)(acc:Array Value),(∀b o,s.heap.get? b=some o->h'.get? b=some o)->ItemsOf P acc n->Q₁ (.ref h'.objs.size) {s with heap:=h'.push {cls:= .type "tuple",data:= .seq acc},toks:=tk})(hsz:n<=sizeLine):
  codeAny (model prog w) A (.call (.builtin "tuple.__new__") ⟨[.type "tuple",.ref r],[]⟩) (wants Q₁ E) s:=by
 refine codeAny_of_tree ?_
 show wpAny _ A.in1 (do checkBuiltinCall "tuple.__new__" ⟨[.type "tuple",.ref r],[]⟩;again (.builtin "tuple.__new__" ⟨[.type "tuple",.ref r],[]⟩)) _ _ s
 refine AA (AX (F.newCall_tuple_1 _) (AB ⟨plainId_quiet F.plain_tuple_new _,codeAny_builtin F.entry_tuple_new ?_⟩))
 rw[Around.under_plainId F.plain_tuple_new _]
 have hsub:=sub_tuple_self
 have hinit:=init_tuple_lookup
 have hmh:=madeHere_tuple
 have hTI:=K.type s hok
 have hh1:A.in1.handled=none:=hh
 wp_walk using wpAny_typeOf hTI,a8x (A:=A.in1) K hh1 hok hsz
 intro h' tk acc hm hacc
 show wpAny _ _ (Builtin.Tuple.tupleExact acc.toList.toArray >>= fun v=>ret v) _ _ _
 unfold Builtin.Tuple.tupleExact
 refine AA (wpAny_newObj_type ?_ (by show acc.toList.toArray.size<=sizeLine;simp only[Array.toArray_toList];rw[hacc.1];exact hsz))
 refine AB ?_
 have e:acc.toList.toArray=acc:=by simp
 rw[e]
 exact h h' tk acc hm hacc
theorem a4O{Q:Value->Shared->Prop}(K:KdlSrc prog w "dict" r d n P OK)(hh:A.handled=none)(hok:OK s.heap)(hsz:n<=sizeLine)
  (hQ:∀(h':Heap)(tk:Nat)(acc:Array Value),(∀b o,s.heap.get? b=some o->h'.get? b=some o)->ItemsOf P acc n->Q (.ref h'.objs.size) {s with heap:=h'.push {cls:= .type "tuple",data:= .seq acc},toks:=tk}):
  wpAny (model prog w) A (call (.type "tuple") [.ref r]) Q E s:=by
 refine callType_codes (Q₁:=fun obj s₁=>s₁.TypeIs obj "tuple"/\Q obj s₁) F.called_tuple (F.typeCall_tuple_1 _) F.entry_object_init
  (a2Y K hh hok (fun h' tk acc hm hacc=>⟨⟨_,AI _ rfl,rfl⟩,hQ h' tk acc hm hacc⟩) hsz) fun obj s₁ h₁=>?_
 exact⟨h₁.1,F.args_object_init_2 obj _,object_init_meets F.called_tuple.init.lookup F.called_tuple.made (by decide) prog w A.in1 _ s₁ ⟨h₁.1,rfl,h₁.2⟩⟩
end
theorem b6s{P:Program}{w:World}{k:Key}{u:Value}(h:(Y6 P w).is k u=true):U8 (kV k) u:=by
 rcases O5 (show a5n k u=true from h)with⟨i,t,rfl,rfl⟩ | ⟨x,t,rfl,rfl⟩
 ·exact⟨t,rfl⟩
 ·exact⟨t,rfl⟩
noncomputable def a4k (kvs:List (Key×V)):List V:=kvs.map fun kv=>kV kv.1
theorem a7u(kvs:List (Key×V)):(a4k kvs).length=kvs.length:=List.length_map _
theorem a5S{P:Program}{w:World}:∀{kvs:List (Key×V)}{vs:List (Key×Value)}{us:List Value},KV kvs vs->us.length=vs.length->(∀(j:Nat)(u:Value),us[j]?=some u->∃k x,vs[j]?=some (k,x)/\(Y6 P w).is k u=true)->W0 (a4k kvs) us
 | _,_,[],.nil,_,_=> .nil
 | _,_,_::_,.nil,hl,_=>by simp at hl
 | _,_,[],.cons _ _,hl,_=>by simp at hl
 | _,_,u::us,.cons (a:=p) (b:=q) h hr,hl,hv=>by
  obtain⟨k,x,e,hk⟩:=hv 0 u rfl
  simp only[List.getElem?_cons_zero,Option.some.injEq]at e
  subst e
  have h1:p.1=k:=h.1
  refine .cons (by show U8 (kV p.1) u;rw[h1];exact b6s hk) (a5S hr (by simpa using hl) fun j v hj=>by simpa using hv (j+1) v (by simpa using hj))
section
variable{X:Cx}
theorem a4o(hc:X.calm=true):a0R X (.type "tuple") (fun xs H Q=>∃a kvs,xs=[.ref a]/\Rd H a (.dK kvs)/\∀l,H l=none->Q (.ref l) (upd H l (.tup (a4k kvs)))):=by
 intro pins s σ H xs us Q I r h
 obtain⟨a,kvs,rfl,ha,q⟩:=h
 obtain⟨u,rfl,ru⟩:=a5k r
 cases ru
 obtain⟨z,hsm,vs,rel,dd⟩:=a6E I.hok ha
 have hl:=rel.length
 obtain⟨ep,hat⟩:=dd.dictAt
 refine a4O (kdl_dict (knd:=Y6 X.prog X.w) (kvs:=vs) (ep:=ep) hsm) (I.ok.hd hc) hat (by omega) fun h' tk acc hk hacc=>?_
 have I1:Inv X pins σ H {s with heap:=h',toks:=tk}:=I.kept (t':=tk) hk
 have hv:W0 (a4k kvs) acc.toList:=a5S rel (by rw[Array.length_toList];exact hacc.1) fun j u e=>hacc.2 j u (by rw[<-BR];exact e)
 have I2:Inv X pins σ (upd H h'.objs.size (.tup (a4k kvs))) {s with heap:=h'.push {cls:= .type "tuple",data:= .seq acc},toks:=tk}:=
  I1.laid (t':=tk) (fun b o e=>AC _ e) (AH _) (show Y3 X.prog X.w _ _ _ (.tup (a4k kvs))from⟨by rw[a7u];exact z,acc.toList,hv,by
   have:=IsTup.new h' acc
   simpa using this⟩)
 exact⟨.ref h'.objs.size,_,I2,rfl,q _ (I1.hok.fresh (AH _))⟩
end
end L2
namespace L2
open PySem PySem.Spec PyProof.Rows
noncomputable def R8:Rw->Str
 | .bring _ _=>"bring"
 | .give _ _=>"give"
 | .set _ _=>"set"
 | .take _=>"take"
 | .say _ _=>"say"
 | .need _=>"need"
 | .ask _ _=>"ask"
 | .part _=>"part"
 | .doo _=>"do"
noncomputable def U2 (k:Str):Rw->Option Str
 | .bring p _=>if("bring":Str)=k then some p else none
 | .ask p _=>if("ask":Str)=k then some p else none
 | _=>none
noncomputable def a0y (l:List Str) (x:Str):List Str:=if x∈l then l else l++[x]
noncomputable def a0Y (k:Str) (l:List Str) (r:Rw):List Str:=match U2 k r with
 | none=>l
 | some x=>a0y l x
noncomputable def F4 (k:Str) (rs:List Rw):List Str:=rs.foldl (a0Y k) []
theorem a3l(k:Str)(rs:List Rw)(r:Rw):F4 k (rs++[r])=a0Y k (F4 k rs) r:=by
 unfold F4;rw[List.foldl_append];rfl
theorem b2P(l:List Str)(x:Str):(a0y l x).length<=l.length+1:=by
 unfold a0y;split<;>simp
theorem b0N(k:Str)(l:List Str)(r:Rw):(a0Y k l r).length<=l.length+1:=by
 unfold a0Y
 split
 ·omega
 ·exact b2P _ _
theorem a1Q(k:Str):∀(rs:List Rw)(l:List Str),(rs.foldl (a0Y k) l).length<=l.length+rs.length
 | [],l=>by simp
 | r::rs,l=>by
  have h1:=a1Q k rs (a0Y k l r)
  have h2:=b0N k l r
  simp only[List.foldl_cons,List.length_cons];omega
noncomputable def E3 (l:List Str):List (Key×V):=l.map fun x=>(Sum.inr x,.bl true)
theorem a3j(l:List Str):(E3 l).length=l.length:=List.length_map _
theorem a6h(l:List Str):a4k (E3 l)=l.map V.str:=by
 unfold a4k E3
 rw[List.map_map]
 rfl
theorem b2k(l:List Str)(x:Str):((E3 l).any fun kv=>decide (kv.1=Sum.inr x))=decide (x∈l):=by
 induction l with
 | nil=>simp[E3]
 | cons a r ih=>
  have:E3 (a::r)=(Sum.inr a,.bl true)::E3 r:=rfl
  rw[this,List.any_cons,ih]
  by_cases e:a=x
  ·subst e;simp
  ·have h1:¬(Sum.inr a:Key)=Sum.inr x:=fun z=>e (Sum.inr.inj z)
   have h2:¬x=a:=fun z=>e z.symm
   simp[e,h2]
theorem a5b(l:List Str)(x:Str):O0 (E3 l) (Sum.inr x) (.bl true)=E3 (a0y l x):=by
 unfold O0
 rw[b2k]
 unfold a0y
 by_cases e:x∈l
 ·rw[if_pos (by simpa using e),if_pos e]
  unfold E3
  rw[List.map_map]
  refine List.map_congr_left fun a _=>?_
  show(if(Sum.inr a:Key)=Sum.inr x then((Sum.inr a:Key),V.bl true)else(Sum.inr a,V.bl true))=_
  split<;>rfl
 ·rw[if_neg (by simpa using e),if_neg e]
  unfold E3
  rw[List.map_append]
  rfl
noncomputable def O9 (H:Hp) (a:Addr) (ps:List Pt):Prop:=∃o vs,H a=some (.frz o (.tup vs))/\o.dict=none/\Paired (a1G H) vs ps
theorem G8.partsF{H H':Hp}(s:G8 H H'){a:Addr}{ps:List Pt}(h:O9 H a ps):O9 H' a ps:=by
 obtain⟨o,vs,h1,h2,h3⟩:=h
 exact⟨o,vs,s _ _ h1,h2,Paired.mapP h3 fun _ _ q=>q.mono s.tups⟩
theorem a2w:∀(ps:List (Str×V))(m:List (Key×V))(n:Str)(v:V),(ps.map (·.1)).Nodup->((n,v)∈ps\/((∀p∈ps,p.1≠n)/\Y7 m (Sum.inr n)=some v))->Y7 (M5 ps m) (Sum.inr n)=some v
 | [],m,n,v,_,h=>by
  rcases h with h | h
  ·simp at h
  ·exact h.2
 | p::ps,m,n,v,hn,h=>by
  rw[List.map_cons,BN]at hn
  show Y7 (M5 ps (O0 m (Sum.inr p.1) p.2)) _=_
  refine a2w ps _ n v hn.2 ?_
  rcases h with h | ⟨h1,h2⟩
  ·rcases List.mem_cons.mp h with e | e
   ·refine .inr ⟨fun q hq z=>hn.1 ?_,?_⟩
    ·rw[<-e];show n∈_;rw[<-z];exact AN hq
    ·rw[<-e]
     show Y7 (O0 m (Sum.inr n) v) (Sum.inr n)=_
     rw[O8,if_pos rfl]
   ·exact .inl e
  ·refine .inr ⟨fun q hq=>h1 q (AK _ hq),?_⟩
   rw[O8,if_neg (fun z=>h1 p AM (Sum.inr.inj z).symm)]
   exact h2
theorem a0Q.kind{H:Hp}{r:Addr}{rw:Rw}(h:a0Q H r rw):∃x rest,H r=some (.tup (.str (R8 rw)::x::rest)):=by
 cases rw with
 | bring p ps=>obtain⟨t,h1,h2⟩:=h;exact⟨_,_,h1⟩
 | give o g=>exact⟨_,_,h⟩
 | set o ts=>obtain⟨t,h1,h2⟩:=h;exact⟨_,_,h1⟩
 | take o=>exact⟨_,_,h⟩
 | say ts w=>obtain⟨t,h1,h2⟩:=h;exact⟨_,_,h1⟩
 | need ts=>obtain⟨t,h1,h2⟩:=h;exact⟨_,_,h1⟩
 | ask p w=>exact⟨_,_,h⟩
 | part p=>exact⟨_,_,h⟩
 | doo p=>exact⟨_,_,h⟩
theorem a0Q.named{H:Hp}{r:Addr}{rw:Rw}{k:Str}(h:a0Q H r rw)(hk:k="bring" \/k="ask"):(R8 rw=k/\∃p rest,U2 k rw=some p/\H r=some (.tup (.str k:: .str p::rest)))\/(R8 rw≠k/\U2 k rw=none):=by
 rcases hk with rfl | rfl
 ·cases rw with
  | bring p ps=>obtain⟨t,h1,h2⟩:=h;exact .inl ⟨rfl,p,_,by simp[U2],h1⟩
  | ask p w=>exact .inr ⟨by simp only[R8];decide +kernel,by simp only[U2];rw[if_neg (by decide +kernel)]⟩
  | _=>exact .inr ⟨by simp only[R8];decide +kernel,rfl⟩
 ·cases rw with
  | ask p w=>exact .inl ⟨rfl,p,_,by simp[U2],h⟩
  | bring p ps=>exact .inr ⟨by simp only[R8];decide +kernel,by simp only[U2];rw[if_neg (by decide +kernel)]⟩
  | _=>exact .inr ⟨by simp only[R8];decide +kernel,rfl⟩
end L2
namespace L2
open PySem PySem.Spec PyProof.Rows
section
variable{X:Cx}
theorem a7A(c:Nat):∀(n:Nat)(acc:List Nat),(List.replicate n #[c]).foldl (· ++ ·) acc.toArray=(acc++List.replicate n c).toArray
 | 0,acc=>by simp
 | n+1,acc=>by
  rw[List.replicate_succ,List.foldl_cons,List.replicate_succ]
  have:acc.toArray++ #[c]=(acc++[c]).toArray:=by simp
  rw[this,a7A c n (acc++[c])]
  simp
theorem b0i:OpR X (binaryOp .Mult) (fun x y H Q=>∃(c:Nat)(k:Int),x= .str ⟨#[c]⟩/\y= .int k/\1<=k/\k<=1000/\Q (.str ⟨(List.replicate k.toNat c).toArray⟩) H):=by
 intro pins s σ H x y v u Q I rx ry h
 obtain⟨c,k,rfl,rfl,h1,h2,q⟩:=h
 obtain⟨t,rfl⟩:=rx
 obtain⟨t',rfl⟩:=ry
 have hl:(⟨#[c]⟩:Str).length=1:=rfl
 refine PySem.P.mul_str (by rw[AW (by omega),AW (by omega)];rfl) (fun _ _=>?_) (fun _ _=>?_) ?_
 ·rw[hl]
  have:(2 ^ 63 - 1)/k≥1:=by
   rw[ge_iff_le,Int.le_ediv_iff_mul_le (by omega)];omega
  omega
 ·rw[hl,Nat.one_mul]
  unfold Builtin.Str.tooLong
  have:sizeLine=16777216:=sizeLine_eq
  simp;omega
 ·rw[if_neg (by omega)]
  by_cases e:k=1
  ·subst e
   rw[if_pos (by simp)]
   exact⟨.str ⟨(List.replicate (1:Int).toNat c).toArray⟩,H,I,⟨t,rfl⟩,q⟩
  ·rw[if_neg (by rw[hl];simp[e])]
   have hr:=a7A c k.toNat []
   rw[List.nil_append]at hr
   rw[show(List.replicate k.toNat (⟨#[c]⟩:Str).cps).foldl (· ++ ·) #[]=(List.replicate k.toNat c).toArray from hr]
   exact⟨by show(List.replicate k.toNat c).toArray.size<=_;simp;have:sizeLine=16777216:=sizeLine_eq;omega,.str ⟨(List.replicate k.toNat c).toArray⟩,H,I.tok _,⟨_,rfl⟩,q⟩
end
noncomputable def a8u:Str:="abcdefghijklmnopqrstuvwxyz"
noncomputable def a0i (i:Int):Nat:=a8u.cps.toList.getD i.toNat 0
noncomputable def b5C (i:Int):Nat:=("abcdefghijklmnopqrstuvwxyz0123456789":Str).cps.toList.getD i.toNat 0
theorem b2S:∀i:Nat,i < 26->a3v (a8u.cps.toList.getD i 0)=true:=by decide +kernel
theorem b2B:∀i:Nat,i < 26->∀j:Nat,j < 26->a8u.cps.toList.getD i 0=a8u.cps.toList.getD j 0->i=j:=by decide +kernel
theorem a3o:a8u.cps.toList.length=26:=by decide +kernel
theorem a6x{i j:Int}(hi:0<=i)(hi2:i < 26)(hj:0<=j)(hj2:j < 26)(h:a0i i=a0i j):i=j:=by
 have:=b2B i.toNat (by omega) j.toNat (by omega) h
 omega
noncomputable def a1N (b k:Int):Int:=(k*([1,5,7,11,13,23].getD (b % 6).toNat 0)+b/6) % 24
noncomputable def nm3 (b k z:Int):Nat->List Nat
 | 0=> []
 | j+1=>nm3 b k z j++[if(j:Int)=b/32 % z then a0i ((b/(256+11*j*j)+k) % 26)else if(j:Int)=0 then a0i (b/(256+11*j*j) % 26)else b5C (b/(256+11*j*j) % 36)]
noncomputable def W8 (b k:Int):Str:=
 let k':=a1N b k
 let b':=b/144
 if b' % 4=0 then⟨(List.replicate (1+k' % 8).toNat (a0i ((b'/4+k'/8) % 26))).toArray⟩
 else if b' % 4=1 then⟨(List.replicate (1+b'/104 % 6).toNat (a0i (b'/4 % 26))).toArray⟩++Str.ofString (toString k')
 else⟨(nm3 b' k' (1+b'/4 % 8) (1+b'/4 % 8).toNat).toArray⟩
theorem a2v(b k:Int):0<=a1N b k/\a1N b k < 24:=by unfold a1N;omega
theorem b1o{b k l:Int}(hb:0<=b)(hk:0<=k)(hk2:k < 24)(hl:0<=l)(hl2:l < 24)(h:a1N b k=a1N b l):k=l:=by
 unfold a1N at h
 have h6:0<=b % 6:=by omega
 have h7:b % 6 < 6:=by omega
 have:(b % 6).toNat=0\/(b % 6).toNat=1\/(b % 6).toNat=2\/(b % 6).toNat=3\/(b % 6).toNat=4\/(b % 6).toNat=5:=by omega
 rcases this with e | e | e | e | e | e<;>rw[e]at h<;>simp only[List.getD_cons_zero,List.getD_cons_succ]at h<;>omega
theorem a2E(b k z:Int):∀n,(nm3 b k z n).length=n
 | 0=>rfl
 | n+1=>by
  show(nm3 b k z n++[_]).length=_
  rw[List.length_append,a2E b k z n];rfl
theorem a4J(b k z:Int):∀(n j:Nat),j < n->(nm3 b k z n)[j]?=some (if(j:Int)=b/32 % z then a0i ((b/(256+11*j*j)+k) % 26)else if(j:Int)=0 then a0i (b/(256+11*j*j) % 26)else b5C (b/(256+11*j*j) % 36))
 | 0,j,h=>by omega
 | n+1,j,h=>by
  show(nm3 b k z n++[_])[j]?=_
  by_cases e:j < n
  ·rw[List.getElem?_append_left (by rw[a2E];exact e)]
   exact a4J b k z n j e
  ·have:j=n:=by omega
   subst this
   rw[List.getElem?_append_right (by rw[a2E];exact AH _),a2E]
   simp
theorem b0V:∀i:Nat,i < 24->∀j:Nat,j < 24->Str.ofString (toString (i:Int))=Str.ofString (toString (j:Int))->i=j:=by decide +kernel
theorem a1R{a x y:Str}(h:a++x=a++y):x=y:=by
 have h2:(a++x).cps.toList=(a++y).cps.toList:=by rw[h]
 rw[a9N,a9N]at h2
 have h3:=List.append_cancel_left h2
 cases x;cases y
 congr
 exact Array.toList_inj.mp h3
theorem a3Z{b k l:Int}(hb:0<=b)(hk:0<=k)(hk2:k < 24)(hl:0<=l)(hl2:l < 24)(h:W8 b k=W8 b l):k=l:=by
 refine b1o hb hk hk2 hl hl2 ?_
 obtain⟨r1,r2⟩:=a2v b k
 obtain⟨r3,r4⟩:=a2v b l
 unfold W8 at h
 generalize a1N b k=k' at*
 generalize a1N b l=l' at*
 have hb':0<=b/144:=by omega
 generalize b/144=b' at*
 simp only at h
 split at h
 ·have h2:List.replicate (1+k' % 8).toNat (a0i ((b'/4+k'/8) % 26))=List.replicate (1+l' % 8).toNat (a0i ((b'/4+l'/8) % 26)):=by
   injection h with h
   exact congrArg Array.toList h
  have h3:=congrArg List.length h2
  simp only[List.length_replicate]at h3
  have h4:=congrArg List.head? h2
  rw[show(1+k' % 8).toNat=(k' % 8).toNat+1 by omega,show(1+l' % 8).toNat=(l' % 8).toNat+1 by omega,List.replicate_succ,List.replicate_succ]at h4
  simp only[List.head?_cons,Option.some.injEq]at h4
  have h5:=a6x (by omega) (by omega) (by omega) (by omega) h4
  omega
 ·split at h
  ·have h2:=a1R h
   have e1:((k'.toNat:Nat):Int)=k':=by omega
   have e2:((l'.toNat:Nat):Int)=l':=by omega
   rw[<-e1,<-e2]at h2
   have:=b0V k'.toNat (by omega) l'.toNat (by omega) h2
   omega
  ·have h2:nm3 b' k' (1+b'/4 % 8) (1+b'/4 % 8).toNat=nm3 b' l' (1+b'/4 % 8) (1+b'/4 % 8).toNat:=by
    injection h with h
    exact congrArg Array.toList h
   have hz:0 < 1+b'/4 % 8:=by omega
   generalize 1+b'/4 % 8=z at*
   have hj1:0<=b'/32 % z:=BO _ (by omega)
   have hj2:b'/32 % z < z:=BQ _ hz
   have e1:(((b'/32 % z).toNat:Nat):Int)=b'/32 % z:=by omega
   have g1:=a4J b' k' z z.toNat (b'/32 % z).toNat (by omega)
   have g2:=a4J b' l' z z.toNat (b'/32 % z).toNat (by omega)
   rw[e1,if_pos rfl]at g1 g2
   rw[h2,g2]at g1
   injection g1 with g1
   have h5:=a6x (by omega) (by omega) (by omega) (by omega) g1
   generalize b'/(256+11*(b'/32 % z)*(b'/32 % z))=q at*
   omega
end L2
namespace L2
open PySem PySem.Spec PyProof.Rows
section
variable{X:Cx}
theorem b2w{xs:List V}{its:List Value}(r:W0 xs its){y:V}{u:Value}(ru:U8 y u)(k:Nat):W0 (xs.take k++y::xs.drop k) (its.take k++u::its.drop k):=
 (r.take k).append (.cons ru (r.drop k))
noncomputable def b4h:V->List V->Hp->VK->Prop:=fun x vs H Q=>∃(l:Addr)(xs:List V)(i:Int)(y:V),x= .ref l/\vs=[.int i,y]/\H l=some (.lst xs)/\0<=i/\i<=xs.length/\xs.length < sizeLine/\Q .non (upd H l (.lst (xs.take i.toNat++y::xs.drop i.toNat)))
theorem a1s:MtM X "list.insert" b4h:=by
 intro pins s σ H x vs v us Q I rx rv h
 obtain⟨l,xs,i,y,rfl,rfl,hH,h0,h1,hz,q⟩:=h
 cases rx
 cases rv with
 | @cons _ u1 _ _ r1 rv=>
 cases rv with
 | @cons _ u2 _ _ r2 rv=>
 cases rv
 obtain⟨t,rfl⟩:=r1
 obtain⟨z,its,n,r,hl,e⟩:=I.lstM hH
 have hs:sizeLine=16777216:=sizeLine_eq
 have hfit:¬(!Builtin.List.listFitsIndex i)=true:=by
  rw[fitsIndex_both (by omega) (by omega)]
  exact AE
 refine call_meets F.slot_list_insert ⟨_,e,rfl⟩ F.entry_list_insert (F.args_list_insert_3 _ _ _) (PySem.AutoSeq1.list_insert_list_int_val_1 l its.toArray n i t u2 hfit (by rw[List.size_toArray];omega)) ⟨e,?_⟩
 refine⟨.non,_,I.lset (its':=its.take i.toNat++u2::its.drop i.toNat) hH e ?_ (b2w r r2 i.toNat) ?_,rfl,q⟩
 ·show(have k:=if i < 0 then(i+((its.toArray.size:Nat):Int)).toNat else min i.toNat its.toArray.size;(its.toArray.extract 0 k).push u2++its.toArray.extract k)=_
  have hk:min i.toNat its.toArray.size=i.toNat:=by rw[List.size_toArray];omega
  simp only[if_neg (show¬i < 0 by omega),hk]
  apply Array.toList_inj.mp
  simp
  exact List.take_of_length_le (by rw[List.length_drop];exact AH _)
 ·rw[List.length_append,List.length_cons,BD,List.length_drop];omega
theorem a1C(hu:X.A.units < cLine):OpR X (compareOp .NotEq) (fun x y H Q=>∃a b xs,x= .ref a/\y= .ref b/\SqL X.K H a xs/\SqL X.K H b []/\Q (.bl (!xs.isEmpty)) H):=by
 intro pins s σ H x y v u Q I rx ry h
 obtain⟨a,b,xs,rfl,rfl,ha,hb,q⟩:=h
 cases rx
 cases ry
 obtain⟨its,r1,p1,_⟩:=I.list ha
 obtain⟨its2,r2,p2,_⟩:=I.list hb
 cases r2
 cases xs with
 | nil=>
  cases r1
  exact SeqAt.RcNeAt.lists (e:=fun _=>true) p1.isList p2.isList rfl hu (fun j h1 _=>absurd h1 (by simp)) _ _ _ _ ⟨.bl false,H,I,rfl,q⟩
 | cons c r=>
  have hl1:=r1.length
  exact SeqAt.RcNeAt.lists_lengths p1.isList p2.isList (by rw[bne_iff_ne];intro z;simp only[List.size_toArray,List.length_nil,List.length_cons]at z hl1;omega) hu _ _ _ _ ⟨.bl true,H,I,rfl,q⟩
end
end L2
namespace L2
open PySem PySem.Spec PyProof.Rows
noncomputable def b2f (K:W.Frag) (a b:Addr):It:=
 ⟨fun i H=>∃xs ys x y,SqL K H a xs/\SqL K H b ys/\xs[i]?=some x/\ys[i]?=some y,
   fun i H x H'=>∃p u v,(∀xs,SqL K H a xs->xs[i]?=some u)/\(∀ys,SqL K H b ys->ys[i]?=some v)/\H p=none/\x= .ref p/\H'=upd H p (.tup [u,v]),
   fun i H=>∃xs ys,SqL K H a xs/\SqL K H b ys/\xs.length=i/\ys.length=i⟩
noncomputable def a6p (n a b:Addr) (i:Nat) (h:Heap):Prop:=IsZip h (n+4) (n+2) (n+3) .none/\IsPair h (n+2) (.ref n) (.ref (n+1))/\(∃x y,IsPair h (n+3) x y)/\h.IsListIter n a i/\h.IsListIter (n+1) b i
noncomputable def a0D (n:Addr):List Addr:=[n+4,n+2,n+3,n,n+1]
theorem a6p.obj{n a b:Addr}{i:Nat}{h:Heap}(st:a6p n a b i h):∀c∈a0D n,∃o,h.get? c=some o/\∀v,o.data≠ .cell v:=by
 obtain⟨h1,h2,⟨x,y,h3⟩,⟨o4,e4,c4,d4⟩,⟨o5,e5,c5,d5⟩⟩:=st
 intro c hc
 simp only[a0D,List.mem_cons,List.not_mem_nil,or_false]at hc
 rcases hc with rfl | rfl | rfl | rfl | rfl
 ·exact⟨_,h1,fun v z=>nomatch z⟩
 ·exact⟨_,h2,fun v z=>nomatch z⟩
 ·exact⟨_,h3,fun v z=>nomatch z⟩
 ·exact⟨o4,e4,fun v z=>by rw[d4]at z;cases z⟩
 ·exact⟨o5,e5,fun v z=>by rw[d5]at z;cases z⟩
theorem a6p.keep{n a b:Addr}{i:Nat}{h h':Heap}(st:a6p n a b i h)(kk:∀c∈a0D n,∀o,h.get? c=some o->h'.get? c=some o):a6p n a b i h':=by
 obtain⟨h1,h2,⟨x,y,h3⟩,⟨o4,e4,r4⟩,⟨o5,e5,r5⟩⟩:=st
 exact⟨kk _ (by simp[a0D]) _ h1,kk _ (by simp[a0D]) _ h2,⟨x,y,kk _ (by simp[a0D]) _ h3⟩,⟨o4,kk _ (by simp[a0D]) _ e4,r4⟩,⟨o5,kk _ (by simp[a0D]) _ e5,r5⟩⟩
theorem b1j{P:Program}{w:World}{K:W.Frag}{elts:List Expr}{k:Nat}{pos:Pos}(n a b:Addr)(ha:a < n)(hb:b < n):
  a7U P w K (.Tuple elts k pos) (b2f K a b) (a0D n) (n+4) (a6p n a b)where
 mem:=by simp[a0D]
 obj:=fun i h st=>st.obj
 keep:=fun i h h' st kk=>st.keep kk
 item:=by
  intro X hP hw hK hc i pins s σ H E I hf st hg
  subst hP hw hK
  obtain⟨xs,ys,x,y,hq1,hq2,hx,hy⟩:=hg
  obtain⟨its1,rv1,p1,hz1⟩:=I.list hq1
  obtain⟨its2,rv2,p2,hz2⟩:=I.list hq2
  obtain⟨u1,hu1,ru1⟩:=rv1.get hx
  obtain⟨u2,hu2,ru2⟩:=rv2.get hy
  have W:=WalksT.zip2 (prog:=X.prog) (w:=X.w) (A:=X.A) (I.ok.hd hc) (n+4) (n+2) (n+3) n (n+1) a b (W.ktu_apart n a b ha hb) its1.toArray its2.toArray
  have g1:=(List.getElem?_eq_some_iff.mp hu1).1
  have g2:=(List.getElem?_eq_some_iff.mp hu2).1
  have hsub:∀c,c∈[n+4,n+3,n,n+1]->c∈a0D n:=fun c hc=>by
   simp only[a0D,List.mem_cons,List.not_mem_nil,or_false]at hc⊢
   rcases hc with z | z | z | z<;>simp[z]
  have hfw:∀c∈[n+4,n+3,n,n+1],a2P X pins H c:=fun c hc=>hf c (hsub c hc)
  refine W.item i s _ _ (by simp only[List.size_toArray];omega) ⟨st.1,st.2.1,st.2.2.1,st.2.2.2.1,st.2.2.2.2,p1.isList,p2.isList⟩ fun T vals h' tk hPt hT hTup hM hk=>?_
  obtain⟨w1,w2,hw1,hw2,rfl⟩:=hPt
  have e1:w1=u1:=by
   have:its1[i]?=some w1:=by simpa using hw1
   rw[hu1]at this
   exact(Option.some.inj this).symm
  have e2:w2=u2:=by
   have:its2[i]?=some w2:=by simpa using hw2
   rw[hu2]at this
   exact(Option.some.inj this).symm
  subst e1 e2
  have I1:Inv X pins σ H {s with heap:=h',toks:=tk}:=I.turnedL hk hfw
  have hHT:H T=none:=I.hok.fresh hT
  have fT:a2P X pins H T:=I.fpOk hT hHT
  refine⟨_,rfl,W.go elts k pos i T {s with heap:=h',toks:=tk} _ _ hM fun h2 st2 hk2=>?_⟩
  have I2':=I1.turnedL (h':=h2) (t':=tk) hk2 hfw
  have I2:Inv X pins σ H {s with heap:=h2,toks:=tk}:=I2'
  have hT2:h2.IsTuple T #[w1,w2]:=by
   obtain⟨o,ho,r⟩:=hTup
   exact⟨o,hk2 T o (W.apart i T h' hM) ho,r⟩
  have I3:Inv X pins σ (upd H T (.tup [x,y])) {s with heap:=h2,toks:=tk}:=
   I2.track fT ⟨by show 2<=sizeLine;decide,[w1,w2],.cons ru1 (.cons ru2 .nil),hT2⟩
  refine⟨.ref T,_,I3,rfl,⟨T,x,y,fun zs hz'=>by rw[I.list_inj hz' hq1];exact hx,fun zs hz'=>by rw[I.list_inj hz' hq2];exact hy,hHT,rfl,rfl⟩,⟨st2.1,st2.2.1,st2.2.2.1,st2.2.2.2.1,st2.2.2.2.2.1⟩,fun c hc'=>?_⟩
  obtain⟨o,ho,_⟩:=st.obj c hc'
  have hlt:=AJ ho
  rw[I0 (fun z=>by rw[z]at hlt;exact absurd hlt (Nat.not_lt.mpr hT))]
  exact(hf c hc').1
 done:=by
  intro X hP hw hK hc i pins s σ H E I hf st hg
  subst hP hw hK
  obtain⟨xs,ys,hq1,hq2,hx,hy⟩:=hg
  obtain⟨its1,rv1,p1,hz1⟩:=I.list hq1
  obtain⟨its2,rv2,p2,hz2⟩:=I.list hq2
  have W:=WalksT.zip2 (prog:=X.prog) (w:=X.w) (A:=X.A) (I.ok.hd hc) (n+4) (n+2) (n+3) n (n+1) a b (W.ktu_apart n a b ha hb) its1.toArray its2.toArray
  have l1:=rv1.length
  have l2:=rv2.length
  have hmin:min its1.toArray.size its2.toArray.size=i:=by simp only[List.size_toArray];omega
  rw[hmin]at W
  have hsub:∀c,c∈[n+4,n+3,n,n+1]->c∈a0D n:=fun c hc=>by
   simp only[a0D,List.mem_cons,List.not_mem_nil,or_false]at hc⊢
   rcases hc with z | z | z | z<;>simp[z]
  refine W.done s _ _ ⟨st.1,st.2.1,st.2.2.1,st.2.2.2.1,st.2.2.2.2,p1.isList,p2.isList⟩ fun h' tk hk=>⟨rfl,?_⟩
  exact I.turnedL hk fun c hc=>hf c (hsub c hc)
 self:=fun _ _ _ _ _ st h=>wpAny_pyIter_zip st.1 h
section
variable{X:Cx}{elts:List Expr}{k:Nat}{tpos:Pos}
noncomputable def b6C (K:W.Frag) (ta:TA):TI:=fun σ H R=>ta σ H fun vs H1=>∃a b,vs=[.ref a,.ref b]/\(∃xs,SqL K H1 a xs)/\(∃ys,SqL K H1 b ys)/\R (b2f K a b) H1
theorem b4S{e1 e2:Expr}{ta:TA}{p pos:Pos}(hg:Gl X "zip")(hm:X.mg "zip"=none)(ha:PA X [e1,e2] ta)(hs:starEach [e1,e2] X.env=(false,eval e1 X.env)::starEach [e2] X.env:=by rfl)(hs2:∀pos,(backTo pos (starEach [e2] X.env)).any (·.1)=false:=by intro _;rfl):
  PI X (.Tuple elts k tpos) (.Call (.Name "zip" p) [e1,e2] [] pos) (b6C X.K ta):=by
 intro pins s σ H R I h
 refine Call_ (a0T I hg hm boot_zip (PyProof.Rows.callWith_type1 (thn (ha pos pins s σ H _ I h) fun us s1⟨vs,H1,I1,r1,q1⟩=>?_) hs (hs2 _)))
 obtain⟨a,b,e,⟨xs,hq1⟩,⟨ys,hq2⟩,q⟩:=q1
 subst e
 cases r1 with
 | cons ra rr=>
 cases rr with
 | cons rb rr=>
  cases rr
  cases ra
  cases rb
  obtain⟨its1,rv1,p1,hz1⟩:=I1.list hq1
  obtain⟨its2,rv2,p2,hz2⟩:=I1.list hq2
  have la:a < s1.heap.objs.size:=by obtain⟨o,ho,_⟩:=p1.isList;exact AJ ho
  have lb:b < s1.heap.objs.size:=by obtain⟨o,ho,_⟩:=p2.isList;exact AJ ho
  refine call_zip_2 p1.isList p2.isList fun h' z1 z2 z3 z4 z5 z6 hk=>?_
  have I2:Inv X pins σ H1 {s1 with heap:=h'}:=I1.kept (t':=s1.toks) hk
  refine wpAny_pyIter_zip z1 ⟨s1.heap.objs.size+4,a0D s1.heap.objs.size,_,_,H1,rfl,I2,b1j s1.heap.objs.size a b la lb,⟨z1,z2,⟨_,_,z3⟩,z4,z5⟩,fun c hc=>?_,q⟩
  have hc':s1.heap.objs.size<=c:=by
   simp only[a0D,List.mem_cons,List.not_mem_nil,or_false]at hc
   rcases hc with z | z | z | z | z<;>rw[z]<;>first | exact AH _ | exact Nat.le_add_right _ _
  exact I1.fpOk hc' (I1.hok.fresh hc')
end
theorem b2C{K:W.Frag}{a b:Addr}{xs ys:List V}{g:TG}{tb:TS}{D:a0X}{σ:St}{H:Hp}(Pv:Nat->St->Hp->Prop)(hlen:xs.length=ys.length)(h0:Pv 0 σ H)(hl:∀i σ H,i<=xs.length->Pv i σ H->SqL K H a xs/\SqL K H b ys)
  (hs:∀i x y p σ H,xs[i]?=some x->ys[i]?=some y->Pv i σ H->H p=none->g (.ref p) σ (upd H p (.tup [x,y])) fun σ2 H2=>tb {D with nx:=Pv (i+1),ct:=Pv (i+1),bk:=D.nx} σ2 H2)(hd:∀σ H,Pv xs.length σ H->D.nx σ H):
  ∃W:Nat->Nat->St->Hp->Prop,(∃m,W 0 m σ H)/\∀i m σ H,W i m σ H->
   ((b2f K a b).stop i H/\D.nx σ H)\/((b2f K a b).go i H/\∃N:St->Hp->Prop,(∀σ' H',N σ' H'->∃m',m' < m/\W (i+1) m' σ' H')/\∀x H',(b2f K a b).yld i H x H'->g x σ H' fun σ2 H2=>tb {D with nx:=N,ct:=N,bk:=D.nx} σ2 H2):=by
 refine⟨fun i m σ H=>m=xs.length - i/\i<=xs.length/\Pv i σ H,⟨xs.length,by simp,Nat.zero_le _,h0⟩,?_⟩
 rintro i m σ H ⟨rfl,hi,p⟩
 have q:=hl i σ H hi p
 by_cases hlt:i < xs.length
 ·have hlt2:i < ys.length:=by omega
  refine .inr ⟨⟨xs,ys,xs[i],ys[i],q.1,q.2,by simp[hlt],by simp[hlt2]⟩,Pv (i+1),fun σ' H' p'=>⟨xs.length - (i+1),by omega,rfl,hlt,p'⟩,fun x H' y=>?_⟩
  obtain⟨pp,u,v,y1,y2,hn,e1,e2⟩:=y
  subst e1 e2
  exact hs i u v pp σ _ (y1 xs q.1) (y2 ys q.2) p hn
 ·have e:i=xs.length:=by omega
  subst e
  exact .inl ⟨⟨xs,ys,q.1,q.2,rfl,hlen.symm⟩,hd σ H p⟩
end L2
namespace L2
open PySem PySem.Spec PyProof.Rows
inductive Pr where
 | own (k n:Str) (xs:List Int)
 | bring (j:Nat) (ps:List (Str×Str)) (xs:List Int)
 | give (o g:Str) (xs:List Int)
 | ask (j:Nat) (xs:List Int)
 | sum (k:Str) (xs:List Int)
structure Pp where
 rows:List Pr
 owns:List Str
 gives:List Str
 sh:Int
noncomputable def a7s (H:Hp) (F:Addr->Prop) (x:Addr) (xs:List Int):Prop:=H x=some (.lst (xs.map V.int))/\¬F x
noncomputable def a7n (H:Hp) (F:Addr->Prop) (v:V):Pr->Prop
 | .own k n xs=>∃t x,v= .ref t/\H t=some (.tup [.str k,.str n,.ref x])/\a7s H F x xs
 | .bring j ps xs=>∃t u q x,v= .ref t/\H t=some (.tup [.str "bring",.ref u,.ref x])/\H u=some (.tup [.int j,.ref q])/\a0Z H q ps/\a7s H F x xs
 | .give o g xs=>∃t u x,v= .ref t/\H t=some (.tup [.str "give",.ref u,.ref x])/\H u=some (.tup [.str o,.str g])/\a7s H F x xs
 | .ask j xs=>∃t x,v= .ref t/\H t=some (.tup [.str "ask",.int j,.ref x])/\a7s H F x xs
 | .sum k xs=>∃t x,v= .ref t/\H t=some (.tup [.str k,.non,.ref x])/\a7s H F x xs
theorem a7n.keep{H H':Hp}{F F':Addr->Prop}(ht:R1 H H')(hk:∀x xs,¬F x->H x=some (.lst xs)->H' x=some (.lst xs)/\¬F' x){v:V}{pr:Pr}(h:a7n H F v pr):a7n H' F' v pr:=by
 have X:∀{x xs},a7s H F x xs->a7s H' F' x xs:=fun{x xs}z=>hk x _ z.2 z.1
 cases pr with
 | own k n xs=>obtain⟨t,x,e,h1,h2⟩:=h;exact⟨t,x,e,ht _ _ h1,X h2⟩
 | bring j ps xs=>obtain⟨t,u,q,x,e,h1,h2,h3,h4⟩:=h;exact⟨t,u,q,x,e,ht _ _ h1,ht _ _ h2,h3.mono ht,X h4⟩
 | give o g xs=>obtain⟨t,u,x,e,h1,h2,h3⟩:=h;exact⟨t,u,x,e,ht _ _ h1,ht _ _ h2,X h3⟩
 | ask j xs=>obtain⟨t,x,e,h1,h2⟩:=h;exact⟨t,x,e,ht _ _ h1,X h2⟩
 | sum k xs=>obtain⟨t,x,e,h1,h2⟩:=h;exact⟨t,x,e,ht _ _ h1,X h2⟩
structure Q4 where
 p:Addr
 r:Addr
 o:Addr
 g:Addr
noncomputable def Q4.nth (q:Q4):Nat->Addr
 | 0=>q.p
 | 1=>q.r
 | 2=>q.o
 | _=>q.g
noncomputable def inH (l:Addr) (A:List Q4) (ex:List Addr) (a:Addr):Prop:=a=l\/a∈ex\/∃(i:Nat)(q:Q4)(x:Nat),A[i]?=some q/\x < 4/\q.nth x=a
structure b0F(H:Hp)(F:Addr->Prop)(q:Q4)(pp:Pp):Prop where
 p:H q.p=some (.lst [.ref q.r,.ref q.o,.ref q.g,.int pp.sh])
 r:∃vs,H q.r=some (.lst vs)/\Paired (a7n H F) vs pp.rows
 o:H q.o=some (.lst (pp.owns.map V.str))
 g:H q.g=some (.lst (pp.gives.map V.str))
structure R7(H:Hp)(l:Addr)(A:List Q4)(ex:List Addr)(hs:List Pp):Prop where
 ll:H l=some (.lst (A.map fun q=>V.ref q.p))
 len:A.length=hs.length
 pt:∀(i:Nat)(q:Q4)(pp:Pp),A[i]?=some q->hs[i]?=some pp->b0F H (inH l A ex) q pp
 nl:∀(i:Nat)(q:Q4)(x:Nat),A[i]?=some q->x < 4->q.nth x≠l
 xl:∀d∈ex,d≠l/\∀(i:Nat)(q:Q4)(x:Nat),A[i]?=some q->x < 4->q.nth x≠d
 ap:∀(i j:Nat)(q u:Q4)(x y:Nat),A[i]?=some q->A[j]?=some u->x < 4->y < 4->q.nth x=u.nth y->i=j/\x=y
theorem b0F.keep{H H':Hp}{F:Addr->Prop}{q:Q4}{pp:Pp}(ht:R1 H H')(hk:∀x xs,¬F x->H x=some (.lst xs)->H' x=some (.lst xs))(h4:∀x,x < 4->H' (q.nth x)=H (q.nth x))(h:b0F H F q pp):b0F H' F q pp where
 p:=(h4 0 (by omega)).trans h.p
 r:=by
  obtain⟨vs,h1,h2⟩:=h.r
  exact⟨vs,(h4 1 (by omega)).trans h1,Paired.mapP h2 fun _ _ z=>z.keep ht fun x xs hx hv=>⟨hk x xs hx hv,hx⟩⟩
 o:=(h4 2 (by omega)).trans h.o
 g:=(h4 3 (by omega)).trans h.g
theorem R7.same{H H':Hp}{l:Addr}{A:List Q4}{ex:List Addr}{hs:List Pp}(h:R7 H l A ex hs)(s:G8 H H'):R7 H' l A ex hs where
 ll:=s _ _ h.ll
 len:=h.len
 pt:=fun i q pp e1 e2=>by
  have z:=h.pt i q pp e1 e2
  obtain⟨vs,h1,h2⟩:=z.r
  exact⟨s _ _ z.p,⟨vs,s _ _ h1,Paired.mapP h2 fun _ _ y=>y.keep s.tups fun x xs hx hv=>⟨s _ _ hv,hx⟩⟩,s _ _ z.o,s _ _ z.g⟩
 nl:=h.nl
 xl:=h.xl
 ap:=h.ap
theorem R7.put{H:Hp}{l:Addr}{A:List Q4}{ex:List Addr}{hs:List Pp}(h:R7 H l A ex hs){i:Nat}{q:Q4}{pp pp':Pp}{x:Nat}{vs':List V}(e1:A[i]?=some q)(e2:hs[i]?=some pp)(hx:x < 4)
  (hn:∀H',H'=upd H (q.nth x) (.lst vs')->R1 H H'->(∀y ys,¬inH l A ex y->H y=some (.lst ys)->H' y=some (.lst ys))->(∀y,y < 4->y≠x->H' (q.nth y)=H (q.nth y))->b0F H' (inH l A ex) q pp')(hl:∃xs,H (q.nth x)=some (.lst xs)):
  R7 (upd H (q.nth x) (.lst vs')) l A ex (hs.set i pp'):=by
 obtain⟨xs,hl⟩:=hl
 have T:R1 H (upd H (q.nth x) (.lst vs')):=R1.lst hl
 have K:∀y ys,¬inH l A ex y->H y=some (.lst ys)->upd H (q.nth x) (.lst vs') y=some (.lst ys):=fun y ys hy hv=>by
  rw[I0 (fun z=>hy (Or.inr (Or.inr ⟨i,q,x,e1,hx,z.symm⟩)))]
  exact hv
 refine⟨?_,by rw[List.length_set];exact h.len,fun j u up f1 f2=>?_,h.nl,h.xl,h.ap⟩
 ·rw[I0 (h.nl i q x e1 hx).symm]
  exact h.ll
 ·by_cases hij:i=j
  ·subst hij
   rw[e1]at f1
   cases f1
   rw[BK ((List.getElem?_eq_some_iff.mp e2).1)]at f2
   cases f2
   refine hn _ rfl T K fun y hy hne=>?_
   rw[I0 (fun z=>hne (h.ap i i q q y x e1 e1 hy hx z).2)]
  ·rw[BP hij]at f2
   refine(h.pt j u up f1 f2).keep T K fun y hy=>?_
   rw[I0 (fun z=>hij (h.ap j i u q y x f1 e1 hy hx z).1.symm)]
theorem R7.add{H H4:Hp}{l:Addr}{A:List Q4}{hs:List Pp}(h:R7 H l A [] hs){q:Q4}{c:Int}(s:G8 H H4)(hnew:∀x,x < 4->H (q.nth x)=none)(hdis:∀x y,x < 4->y < 4->q.nth x=q.nth y->x=y)
  (hp:H4 q.p=some (.lst [.ref q.r,.ref q.o,.ref q.g,.int c]))(hr:H4 q.r=some (.lst []))(ho:H4 q.o=some (.lst []))(hg:H4 q.g=some (.lst [])):
  R7 (upd H4 l (.lst ((A.map fun q=>V.ref q.p)++[.ref q.p]))) l (A++[q]) [] (hs++[⟨[],[],[],c⟩]):=by
 have hql:∀x,x < 4->q.nth x≠l:=fun x hx z=>by
  have:=hnew x hx
  rw[z,h.ll]at this
  cases this
 have hqa:∀(i:Nat)(u:Q4)(x y:Nat),A[i]?=some u->x < 4->y < 4->u.nth y≠q.nth x:=fun i u x y e hx hy z=>by
  have h1:=hnew x hx
  rw[<-z]at h1
  have hi:=(List.getElem?_eq_some_iff.mp e).1
  have hi2:i < hs.length:=by rw[<-h.len];exact hi
  have e2:hs[i]?=some hs[i]:=by simp[hi2]
  have P:=h.pt i u _ e e2
  obtain⟨vs,r1,_⟩:=P.r
  have:y=0\/y=1\/y=2\/y=3:=by omega
  rcases this with rfl | rfl | rfl | rfl
  ·rw[show H (u.nth 0)=_ from P.p]at h1;cases h1
  ·rw[show H (u.nth 1)=_ from r1]at h1;cases h1
  ·rw[show H (u.nth 2)=_ from P.o]at h1;cases h1
  ·rw[show H (u.nth 3)=_ from P.g]at h1;cases h1
 have T:R1 H (upd H4 l (.lst ((A.map fun q=>V.ref q.p)++[.ref q.p]))):=s.tups.trans (R1.lst (s _ _ h.ll))
 have hget:∀(i:Nat)(u:Q4),(A++[q])[i]?=some u->(A[i]?=some u)\/(i=A.length/\u=q):=fun i u e=>by
  by_cases hi:i < A.length
  ·rw[List.getElem?_append_left hi]at e
   exact .inl e
  ·rw[List.getElem?_append_right (by omega)]at e
   have h0:i - A.length=0:=by
    have:=(List.getElem?_eq_some_iff.mp e).1
    simp only[List.length_singleton]at this
    omega
   rw[h0]at e
   simp only[List.getElem?_cons_zero,Option.some.injEq]at e
   exact .inr ⟨by omega,e.symm⟩
 refine⟨?_,by rw[List.length_append,List.length_append,h.len];rfl,fun i u pp e1 e2=>?_,fun i u x e hx=>?_,fun d hd=>by simp at hd,fun i j u v x y e1 e2 hx hy z=>?_⟩
 ·rw[G1,List.map_append];rfl
 ·rcases hget i u e1 with f1 | ⟨f1,rfl⟩
  ·have hi:=(List.getElem?_eq_some_iff.mp f1).1
   rw[List.getElem?_append_left (by rw[<-h.len];exact hi)]at e2
   have P:=h.pt i u pp f1 e2
   have hne:∀x,x < 4->upd H4 l (.lst ((A.map fun q=>V.ref q.p)++[.ref q.p])) (u.nth x)=H4 (u.nth x):=fun x hx=>I0 (h.nl i u x f1 hx)
   obtain⟨vs,r1,r2⟩:=P.r
   refine⟨(hne 0 (by omega)).trans (s _ _ P.p),⟨vs,(hne 1 (by omega)).trans (s _ _ r1),Paired.mapP r2 fun _ _ y=>y.keep T fun x xs hx hv=>⟨?_,?_⟩⟩,(hne 2 (by omega)).trans (s _ _ P.o),(hne 3 (by omega)).trans (s _ _ P.g)⟩
   ·rw[I0 (fun z=>hx (Or.inl z))]
    exact s _ _ hv
   ·rintro(z | z | ⟨j,v,y,g1,g2,g3⟩)
    ·exact hx (Or.inl z)
    ·simp at z
    ·rcases hget j v g1 with g1 | ⟨g1,rfl⟩
     ·exact hx (Or.inr (Or.inr ⟨j,v,y,g1,g2,g3⟩))
     ·have:=hnew y g2
      rw[g3,hv]at this
      cases this
  ·rw[f1,h.len,List.getElem?_append_right (AH _),Nat.sub_self]at e2
   simp only[List.getElem?_cons_zero,Option.some.injEq]at e2
   subst e2
   have hne:∀x,x < 4->upd H4 l (.lst ((A.map fun q=>V.ref q.p)++[.ref u.p])) (u.nth x)=H4 (u.nth x):=fun x hx=>I0 (hql x hx)
   exact⟨(hne 0 (by omega)).trans hp,⟨[],(hne 1 (by omega)).trans hr,.nil⟩,(hne 2 (by omega)).trans ho,(hne 3 (by omega)).trans hg⟩
 ·rcases hget i u e with f1 | ⟨f1,rfl⟩
  ·exact h.nl i u x f1 hx
  ·exact hql x hx
 ·rcases hget i u e1 with f1 | ⟨f1,rfl⟩
  ·rcases hget j v e2 with g1 | ⟨g1,rfl⟩
   ·exact h.ap i j u v x y f1 g1 hx hy z
   ·exact absurd z (hqa i u y x f1 hy hx)
  ·rcases hget j v e2 with g1 | ⟨g1,rfl⟩
   ·exact absurd z.symm (hqa j v x y g1 hx hy)
   ·exact⟨by omega,hdis x y hx hy z⟩
theorem R7.there{H:Hp}{l:Addr}{A:List Q4}{ex:List Addr}{hs:List Pp}(h:R7 H l A ex hs){i:Nat}{q:Q4}{x:Nat}(e:A[i]?=some q)(hx:x < 4):∃xs,H (q.nth x)=some (.lst xs):=by
 have hi:=(List.getElem?_eq_some_iff.mp e).1
 have hi2:i < hs.length:=by rw[<-h.len];exact hi
 have P:=h.pt i q hs[i] e (by simp[hi2])
 obtain⟨vs,r1,_⟩:=P.r
 have:x=0\/x=1\/x=2\/x=3:=by omega
 rcases this with rfl | rfl | rfl | rfl
 ·exact⟨_,P.p⟩
 ·exact⟨_,r1⟩
 ·exact⟨_,P.o⟩
 ·exact⟨_,P.g⟩
theorem R7.aside{H:Hp}{l d:Addr}{A:List Q4}{ex:List Addr}{hs:List Pp}(h:R7 H l A ex hs)(hd:H d=none):R7 H l A (d::ex) hs where
 ll:=h.ll
 len:=h.len
 pt:=fun i q pp e1 e2=>by
  have P:=h.pt i q pp e1 e2
  obtain⟨vs,r1,r2⟩:=P.r
  refine⟨P.p,⟨vs,r1,Paired.mapP r2 fun _ _ y=>y.keep (R1.refl H) fun x xs hx hv=>⟨hv,?_⟩⟩,P.o,P.g⟩
  rintro(z | z | z)
  ·exact hx (Or.inl z)
  ·rcases List.mem_cons.mp z with z | z
   ·rw[z,hd]at hv;cases hv
   ·exact hx (Or.inr (Or.inl z))
  ·exact hx (Or.inr (Or.inr z))
 nl:=h.nl
 xl:=fun c hc=>by
  rcases List.mem_cons.mp hc with z | z
  ·rw[z]
   refine⟨fun y=>?_,fun i q x e hx y=>?_⟩
   ·rw[y,h.ll]at hd;cases hd
   ·obtain⟨xs,hxs⟩:=h.there e hx
    rw[y,hd]at hxs;cases hxs
  ·exact h.xl c z
 ap:=h.ap
theorem R7.back{H:Hp}{l d:Addr}{A:List Q4}{ex:List Addr}{hs:List Pp}(h:R7 H l A (d::ex) hs):R7 H l A ex hs where
 ll:=h.ll
 len:=h.len
 pt:=fun i q pp e1 e2=>by
  have P:=h.pt i q pp e1 e2
  obtain⟨vs,r1,r2⟩:=P.r
  refine⟨P.p,⟨vs,r1,Paired.mapP r2 fun _ _ y=>y.keep (R1.refl H) fun x xs hx hv=>⟨hv,?_⟩⟩,P.o,P.g⟩
  rintro(z | z | z)
  ·exact hx (Or.inl z)
  ·exact hx (Or.inr (Or.inl (AK _ z)))
  ·exact hx (Or.inr (Or.inr z))
 nl:=h.nl
 xl:=fun c hc=>h.xl c (AK _ hc)
 ap:=h.ap
theorem R7.other{H:Hp}{l d:Addr}{A:List Q4}{ex:List Addr}{hs:List Pp}{xs ys:List V}(h:R7 H l A ex hs)(hd:d∈ex)(hx:H d=some (.lst xs)):R7 (upd H d (.lst ys)) l A ex hs where
 ll:=by rw[I0 (h.xl d hd).1.symm];exact h.ll
 len:=h.len
 pt:=fun i q pp e1 e2=>(h.pt i q pp e1 e2).keep (R1.lst hx) (fun x zs hn hv=>by rw[I0 (fun z=>hn (Or.inr (Or.inl (by rw[z];exact hd))))];exact hv) fun x hx=>I0 ((h.xl d hd).2 i q x e1 hx)
 nl:=h.nl
 xl:=h.xl
 ap:=h.ap
end L2
namespace L2
open PySem PySem.Spec PyProof.Rows
theorem b5p:∀i:Nat,i < 36->a3n (("abcdefghijklmnopqrstuvwxyz0123456789":Str).cps.toList.getD i 0)=true:=by decide +kernel
theorem a0a{i:Int}(h0:0<=i)(h1:i < 26):a3v (a0i i)=true:=b2S i.toNat (by omega)
theorem b4z{i:Int}(h0:0<=i)(h1:i < 36):a3n (b5C i)=true:=b5p i.toNat (by omega)
theorem a6Q{c:Nat}(h:a3v c=true):a3n c=true:=by unfold a3n;rw[h];rfl
theorem a4c{l:List Nat}{c:Nat}{r:List Nat}(e:l=c::r)(hc:a3v c=true)(hr:∀x∈r,a3n x=true)(hl:r.length<=7):F7 ⟨l.toArray⟩:=by
 subst e
 show(a3v c && r.all a3n && decide (r.length<=7))=true
 rw[hc,List.all_eq_true.mpr hr,decide_eq_true hl]
 rfl
theorem b3n:∀i:Nat,i < 24->(∀c∈(Str.ofString (toString (i:Int))).cps.toList,a3n c=true)/\(Str.ofString (toString (i:Int))).cps.toList.length<=2:=by decide +kernel
theorem b1Z(b k z:Int)(hb:0<=b)(hk:0<=k):∀n,∀c∈nm3 b k z n,a3n c=true
 | 0,c,hc=>by simp[nm3]at hc
 | n+1,c,hc=>by
  rcases AL.mp (show c∈nm3 b k z n++[_]from hc)with h | h
  ·exact b1Z b k z hb hk n c h
  ·rw[AD.mp h]
   split
   ·exact a6Q (a0a (by omega) (by omega))
   ·split
    ·exact a6Q (a0a (by omega) (by omega))
    ·exact b4z (by omega) (by omega)
theorem a7x{b k:Int}(hb:0<=b):F7 (W8 b k):=by
 obtain⟨r1,r2⟩:=a2v b k
 unfold W8
 generalize a1N b k=k' at*
 have hb':0<=b/144:=by omega
 generalize b/144=b' at*
 simp only
 split
 ·refine a4c (r:=List.replicate (k' % 8).toNat (a0i ((b'/4+k'/8) % 26))) (c:=a0i ((b'/4+k'/8) % 26)) ?_ (a0a (by omega) (by omega)) (fun x hx=>?_) ?_
  ·rw[show(1+k' % 8).toNat=(k' % 8).toNat+1 by omega,List.replicate_succ]
  ·rw[(List.mem_replicate.mp hx).2]
   exact a6Q (a0a (by omega) (by omega))
  ·rw[List.length_replicate];omega
 ·split
  ·obtain⟨d1,d2⟩:=b3n k'.toNat (by omega)
   rw[show((k'.toNat:Nat):Int)=k' by omega]at d1 d2
   have e:(⟨(List.replicate (1+b'/104 % 6).toNat (a0i (b'/4 % 26))).toArray⟩:Str)++Str.ofString (toString k')=⟨(List.replicate (1+b'/104 % 6).toNat (a0i (b'/4 % 26))++(Str.ofString (toString k')).cps.toList).toArray⟩:=by
    show(⟨(List.replicate (1+b'/104 % 6).toNat (a0i (b'/4 % 26))).toArray++(Str.ofString (toString k')).cps⟩:Str)=_
    congr 1
    apply Array.toList_inj.mp
    simp
   rw[e]
   refine a4c (c:=a0i (b'/4 % 26)) (r:=List.replicate (b'/104 % 6).toNat (a0i (b'/4 % 26))++(Str.ofString (toString k')).cps.toList) ?_ (a0a (by omega) (by omega)) (fun x hx=>?_) ?_
   ·rw[show(1+b'/104 % 6).toNat=(b'/104 % 6).toNat+1 by omega,List.replicate_succ];rfl
   ·rcases AL.mp hx with h | h
    ·rw[(List.mem_replicate.mp h).2]
     exact a6Q (a0a (by omega) (by omega))
    ·exact d1 x h
   ·rw[List.length_append,List.length_replicate];omega
  ·have hz:0 < 1+b'/4 % 8:=by omega
   have hz8:1+b'/4 % 8<=8:=by omega
   generalize 1+b'/4 % 8=z at*
   have hl:=a2E b' k' z z.toNat
   have hs:=b1Z b' k' z hb' r1 z.toNat
   have h0:=a4J b' k' z z.toNat 0 (by omega)
   cases e:nm3 b' k' z z.toNat with
   | nil=>rw[e]at hl;simp at hl;omega
   | cons c r=>
    rw[e]at hl hs h0
    refine a4c rfl ?_ (fun x hx=>hs x (AK _ hx)) (by simp only[List.length_cons]at hl;omega)
    simp only[List.getElem?_cons_zero,Option.some.injEq]at h0
    rw[h0]
    split
    ·exact a0a (by omega) (by omega)
    ·rw[if_pos (by rfl)]
     exact a0a (by omega) (by omega)
noncomputable def W5 (b sh:Int) (n:Nat):List Str:=(List.range n).map fun(j:Nat)=>W8 b (((j:Int)+sh) % 24)
theorem a0V(b sh:Int)(n:Nat):(W5 b sh n).length=n:=by unfold W5;simp
theorem a1d(b sh:Int)(n:Nat):W5 b sh (n+1)=W5 b sh n++[W8 b (((n:Int)+sh) % 24)]:=by
 unfold W5;rw[List.range_succ,List.map_append];rfl
theorem a3O{b sh:Int}{n:Nat}(hb:0<=b):∀x∈W5 b sh n,F7 x:=fun x hx=>by
 obtain⟨j,_,rfl⟩:=AT.mp hx
 exact a7x hb
end L2
namespace L2
open PySem PySem.Spec PyProof.Rows
section
variable{P:Program}{w:World}{A:Around}{E:Value->Shared->Prop}{s:Shared}{z TI TO i1 i2 l1 l2:Addr}{xs ys:Array Value}{I1 I2:Nat->Heap->Prop}{S1 S2:Heap->Prop}
end
section
variable{X:Cx}{elts:List Expr}{k:Nat}{tpos:Pos}
end
end L2
namespace L2
open PySem PySem.Spec PyProof.Rows PySem.W
noncomputable def a0r (h:Heap) (d:Addr) (es:Array DictEntry) (ep:Nat):Prop:=∃o,h.get? d=some o/\o.ExactDict/\o.data= .dict es ep
theorem a0r.move{h h':Heap}{d:Addr}{es:Array DictEntry}{ep:Nat}(r:a0r h d es ep)(k:∀o,h.get? d=some o->h'.get? d=some o):a0r h' d es ep:=by
 obtain⟨ob,e,c⟩:=r
 exact⟨ob,k ob e,c⟩
theorem a0r.lt{h:Heap}{d:Addr}{es:Array DictEntry}{ep:Nat}(r:a0r h d es ep):d < h.objs.size:=by
 obtain⟨ob,e,_⟩:=r
 exact AJ e
section
variable{P:Program}{w:World}{A:Around}{E:Value->Shared->Prop}{s:Shared}{d:Addr}{es:Array DictEntry}{ep:Nat}
theorem a0r.ty(r:a0r s.heap d es ep):s.TypeIs (.ref d) "dict":=by
 obtain⟨ob,e,c,_⟩:=r
 exact⟨ob,e,c.1⟩
theorem a7w{Q:Value->Shared->Prop}(lo:(d==sysModules)=false)(r:a0r s.heap d es ep)
  (q:Q (.ref s.heap.objs.size) {s with heap:=s.heap.push {cls:= .type "dict_keyiterator",data:= .fields #[.ref d,.int 0 0,.int es.size 0,.int ep 0]}}):wpAny (model P w) A (pyIter (.ref d)) Q E s:=by
 have ty:=r.ty
 obtain⟨ob,eb,cb,db⟩:=r
 refine wpAny_pyIter_slot ty F.slot_dict_iter (wpAny_call_entry F.slot_dict_iter ty F.entry_dict_iter ?_ (F.args_dict_iter_1 _))
 unfold Builtin.«dict.__iter__» Builtin.Dict.dictSlotNone
 refine AA (AA (wpAny_notOrdered_dict ty ?_))
 show wpAny _ _ (pure (Value.ref d)) _ _ s
 refine AB ?_
 show wpAny _ _ (Builtin.Dict.showsAll d >>= _) _ _ s
 unfold Builtin.Dict.showsAll
 rw[if_neg (fun z=>by rw[lo]at z;exact AE z)]
 refine AA (AB (AA (wpAny_dictEntries eb db (AA (wpAny_dictEpoch eb db ?_)))))
 refine AA (wpAny_newObj_type (AB ⟨_,rfl,"dict_keyiterator",_,⟨_,AI _ rfl,rfl⟩,F.slot_dict_keyiterator_next.lookup,?_⟩))
 simpa [rawInt]using q
theorem a8f{it:Addr}{i:Nat}{e:DictEntry}{Q:Option Value->Shared->Prop}(hi:s.heap.IsKeyIter it d i es.size ep)(r:a0r s.heap d es ep)(he:es[i]?=some e)
  (q:∀h',h'.IsKeyIter it d (i+1) es.size ep->Heap.SameBut it s.heap h'->Q (some e.key) {s with heap:=h'}):wpAny (model P w) A (pyNext (.ref it)) Q E s:=by
 obtain⟨oi,ei,ci,di⟩:=id hi
 obtain⟨ob,eb,cb,db⟩:=r
 unfold pyNext
 refine AA (wpAny_attempt (wpAny_callSpecial?_slot (name:=Str.ofString "__next__") hi.typeIs F.slot_dict_keyiterator_next (wpAny_call_entry F.slot_dict_keyiterator_next hi.typeIs F.entry_dict_keyiterator_next ?_ (F.args_dict_keyiterator_next_1 _))))
 refine AA (AB (AA (AA ?_)))
 first | refine AA (wpAny_typeNameOfWhole_keyiter hi.typeIs (AB (AA (wpAny_fieldsOf ei di ?_)))) | refine AA (wpAny_typeNameOf_keyiter hi.typeIs (AB (AA (wpAny_fieldsOf ei di ?_))))
 simp only[show Builtin.Dict_items.ownsTuple "dict_keyiterator"=false by decide,Bool.false_eq_true,if_false]
 show wpAny _ _ (ite ((Value.ref d==Value.none)=true) _ _) _ _ s
 rw[if_neg (by exact AE)]
 refine AA (AB (AA (wpAny_dictEntries eb db ?_)))
 rw[if_neg (by simp)]
 refine AA (AB (AA (wpAny_dictEpoch eb db ?_)))
 rw[if_neg (by simp)]
 refine AB ?_
 simp only[show¬((i:Int) < 0)from by omega,if_false,Int.toNat_natCast,he]
 refine AA ?_
 first | refine AA (wpAny_typeNameOfWhole_keyiter hi.typeIs (AB (AA (wpAny_isOneOf_keyiter hi.typeIs ?_)))) | refine AA (wpAny_typeNameOf_keyiter hi.typeIs (AB (AA (wpAny_isOneOf_keyiter hi.typeIs ?_))))
 show wpAny _ _ (setField (Value.ref it) 1 (rawInt ((i:Int)+1)) >>= _) _ _ s
 refine AA (wpAny_setField ei di (by simp) ?_)
 have hi2:(s.heap.update it (Obj.mapFields (·.setIfInBounds 1 (rawInt ((i:Int)+1))))).IsKeyIter it d (i+1) es.size ep:=⟨_,BE _ ei (Obj.isFreed_of_fields (Obj.data_mapFields di _)),(Obj.cls_mapFields ..).trans ci,by
  rw[Obj.data_mapFields di]
  simp[rawInt]⟩
 refine AA (BG (AA (wpAny_isOneOf_keyiter (s:={s with heap:=s.heap.update it (Obj.mapFields (·.setIfInBounds 1 (rawInt ((i:Int)+1))))}) hi2.typeIs ?_)))
 show wpAny _ _ (pure e.key) _ _ _
 exact AB (AB ⟨_,rfl,AB (q _ hi2 (Heap.SameBut.update ..))⟩)
theorem a8l{it:Addr}{i:Nat}{Q:Option Value->Shared->Prop}(hA:A.handled=none)(hi:s.heap.IsKeyIter it d i es.size ep)(r:a0r s.heap d es ep)(he:es[i]?=none)
  (q:∀h',Heap.ExtBut it s.heap h'->Q none {s with heap:=h'}):wpAny (model P w) A (pyNext (.ref it)) Q E s:=by
 obtain⟨oi,ei,ci,di⟩:=id hi
 obtain⟨ob,eb,cb,db⟩:=r
 unfold pyNext
 refine AA (wpAny_attempt (wpAny_callSpecial?_slot (name:=Str.ofString "__next__") hi.typeIs F.slot_dict_keyiterator_next (wpAny_call_entry F.slot_dict_keyiterator_next hi.typeIs F.entry_dict_keyiterator_next ?_ (F.args_dict_keyiterator_next_1 _))))
 refine AA (AB (AA (AA ?_)))
 first | refine AA (wpAny_typeNameOfWhole_keyiter hi.typeIs (AB (AA (wpAny_fieldsOf ei di ?_)))) | refine AA (wpAny_typeNameOf_keyiter hi.typeIs (AB (AA (wpAny_fieldsOf ei di ?_))))
 simp only[show Builtin.Dict_items.ownsTuple "dict_keyiterator"=false by decide,Bool.false_eq_true,if_false]
 show wpAny _ _ (ite ((Value.ref d==Value.none)=true) _ _) _ _ s
 rw[if_neg (by exact AE)]
 refine AA (AB (AA (wpAny_dictEntries eb db ?_)))
 rw[if_neg (by simp)]
 refine AA (AB (AA (wpAny_dictEpoch eb db ?_)))
 rw[if_neg (by simp)]
 refine AB ?_
 simp only[show¬((i:Int) < 0)from by omega,if_false,Int.toNat_natCast,he]
 refine AA ?_
 first | refine AA (wpAny_typeNameOfWhole_keyiter hi.typeIs (AB ?_)) | refine AA (wpAny_typeNameOf_keyiter hi.typeIs (AB ?_))
 show wpAny _ _ (setField (Value.ref it) 0 .none >>= _) _ _ s
 refine AA (wpAny_setField ei di (by simp) ?_)
 show wpAny _ _ (newExc (Value.type "StopIteration") [] >>= _) _ _ _
 refine AA ?_
 simp only[newTuple,newExc]
 refine AA (wpAny_newObj_type (AA (m:=firstArgMember _ _) (AX (a:=Value.none) (by first | rfl | (simp only[firstArgMember];rfl)) (wpAny_newObj_type ?_ (by size_fits)))) (by size_fits))
 simp only[raiseNew]
 refine AA (wpAny_handled ?_)
 rw[show A.in1.handled=none from hA]
 refine AA (AB (wpAny_throw ?_))
 exact AA (wpAny_isInstance (T:="StopIteration") (b:=true) ⟨_,AI _ rfl,rfl⟩ isSubtype_stop (AB (q _ (((Heap.SameBut.update ..).extBut.push _).push _))))
theorem b1A(hA:A.handled=none)(I:Addr)(hne:d≠I):Walks P w A I [I,d] [I] es.size (fun i v=>∃e,es[i]?=some e/\v=e.key) (fun i h=>h.IsKeyIter I d i es.size ep/\a0r h d es ep)where
 sub:=fun b hb=>by
  have e:b=I:=by simpa using hb
  simp[e]
 frame:=fun _ _ _ st k=>⟨st.1.at fun o e=>k I (by simp) o e,st.2.move fun o e=>k d (by simp) o e⟩
 item:=fun i s Q E hlt st q=>by
  refine a8f st.1 st.2 (e:=es[i]) (by simp[hlt]) fun h' k1 k2=>?_
  exact q _ h' s.toks ⟨es[i],by simp[hlt],rfl⟩ ⟨k1,st.2.move fun o e=>k2.extBut _ o hne e⟩ fun b o hb e=>k2.extBut b o (fun z=>hb (by simp[z])) e
 done:=fun s Q E st q=>a8l hA st.1 st.2 (by simp) fun h' k=>q h' s.toks fun b o hb e=>k b o (fun z=>hb (by simp[z])) e
 self:=fun _ _ _ _ st q=>wpAny_pyIter_keyiter st.1 q
theorem b4D(lo:(d==sysModules)=false):KdlSrc P w "dict" d d es.size (fun i v=>∃e,es[i]?=some e/\v=e.key) (fun h=>a0r h d es ep)where
 type:=fun s r=>r.ty
 there:=fun _ r=>⟨r.lt,r.lt⟩
 keep:=fun _ _ r k=>r.move fun o e=>k d (.inl rfl) o e
 notList:=by decide
 notTuple:=by decide
 hint:=fun _ _ s _ r q=>kdl_hint_dict r.ty q
 iter:=fun _ s hA r=>⟨_,_,(fun _ _ q=>a7w lo r q),b1A hA _ (BB r.lt),⟨⟨_,AI _ rfl,rfl,rfl⟩,r.move fun o e=>AC _ e⟩⟩
end
noncomputable def a4n (H:Hp) (v:V) (kv:List Key×V):Prop:=∃b,v= .ref b/\H b=some (.tup (kv.1.map kV))
theorem a8q{P:Program}{w:World}{H:Hp}{knd:HeapKind P w (List Key)}:∀{kvs:List (List Key×V)}{xs:List (List Key×Addr×Value)}{us:List Value},KT H kvs xs->us.length=xs.length->(∀(j:Nat)(u:Value),us[j]?=some u->∃e,(xs.map (entryOfKey knd))[j]?=some e/\u=e.key)->∃vs,W0 vs us/\Paired (a4n H) vs kvs
 | _,_,[],.nil,_,_=>⟨[],.nil,.nil⟩
 | _,_,_::_,.nil,hl,_=>by simp at hl
 | _,_,[],.cons _ _,hl,_=>by simp at hl
 | _,_,u::us,.cons (a:=p) (b:=q) h hr,hl,hv=>by
  obtain⟨e,he,hu⟩:=hv 0 u rfl
  simp only[List.map_cons,List.getElem?_cons_zero,Option.some.injEq]at he
  obtain⟨vs,h1,h2⟩:=a8q (knd:=knd) hr (by simpa using hl) fun j v hj=>by simpa using hv (j+1) v (by simpa using hj)
  refine⟨.ref q.2.1::vs,.cons ?_ h1,.cons ⟨q.2.1,rfl,h.2.1⟩ h2⟩
  rw[hu,<-he]
  rfl
section
variable{X:Cx}
theorem a8E(hc:X.calm=true):a0R X (.type "list") (fun xs H Q=>∃a kvs,xs=[.ref a]/\Rd H a (.dT kvs)/\∀l vs,H l=none->Paired (a4n H) vs kvs->Q (.ref l) (upd H l (.lst vs))):=by
 intro pins s σ H xs us Q I r h
 obtain⟨a,kvs,rfl,ha,q⟩:=h
 obtain⟨u,rfl,ru⟩:=a5k r
 cases ru
 obtain⟨z,lo,ts,rel,o,es,ep,h1,h2,h3,h4,_⟩:=a6t I.hok ha
 have hl:kvs.length=ts.length:=AF rel
 have hes:es.size=ts.length:=by rw[<-Array.length_toList,h4,List.length_map]
 refine kdl_call (b4D (es:=es) (ep:=ep) lo) (I.ok.hd hc) ⟨o,h1,h2,h3⟩ (by omega) fun h' tk acc c hk hS hacc=>?_
 obtain⟨vs,v1,v2⟩:=a8q (us:=acc.toList) rel (by rw[Array.length_toList,hacc.1,hes]) fun j u e=>by
  obtain⟨e',he',hu⟩:=hacc.2 j u (by rw[<-BR];exact e)
  refine⟨e',?_,hu⟩
  rw[<-h4,BR]
  exact he'
 exact⟨.ref s.heap.objs.size,_,I.laid (t':=tk) hk (AH _) (show Y3 X.prog X.w _ h' _ (.lst vs)from⟨by rw[v1.length,Array.length_toList,hacc.1];omega,acc.toList,c,v1,by simpa using hS⟩),rfl,q _ vs (I.hok.fresh (AH _)) v2⟩
end
end L2
namespace L2
open PySem PySem.Spec PyProof.Rows
section
variable{X:Cx}
end
end L2
namespace L2
open PySem PySem.Spec PyProof.Rows PySem.W
section
variable{X:Cx}{pins:List (Addr×Obj)}{σ:List (Option V)}{H:Hp}{s:Shared}
theorem Inv.freeze{d:Addr}{o:Obj}{u:HO}(I:Inv X pins σ H s)(h:H d=some u)(n1:∀xs,u≠ .tup xs)(n2:∀o' u',u≠ .frz o' u')(n3:∀ps,u≠ .tbl ps)(n4:∀a,u≠ .own a)(ho:s.heap.get? d=some o):Inv X pins σ (upd H d (.frz o u)) s:=by
 have ne:∀{b:Addr}{v:HO},H b=some v->v≠u->b≠d:=fun{b v}e hv z=>by
  rw[z,h]at e
  exact hv (Option.some.inj e).symm
 have kt:∀(b:Addr)(xs:List V),H b=some (.tup xs)->upd H d (.frz o u) b=some (.tup xs):=fun b xs e=>by
  rw[I0 (ne e fun z=>n1 xs z.symm)]
  exact e
 have ko:∀(a b:Addr),H b=some (.own a)->upd H d (.frz o u) b=some (.own a):=fun a b e=>by
  rw[I0 (ne e fun z=>n4 a z.symm)]
  exact e
 refine I.step (h':=s.heap) (g':=s.gens) (d':=s.drawn) (t':=s.toks) (ch:=[]) (fun _ z=>nomatch z) (fun b ob _ _ _ e _=>e) (fun b ob _ _ _ e _=>⟨ob.slots,e⟩)
  (fun b ob _ _ n=>by rw[I0 (fun z=>by rw[z,h]at n;cases n)];exact n) (fun b ob _ e=>⟨ob,e⟩) kt
  (fun b ob v e=>by rw[I0 (ne e fun z=>n2 ob v z.symm)];exact e) (fun b ps e=>⟨#[],by rw[I0 (ne e fun z=>n3 ps z.symm),e];simp⟩) (fun m hm=>hm) (fun b v e=>?_) I.bare
 by_cases hb:b=d
 ·subst hb
  rw[G1]at e
  cases e
  exact⟨ho,(I.hok b u h).stay (fun c w _ q=>q) (fun c q=>ko b c q) kt⟩
 ·rw[I0 hb]at e
  exact(I.hok b v e).stay (fun c w _ q=>q) (fun c q=>ko b c q) kt
end
noncomputable def ItD (d:Addr) (o:Obj) (u:HO) (ks:List V):It:=⟨fun i H=>H d=some (.frz o u)/\i < ks.length,fun i H x H'=>H'=H/\ks[i]?=some x,fun i H=>H d=some (.frz o u)/\ks.length<=i⟩
theorem b0W{P:Program}{w:World}{K:W.Frag}{tg:Expr}{d it:Addr}{o:Obj}{u:HO}{ks:List V}{es:Array DictEntry}{ep:Nat}(hx:o.ExactDict)(hd:o.data= .dict es ep)(hl:ks.length=es.size)(hk:∀(i:Nat)(k:V),ks[i]?=some k->∃e:DictEntry,es[i]?=some e/\U8 k e.key):
  a7U P w K tg (ItD d o u ks) [it] it (fun i h=>h.IsKeyIter it d i es.size ep)where
 mem:=by simp
 obj:=fun i h st b hb=>by
  have z:b=it:=by simpa using hb
  subst z
  obtain⟨oi,ei,ci,di⟩:=st
  exact⟨oi,ei,fun v y=>by rw[di]at y;cases y⟩
 keep:=fun i h h' st kp=>st.at fun ob e=>kp it (by simp) ob e
 item:=by
  intro X hP hw hK hc i pins s σ H E I hf st hg
  subst hP hw hK
  obtain⟨hfz,hi⟩:=hg
  have hod:s.heap.get? d=some o:=(show Y3 X.prog X.w H s.heap d (.frz o u)from I.hok d _ hfz).1
  obtain⟨k,hki⟩:∃k,ks[i]?=some k:=⟨ks[i],by simp[hi]⟩
  obtain⟨e,he,hr⟩:=hk i k hki
  obtain⟨f0,f1,f2,f3,f4,f5⟩:=hf it (by simp)
  refine a8f st ⟨o,hod,hx,hd⟩ he fun h' st' sb=>?_
  have I1:Inv X pins σ H {s with heap:=h'}:=I.turned (t':=s.toks) (fun b ob hb e=>(sb.2 b hb).trans e) f0 f1 f3 f4 f5
  obtain⟨oi,ei,ci,di⟩:=id st'
  exact⟨e.key,rfl,a9R (s:={s with heap:=h'}) ei ci di (by decide) ⟨k,H,I1,hr,⟨rfl,hki⟩,st',fun b hb=>(hf b hb).1⟩⟩
 done:=by
  intro X hP hw hK hc i pins s σ H E I hf st hg
  subst hP hw hK
  obtain⟨hfz,hi⟩:=hg
  have hod:s.heap.get? d=some o:=(show Y3 X.prog X.w H s.heap d (.frz o u)from I.hok d _ hfz).1
  obtain⟨f0,f1,f2,f3,f4,f5⟩:=hf it (by simp)
  exact a8l (I.ok.hd hc) st ⟨o,hod,hx,hd⟩ (by simp;omega) fun h' eb=>⟨rfl,I.turned (t':=s.toks) (fun b ob hb e=>eb b ob hb e) f0 f1 f3 f4 f5⟩
 self:=fun _ _ _ _ _ st h=>wpAny_pyIter_keyiter st h
section
variable{X:Cx}{tg:Expr}
theorem b1I{H:Hp}{h:Heap}{d:Addr}{kvs:List (List Key×V)}(ok:Y3 X.prog X.w H h d (.dT kvs)):∃(o:Obj)(es:Array DictEntry)(ep:Nat)(vs:List V),h.get? d=some o/\o.ExactDict/\o.data= .dict es ep/\(d==sysModules)=false/\Paired (a4n H) vs kvs/\vs.length=es.size/\∀(i:Nat)(k:V),vs[i]?=some k->∃e:DictEntry,es[i]?=some e/\U8 k e.key:=by
 obtain⟨z,lo,xs,rel,o,es,ep,h1,h2,h3,h4,h5⟩:=ok
 have rel':KT H kvs xs:=rel
 have l1:kvs.length=xs.length:=AF rel
 have l2:es.size=xs.length:=by rw[<-Array.length_toList,h4,List.length_map]
 have hget:∀i,es[i]?=(xs[i]?).map (entryOfKey (tupleKind (Y6 X.prog X.w))):=fun i=>by
  rw[<-BR,h4,List.getElem?_map]
 refine⟨o,es,ep,xs.map fun x=>V.ref x.2.1,h1,h2,h3,lo,?_,by rw[List.length_map,l2],fun i k e=>?_⟩
 ·have:∀{kvs:List (List Key×V)}{xs:List (List Key×Addr×Value)},KT H kvs xs->Paired (a4n H) (xs.map fun x=>V.ref x.2.1) kvs:=by
   intro kvs xs r
   induction r with
   | nil=>exact .nil
   | cons a _ ih=>exact .cons ⟨_,rfl,a.2.1⟩ ih
  exact this rel'
 ·rw[List.getElem?_map]at e
  cases hx:xs[i]? with
  | none=>rw[hx]at e;cases e
  | some x=>
   rw[hx]at e
   have ek:V.ref x.2.1=k:=Option.some.inj e
   refine⟨entryOfKey (tupleKind (Y6 X.prog X.w)) x,by rw[hget,hx];rfl,?_⟩
   rw[<-ek]
   rfl
noncomputable def b6d (te:TE):TI:=fun σ H R=>te σ H fun x H1=>∃d kvs,x= .ref d/\H1 d=some (.dT kvs)/\∀o vs,Paired (a4n H1) vs kvs->R (ItD d o (.dT kvs) vs) (upd H1 d (.frz o (.dT kvs)))
theorem b3c{l:Expr}{tl:TE}(hl:PE X l tl):PI X tg l (b6d tl):=by
 intro pins s σ H R I h
 refine thn (hl pins s σ H _ I h) fun v s1⟨x,H1,I1,r1,q1⟩=>?_
 obtain⟨d,kvs,e,hd,q⟩:=q1
 subst e
 cases r1
 obtain⟨o,es,ep,vs,h1,h2,h3,lo,hp,hlen,hks⟩:=b1I (X:=X) (I1.hok d _ hd)
 have I2:=I1.freeze hd (fun _ z=>nomatch z) (fun _ _ z=>nomatch z) (fun _ z=>nomatch z) (fun _ z=>nomatch z) h1
 refine a7w lo ⟨o,h1,h2,h3⟩ ?_
 refine⟨s1.heap.objs.size,[s1.heap.objs.size],_,_,_,rfl,I2.kept (t':=s1.toks) fun b ob e=>AC _ e,b0W h2 h3 hlen hks,⟨_,AI _ rfl,rfl,rfl⟩,fun b hb=>?_,q o vs hp⟩
 have z:b=s1.heap.objs.size:=by simpa using hb
 subst z
 exact I2.fpOk (AH _) (I2.hok.fresh (AH _))
end
theorem b3v{d:Addr}{o:Obj}{u:HO}{ks:List V}{g:TG}{tb:TS}{D:a0X}{σ:St}{H:Hp}(Pv:Nat->St->Hp->Prop)(h0:Pv 0 σ H)(hl:∀i σ H,i<=ks.length->Pv i σ H->H d=some (.frz o u))(hs:∀(i:Nat)(k:V)σ H,ks[i]?=some k->Pv i σ H->g k σ H fun σ2 H2=>tb {D with nx:=Pv (i+1),ct:=Pv (i+1),bk:=D.nx} σ2 H2)(hd:∀σ H,Pv ks.length σ H->D.nx σ H):
  ∃W:Nat->Nat->St->Hp->Prop,(∃m,W 0 m σ H)/\∀i m σ H,W i m σ H->
   ((ItD d o u ks).stop i H/\D.nx σ H)\/((ItD d o u ks).go i H/\∃N:St->Hp->Prop,(∀σ' H',N σ' H'->∃m',m' < m/\W (i+1) m' σ' H')/\∀y H',(ItD d o u ks).yld i H y H'->g y σ H' fun σ2 H2=>tb {D with nx:=N,ct:=N,bk:=D.nx} σ2 H2):=by
 refine⟨fun i m σ H=>m=ks.length - i/\i<=ks.length/\Pv i σ H,⟨_,rfl,Nat.zero_le _,h0⟩,?_⟩
 rintro i m σ H ⟨rfl,hi,p⟩
 have q:=hl i σ H hi p
 by_cases hlt:i < ks.length
 ·refine .inr ⟨⟨q,hlt⟩,Pv (i+1),fun σ' H' p'=>⟨ks.length - (i+1),by omega,rfl,hlt,p'⟩,?_⟩
  rintro y H' ⟨rfl,hy⟩
  exact hs i y σ _ hy p
 ·have e:i=ks.length:=by omega
  subst e
  exact .inl ⟨⟨q,AH _⟩,hd σ H p⟩
end L2
namespace L2
open PySem PySem.Spec PyProof.Rows PySem.W
section
variable{prog:Program}{w:World}{KT:Type}[DecidableEq KT]{knd:KeyKind prog w KT}{A:Around}{E:Value->Shared->Prop}{s:Shared}{r d:Addr}{kvs:List (KT×Value)}{ep:Nat}
end
section
variable{X:Cx}{o:Expr}{to:TE}{apos cpos:Pos}
end
end L2
namespace L2
open PySem PySem.Spec PyProof.Rows PySem.W
section
variable{X:Cx}{o:Expr}{to:TE}{apos cpos:Pos}{elts:List Expr}{k:Nat}{tpos:Pos}
end
section
variable{X:Cx}{o e f:Expr}{apos cpos:Pos}{td ty tx:TE}
end
end L2
namespace L2
open PySem PySem.Spec PyProof.Rows PySem.W
section
variable{P:Program}{w:World}{A:Around}{E:Value->Shared->Prop}{s:Shared}{d:Addr}{es:Array DictEntry}{ep:Nat}
theorem a9g(hd:(d==sysModules)=false):MeetsIn P w (Builtin.«dict.items» ⟨[.ref d],[]⟩) (fun _ R s=>a0r s.heap d es ep/\R (.ok (.ret (.ref s.heap.objs.size))) {s with heap:=s.heap.push {cls:= .type "dict_items",data:= .fields #[.ref d]}}):=
 .of_wp fun A R s⟨r,q⟩=>by
  unfold Builtin.«dict.items» Builtin.Dict.noArgs
  refine AA (AA (wpAny_notOrdered_dict r.ty ?_))
  show wpAny _ _ (pure d) _ _ s
  refine AB ?_
  show wpAny _ _ (Builtin.Dict.showsAll d >>= _) _ _ s
  unfold Builtin.Dict.showsAll
  rw[if_neg (fun z=>by rw[hd]at z;exact AE z)]
  exact AA (AB (AA (wpAny_newObj_type (AB ⟨_,rfl,q⟩))))
theorem b0M{v:Addr}{Q:Value->Shared->Prop}(hv:s.heap.IsItemsView v d)(r:a0r s.heap d es ep)
  (q:Q (.ref s.heap.objs.size) {s with heap:=s.heap.push {cls:= .type "dict_itemiterator",data:= .fields #[.none,.bool false,.ref d,.int 0 0,.int es.size 0,.int ep 0,.none,.none]}}):wpAny (model P w) A (pyIter (.ref v)) Q E s:=by
 have ty:=hv.typeIs (s:=s)
 obtain⟨ov,ev,cv,dv⟩:=hv
 obtain⟨ob,eb,cb,db⟩:=r
 refine wpAny_pyIter_slot ty F.slot_dict_items_iter (wpAny_call_entry F.slot_dict_items_iter ty F.entry_dict_items_iter ?_ (F.args_dict_items_iter_1 _))
 unfold Builtin.«dict_items.__iter__»
 refine AA (AB (AA ?_))
 unfold Builtin.Dict_items.dictOf
 refine AA (wpAny_field ev dv (x:= .ref d) rfl (AB (AA ?_)))
 unfold Builtin.Dict_items.newIterator
 refine AA (wpAny_dictEntries eb db (AA (wpAny_dictEpoch eb db ?_)))
 simp only[show Builtin.Dict_items.ownsTuple "dict_itemiterator"=true by decide,if_true]
 refine wpAny_newObj_type (AB ⟨_,rfl,"dict_itemiterator",_,⟨_,AI _ rfl,rfl⟩,F.slot_dict_itemiterator_next.lookup,?_⟩) (by simp only[sizeOk,Builtin.Dict_items.ownedTupleFields,List.size_toArray,List.length_append,List.length_cons,List.length_nil,sizeLine_eq];omega)
 simpa [rawInt,Builtin.Dict_items.ownedTupleFields]using q
theorem b1D{it:Addr}{i:Nat}{e:DictEntry}{ok ov:Value}{Q:Option Value->Shared->Prop}(hi:IsItemIter s.heap it d i es.size ep ok ov)(r:a0r s.heap d es ep)(he:es[i]?=some e)
  (q:∀h',IsItemIterOut h' it d (i+1) es.size ep e.key e.val s.heap.objs.size->h'.get? s.heap.objs.size=some {cls:= .type "tuple",data:= .seq #[e.key,e.val]}->(∀b o,b≠it->s.heap.get? b=some o->h'.get? b=some o)->Q (some (.ref s.heap.objs.size)) {s with heap:=h'}):wpAny (model P w) A (pyNext (.ref it)) Q E s:=by
 obtain⟨hp,g,dr,tk,os⟩:=s
 obtain⟨ob,eb,cb,db⟩:=r
 have ty:Shared.TypeIs ⟨hp,g,dr,tk,os⟩ (.ref it) "dict_itemiterator":=⟨_,hi,rfl⟩
 unfold pyNext
 refine AA (wpAny_attempt (wpAny_callSpecial?_slot (name:=Str.ofString "__next__") ty F.slot_dict_itemiterator_next (wpAny_call_entry F.slot_dict_itemiterator_next ty F.entry_dict_itemiterator_next ?_ (F.args_dict_itemiterator_next_1 _))))
 refine AA (AB (AA (AA ?_)))
 first | refine AA (wpAny_typeNameOfWhole_itemiter ty (AB (AA (wpAny_fieldsOf hi rfl ?_)))) | refine AA (wpAny_typeNameOf_itemiter ty (AB (AA (wpAny_fieldsOf hi rfl ?_))))
 simp only[show Builtin.Dict_items.ownsTuple "dict_itemiterator"=true by decide,if_true]
 show wpAny _ _ (ite ((Value.ref d==Value.none)=true) _ _) _ _ _
 rw[if_neg (by exact AE)]
 refine AA (AB (AA (wpAny_dictEntries eb db ?_)))
 rw[if_neg (by simp)]
 refine AA (AB (AA (wpAny_dictEpoch eb db ?_)))
 rw[if_neg (by simp)]
 refine AB ?_
 simp only[show¬((i:Int) < 0)from by omega,if_false,Int.toNat_natCast,he]
 refine AA ?_
 first | refine AA (wpAny_typeNameOfWhole_itemiter ty (AB (AA (wpAny_isOneOf_itemiter ty ?_)))) | refine AA (wpAny_typeNameOf_itemiter ty (AB (AA (wpAny_isOneOf_itemiter ty ?_))))
 show wpAny _ _ (setField (Value.ref it) 3 (rawInt ((i:Int)+1)) >>= _) _ _ ⟨hp,g,dr,tk,os⟩
 refine AA (wpAny_setField_rec hi (by simp) fun h1 e1 s1=>?_)
 have x1:IsItemIter h1 it d (i+1) es.size ep ok ov:=by
  unfold IsItemIter
  rw[show((i+1:Nat):Int)=(i:Int)+1 by omega]
  simpa [rawInt]using e1
 have k1:Heap.SameBut it hp h1:=s1
 have t1:Shared.TypeIs ⟨h1,g,dr,tk,os⟩ (.ref it) "dict_itemiterator":=⟨_,x1,rfl⟩
 refine AA (BG (AA (wpAny_isOneOf_itemiter t1 (AA (wpAny_isOneOf_itemiter t1 ?_)))))
 show wpAny _ _ (Builtin.Dict_items.pairFromOwner (Value.ref it) 6 e.key e.val) _ _ ⟨h1,g,dr,tk,os⟩
 unfold Builtin.Dict_items.pairFromOwner
 refine AA (wpAny_newTuple ?_)
 have hz:h1.objs.size=hp.objs.size:=k1.1
 obtain⟨h2,d2⟩:∃h2,h2=h1.push {cls:= .type "tuple",data:= .seq #[e.key,e.val]}:=⟨_,rfl⟩
 have x2:IsItemIter h2 it d (i+1) es.size ep ok ov:=by
  rw[d2]
  exact AC _ x1
 have tp:h2.get? hp.objs.size=some {cls:= .type "tuple",data:= .seq #[e.key,e.val]}:=by
  rw[d2,<-hz]
  exact AI _ rfl
 have kp:∀b o,b≠it->hp.get? b=some o->h2.get? b=some o:=fun b o hb z=>by
  rw[d2]
  exact AC _ (k1.extBut b o hb z)
 have nt:hp.objs.size≠it:=Nat.ne_of_gt (AJ hi)
 show wpAny _ _ (Builtin.Dict_items.ownedTupleIsFree (.ref it) >>= _) _ _ ⟨h1.push {cls:= .type "tuple",data:= .seq #[e.key,e.val]},g,dr,tk,os⟩
 rw[<-d2,hz]
 refine AA ?_
 unfold Builtin.Dict_items.ownedTupleIsFree
 refine AA (wpAny_field x2 rfl (x:= .none) rfl (AB ?_))
 simp only[if_true]
 refine AA (wpAny_field x2 rfl (x:=ok) rfl (AA (wpAny_field x2 rfl (x:=ov) rfl (AA (wpAny_setField_rec x2 (by simp) fun h3 e3 s3=>?_)))))
 have x3:IsItemIter h3 it d (i+1) es.size ep e.key ov:=e3
 refine AA (wpAny_setField_rec x3 (by simp) fun h4 e4 s4=>?_)
 have x4:IsItemIter h4 it d (i+1) es.size ep e.key e.val:=e4
 refine AA (wpAny_setField_rec x4 (by simp) fun h5 e5 s5=>?_)
 have x5:IsItemIterOut h5 it d (i+1) es.size ep e.key e.val hp.objs.size:=e5
 refine AA (wpAny_setField_rec x5 (by simp) fun h6 e6 s6=>?_)
 have x6:IsItemIterOut h6 it d (i+1) es.size ep e.key e.val hp.objs.size:=e6
 have k6:∀b o,b≠it->h2.get? b=some o->h6.get? b=some o:=fun b o hb z=>s6.extBut b o hb (s5.extBut b o hb (s4.extBut b o hb (s3.extBut b o hb z)))
 exact AA (wpAny_letGo (AB (AB ⟨_,rfl,AB (q h6 x6 (k6 _ _ nt tp) fun b o hb z=>k6 b o hb (kp b o hb z))⟩)))
theorem b1f{it:Addr}{i:Nat}{ok ov:Value}{Q:Option Value->Shared->Prop}(hA:A.handled=none)(hi:IsItemIter s.heap it d i es.size ep ok ov)(r:a0r s.heap d es ep)(he:es[i]?=none)
  (q:∀h',Heap.ExtBut it s.heap h'->Q none {s with heap:=h'}):wpAny (model P w) A (pyNext (.ref it)) Q E s:=by
 have ty:s.TypeIs (.ref it) "dict_itemiterator":=⟨_,hi,rfl⟩
 obtain⟨ob,eb,cb,db⟩:=r
 unfold pyNext
 refine AA (wpAny_attempt (wpAny_callSpecial?_slot (name:=Str.ofString "__next__") ty F.slot_dict_itemiterator_next (wpAny_call_entry F.slot_dict_itemiterator_next ty F.entry_dict_itemiterator_next ?_ (F.args_dict_itemiterator_next_1 _))))
 refine AA (AB (AA (AA ?_)))
 first | refine AA (wpAny_typeNameOfWhole_itemiter ty (AB (AA (wpAny_fieldsOf hi rfl ?_)))) | refine AA (wpAny_typeNameOf_itemiter ty (AB (AA (wpAny_fieldsOf hi rfl ?_))))
 simp only[show Builtin.Dict_items.ownsTuple "dict_itemiterator"=true by decide,if_true]
 show wpAny _ _ (ite ((Value.ref d==Value.none)=true) _ _) _ _ s
 rw[if_neg (by exact AE)]
 refine AA (AB (AA (wpAny_dictEntries eb db ?_)))
 rw[if_neg (by simp)]
 refine AA (AB (AA (wpAny_dictEpoch eb db ?_)))
 rw[if_neg (by simp)]
 refine AB ?_
 simp only[show¬((i:Int) < 0)from by omega,if_false,Int.toNat_natCast,he]
 refine AA ?_
 first | refine AA (wpAny_typeNameOfWhole_itemiter ty (AB ?_)) | refine AA (wpAny_typeNameOf_itemiter ty (AB ?_))
 show wpAny _ _ (setField (Value.ref it) 2 .none >>= _) _ _ s
 refine AA (wpAny_setField hi rfl (by simp) ?_)
 show wpAny _ _ (newExc (Value.type "StopIteration") [] >>= _) _ _ _
 refine AA ?_
 simp only[newTuple,newExc]
 refine AA (wpAny_newObj_type (AA (m:=firstArgMember _ _) (AX (a:=Value.none) (by first | rfl | (simp only[firstArgMember];rfl)) (wpAny_newObj_type ?_ (by size_fits)))) (by size_fits))
 simp only[raiseNew]
 refine AA (wpAny_handled ?_)
 rw[show A.in1.handled=none from hA]
 refine AA (AB (wpAny_throw ?_))
 exact AA (wpAny_isInstance (T:="StopIteration") (b:=true) ⟨_,AI _ rfl,rfl⟩ isSubtype_stop (AB (q _ (((Heap.SameBut.update ..).extBut.push _).push _))))
end
noncomputable def b3L (H:Hp) (p:V×V) (kv:List Key×V):Prop:=a4n H p.1 kv/\p.2=kv.2
noncomputable def ItT (d:Addr) (o:Obj) (u:HO) (ps:List (V×V)):It:=
 ⟨fun i H=>H d=some (.frz o u)/\i < ps.length,fun i H x H'=>∃p kv,ps[i]?=some kv/\H p=none/\x= .ref p/\H'=upd H p (.tup [kv.1,kv.2]),fun i H=>H d=some (.frz o u)/\ps.length<=i⟩
theorem a8n{P:Program}{w:World}{K:W.Frag}{elts:List Expr}{k:Nat}{pos:Pos}{d it:Addr}{o:Obj}{u:HO}{ps:List (V×V)}{es:Array DictEntry}{ep:Nat}(hx:o.ExactDict)(hd:o.data= .dict es ep)(hl:ps.length=es.size)(hk:∀(i:Nat)(p:V×V),ps[i]?=some p->∃e:DictEntry,es[i]?=some e/\U8 p.1 e.key/\U8 p.2 e.val):
  a7U P w K (.Tuple elts k pos) (ItT d o u ps) [it] it (fun i h=>∃ok ov,IsItemIter h it d i es.size ep ok ov)where
 mem:=by simp
 obj:=fun i h st b hb=>by
  have z:b=it:=by simpa using hb
  subst z
  obtain⟨ok,ov,he⟩:=st
  exact⟨_,he,fun v z=>by
   have z':Data.fields _=Data.cell v:=z
   cases z'⟩
 keep:=fun i h h' st kk=>by
  obtain⟨ok,ov,he⟩:=st
  exact⟨ok,ov,kk it (by simp) _ he⟩
 item:=by
  intro X hP hw hK hc i pins s σ H E I hf st hg
  subst hP hw hK
  obtain⟨hfz,hi⟩:=hg
  obtain⟨ok,ov,he⟩:=st
  have hod:s.heap.get? d=some o:=(show Y3 X.prog X.w H s.heap d (.frz o u)from I.hok d _ hfz).1
  obtain⟨p,hp⟩:∃p,ps[i]?=some p:=⟨ps[i],by simp[hi]⟩
  obtain⟨e,hee,r1,r2⟩:=hk i p hp
  obtain⟨f0,f1,f2,f3,f4,f5⟩:=hf it (by simp)
  refine b1D he ⟨o,hod,hx,hd⟩ hee fun h' ho hT hkk=>?_
  have I1:Inv X pins σ H {s with heap:=h'}:=I.turned (t':=s.toks) (fun b ob hb e=>hkk b ob hb e) f0 f1 f3 f4 f5
  have hHT:H s.heap.objs.size=none:=I.hok.fresh (AH _)
  have fT:a2P X pins H s.heap.objs.size:=I.fpOk (AH _) hHT
  have hTI:s.heap.objs.size≠it:=Nat.ne_of_gt (AJ he)
  refine⟨_,rfl,wpAny_letOwnedTupleGo_items (s:={s with heap:=h'}) ho fun h2 he2 hs2=>?_⟩
  have I2:Inv X pins σ H {s with heap:=h2}:=I1.turned (t':=s.toks) (fun b ob hb e=>hs2.extBut b ob hb e) f0 f1 f3 f4 f5
  have hT2:=hs2.extBut _ _ hTI hT
  have I3:Inv X pins σ (upd H s.heap.objs.size (.tup [p.1,p.2])) {s with heap:=h2}:=
   I2.track fT ⟨by show 2<=sizeLine;decide,[e.key,e.val],.cons r1 (.cons r2 .nil),⟨_,hT2,rfl,0,rfl⟩⟩
  refine⟨.ref s.heap.objs.size,_,I3,rfl,⟨s.heap.objs.size,p,hp,hHT,rfl,rfl⟩,⟨_,_,he2⟩,fun b hb=>?_⟩
  have z:b=it:=by simpa using hb
  rw[z,I0 hTI.symm]
  exact(hf it (by simp)).1
 done:=by
  intro X hP hw hK hc i pins s σ H E I hf st hg
  subst hP hw hK
  obtain⟨hfz,hi⟩:=hg
  obtain⟨ok,ov,he⟩:=st
  have hod:s.heap.get? d=some o:=(show Y3 X.prog X.w H s.heap d (.frz o u)from I.hok d _ hfz).1
  obtain⟨f0,f1,f2,f3,f4,f5⟩:=hf it (by simp)
  exact b1f (I.ok.hd hc) he ⟨o,hod,hx,hd⟩ (by simp;omega) fun h' eb=>⟨rfl,I.turned (t':=s.toks) (fun b ob hb e=>eb b ob hb e) f0 f1 f3 f4 f5⟩
 self:=fun _ _ _ _ _ st h=>by
  obtain⟨ok,ov,he⟩:=st
  exact kcp_self he h
section
variable{X:Cx}{o:Expr}{to:TE}{apos cpos:Pos}{elts:List Expr}{k:Nat}{tpos:Pos}
theorem a9w{H:Hp}{h:Heap}{d:Addr}{kvs:List (List Key×V)}(ok:Y3 X.prog X.w H h d (.dT kvs)):∃(o:Obj)(es:Array DictEntry)(ep:Nat)(ps:List (V×V)),h.get? d=some o/\o.ExactDict/\o.data= .dict es ep/\(d==sysModules)=false/\Paired (b3L H) ps kvs/\ps.length=es.size/\∀(i:Nat)(p:V×V),ps[i]?=some p->∃e:DictEntry,es[i]?=some e/\U8 p.1 e.key/\U8 p.2 e.val:=by
 obtain⟨z,lo,xs,rel,o,es,ep,h1,h2,h3,h4,h5⟩:=ok
 have rel':KT H kvs xs:=rel
 have l2:es.size=xs.length:=by rw[<-Array.length_toList,h4,List.length_map]
 have hget:∀i,es[i]?=(xs[i]?).map (entryOfKey (tupleKind (Y6 X.prog X.w))):=fun i=>by
  rw[<-BR,h4,List.getElem?_map]
 have mk:∀{kvs:List (List Key×V)}{xs:List (List Key×Addr×Value)},KT H kvs xs->∃ps:List (V×V),Paired (b3L H) ps kvs/\ps.length=xs.length/\∀(i:Nat)(p:V×V),ps[i]?=some p->∃x,xs[i]?=some x/\p.1=V.ref x.2.1/\U8 p.2 x.2.2:=by
  intro kvs xs r
  induction r with
  | nil=>exact⟨[],.nil,rfl,fun i p e=>by cases i<;>cases e⟩
  | @cons kv x kvs' xs' a _ ih=>
   obtain⟨ps,q1,q2,q3⟩:=ih
   refine⟨(V.ref x.2.1,kv.2)::ps,.cons ⟨⟨_,rfl,a.2.1⟩,rfl⟩ q1,by rw[List.length_cons,List.length_cons,q2],fun i p e=>?_⟩
   cases i with
   | zero=>cases e;exact⟨x,rfl,rfl,a.2.2⟩
   | succ i=>exact q3 i p e
 obtain⟨ps,q1,q2,q3⟩:=mk rel'
 refine⟨o,es,ep,ps,h1,h2,h3,lo,q1,by omega,fun i p e=>?_⟩
 obtain⟨x,hx,e1,e2⟩:=q3 i p e
 refine⟨entryOfKey (tupleKind (Y6 X.prog X.w)) x,by rw[hget,hx];rfl,?_,e2⟩
 rw[e1]
 rfl
noncomputable def b3K (te:TE):TI:=fun σ H R=>te σ H fun x H1=>∃d kvs,x= .ref d/\H1 d=some (.dT kvs)/\∀ob ps,Paired (b3L H1) ps kvs->R (ItT d ob (.dT kvs) ps) (upd H1 d (.frz ob (.dT kvs)))
theorem b1l(ho:PE X o to)(hbase:attributeBase o "items" X.env (eval o X.env)=eval o X.env:=by rfl)(hline:(apos.endLine==cpos.line)=true:=by rfl):PI X (.Tuple elts k tpos) (.Call (.Attribute o "items" apos) [] [] cpos) (b3K to):=by
 intro pins s σ H R I h
 refine wpAny_Call_method0_late hbase hline (thn (ho pins s σ H _ I h) fun v s1⟨x,H1,I1,r1,d,kvs,ex,hD,q1⟩=>?_)
 subst ex
 obtain rfl:v=Value.ref d:=r1
 obtain⟨ob,es,ep,ps,h1,h2,h3,lo,hp,hlen,hps⟩:=a9w (X:=X) (I1.hok d _ hD)
 have rw1:a0r s1.heap d es ep:=⟨ob,h1,h2,h3⟩
 refine⟨"dict","dict.items",PySem.F.plainAttrs_dict,PySem.F.slot_dict_items,PySem.F.type_dict_items,rw1.ty,fun b e=>?_,Calls.callWith_builtin rfl (PySem.evalArgs_none ?_)⟩
 ·injection e with e
  subst e
  exact⟨ob,h1,h2.2.1⟩
 refine call_meetsIn PySem.F.slot_dict_items rw1.ty PySem.F.entry_dict_items (PySem.F.args_dict_items_1 _) (a9g (es:=es) (ep:=ep) lo) ⟨rw1,?_⟩
 have hv:(s1.heap.push {cls:= .type "dict_items",data:= .fields #[.ref d]}).IsItemsView s1.heap.objs.size d:=⟨_,AI _ rfl,rfl,rfl⟩
 have I2:=I1.freeze hD (fun _ z=>nomatch z) (fun _ _ z=>nomatch z) (fun _ z=>nomatch z) (fun _ z=>nomatch z) h1
 have I3:Inv X pins σ (upd H1 d (.frz ob (.dT kvs))) {s1 with heap:=s1.heap.push {cls:= .type "dict_items",data:= .fields #[.ref d]}}:=I2.kept (t':=s1.toks) fun b w e=>AC _ e
 refine b0M (s:={s1 with heap:=s1.heap.push {cls:= .type "dict_items",data:= .fields #[.ref d]}}) hv (rw1.move fun o e=>AC _ e) ?_
 refine⟨_,[_],_,_,_,rfl,I3.kept (t':=s1.toks) fun b w e=>AC _ e,a8n (o:=ob) h2 h3 hlen hps,⟨_,_,AI _ rfl⟩,fun b hb=>?_,q1 ob ps hp⟩
 have z:b=(s1.heap.push {cls:= .type "dict_items",data:= .fields #[.ref d]}).objs.size:=by simpa using hb
 subst z
 exact I3.fpOk (AH _) (I3.hok.fresh (AH _))
end
theorem a8O{d:Addr}{o:Obj}{u:HO}{ps:List (V×V)}{g:TG}{tb:TS}{D:a0X}{σ:St}{H:Hp}(Pv:Nat->St->Hp->Prop)(h0:Pv 0 σ H)(hl:∀i σ H,i<=ps.length->Pv i σ H->H d=some (.frz o u))
  (hs:∀(i:Nat)(kv:V×V)p σ H,ps[i]?=some kv->Pv i σ H->H p=none->g (.ref p) σ (upd H p (.tup [kv.1,kv.2])) fun σ2 H2=>tb {D with nx:=Pv (i+1),ct:=Pv (i+1),bk:=D.nx} σ2 H2)(hd:∀σ H,Pv ps.length σ H->D.nx σ H):
  ∃W:Nat->Nat->St->Hp->Prop,(∃m,W 0 m σ H)/\∀i m σ H,W i m σ H->
   ((ItT d o u ps).stop i H/\D.nx σ H)\/((ItT d o u ps).go i H/\∃N:St->Hp->Prop,(∀σ' H',N σ' H'->∃m',m' < m/\W (i+1) m' σ' H')/\∀y H',(ItT d o u ps).yld i H y H'->g y σ H' fun σ2 H2=>tb {D with nx:=N,ct:=N,bk:=D.nx} σ2 H2):=by
 refine⟨fun i m σ H=>m=ps.length - i/\i<=ps.length/\Pv i σ H,⟨_,rfl,Nat.zero_le _,h0⟩,?_⟩
 rintro i m σ H ⟨rfl,hi,p⟩
 have q:=hl i σ H hi p
 by_cases hlt:i < ps.length
 ·refine .inr ⟨⟨q,hlt⟩,Pv (i+1),fun σ' H' p'=>⟨ps.length - (i+1),by omega,rfl,hlt,p'⟩,?_⟩
  rintro y H' ⟨a,kv,hy,ha,rfl,rfl⟩
  exact hs i kv a σ _ hy p ha
 ·have e:i=ps.length:=by omega
  subst e
  exact .inl ⟨⟨q,AH _⟩,hd σ H p⟩
end L2
namespace L2
open PySem PySem.Spec PyProof.Rows PySem.W
theorem a6y{xs:List V}{us:List Value}(r:W0 xs us):∀(js:List Nat),∃ys,W0 ys (js.filterMap fun j=>us[j]?)/\ys=js.filterMap fun j=>xs[j]?
 | []=>⟨[],.nil,rfl⟩
 | j::js=>by
  obtain⟨ys,h1,h2⟩:=a6y r js
  have hl:=r.length
  cases e:us[j]? with
  | none=>
   have e':xs[j]?=none:=List.getElem?_eq_none (by rw[hl];exact List.getElem?_eq_none_iff.mp e)
   exact⟨ys,by rw[AS,e];exact h1,by rw[AS,e',h2]⟩
  | some u=>
   have hj:=(List.getElem?_eq_some_iff.mp e).1
   obtain⟨x,hx⟩:∃x,xs[j]?=some x:=⟨xs[j]'(by rw[hl];exact hj),by simp[hl,hj]⟩
   obtain⟨u',hu',rr⟩:=Paired.get? r hx
   rw[e]at hu'
   cases hu'
   exact⟨x::ys,by rw[AS,e];exact .cons rr h1,by rw[AS,hx,h2]⟩
section
variable{X:Cx}{e:Expr}{te:TE}{lo hi:Option Expr}{st:Expr}{tl th tk:TO}{pos p2:Pos}
end
end L2
namespace L2
open PySem PySem.Spec PyProof.Rows
section
variable{X:Cx}
end
end L2
namespace L2
open PySem PySem.Spec PyProof.Rows
section
variable{X:Cx}
end
end L2
namespace L2
open PySem PySem.Spec PyProof.Rows
section
variable{prog:Program}{w:World}{A:Around}{E:Value->Shared->Prop}{s:Shared}
end
section
variable{X:Cx}
end
end L2
namespace L2
open PySem PySem.Spec PyProof.Rows
section
variable{X:Cx}
end
end L2
namespace RV
open PySem PySem.Spec PyProof.Rows
theorem a9F:Manifest.owners.lookup (String.ofList ['d', 'e', 's', 'r', 'e', 'v', 'e', 'r'].reverse)=some Manifest.sig_reversed:=by kernel_rfl
theorem a2Z:Slot "reversed" "__next__" "reversed.__next__":=
 .of (owner:="reversed") (n:="__next__") (by rw[typeLookup_type,builtinLookup_eq_fast];kernel_rfl) (by decide +kernel) (by decide +kernel) (by decide +kernel)
  (by first | exact .inl (by decide +kernel) | exact .inr (by decide +kernel)) (by rw[isSubtype_type];kernel_rfl)
theorem a9V:Slot "reversed" "__iter__" "reversed.__iter__":=
 .of (owner:="reversed") (n:="__iter__") (by rw[typeLookup_type,builtinLookup_eq_fast];kernel_rfl) (by decide +kernel) (by decide +kernel) (by decide +kernel)
  (by first | exact .inl (by decide +kernel) | exact .inr (by decide +kernel)) (by rw[isSubtype_type];kernel_rfl)
theorem a7k:Slot "reversed" "__length_hint__" "reversed.__length_hint__":=
 .of (owner:="reversed") (n:="__length_hint__") (by rw[typeLookup_type,builtinLookup_eq_fast];kernel_rfl) (by decide +kernel) (by decide +kernel) (by decide +kernel)
  (by first | exact .inl (by decide +kernel) | exact .inr (by decide +kernel)) (by rw[isSubtype_type];kernel_rfl)
theorem a3p:entryFor table "reversed.__next__"=some Builtin.«reversed.__next__»:=entryFor_of_tree (by kernel_rfl)
theorem b4A:entryFor table "reversed.__length_hint__"=some Builtin.«reversed.__length_hint__»:=entryFor_of_tree (by kernel_rfl)
theorem a7b:entryFor table "reversed.__iter__"=some Builtin.«dict_keyiterator.__iter__»:=
 entryFor_alias (id':="dict_keyiterator.__iter__") (by kernel_rfl) (by first | rfl | decide +kernel | (unfold String.splitOn;simp +decide [String.splitOnAux])) (by decide +kernel) (by kernel_rfl)
theorem a3G(a:Value):argsOk "reversed.__next__" ⟨[a],[]⟩:=by
 unfold argsOk;rw[signature?_of (id:="reversed.__next__") (n:=['_', '_', 't', 'x', 'e', 'n', '_', '_']) (o:=['d', 'e', 's', 'r', 'e', 'v', 'e', 'r']) (by kernel_rfl) a9F];kernel_rfl
theorem a7q(a:Value):argsOk "reversed.__iter__" ⟨[a],[]⟩:=by
 unfold argsOk;rw[signature?_of (id:="reversed.__iter__") (n:=['_', '_', 'r', 'e', 't', 'i', '_', '_']) (o:=['d', 'e', 's', 'r', 'e', 'v', 'e', 'r']) (by kernel_rfl) a9F];kernel_rfl
theorem b4C(a:Value):argsOk "reversed.__length_hint__" ⟨[a],[]⟩:=by
 unfold argsOk;rw[signature?_of (id:="reversed.__length_hint__") (n:=['_', '_', 't', 'n', 'i', 'h', '_', 'h', 't', 'g', 'n', 'e', 'l', '_', '_']) (o:=['d', 'e', 's', 'r', 'e', 'v', 'e', 'r']) (by kernel_rfl) a9F];kernel_rfl
theorem b5M:typeLookup (.type "tuple") "__reversed__"=pure none:=by rw[typeLookup_type,builtinLookup_eq_fast];kernel_rfl
theorem a9A:typeLookup (.type "reversed") "__len__"=pure none:=by rw[typeLookup_type,builtinLookup_eq_fast];kernel_rfl
theorem b2j:isSubtype (.type "tuple") (.type "dict")=pure false:=by rw[isSubtype_type];kernel_rfl
theorem b4Y:isSubtype (.type "reversed") (.type "reversed")=pure true:=by rw[isSubtype_type];kernel_rfl
theorem b4j:Slot "reversed" "__init__" "object.__init__":=
 .of (owner:="object") (n:="__init__") (by rw[typeLookup_type,builtinLookup_eq_fast];kernel_rfl) (by decide +kernel) (by decide +kernel) (by decide +kernel)
  (by first | exact .inl (by decide +kernel) | exact .inr (by decide +kernel)) (by rw[isSubtype_type];kernel_rfl)
theorem a3W:TypeCalled "reversed" "reversed.__new__" "object.__init__":=
 ⟨by decide +kernel,by decide +kernel,⟨_,_,F.mro_reversed⟩,F.made_reversed,by decide +kernel,b4Y,b4j⟩
end RV
namespace RV
open PySem PySem.Spec PyProof.Rows
noncomputable def a8G (t:Addr) (i:Int):Obj:={cls:= .type "reversed",data:= .fields #[.ref t,rawInt i]}
noncomputable def a0C (h:Heap) (a t:Addr) (i:Int):Prop:=∃o,h.get? a=some o/\o.cls= .type "reversed"/\o.data= .fields #[.ref t,rawInt i]
theorem a0C.move{h h':Heap}{a t:Addr}{i:Int}(x:a0C h a t i)(e:∀o,h.get? a=some o->h'.get? a=some o):a0C h' a t i:=by
 obtain⟨o,ho,r⟩:=x
 exact⟨o,e o ho,r⟩
section
variable{prog:Program}{w:World}{A:Around}{E:Value->Shared->Prop}{s:Shared}
theorem a0C.ty{a t:Addr}{i:Int}(x:a0C s.heap a t i):s.TypeIs (.ref a) "reversed":=by
 obtain⟨o,ho,hc,_⟩:=x
 exact⟨o,ho,hc⟩
theorem IsTup.move{h h':Heap}{t:Addr}{its:Array Value}(x:IsTup h t its)(e:∀o,h.get? t=some o->h'.get? t=some o):IsTup h' t its:=by
 obtain⟨o,ho,r⟩:=x
 exact⟨o,e o ho,r⟩
theorem b2x{t:Addr}{its:Array Value}{Q₁:Value->Shared->Prop}(ht:IsTup s.heap t its)(hz:its.size<=sizeLine)
  (q:∀tk,Q₁ (.ref s.heap.objs.size) {s with heap:=s.heap.push (a8G t ((its.size:Int) - 1)),toks:=tk}):
  codeAny (model prog w) A (.call (.builtin "reversed.__new__") ⟨[.type "reversed",.ref t],[]⟩) (wants Q₁ E) s:=by
 refine codeAny_of_tree ?_
 show wpAny _ A.in1 (checkBuiltinCall "reversed.__new__" ⟨[.type "reversed",.ref t],[]⟩ >>= fun _=>again (.builtin "reversed.__new__" ⟨[.type "reversed",.ref t],[]⟩)) _ _ s
 refine AA (AX (F.newCall_reversed_1 _) (AB ⟨plainId_quiet F.plain_reversed_new _,codeAny_builtin F.entry_reversed_new ?_⟩))
 rw[Around.under_plainId F.plain_reversed_new _]
 unfold Builtin.«reversed.__new__»
 refine AA (AX (newClass_reversed _) ?_)
 try dsimp only
 refine AA (AX (a:=()) (by first | rfl | kernel_rfl) ?_)
 refine AA (AX (a:=()) (by first | rfl | kernel_rfl) ?_)
 try dsimp only
 refine AA (wpAny_specialOf ht.typeIs b5M ?_)
 try dsimp only
 refine AA (AA (wpAny_isInstance ht.typeIs b2j ?_))
 rw[if_neg AE]
 refine AA (wpAny_specialOf ht.typeIs slot_tuple_getitem.lookup ?_)
 show wpAny _ _ (if(["tuple.__getitem__","str.__getitem__","bytes.__getitem__","bytearray.__getitem__","memoryview.__getitem__","numpy.ndarray.__getitem__","sqlite3.Row.__getitem__"].contains "tuple.__getitem__")=true then pure true else _) _ _ s
 rw[if_pos (by decide +kernel)]
 refine AB ?_
 rw[if_neg (by decide)]
 have hfit:(its.size:Int) < 2 ^ 63:=by have:sizeLine=16777216:=sizeLine_eq;omega
 refine AA (len_tuple ht hfit ?_)
 refine AA (AX (a:=some (its.size:Int)) rfl ?_)
 show wpAny _ _ (newObj (Value.type "reversed") (.fields #[Value.ref t,rawInt ((its.size:Int) - 1)]) >>= _) _ _ _
 refine AA (wpAny_newObj_type (AB ?_))
 exact q _
theorem b3i{t:Addr}{its:Array Value}{Q:Value->Shared->Prop}(ht:IsTup s.heap t its)(hz:its.size<=sizeLine)
  (q:∀tk,Q (.ref s.heap.objs.size) {s with heap:=s.heap.push (a8G t ((its.size:Int) - 1)),toks:=tk}):wpAny (model prog w) A (call (.type "reversed") [.ref t]) Q E s:=by
 refine callType_codes (Q₁:=fun obj s₁=>s₁.TypeIs obj "reversed"/\Q obj s₁) a3W (F.typeCall_reversed_1 _) F.entry_object_init (b2x ht hz fun tk=>⟨⟨_,AI _ rfl,rfl⟩,q tk⟩) fun obj s₁ h₁=>?_
 exact⟨h₁.1,F.args_object_init_2 obj _,object_init_meets a3W.init.lookup a3W.made (by decide) prog w A.in1 _ s₁ ⟨h₁.1,rfl,h₁.2⟩⟩
theorem a4b{it t:Addr}{i:Nat}{its:Array Value}{x:Value}{Q:Option Value->Shared->Prop}(hit:a0C s.heap it t (i:Int))(ht:IsTup s.heap t its)(hx:its[i]?=some x)(hz:its.size<=sizeLine)
  (q:∀h' tk,a0C h' it t ((i:Int) - 1)->Heap.SameBut it s.heap h'->Q (some x) {s with heap:=h',toks:=tk}):wpAny (model prog w) A (pyNext (.ref it)) Q E s:=by
 obtain⟨o,ho,hc,hd⟩:=id hit
 have hi:i < its.size:=by
  obtain⟨z,_⟩:=BT.mp hx
  exact z
 have hsl:sizeLine=16777216:=sizeLine_eq
 have hneg:¬((i:Int) < 0):=by omega
 have hseq:seqIndex? (i:Int) its.size=some i:=by simp[seqIndex?,hneg,hi]
 unfold pyNext
 refine AA (wpAny_attempt (wpAny_callSpecial?_slot (name:=Str.ofString "__next__") hit.ty a2Z (wpAny_call_entry a2Z hit.ty a3p ?_ (a3G _))))
 unfold Builtin.«reversed.__next__»
 refine AA (AX (a:=(Value.ref it,[])) rfl ?_)
 try dsimp only
 refine AA (wpAny_field ho hd (x:= .ref t) rfl ?_)
 refine AA (wpAny_field ho hd (x:=rawInt (i:Int)) rfl ?_)
 show wpAny _ _ (if(i:Int) < 0 then _ else _) _ _ s
 rw[if_neg (by omega)]
 refine AA (wpAny_specialOf ht.typeIs slot_tuple_getitem.lookup ?_)
 rw[if_neg (by simp)]
 refine AA (wpAny_mkInt ?_)
 refine AA (wpAny_attempt (getItem_tuple (s:={s with toks:=s.toks+1}) ht (by omega) (by omega) hseq hx ?_))
 show wpAny _ _ (field (Value.ref it) 1 >>= _) _ _ _
 refine AA (wpAny_field (s:={s with toks:=s.toks+1}) ho hd (x:=rawInt (i:Int)) rfl ?_)
 show wpAny _ _ (setField (Value.ref it) 1 (rawInt ((i:Int) - 1)) >>= _) _ _ _
 refine AA (wpAny_setField (s:={s with toks:=s.toks+1}) ho hd (by simp) ?_)
 refine AB ⟨x,rfl,AB (q _ _ ?_ (Heap.SameBut.update ..))⟩
 exact⟨_,BE _ ho (Obj.isFreed_of_fields (Obj.data_mapFields hd _)),(Obj.cls_mapFields ..).trans hc,by
  rw[Obj.data_mapFields hd]
  simp⟩
theorem a4V{it t:Addr}{Q:Option Value->Shared->Prop}(hh:A.handled=none)(hit:a0C s.heap it t (-1))
  (q:∀h' tk,Heap.ExtBut it s.heap h'->Q none {s with heap:=h',toks:=tk}):wpAny (model prog w) A (pyNext (.ref it)) Q E s:=by
 obtain⟨o,ho,hc,hd⟩:=id hit
 unfold pyNext
 refine AA (wpAny_attempt (wpAny_callSpecial?_slot (name:=Str.ofString "__next__") hit.ty a2Z (wpAny_call_entry a2Z hit.ty a3p ?_ (a3G _))))
 unfold Builtin.«reversed.__next__»
 refine AA (AX (a:=(Value.ref it,[])) rfl ?_)
 try dsimp only
 refine AA (wpAny_field ho hd (x:= .ref t) rfl ?_)
 refine AA (wpAny_field ho hd (x:=rawInt (-1)) rfl ?_)
 show wpAny _ _ (if(-1:Int) < 0 then _ else _) _ _ s
 rw[if_pos (by decide)]
 refine AA (wpAny_rule ?_)
 refine AA (AA (wpAny_setField ho hd (by simp) ?_))
 have h1:=BE (Obj.mapFields (·.setIfInBounds 1 (rawInt (-1)))) ho (Obj.isFreed_of_fields (Obj.data_mapFields hd _))
 refine wpAny_setField h1 (Obj.data_mapFields hd _) (by simp) ?_
 refine AA ?_
 show wpAny _ _ (newExc (Value.type "StopIteration") [] >>= _) _ _ _
 refine AA ?_
 simp only[newTuple,newExc]
 refine AA (wpAny_newObj_type (AA (m:=firstArgMember _ _) (AX (a:=Value.none) (by first | rfl | (simp only[firstArgMember];rfl)) (wpAny_newObj_type ?_ (by size_fits)))) (by size_fits))
 simp only[raiseNew]
 refine AA (wpAny_handled ?_)
 rw[show A.in1.handled=none from hh]
 refine AA (AB (wpAny_throw ?_))
 exact AA (wpAny_isInstance (T:="StopIteration") (b:=true) ⟨_,AI _ rfl,rfl⟩ isSubtype_stop (AB (q _ _ ((((Heap.SameBut.update ..).trans (Heap.SameBut.update ..)).extBut.push _).push _))))
theorem a1w{it t:Addr}{i:Int}{Q:Value->Shared->Prop}(hit:a0C s.heap it t i)(h:Q (.ref it) s):wpAny (model prog w) A (pyIter (.ref it)) Q E s:=by
 refine wpAny_pyIter_slot hit.ty a9V (wpAny_call_entry a9V hit.ty a7b ?_ (a7q _))
 show wpAny _ _ (ret (.ref it)) _ _ s
 exact AB ⟨_,rfl,"reversed",_,hit.ty,a2Z.lookup,h⟩
end
end RV
namespace RV
open PySem PySem.Spec PyProof.Rows
section
variable{prog:Program}{w:World}{A:Around}{E:Value->Shared->Prop}{s:Shared}
theorem b1r(hh:A.handled=none)(I t:Addr)(hne:t≠I)(its:Array Value)(hz:its.size<=sizeLine):
  Walks prog w A I [I,t] [I] its.size (fun i v=>its[its.size - 1 - i]?=some v) (fun i h=>i<=its.size/\a0C h I t ((its.size:Int) - 1 - (i:Int))/\IsTup h t its)where
 sub:=fun b hb=>by
  have e:b=I:=by simpa using hb
  simp[e]
 frame:=fun _ _ _ st k=>⟨st.1,st.2.1.move fun o e=>k I (by simp) o e,IsTup.move st.2.2 fun o e=>k t (by simp) o e⟩
 item:=fun i s Q E hi st q=>by
  have e1:(its.size:Int) - 1 - (i:Int)=((its.size - 1 - i:Nat):Int):=by omega
  have hit:=st.2.1
  rw[e1]at hit
  have hx:its[its.size - 1 - i]?=some (its[its.size - 1 - i]'(by omega)):=Array.getElem?_eq_getElem (by omega)
  refine a4b hit st.2.2 hx hz fun h' tk hit' same=>?_
  have e2:((its.size - 1 - i:Nat):Int) - 1=(its.size:Int) - 1 - ((i+1:Nat):Int):=by omega
  rw[e2]at hit'
  exact q _ h' tk hx ⟨hi,hit',IsTup.move st.2.2 fun o eo=>(same.2 t hne).trans eo⟩ fun b o hb eo=>same.extBut b o (fun z=>hb (by simp[z])) eo
 done:=fun s Q E st q=>by
  have e1:(its.size:Int) - 1 - (its.size:Int)= -1:=by omega
  have hit:=st.2.1
  rw[e1]at hit
  exact a4V hh hit fun h' tk he=>q h' tk fun b o hb eo=>he b o (fun z=>hb (by simp[z])) eo
 self:=fun _ _ _ _ st q=>a1w st.2.1 q
theorem b3w{I t:Addr}{its:Array Value}{Q:Bool->Shared->Prop}(hI:a0C s.heap I t ((its.size:Int) - 1))(ht:IsTup s.heap t its)(hz:its.size<=sizeLine)(q:∀b tk,Q b {s with toks:=tk}):wpAny (model prog w) A (Builtin.List.listLengthHint (.ref I)) Q E s:=by
 unfold Builtin.List.listLengthHint
 refine AA (wpAny_specialOf hI.ty a9A ?_)
 try dsimp only
 refine wpAny_ite_split (fun h=>absurd h (by decide)) (fun _=>?_)
 refine wpAny_ite_split (fun h=>absurd h (by decide)) (fun _=>?_)
 refine AA (wpAny_specialOf hI.ty a7k.lookup ?_)
 generalize hid:("reversed.__length_hint__":String)=id0
 wp_delta
 rw[show splitId id0=some ("reversed","__length_hint__")from by subst hid;decide +kernel]
 subst hid
 refine AA (wpAny_isInstance (T:="reversed") (b:=true) hI.ty b4Y ?_)
 refine wpAny_ite_split (fun h=>absurd h (by decide)) (fun _=>?_)
 refine wpAny_ite_split (fun h=>absurd h (by decide +kernel)) (fun _=>?_)
 refine AA (wpAny_rule ?_)
 refine AA (AX (a7k.bind _) ?_)
 have hsl:sizeLine=16777216:=sizeLine_eq
 have hfit:(its.size:Int) < 2 ^ 63:=by omega
 obtain⟨o,ho,hc,hd⟩:=id hI
 refine AA (wpAny_attempt (wpAny_call_entry a7k hI.ty b4A ?_ (b4C _)))
 unfold Builtin.«reversed.__length_hint__»
 refine AA (AX (a:=Value.ref I) rfl ?_)
 refine AA (wpAny_field ho hd (x:= .ref t) rfl ?_)
 rw[if_neg (by exact AE)]
 refine AA (len_tuple ht hfit ?_)
 refine AA (AX (a:=some (its.size:Int)) rfl ?_)
 try dsimp only
 refine AA (wpAny_field (s:={s with toks:=s.toks+1+1}) ho hd (x:=rawInt ((its.size:Int) - 1)) rfl ?_)
 show wpAny _ _ (if(its.size:Int) < (its.size:Int) - 1+1 then _ else _) _ _ _
 rw[if_neg (by omega)]
 refine AA (wpAny_mkInt (AB ⟨_,rfl,?_⟩))
 refine AA (AX (a:=some ((its.size:Int) - 1+1)) rfl ?_)
 try dsimp only
 refine wpAny_ite_split (fun h=>absurd h ?_) (fun _=>?_)
 ·unfold Builtin.List.listFitsIndex
  simp
  omega
 refine wpAny_ite_split (fun h=>absurd h (by omega)) (fun _=>?_)
 refine wpAny_ite_split (fun h=>absurd h ?_) (fun _=>?_)
 ·unfold Builtin.List.listTooLong
  simp
  omega
 exact AB (q _ _)
end
end RV
namespace RV
open PySem PySem.Spec PyProof.Rows
section
variable{prog:Program}{w:World}{A:Around}{E:Value->Shared->Prop}{s:Shared}
noncomputable def StR (I t:Addr) (its:Array Value) (i:Nat) (h:Heap):Prop:=i<=its.size/\a0C h I t ((its.size:Int) - 1 - (i:Int))/\IsTup h t its
noncomputable def PR (its:Array Value) (i:Nat) (v:Value):Prop:=its[its.size - 1 - i]?=some v
theorem StR.move{I t:Addr}{its:Array Value}{i:Nat}{h h':Heap}(x:StR I t its i h)(k:∀b o,b=I\/b=t->h.get? b=some o->h'.get? b=some o):StR I t its i h':=
 ⟨x.1,x.2.1.move fun o e=>k I o (.inl rfl) e,IsTup.move x.2.2 fun o e=>k t o (.inr rfl) e⟩
theorem a8D{R:Result->Shared->Prop}(hh:A.handled=none){I t S:Addr}{its:Array Value}{res:Value}{c₀:Nat}(hne:t≠I)(hSI:S≠I)(hSt:S≠t)(hz:its.size<=sizeLine)(st:StR I t its 0 s.heap)
  (hS:s.heap.get? S=some {cls:= .type "list",data:= .seq #[] c₀})
  (q:∀h' tk acc c,(∀b o,b≠S->b≠I->s.heap.get? b=some o->h'.get? b=some o)->h'.get? S=some {cls:= .type "list",dict:=none,data:= .seq acc c,slots:= #[]}->ItemsOf (PR its) acc its.size->R (.ok (.ret res)) {s with heap:=h',toks:=tk}):
  wpAny (model prog w) A.in1 (Builtin.List.listExtendWith (.ref S) (.ref I) res)
   (fun fin s'=>match fin with | .done f=>R (.ok f) s' | .again c'=>c'.quiet=true/\codeAny (model prog w) A c' R s') (fun e s'=>R (.error e) s') s:=by
 have W:=(b1r (prog:=prog) (w:=w) (A:=A.in1) hh I t hne its hz).toS
 have hSf:S∉ [I,t]:=by simp[hSI,hSt]
 have ty:s.TypeIs (.ref I) "reversed":=st.2.1.ty
 have rest:∀(h:Heap)(c tk:Nat),StR I t its 0 h->(∀b o,b≠S->s.heap.get? b=some o->h.get? b=some o)->h.get? S=some {cls:= .type "list",data:= .seq #[] c}->codeAny (model prog w) A (.builtin "list.extend.loop" ⟨[.ref S,.ref I,res],[]⟩) R {s with heap:=h,toks:=tk}:=fun h c tk st' keep hS'=>by
  refine codeAny_extend_loopS W hz S hSf res its.size 0 _ #[] c rfl (Nat.zero_le _) st' hS' (ItemsOf.nil _) fun s' acc c' hm hS2 hacc=>?_
  rw[Moved.eq_with hm]
  refine q s'.heap s'.toks acc c' (fun b o hb hbI e=>hm.heap b o (fun z=>?_) (keep b o hb e)) hS2 hacc
  rcases List.mem_cons.mp z with z | z
  ·exact hb z
  ·exact hbI (AD.mp z)
 unfold Builtin.List.listExtendWith
 refine AA (wpAny_typeOf ty ?_)
 have n1:Builtin.List.listSameRef (.ref S) (.ref I)=false:=by simp[Builtin.List.listSameRef,hSI]
 have n2:(Value.type "reversed"==Value.type "list")=false:=by decide
 have n3:(Value.type "reversed"==Value.type "tuple")=false:=by decide
 simp only[n1,n2,n3,Bool.or_false,Bool.false_eq_true,if_false]
 refine AA (a1w st.2.1 ?_)
 refine AA (BG (b3w (its:=its) (by have:=st.2.1;simpa using this) st.2.2 hz fun b tk=>?_))
 refine wpAny_ite_split (fun _=>?_) (fun _=>AB ⟨plainId_quiet PySem.F.plain_extend_loop _,rest _ c₀ _ st (fun b o _ e=>e) hS⟩)
 refine AA (wpAny_rule (AA ?_))
 show wpAny _ _ (updateSeq S (·.push .none) >>= fun _=>updateSeq S (·.pop)) _ _ _
 refine AA (wpAny_updateSeq (s:={s with toks:=tk}) hS rfl ?_)
 have hS2:=BE (Obj.mapSeq (·.push Value.none)) hS rfl
 refine wpAny_updateSeq (hz:=by seq_fits) hS2 rfl ?_
 have hS3:=BE (Obj.mapSeq (·.pop)) hS2 rfl
 have oth:∀b o,b≠S->s.heap.get? b=some o->((s.heap.update S (Obj.mapSeq (·.push Value.none))).update S (Obj.mapSeq (·.pop))).get? b=some o:=fun b o hb e=>
  (BA _ _ (Ne.symm hb)).trans ((BA _ _ (Ne.symm hb)).trans e)
 refine AB ⟨plainId_quiet PySem.F.plain_extend_loop _,rest _ _ _ (st.move fun b o hb e=>oth b o (fun z=>?_) e) oth hS3⟩
 rcases hb with y | y
 ·exact hSI (z.symm.trans y)
 ·exact hSt (z.symm.trans y)
theorem b2O{R:Result->Shared->Prop}(hh:A.handled=none){I t S:Addr}{its:Array Value}(hne:t≠I)(hSI:S≠I)(hSt:S≠t)(hz:its.size<=sizeLine)(st:StR I t its 0 s.heap)
  (hS:s.heap.get? S=some {cls:= .type "list",data:= .seq #[]})
  (q:∀h' tk acc c,(∀b o,b≠S->b≠I->s.heap.get? b=some o->h'.get? b=some o)->h'.get? S=some {cls:= .type "list",dict:=none,data:= .seq acc c,slots:= #[]}->ItemsOf (PR its) acc its.size->R (.ok (.ret .none)) {s with heap:=h',toks:=tk}):
  wpAny (model prog w) A.in1 (Builtin.«list.__init__» ⟨[.ref S,.ref I],[]⟩)
   (fun fin s'=>match fin with | .done f=>R (.ok f) s' | .again c'=>c'.quiet=true/\codeAny (model prog w) A c' R s') (fun e s'=>R (.error e) s') s:=by
 show wpAny _ A.in1 (Builtin.List.listItems (.ref S) >>= fun old=>Builtin.List.listUpdate (.ref S) (fun _=>#[]) >>= fun _=>letGo old.toList.reverse >>= fun _=>Builtin.List.listExtendWith (.ref S) (.ref I) .none) _ _ s
 unfold Builtin.List.listItems
 refine AA (AA (wpAny_seqItems hS rfl (AB ?_)))
 show wpAny _ A.in1 (updateSeq S (fun _=>#[]) >>= fun _=>letGo (#[]:Array Value).toList.reverse >>= fun _=>Builtin.List.listExtendWith (.ref S) (.ref I) .none) _ _ s
 refine AA (wpAny_updateSeq hS rfl (AA (wpAny_letGo ?_)))
 have oth:∀b o,b≠S->s.heap.get? b=some o->(s.heap.update S (Obj.mapSeq (fun _=>(#[]:Array Value)))).get? b=some o:=fun b o hb e=>(BA _ _ (Ne.symm hb)).trans e
 refine a8D hh hne hSI hSt hz (st.move fun b o hb e=>oth b o (fun z=>?_) e) (BE (Obj.mapSeq (fun _=>(#[]:Array Value))) hS rfl) fun h' tk acc c keep hS' hacc=>q h' tk acc c (fun b o hb hbI e=>keep b o hb hbI (oth b o hb e)) hS' hacc
 rcases hb with y | y
 ·exact hSI (z.symm.trans y)
 ·exact hSt (z.symm.trans y)
theorem b1X{I t:Addr}{its:Array Value}{Q:Value->Shared->Prop}(hh:A.handled=none)(hne:t≠I)(hz:its.size<=sizeLine)(st:StR I t its 0 s.heap)
  (q:∀h' tk acc c,(∀b o,b≠I->s.heap.get? b=some o->h'.get? b=some o)->h'.get? s.heap.objs.size=some {cls:= .type "list",dict:=none,data:= .seq acc c,slots:= #[]}->ItemsOf (PR its) acc its.size->Q (.ref s.heap.objs.size) {s with heap:=h',toks:=tk}):
  wpAny (model prog w) A (call (.type "list") [.ref I]) Q E s:=by
 have hI:I < s.heap.objs.size:=by
  obtain⟨o,e,_⟩:=st.2.1
  exact AJ e
 have ht:t < s.heap.objs.size:=by
  obtain⟨o,e,_⟩:=st.2.2
  exact AJ e
 refine callType_codes (Q₁:=fun obj s₁=>obj= .ref s.heap.objs.size/\s₁={s with heap:=s.heap.push {cls:= .type "list",data:= .seq #[]}}) F.called_list (F.typeCall_list_1 _) F.entry_list_init (code_list_new _ ⟨rfl,rfl⟩) fun obj s₁ e₁=>?_
 obtain⟨rfl,rfl⟩:=e₁
 have hS:(s.heap.push {cls:= .type "list",data:= .seq #[]}).get? s.heap.objs.size=some {cls:= .type "list",data:= .seq #[]}:=AI _ rfl
 refine⟨⟨_,hS,rfl⟩,F.args_list_init_2 _ _,b2O (A:=A.in1) hh hne (Nat.ne_of_gt hI) (Nat.ne_of_gt ht) hz (st.move fun b o _ e=>AC _ e) hS fun h' tk acc c keep hS' hacc=>?_⟩
 exact⟨rfl,q h' tk acc c (fun b o hb e=>keep b o (BB (AJ e)) hb (AC _ e)) hS' hacc⟩
end
end RV
namespace L2
open PySem PySem.Spec PyProof.Rows PySem.W RV
theorem a6V:∀{xs:List V}{its:List Value}{i:Nat}{v:Value},W0 xs its->its[i]?=some v->∃x,xs[i]?=some x/\U8 x v
 | _,_,_,_,.nil,e=>by simp at e
 | _,_,0,_,.cons r _,e=>by simp at e;subst e;exact⟨_,rfl,r⟩
 | _,_,i+1,_,.cons _ t,e=>by
  obtain⟨x,h1,h2⟩:=a6V (i:=i) t (by simpa using e)
  exact⟨x,by simpa using h1,h2⟩
theorem a6S:∀{xs:List V}{us:List Value},us.length=xs.length->(∀(j:Nat)(u:Value),us[j]?=some u->∃x,xs[j]?=some x/\U8 x u)->W0 xs us
 | [],[],_,_=> .nil
 | [],_::_,h,_=>by simp at h
 | _::_,[],h,_=>by simp at h
 | x::xs,u::us,h,k=>by
  obtain⟨y,e,r⟩:=k 0 u rfl
  have e':x=y:=by simpa using e
  subst e'
  exact .cons r (a6S (by simpa using h) fun j v hj=>by simpa using k (j+1) v (by simpa using hj))
theorem b3o{xs:List V}{its:Array Value}{acc:Array Value}(hv:W0 xs its.toList)(ha:ItemsOf (PR its) acc its.size):W0 xs.reverse acc.toList:=by
 have hl:xs.length=its.size:=by rw[hv.length,Array.length_toList]
 refine a6S (by rw[Array.length_toList,ha.1,BS,hl]) fun j u e=>?_
 have hj:j < its.size:=by
  rw[<-ha.1,<-Array.length_toList]
  exact(List.getElem?_eq_some_iff.mp e).1
 have hp:its[its.size - 1 - j]?=some u:=ha.2 j u (by rw[<-BR];exact e)
 obtain⟨x,h1,h2⟩:=a6V (i:=its.size - 1 - j) hv (by rw[BR];exact hp)
 refine⟨x,?_,h2⟩
 rw[List.getElem?_reverse (by omega),hl]
 exact h1
section
variable{X:Cx}{e:Expr}{te:TE}{pos pos2 p p2:Pos}
noncomputable def b7j (K:W.Frag) (te:TE):TE:=fun σ H Q=>te σ H fun x H1=>∃a xs,x= .ref a/\SqT K H1 a xs/\∀l,H1 l=none->Q (.ref l) (upd H1 l (.lst xs.reverse))
theorem b6l(he:PE X e te)(gR:Gl X "reversed")(mR:X.mg "reversed"=none)(hs:starEach [e] X.env=[(false,eval e X.env)]:=by rfl)
  {pins:List (Addr×Obj)}{s:Shared}{σ:St}{H:Hp}{R:VK}{Q:Value->Shared->Prop}(I:Inv X pins σ H s)(h:te σ H R)
  (k:∀x H1 s1 a xs its tk,Inv X pins σ H1 s1->R x H1->x= .ref a->W0 xs its->IsTup s1.heap a its.toArray->its.toArray.size<=sizeLine->SqT X.K H1 a xs->Q (.ref s1.heap.objs.size) {s1 with heap:=s1.heap.push (a8G a ((its.toArray.size:Int) - 1)),toks:=tk})
  (kr:∀x H1,R x H1->∃a xs,x= .ref a/\SqT X.K H1 a xs):
  wpAny (model X.prog X.w) X.A (eval (.Call (.Name "reversed" p2) [e] [] pos2) X.env) Q X.xe s:=by
 refine wpAny_Call_Name_kw (a0T I gR mR boot_reversed ?_ (by decide) (by decide))
 refine PyProof.Rows.callWith_type1 ?_ hs (by rfl)
 rw[hs]
 refine Calls.spliced_cons (thn (he pins s σ H _ I h) fun u s1⟨x,H1,I1,r1,q1⟩=>?_)
 obtain⟨a,xs,rfl,ht⟩:=kr x H1 q1
 cases r1
 obtain⟨its,hv,htup,hz⟩:=I1.tuple ht
 have hz':its.toArray.size<=sizeLine:=by have:=hv.length;simp;omega
 refine Calls.spliced_nil ?_
 exact b3i htup hz' fun tk=>k _ H1 s1 a xs its tk I1 q1 rfl hv htup hz' ht
theorem b3M(hc:X.calm=true)(he:PE X e te)(gL:Gl X "list")(mL:X.mg "list"=none)(gR:Gl X "reversed")(mR:X.mg "reversed"=none)(hs:starEach [e] X.env=[(false,eval e X.env)]:=by rfl)(hs2:starEach [.Call (.Name "reversed" p2) [e] [] pos2] X.env=[(false,eval (.Call (.Name "reversed" p2) [e] [] pos2) X.env)]:=by rfl):
  PE X (.Call (.Name "list" p) [.Call (.Name "reversed" p2) [e] [] pos2] [] pos) (b7j X.K te):=by
 intro pins s σ H Q I h
 refine wpAny_Call_Name_kw (a0T I gL mL boot_list ?_ (by decide) (by decide))
 refine PyProof.Rows.callWith_type1 ?_ hs2 (by rfl)
 rw[hs2]
 refine Calls.spliced_cons (b6l he gR mR hs I h (fun x H1 s1 a xs its tk I1 q1 ex hv htup hz ht=>?_) fun x H1 q=>by obtain⟨a,xs,e1,e2,_⟩:=q;exact⟨a,xs,e1,e2⟩)
 obtain⟨a',ys,e1,e2,q⟩:=q1
 have ea:a=a':=V.ref.inj (ex.symm.trans e1)
 subst ea
 have exy:=I1.tuple_inj ht e2
 subst exy
 refine Calls.spliced_nil ?_
 have hne:a≠s1.heap.objs.size:=BB htup.lt
 have st:StR s1.heap.objs.size a its.toArray 0 (s1.heap.push (a8G a ((its.toArray.size:Int) - 1))):=⟨Nat.zero_le _,⟨_,AI _ rfl,rfl,by simp[a8G]⟩,htup.push _⟩
 refine b1X (s:={s1 with heap:=s1.heap.push (a8G a ((its.toArray.size:Int) - 1)),toks:=tk}) (I1.ok.hd hc) hne hz st fun h' tk' acc c keep hS hacc=>?_
 have hk:∀b u,s1.heap.get? b=some u->h'.get? b=some u:=fun b u e=>keep b u (BB (AJ e)) (AC _ e)
 have hv':W0 xs its.toArray.toList:=by simpa using hv
 have hr:=b3o hv' hacc
 have hp:s1.heap.objs.size<=(s1.heap.push (a8G a ((its.toArray.size:Int) - 1))).objs.size:=by rw[Heap.size_push];omega
 refine⟨.ref _,_,I1.laid (t':=tk') hk hp (show Y3 X.prog X.w _ h' _ (.lst xs.reverse)from⟨?_,acc.toList,c,hr,by simpa using hS⟩),rfl,q _ (I1.hok.fresh hp)⟩
 rw[hr.length,Array.length_toList,hacc.1]
 exact hz
end
end L2
namespace L2
open PySem PySem.Spec PyProof.Rows
section
variable{X:Cx}
end
end L2
namespace RG
open PySem PySem.Spec PyProof.Rows
section
variable{prog:Program}{w:World}{A:Around}{E:Value->Shared->Prop}{s:Shared}
variable{I:Addr}{fp:List Addr}{n:Nat}{P:Nat->Value->Prop}{St:Nat->Heap->Prop}{T:String}
end
end RG
namespace RG
open PySem PySem.Spec PyProof.Rows
section
variable{prog:Program}{w:World}{A:Around}{E:Value->Shared->Prop}{s:Shared}
end
end RG
namespace L2
open PySem PySem.Spec PyProof.Rows PySem.W RG
section
variable{X:Cx}{e:Expr}{te:TE}{pos pos2 pos3 p p2 p3:Pos}
end
end L2
namespace L2
open PySem PySem.Spec PyProof.Rows PySem.W RG
open AutoSeq1 (wpAny_loadPart')
section
variable{prog:Program}{w:World}{A:Around}{E:Value->Shared->Prop}{s:Shared}
end
section
variable{X:Cx}{e:Expr}{te:TE}{pos pos3 p p3:Pos}
end
end L2
namespace L2
open PySem PySem.Spec PyProof.Rows PySem.W
section
variable{X:Cx}{e:Expr}{te:TE}{pos pos3 p p3:Pos}
end
end L2
namespace L2
open PySem PySem.Spec PyProof.Rows PySem.W
section
variable{prog:Program}{w:World}{A:Around}{R:Result->Shared->Prop}{it best:Addr}{fp wr:List Addr}{n:Nat}{P:Nat->Value->Prop}{St:Nat->Heap->Prop}
end
section
variable{X:Cx}
end
end L2
namespace L2
open PySem PySem.Spec PyProof.Rows
section
variable{X:Cx}
end
end L2
namespace L2
open PySem PySem.Spec PyProof.Rows
noncomputable def EqD (K:W.Frag) (H:Hp):Nat->V->V->Prop
 | 0,x,y=>x=y/\a1M x=true
 | n+1,x,y=>(x=y/\a1M x=true)\/∃a b xs ys,x= .ref a/\y= .ref b/\SqT K H a xs/\SqT K H b ys/\Paired (EqD K H n) xs ys
theorem b2Z{xs:List V}{its:List Value}(r:W0 xs its){j:Nat}{x:V}(h:xs[j]?=some x)(hj:j < its.toArray.size):U8 x its.toArray[j]:=by
 obtain⟨w1,g1,rw1⟩:=r.get h
 have:its[j]?=some its.toArray[j]:=by simp at hj;simp[hj]
 rw[g1]at this
 rw[<-Option.some.inj this]
 exact rw1
theorem a6f{X:Cx}{pins:List (Addr×Obj)}{s:Shared}{σ:St}{H:Hp}{A:Around}{n:Nat}{xs ys:List V}{js js2:List Value}(hP:Paired (EqD X.K H n) xs ys)(q1:W0 xs js)(q2:W0 ys js2)
  (ih:∀x y v u,EqD X.K H n x y->U8 x v->U8 y u->SeqAt.EqAt A s v u true):∀j(j1:j < js.toArray.size)(j2:j < js2.toArray.size),SeqAt.EqAt A s js.toArray[j] js2.toArray[j] true:=by
 intro j j1 j2
 have m1:=q1.length
 have m2:=q2.length
 have k1:j < xs.length:=by simp at j1;omega
 obtain⟨y,hy,hd⟩:=Paired.get? hP (AU k1)
 exact ih _ _ _ _ hd (b2Z q1 (AU k1) j1) (b2Z q2 hy j2)
theorem b3t{X:Cx}{pins:List (Addr×Obj)}{s:Shared}{σ:St}{H:Hp}(I:Inv X pins σ H s):∀(n:Nat)(A:Around),A.units+n < cLine->∀x y v u,EqD X.K H n x y->U8 x v->U8 y u->SeqAt.EqAt A s v u true
 | 0,A,hu,x,y,v,u,h,rx,ry=>by
  obtain⟨rfl,f⟩:=h
  have:=a9B (A:=A) (s:=s) rx ry f f
  rw[a8B f]at this
  exact this
 | n+1,A,hu,x,y,v,u,h,rx,ry=>by
  rcases h with⟨rfl,f⟩ | ⟨a,b,xs,ys,rfl,rfl,ha,hb,hP⟩
  ·have:=a9B (A:=A) (s:=s) rx ry f f
   rw[a8B f]at this
   exact this
  ·cases rx
   cases ry
   by_cases e:a=b
   ·subst e
    exact SeqAt.EqAt.same _
   ·obtain⟨js,q1,pt1,_⟩:=I.tuple ha
    obtain⟨js2,q2,pt2,_⟩:=I.tuple hb
    have m1:=q1.length
    have m2:=q2.length
    have hl:=AF hP
    have R:=SeqAt.RcAt.tuples (A:=A) (e:=fun _=>true) (show s.heap.IsTuple a js.toArray from pt1) (show s.heap.IsTuple b js2.toArray from pt2) (by omega) (a6f (X:=X) (pins:=pins) (σ:=σ) hP q1 q2 (b3t I n A.in1 (by show A.units+1+n < cLine;omega)))
    have e2:((List.range (min js.toArray.size js2.toArray.size)).all (fun _=>true) && js.toArray.size==js2.toArray.size)=true:=by
     have:js.toArray.size=js2.toArray.size:=by simp;omega
     simp[this]
    rw[e2]at R
    exact SeqAt.EqAt.of_refs e R
theorem b6h{X:Cx}(n:Nat)(hu:X.A.units+1+n < cLine):OpR X (compareOp .Eq) (fun x y H Q=>∃a b xs ys,x= .ref a/\y= .ref b/\SqT X.K H a xs/\SqT X.K H b ys/\Paired (EqD X.K H n) xs ys/\Q (.bl true) H):=by
 intro pins s σ H x y v u Q I rx ry h
 obtain⟨a,b,xs,ys,rfl,rfl,ha,hb,hP,q⟩:=h
 cases rx
 cases ry
 obtain⟨its,r1,p1,_⟩:=I.tuple ha
 obtain⟨its2,r2,p2,_⟩:=I.tuple hb
 have hl1:=r1.length
 have hl2:=r2.length
 have hl:=AF hP
 refine SeqAt.eq_tupleAt (e:=fun _=>true) (show s.heap.IsTuple a its.toArray from p1) (show s.heap.IsTuple b its2.toArray from p2) (by omega) (a6f (X:=X) (pins:=pins) (σ:=σ) hP r1 r2 (b3t I n X.A.in1 hu)) ?_
 have e:((List.range (min its.toArray.size its2.toArray.size)).all (fun _=>true) && its.toArray.size==its2.toArray.size)=true:=by
  have:its.toArray.size=its2.toArray.size:=by simp;omega
  simp[this]
 rw[e]
 exact⟨.bl true,H,I,rfl,q⟩
theorem a3D{prog:Program}{w:World}{A:Around}{E:Value->Shared->Prop}{s:Shared}{t sl:Addr}{items:Array Value}{vl vu:Value}{lo hi:Option Int}{Q:Value->Shared->Prop}(ht:IsTup s.heap t items)(hs:s.heap.IsSliceOf sl vl vu .none)(pl:IsPart vl lo)(pu:IsPart vu hi)
  (h0:HT.sIx items.size 0 lo=0)(h1:HT.sIx items.size items.size hi=items.size)(h:Q (.ref t) s):wpAny (model prog w) A (getItem (.ref t) (.ref sl)) Q E s:=by
 obtain⟨os,hos,hcs,hds⟩:=id hs
 have hTs:s.TypeIs (.ref sl) "slice":=⟨os,hos,hcs⟩
 unfold getItem
 try with_reducible refine BG ?_
 first | refine AA (AB ?_) | skip
 refine AA (wpAny_sequenceKey ht.typeIs (by decide) ?_)
 refine AA (wpAny_callSpecial?_slot (name:=Str.ofString "__getitem__") ht.typeIs PyProof.Rows.slot_tuple_getitem
  (wpAny_call_entry PyProof.Rows.slot_tuple_getitem ht.typeIs entry_tuple_getitem ?_ (args_tuple_getitem _ _)))
 show wpAny _ _ (Builtin.Tuple.tupleItemsOf (.ref t) >>= _) _ _ s
 refine AA (tupleItemsOf_ ht ?_)
 refine AA (wpAny_typeOf hTs ?_)
 rw[if_pos (by decide)]
 refine AA (HT.a1q hs pl pu ?_)
 show wpAny _ _ (if(((HT.sIx items.size 0 lo:Nat):Int)==0 && (1:Int)==1 && (HT.sIx items.size items.size hi - HT.sIx items.size 0 lo)==items.size)=true then _ else _) _ _ s
 rw[h0,h1,if_pos (by simp)]
 unfold Builtin.Tuple.tupleIsExact
 refine AA (AA (wpAny_typeOf ht.typeIs (AB ?_)))
 rw[if_pos (by decide)]
 refine AA (wpAny_rule ?_)
 first
  | exact AB ⟨_,rfl,AB h⟩
  | exact AA (AB ⟨_,rfl,AB h⟩)
  | exact AA (AB (AB ⟨_,rfl,AB h⟩))
noncomputable def b7J (K:W.Frag):V->Option Int->Option Int->Hp->VK->Prop:=fun x lo hi H Q=>∃a xs,x= .ref a/\SqT K H a xs/\
 ((HT.sIx xs.length 0 lo=0/\HT.sIx xs.length xs.length hi=xs.length/\Q (.ref a) H)\/(¬(HT.sIx xs.length 0 lo=0/\HT.sIx xs.length xs.length hi=xs.length)/\∀p,H p=none->Q (.ref p) (upd H p (.tup (b3s xs lo hi)))))
theorem b4p{X:Cx}:SlR X (b7J X.K):=by
 intro pins s σ H x v vl vu lo hi sl Q I rx hs pl pu h
 obtain⟨a,xs,rfl,hx,h⟩:=h
 rcases h with⟨h0,h1,q⟩ | ⟨hw,q⟩
 ·cases rx
  obtain⟨its,r,ht,hz⟩:=I.tuple hx
  have hlen:its.toArray.size=xs.length:=by rw[List.size_toArray];exact r.length.symm
  refine⟨"tuple",_,PyProof.Rows.slot_tuple_getitem.lookup,ht.typeIs,?_⟩
  exact a3D ht hs pl pu (by rw[hlen];exact h0) (by rw[hlen];exact h1) ⟨.ref a,H,I,rfl,q⟩
 ·exact b5y pins s σ H _ v vl vu lo hi sl Q I rx hs pl pu ⟨a,xs,rfl,hx,hw,q⟩
end L2
namespace L2
open PySem PySem.Spec PyProof.Rows
section
variable{X:Cx}{elts:List Expr}{k:Nat}{tpos:Pos}
end
end L2
namespace L2
open PySem PySem.Spec PyProof.Rows PySem.W
theorem b1S(lo hi:Option Int){k:Int}(hk:0 < k)(n:Nat):Builtin.Slice.sliceAdjust lo hi k (n:Int)=(((HT.sIx n 0 lo:Nat):Int),((HT.sIx n n hi:Nat):Int)):=by
 have h1:¬k < 0:=by omega
 unfold Builtin.Slice.sliceAdjust
 simp only[h1,if_false]
 refine Prod.ext ?_ ?_
 ·cases lo with
  | none=>rfl
  | some v=>exact HT.a4D v n 0
 ·cases hi with
  | none=>rfl
  | some v=>exact HT.a4D v n n
theorem b1g{i j n:Nat}{k:Int}(hk:0 < k)(hj:j<=n):Builtin.Slice.slicePlaces (i:Int) (j:Int) k<=n:=by
 unfold Builtin.Slice.slicePlaces
 rw[if_pos (show k > 0 from hk)]
 by_cases h:(i:Int) < (j:Int)
 ·rw[if_pos h]
  have h2:((j:Int) - i - 1)/k<=(j:Int) - i - 1:=Int.ediv_le_self _ (by omega)
  omega
 ·rw[if_neg h]
  omega
section
variable{prog:Program}{w:World}{A:Around}{E:Value->Shared->Prop}{s:Shared}
theorem a2O{t sl:Addr}{items:Array Value}{vl vu vk:Value}{lo hi:Option Int}{k:Int}{Q:Value->Shared->Prop}(ht:IsTup s.heap t items)(hs:s.heap.IsSliceOf sl vl vu vk)(pl:IsPart vl lo)(pu:IsPart vu hi)(pk:IsPart vk (some k))(hk:0 < k)(hsz:items.size<=sizeLine)(h0:Q (.ref t) s)
  (h:∀js:List Nat,js.length<=items.size->Q (.ref s.heap.objs.size) {s with heap:=s.heap.push {cls:= .type "tuple",data:= .seq (js.filterMap fun j=>items[j]?).toArray}}):wpAny (model prog w) A (getItem (.ref t) (.ref sl)) Q E s:=by
 obtain⟨os,hos,hcs,hds⟩:=id hs
 have hTs:s.TypeIs (.ref sl) "slice":=⟨os,hos,hcs⟩
 have hj:HT.sIx items.size items.size hi<=items.size:=HT.b3e _ _ (AH _) hi
 unfold getItem
 try with_reducible refine BG ?_
 first | refine AA (AB ?_) | skip
 refine AA (wpAny_sequenceKey ht.typeIs (by decide) ?_)
 refine AA (wpAny_callSpecial?_slot (name:=Str.ofString "__getitem__") ht.typeIs PyProof.Rows.slot_tuple_getitem
  (wpAny_call_entry PyProof.Rows.slot_tuple_getitem ht.typeIs entry_tuple_getitem ?_ (args_tuple_getitem _ _)))
 show wpAny _ _ (Builtin.Tuple.tupleItemsOf (.ref t) >>= _) _ _ s
 refine AA (tupleItemsOf_ ht (AA (wpAny_typeOf hTs ?_)))
 rw[if_pos (by decide)]
 unfold Builtin.Slice.sliceApplied Builtin.Slice.sliceFields
 refine AA (AA (AA (wpAny_field hos hds (x:=vl) rfl (AA (wpAny_field hos hds (x:=vu) rfl (AA (wpAny_field hos hds (x:=vk) rfl (AB ?_))))))))
 refine AA (HT.a0U pk ?_)
 show wpAny _ _ (if(k==0)=true then _ else _) _ _ s
 rw[if_neg (by simp;omega)]
 refine AA (HT.a0U pl (AA (HT.a0U pu (AA (AB ?_)))))
 show wpAny _ _ (match Builtin.Slice.sliceAdjust lo hi k (items.size:Int)with | (lo,hi)=>pure (lo,k,Builtin.Slice.slicePlaces lo hi k)) _ _ s
 rw[b1S lo hi hk]
 refine AB ?_
 have hn:=b1g (i:=HT.sIx items.size 0 lo) hk hj
 dsimp only
 generalize hNN:Builtin.Slice.slicePlaces ((HT.sIx items.size 0 lo:Nat):Int) ((HT.sIx items.size items.size hi:Nat):Int) k=N at hn⊢
 generalize ((HT.sIx items.size 0 lo:Nat):Int)=L0
 have q:=h ((List.range N).map fun(m:Nat)=>(L0+(m:Int)*k).toNat) (by rw[List.length_map,List.length_range];exact hn)
 have e:((List.range N).map fun(m:Nat)=>(L0+(m:Int)*k).toNat).filterMap (fun j=>items[j]?)=(List.range N).filterMap fun(m:Nat)=>items[(L0+(m:Int)*k).toNat]?:=by rw[List.filterMap_map];rfl
 rw[e]at q
 have htake:sizeOk (.seq ((List.range N).filterMap fun(m:Nat)=>items[(L0+(m:Int)*k).toNat]?).toArray):=by
  show((List.range N).filterMap fun(m:Nat)=>items[(L0+(m:Int)*k).toNat]?).toArray.size<=sizeLine
  rw[List.size_toArray]
  have:=List.length_filterMap_le (fun(m:Nat)=>items[(L0+(m:Int)*k).toNat]?) (List.range N)
  rw[List.length_range]at this
  omega
 by_cases hw:(L0==0 && k==1 && N==items.size)=true
 ·rw[if_pos hw]
  unfold Builtin.Tuple.tupleIsExact
  refine AA (AA (wpAny_typeOf ht.typeIs (AB ?_)))
  rw[if_pos (by decide)]
  refine AA (wpAny_rule ?_)
  first
   | exact AB ⟨_,rfl,AB h0⟩
   | exact AA (AB ⟨_,rfl,AB h0⟩)
   | exact AA (AB (AB ⟨_,rfl,AB h0⟩))
 ·rw[if_neg hw]
  first
   | exact AA (m:=Builtin.Tuple.tupleExact _) (wpAny_newObj_type (AB ⟨_,rfl,AB q⟩) htake)
   | exact AA (m:=Builtin.Tuple.tupleExact _) (wpAny_newObj_type (AA (AB (AB ⟨_,rfl,AB q⟩))) htake)
   | exact AA (AA (m:=Builtin.Tuple.tupleExact _) (wpAny_newObj_type (AB (AB ⟨_,rfl,AB q⟩)) htake))
   | exact AA (AA (m:=Builtin.Tuple.tupleExact _) (wpAny_newObj_type (AB ⟨_,rfl,AB q⟩) htake))
end
section
variable{X:Cx}{e:Expr}{te:TE}{lo hi:Option Expr}{st:Expr}{tl th tk:TO}{pos p2:Pos}
end
end L2
namespace RL
open PySem PySem.Spec PyProof.Rows
theorem b3B:Manifest.owners.lookup (String.ofList ['r', 'o', 't', 'a', 'r', 'e', 't', 'i', 'e', 's', 'r', 'e', 'v', 'e', 'r', '_', 't', 's', 'i', 'l'].reverse)=some Manifest.sig_list_reverseiterator:=by kernel_rfl
theorem a3z:Slot "list_reverseiterator" "__next__" "list_reverseiterator.__next__":=
 .of (owner:="list_reverseiterator") (n:="__next__") (by rw[typeLookup_type,builtinLookup_eq_fast];kernel_rfl) (by decide +kernel) (by decide +kernel) (by decide +kernel)
  (by first | exact .inl (by decide +kernel) | exact .inr (by decide +kernel)) (by rw[isSubtype_type];kernel_rfl)
theorem b0n:Slot "list_reverseiterator" "__iter__" "list_reverseiterator.__iter__":=
 .of (owner:="list_reverseiterator") (n:="__iter__") (by rw[typeLookup_type,builtinLookup_eq_fast];kernel_rfl) (by decide +kernel) (by decide +kernel) (by decide +kernel)
  (by first | exact .inl (by decide +kernel) | exact .inr (by decide +kernel)) (by rw[isSubtype_type];kernel_rfl)
theorem a3p:entryFor table "list_reverseiterator.__next__"=some Builtin.«list_reverseiterator.__next__»:=entryFor_of_tree (by kernel_rfl)
theorem a7b:entryFor table "list_reverseiterator.__iter__"=some Builtin.«dict_keyiterator.__iter__»:=
 entryFor_alias (id':="dict_keyiterator.__iter__") (by kernel_rfl) (by first | rfl | decide +kernel | (unfold String.splitOn;simp +decide [String.splitOnAux])) (by decide +kernel) (by kernel_rfl)
theorem a3G(a:Value):argsOk "list_reverseiterator.__next__" ⟨[a],[]⟩:=by
 unfold argsOk;rw[signature?_of (id:="list_reverseiterator.__next__") (n:=['_', '_', 't', 'x', 'e', 'n', '_', '_']) (o:=['r', 'o', 't', 'a', 'r', 'e', 't', 'i', 'e', 's', 'r', 'e', 'v', 'e', 'r', '_', 't', 's', 'i', 'l']) (by kernel_rfl) b3B];kernel_rfl
theorem a7q(a:Value):argsOk "list_reverseiterator.__iter__" ⟨[a],[]⟩:=by
 unfold argsOk;rw[signature?_of (id:="list_reverseiterator.__iter__") (n:=['_', '_', 'r', 'e', 't', 'i', '_', '_']) (o:=['r', 'o', 't', 'a', 'r', 'e', 't', 'i', 'e', 's', 'r', 'e', 'v', 'e', 'r', '_', 't', 's', 'i', 'l']) (by kernel_rfl) b3B];kernel_rfl
theorem b5F:isSubtype (.type "list_reverseiterator") (.type "reversed")=pure false:=by rw[isSubtype_type];kernel_rfl
noncomputable def a8W (t:Addr) (i:Int):Obj:={cls:= .type "list_reverseiterator",data:= .fields #[.ref t,rawInt i]}
noncomputable def a0w (h:Heap) (a t:Addr) (i:Int):Prop:=∃o,h.get? a=some o/\o.cls= .type "list_reverseiterator"/\o.data= .fields #[.ref t,rawInt i]
theorem a0w.move{h h':Heap}{a t:Addr}{i:Int}(x:a0w h a t i)(e:∀o,h.get? a=some o->h'.get? a=some o):a0w h' a t i:=by
 obtain⟨o,ho,r⟩:=x
 exact⟨o,e o ho,r⟩
section
variable{prog:Program}{w:World}{A:Around}{E:Value->Shared->Prop}{s:Shared}
theorem a0w.ty{a t:Addr}{i:Int}(x:a0w s.heap a t i):s.TypeIs (.ref a) "list_reverseiterator":=by
 obtain⟨o,ho,hc,_⟩:=x
 exact⟨o,ho,hc⟩
theorem b0Y{r:Addr}{its:Array Value}{Q:Value->Shared->Prop}(hr:s.heap.IsList r its)
  (q:Q (.ref s.heap.objs.size) {s with heap:=s.heap.push (a8W r ((its.size:Int) - 1))}):wpAny (model prog w) A (call (.type "reversed") [.ref r]) Q E s:=by
 have ty:s.TypeIs (.ref r) "list":=hr.typeIs
 refine callType_other (U:="list_reverseiterator") (Q₁:=fun obj s₁=>obj= .ref s.heap.objs.size/\s₁={s with heap:=s.heap.push (a8W r ((its.size:Int) - 1))}) (by decide +kernel) F.create_reversed ⟨_,_,F.mro_reversed⟩ F.made_reversed b5F (F.typeCall_reversed_1 _) ?_ ?_
 ·refine codeAny_of_tree ?_
  show wpAny _ A.in1.in1 (checkBuiltinCall "reversed.__new__" ⟨[.type "reversed",.ref r],[]⟩ >>= fun _=>again (.builtin "reversed.__new__" ⟨[.type "reversed",.ref r],[]⟩)) _ _ s
  refine AA (AX (F.newCall_reversed_1 _) (AB ⟨plainId_quiet F.plain_reversed_new _,codeAny_builtin F.entry_reversed_new ?_⟩))
  rw[Around.under_plainId F.plain_reversed_new _]
  unfold Builtin.«reversed.__new__»
  refine AA (AX (newClass_reversed _) ?_)
  try dsimp only
  refine AA (AX (a:=()) (by first | rfl | kernel_rfl) ?_)
  refine AA (AX (a:=()) (by first | rfl | kernel_rfl) ?_)
  try dsimp only
  refine AA (wpAny_specialOf ty F.slot_list_reversed.lookup ?_)
  try dsimp only
  refine AA (AX (F.slot_list_reversed.bind _) ?_)
  try dsimp only
  rw[if_neg (show¬((Value.builtin "list.__reversed__"==Value.none)=true)from AE)]
  refine AA (wpAny_rule ?_)
  refine AA (m:=runValue (.call (.builtin "list.__reversed__") ⟨[.ref r],[]⟩)) (show wpAny _ _ (call (.builtin "list.__reversed__") [.ref r]) _ _ _ from wpAny_call_entry F.slot_list_reversed ty F.entry_list_reversed ?_ (F.args_list_reversed_1 _))
  unfold Builtin.«list.__reversed__»
  refine AA (AX (a:=Value.ref r) rfl ?_)
  obtain⟨o,ho,hc,n,hd⟩:=id hr
  refine AA (wpAny_listItems ho hd ?_)
  refine AA (wpAny_newObj_type (AB ⟨_,rfl,?_⟩))
  exact AB ⟨rfl,rfl⟩
 ·rintro obj s₁ ⟨rfl,rfl⟩
  exact⟨⟨_,AI _ rfl,rfl⟩,q⟩
theorem a4b{it t:Addr}{i:Nat}{its:Array Value}{x:Value}{Q:Option Value->Shared->Prop}(hit:a0w s.heap it t (i:Int))(ht:s.heap.IsList t its)(hx:its[i]?=some x)
  (q:∀h' tk,a0w h' it t ((i:Int) - 1)->Heap.SameBut it s.heap h'->Q (some x) {s with heap:=h',toks:=tk}):wpAny (model prog w) A (pyNext (.ref it)) Q E s:=by
 obtain⟨o,ho,hc,hd⟩:=id hit
 obtain⟨o2,ho2,hc2,n2,hd2⟩:=id ht
 unfold pyNext
 refine AA (wpAny_attempt (wpAny_callSpecial?_slot (name:=Str.ofString "__next__") hit.ty a3z (wpAny_call_entry a3z hit.ty a3p ?_ (a3G _))))
 unfold Builtin.«list_reverseiterator.__next__»
 refine AA (AX (a:=(Value.ref it,[])) rfl ?_)
 try dsimp only
 refine AA (wpAny_field ho hd (x:=rawInt (i:Int)) rfl ?_)
 show wpAny _ _ (if(i:Int) < 0 then _ else _) _ _ s
 rw[if_neg (by omega)]
 refine AA (wpAny_field ho hd (x:= .ref t) rfl ?_)
 refine AA (wpAny_seqItems ho2 hd2 ?_)
 try dsimp only
 rw[Int.toNat_natCast,hx]
 try dsimp only
 refine AA (wpAny_setField ho hd (by simp) ?_)
 refine AB ⟨x,rfl,AB (q _ _ ?_ (Heap.SameBut.update ..))⟩
 exact⟨_,BE _ ho (Obj.isFreed_of_fields (Obj.data_mapFields hd _)),(Obj.cls_mapFields ..).trans hc,by
  rw[Obj.data_mapFields hd]
  simp⟩
theorem a4V{it t:Addr}{Q:Option Value->Shared->Prop}(hh:A.handled=none)(hit:a0w s.heap it t (-1))
  (q:∀h' tk,Heap.ExtBut it s.heap h'->Q none {s with heap:=h',toks:=tk}):wpAny (model prog w) A (pyNext (.ref it)) Q E s:=by
 obtain⟨o,ho,hc,hd⟩:=id hit
 unfold pyNext
 refine AA (wpAny_attempt (wpAny_callSpecial?_slot (name:=Str.ofString "__next__") hit.ty a3z (wpAny_call_entry a3z hit.ty a3p ?_ (a3G _))))
 unfold Builtin.«list_reverseiterator.__next__»
 refine AA (AX (a:=(Value.ref it,[])) rfl ?_)
 try dsimp only
 refine AA (wpAny_field ho hd (x:=rawInt (-1)) rfl ?_)
 show wpAny _ _ (if(-1:Int) < 0 then _ else _) _ _ s
 rw[if_pos (by decide)]
 refine AA (wpAny_rule ?_)
 refine AA ?_
 show wpAny _ _ (newExc (Value.type "StopIteration") [] >>= _) _ _ _
 refine AA ?_
 simp only[newTuple,newExc]
 refine AA (wpAny_newObj_type (AA (m:=firstArgMember _ _) (AX (a:=Value.none) (by first | rfl | (simp only[firstArgMember];rfl)) (wpAny_newObj_type ?_ (by size_fits)))) (by size_fits))
 simp only[raiseNew]
 refine AA (wpAny_handled ?_)
 rw[show A.in1.handled=none from hh]
 refine AA (AB (wpAny_throw ?_))
 exact AA (wpAny_isInstance (T:="StopIteration") (b:=true) ⟨_,AI _ rfl,rfl⟩ isSubtype_stop (AB (q _ _ (((Heap.SameBut.refl _ _).extBut.push _).push _))))
theorem a1w{it t:Addr}{i:Int}{Q:Value->Shared->Prop}(hit:a0w s.heap it t i)(h:Q (.ref it) s):wpAny (model prog w) A (pyIter (.ref it)) Q E s:=by
 refine wpAny_pyIter_slot hit.ty b0n (wpAny_call_entry b0n hit.ty a7b ?_ (a7q _))
 show wpAny _ _ (ret (.ref it)) _ _ s
 exact AB ⟨_,rfl,"list_reverseiterator",_,hit.ty,a3z.lookup,h⟩
end
end RL
namespace L2
open PySem PySem.Spec PyProof.Rows PySem.W RL
end L2
namespace RL
open PySem PySem.Spec PyProof.Rows
theorem b3T:Slot "list_reverseiterator" "__length_hint__" "list_reverseiterator.__length_hint__":=
 .of (owner:="list_reverseiterator") (n:="__length_hint__") (by rw[typeLookup_type,builtinLookup_eq_fast];kernel_rfl) (by decide +kernel) (by decide +kernel) (by decide +kernel)
  (by first | exact .inl (by decide +kernel) | exact .inr (by decide +kernel)) (by rw[isSubtype_type];kernel_rfl)
theorem a9A:typeLookup (.type "list_reverseiterator") "__len__"=pure none:=by rw[typeLookup_type,builtinLookup_eq_fast];kernel_rfl
theorem b6S:isSubtype (.type "list_reverseiterator") (.type "list_reverseiterator")=pure true:=by rw[isSubtype_type];kernel_rfl
section
variable{prog:Program}{w:World}{A:Around}{E:Value->Shared->Prop}{s:Shared}
theorem a9v(hh:A.handled=none)(I t:Addr)(hne:t≠I)(its:Array Value)(hz:its.size<=sizeLine):
  Walks prog w A I [I,t] [I] its.size (fun i v=>its[its.size - 1 - i]?=some v) (fun i h=>i<=its.size/\a0w h I t ((its.size:Int) - 1 - (i:Int))/\h.IsList t its)where
 sub:=fun b hb=>by
  have e:b=I:=by simpa using hb
  simp[e]
 frame:=fun _ _ _ st k=>⟨st.1,st.2.1.move fun o e=>k I (by simp) o e,Heap.IsList.at st.2.2 fun o e=>k t (by simp) o e⟩
 item:=fun i s Q E hi st q=>by
  have e1:(its.size:Int) - 1 - (i:Int)=((its.size - 1 - i:Nat):Int):=by omega
  have hit:=st.2.1
  rw[e1]at hit
  have hx:its[its.size - 1 - i]?=some (its[its.size - 1 - i]'(by omega)):=Array.getElem?_eq_getElem (by omega)
  refine a4b hit st.2.2 hx fun h' tk hit' same=>?_
  have e2:((its.size - 1 - i:Nat):Int) - 1=(its.size:Int) - 1 - ((i+1:Nat):Int):=by omega
  rw[e2]at hit'
  exact q _ h' tk hx ⟨hi,hit',Heap.IsList.at st.2.2 fun o eo=>(same.2 t hne).trans eo⟩ fun b o hb eo=>same.extBut b o (fun z=>hb (by simp[z])) eo
 done:=fun s Q E st q=>by
  have e1:(its.size:Int) - 1 - (its.size:Int)= -1:=by omega
  have hit:=st.2.1
  rw[e1]at hit
  exact a4V hh hit fun h' tk he=>q h' tk fun b o hb eo=>he b o (fun z=>hb (by simp[z])) eo
 self:=fun _ _ _ _ st q=>a1w st.2.1 q
theorem b0R{I t:Addr}{its:Array Value}{Q:Bool->Shared->Prop}(hI:a0w s.heap I t ((its.size:Int) - 1))(ht:s.heap.IsList t its)(hz:its.size<=sizeLine)(q:∀b tk,Q b {s with toks:=tk}):wpAny (model prog w) A (Builtin.List.listLengthHint (.ref I)) Q E s:=by
 unfold Builtin.List.listLengthHint
 refine AA (wpAny_specialOf hI.ty a9A ?_)
 try dsimp only
 refine wpAny_ite_split (fun h=>absurd h (by decide)) (fun _=>?_)
 refine wpAny_ite_split (fun h=>absurd h (by decide)) (fun _=>?_)
 refine AA (wpAny_specialOf hI.ty b3T.lookup ?_)
 generalize hid:("list_reverseiterator.__length_hint__":String)=id0
 wp_delta
 rw[show splitId id0=some ("list_reverseiterator","__length_hint__")from by subst hid;decide +kernel]
 subst hid
 refine AA (wpAny_isInstance (T:="list_reverseiterator") (b:=true) hI.ty b6S ?_)
 refine wpAny_ite_split (fun h=>absurd h (by decide)) (fun _=>?_)
 refine wpAny_ite_split (fun _=>?_) (fun h=>absurd (by decide +kernel) h)
 refine wpAny_ite_split (fun h=>absurd h (by decide +kernel)) (fun _=>?_)
 exact AB (q false s.toks)
end
section
variable{prog:Program}{w:World}{A:Around}{E:Value->Shared->Prop}{s:Shared}
noncomputable def StL (I t:Addr) (its:Array Value) (i:Nat) (h:Heap):Prop:=i<=its.size/\a0w h I t ((its.size:Int) - 1 - (i:Int))/\h.IsList t its
noncomputable def PRl (its:Array Value) (i:Nat) (v:Value):Prop:=its[its.size - 1 - i]?=some v
theorem StL.move{I t:Addr}{its:Array Value}{i:Nat}{h h':Heap}(x:StL I t its i h)(k:∀b o,b=I\/b=t->h.get? b=some o->h'.get? b=some o):StL I t its i h':=
 ⟨x.1,x.2.1.move fun o e=>k I o (.inl rfl) e,Heap.IsList.at x.2.2 fun o e=>k t o (.inr rfl) e⟩
theorem a7I{R:Result->Shared->Prop}(hh:A.handled=none){I t S:Addr}{its:Array Value}{res:Value}{c₀:Nat}(hne:t≠I)(hSI:S≠I)(hSt:S≠t)(hz:its.size<=sizeLine)(st:StL I t its 0 s.heap)
  (hS:s.heap.get? S=some {cls:= .type "list",data:= .seq #[] c₀})
  (q:∀h' tk acc c,(∀b o,b≠S->b≠I->s.heap.get? b=some o->h'.get? b=some o)->h'.get? S=some {cls:= .type "list",dict:=none,data:= .seq acc c,slots:= #[]}->ItemsOf (PRl its) acc its.size->R (.ok (.ret res)) {s with heap:=h',toks:=tk}):
  wpAny (model prog w) A.in1 (Builtin.List.listExtendWith (.ref S) (.ref I) res)
   (fun fin s'=>match fin with | .done f=>R (.ok f) s' | .again c'=>c'.quiet=true/\codeAny (model prog w) A c' R s') (fun e s'=>R (.error e) s') s:=by
 have W:=(a9v (prog:=prog) (w:=w) (A:=A.in1) hh I t hne its hz).toS
 have hSf:S∉ [I,t]:=by simp[hSI,hSt]
 have ty:s.TypeIs (.ref I) "list_reverseiterator":=st.2.1.ty
 have rest:∀(h:Heap)(c tk:Nat),StL I t its 0 h->(∀b o,b≠S->s.heap.get? b=some o->h.get? b=some o)->h.get? S=some {cls:= .type "list",data:= .seq #[] c}->codeAny (model prog w) A (.builtin "list.extend.loop" ⟨[.ref S,.ref I,res],[]⟩) R {s with heap:=h,toks:=tk}:=fun h c tk st' keep hS'=>by
  refine codeAny_extend_loopS W hz S hSf res its.size 0 _ #[] c rfl (Nat.zero_le _) st' hS' (ItemsOf.nil _) fun s' acc c' hm hS2 hacc=>?_
  rw[Moved.eq_with hm]
  refine q s'.heap s'.toks acc c' (fun b o hb hbI e=>hm.heap b o (fun z=>?_) (keep b o hb e)) hS2 hacc
  rcases List.mem_cons.mp z with z | z
  ·exact hb z
  ·exact hbI (AD.mp z)
 unfold Builtin.List.listExtendWith
 refine AA (wpAny_typeOf ty ?_)
 have n1:Builtin.List.listSameRef (.ref S) (.ref I)=false:=by simp[Builtin.List.listSameRef,hSI]
 have n2:(Value.type "list_reverseiterator"==Value.type "list")=false:=by decide
 have n3:(Value.type "list_reverseiterator"==Value.type "tuple")=false:=by decide
 simp only[n1,n2,n3,Bool.or_false,Bool.false_eq_true,if_false]
 refine AA (a1w st.2.1 ?_)
 refine AA (BG (b0R (its:=its) (by have:=st.2.1;simpa using this) st.2.2 hz fun b tk=>?_))
 refine wpAny_ite_split (fun _=>?_) (fun _=>AB ⟨plainId_quiet PySem.F.plain_extend_loop _,rest _ c₀ _ st (fun b o _ e=>e) hS⟩)
 refine AA (wpAny_rule (AA ?_))
 show wpAny _ _ (updateSeq S (·.push .none) >>= fun _=>updateSeq S (·.pop)) _ _ _
 refine AA (wpAny_updateSeq (s:={s with toks:=tk}) hS rfl ?_)
 have hS2:=BE (Obj.mapSeq (·.push Value.none)) hS rfl
 refine wpAny_updateSeq (hz:=by seq_fits) hS2 rfl ?_
 have hS3:=BE (Obj.mapSeq (·.pop)) hS2 rfl
 have oth:∀b o,b≠S->s.heap.get? b=some o->((s.heap.update S (Obj.mapSeq (·.push Value.none))).update S (Obj.mapSeq (·.pop))).get? b=some o:=fun b o hb e=>
  (BA _ _ (Ne.symm hb)).trans ((BA _ _ (Ne.symm hb)).trans e)
 refine AB ⟨plainId_quiet PySem.F.plain_extend_loop _,rest _ _ _ (st.move fun b o hb e=>oth b o (fun z=>?_) e) oth hS3⟩
 rcases hb with y | y
 ·exact hSI (z.symm.trans y)
 ·exact hSt (z.symm.trans y)
theorem b0y{R:Result->Shared->Prop}(hh:A.handled=none){I t S:Addr}{its:Array Value}(hne:t≠I)(hSI:S≠I)(hSt:S≠t)(hz:its.size<=sizeLine)(st:StL I t its 0 s.heap)
  (hS:s.heap.get? S=some {cls:= .type "list",data:= .seq #[]})
  (q:∀h' tk acc c,(∀b o,b≠S->b≠I->s.heap.get? b=some o->h'.get? b=some o)->h'.get? S=some {cls:= .type "list",dict:=none,data:= .seq acc c,slots:= #[]}->ItemsOf (PRl its) acc its.size->R (.ok (.ret .none)) {s with heap:=h',toks:=tk}):
  wpAny (model prog w) A.in1 (Builtin.«list.__init__» ⟨[.ref S,.ref I],[]⟩)
   (fun fin s'=>match fin with | .done f=>R (.ok f) s' | .again c'=>c'.quiet=true/\codeAny (model prog w) A c' R s') (fun e s'=>R (.error e) s') s:=by
 show wpAny _ A.in1 (Builtin.List.listItems (.ref S) >>= fun old=>Builtin.List.listUpdate (.ref S) (fun _=>#[]) >>= fun _=>letGo old.toList.reverse >>= fun _=>Builtin.List.listExtendWith (.ref S) (.ref I) .none) _ _ s
 unfold Builtin.List.listItems
 refine AA (AA (wpAny_seqItems hS rfl (AB ?_)))
 show wpAny _ A.in1 (updateSeq S (fun _=>#[]) >>= fun _=>letGo (#[]:Array Value).toList.reverse >>= fun _=>Builtin.List.listExtendWith (.ref S) (.ref I) .none) _ _ s
 refine AA (wpAny_updateSeq hS rfl (AA (wpAny_letGo ?_)))
 have oth:∀b o,b≠S->s.heap.get? b=some o->(s.heap.update S (Obj.mapSeq (fun _=>(#[]:Array Value)))).get? b=some o:=fun b o hb e=>(BA _ _ (Ne.symm hb)).trans e
 refine a7I hh hne hSI hSt hz (st.move fun b o hb e=>oth b o (fun z=>?_) e) (BE (Obj.mapSeq (fun _=>(#[]:Array Value))) hS rfl) fun h' tk acc c keep hS' hacc=>q h' tk acc c (fun b o hb hbI e=>keep b o hb hbI (oth b o hb e)) hS' hacc
 rcases hb with y | y
 ·exact hSI (z.symm.trans y)
 ·exact hSt (z.symm.trans y)
theorem b0t{I t:Addr}{its:Array Value}{Q:Value->Shared->Prop}(hh:A.handled=none)(hne:t≠I)(hz:its.size<=sizeLine)(st:StL I t its 0 s.heap)
  (q:∀h' tk acc c,(∀b o,b≠I->s.heap.get? b=some o->h'.get? b=some o)->h'.get? s.heap.objs.size=some {cls:= .type "list",dict:=none,data:= .seq acc c,slots:= #[]}->ItemsOf (PRl its) acc its.size->Q (.ref s.heap.objs.size) {s with heap:=h',toks:=tk}):
  wpAny (model prog w) A (call (.type "list") [.ref I]) Q E s:=by
 have hI:I < s.heap.objs.size:=by
  obtain⟨o,e,_⟩:=st.2.1
  exact AJ e
 have ht:t < s.heap.objs.size:=by
  obtain⟨o,e,_⟩:=st.2.2
  exact AJ e
 refine callType_codes (Q₁:=fun obj s₁=>obj= .ref s.heap.objs.size/\s₁={s with heap:=s.heap.push {cls:= .type "list",data:= .seq #[]}}) F.called_list (F.typeCall_list_1 _) F.entry_list_init (code_list_new _ ⟨rfl,rfl⟩) fun obj s₁ e₁=>?_
 obtain⟨rfl,rfl⟩:=e₁
 have hS:(s.heap.push {cls:= .type "list",data:= .seq #[]}).get? s.heap.objs.size=some {cls:= .type "list",data:= .seq #[]}:=AI _ rfl
 refine⟨⟨_,hS,rfl⟩,F.args_list_init_2 _ _,b0y (A:=A.in1) hh hne (Nat.ne_of_gt hI) (Nat.ne_of_gt ht) hz (st.move fun b o _ e=>AC _ e) hS fun h' tk acc c keep hS' hacc=>?_⟩
 exact⟨rfl,q h' tk acc c (fun b o hb e=>keep b o (BB (AJ e)) hb (AC _ e)) hS' hacc⟩
end
end RL
namespace L2
open PySem PySem.Spec PyProof.Rows PySem.W RL
theorem b1P{xs:List V}{its:Array Value}{acc:Array Value}(hv:W0 xs its.toList)(ha:ItemsOf (PRl its) acc its.size):W0 xs.reverse acc.toList:=by
 have hl:xs.length=its.size:=by rw[hv.length,Array.length_toList]
 refine a6S (by rw[Array.length_toList,ha.1,BS,hl]) fun j u e=>?_
 have hj:j < its.size:=by
  rw[<-ha.1,<-Array.length_toList]
  exact(List.getElem?_eq_some_iff.mp e).1
 have hp:its[its.size - 1 - j]?=some u:=ha.2 j u (by rw[<-BR];exact e)
 obtain⟨x,h1,h2⟩:=a6V (i:=its.size - 1 - j) hv (by rw[BR];exact hp)
 refine⟨x,?_,h2⟩
 rw[List.getElem?_reverse (by omega),hl]
 exact h1
section
variable{X:Cx}{e:Expr}{te:TE}{pos pos2 p p2:Pos}
noncomputable def b5k (K:W.Frag) (te:TE):TE:=fun σ H Q=>te σ H fun x H1=>∃a xs,x= .ref a/\SqL K H1 a xs/\∀l,H1 l=none->Q (.ref l) (upd H1 l (.lst xs.reverse))
theorem b4V(he:PE X e te)(gR:Gl X "reversed")(mR:X.mg "reversed"=none)(hs:starEach [e] X.env=[(false,eval e X.env)]:=by rfl)
  {pins:List (Addr×Obj)}{s:Shared}{σ:St}{H:Hp}{R:VK}{Q:Value->Shared->Prop}(I:Inv X pins σ H s)(h:te σ H R)
  (k:∀x H1 s1 a xs its tk,Inv X pins σ H1 s1->R x H1->x= .ref a->W0 xs its->s1.heap.IsList a its.toArray->its.toArray.size<=sizeLine->SqL X.K H1 a xs->Q (.ref s1.heap.objs.size) {s1 with heap:=s1.heap.push (a8W a ((its.toArray.size:Int) - 1)),toks:=tk})
  (kr:∀x H1,R x H1->∃a xs,x= .ref a/\SqL X.K H1 a xs):
  wpAny (model X.prog X.w) X.A (eval (.Call (.Name "reversed" p2) [e] [] pos2) X.env) Q X.xe s:=by
 refine wpAny_Call_Name_kw (a0T I gR mR boot_reversed ?_ (by decide) (by decide))
 refine PyProof.Rows.callWith_type1 ?_ hs (by rfl)
 rw[hs]
 refine Calls.spliced_cons (thn (he pins s σ H _ I h) fun u s1⟨x,H1,I1,r1,q1⟩=>?_)
 obtain⟨a,xs,rfl,ht⟩:=kr x H1 q1
 cases r1
 obtain⟨its,hv,htup,hz⟩:=I1.list ht
 have hz':its.toArray.size<=sizeLine:=by have:=hv.length;simp;omega
 refine Calls.spliced_nil ?_
 exact b0Y htup.isList (k _ H1 s1 a xs its s1.toks I1 q1 rfl hv htup.isList hz' ht)
theorem b2t(hc:X.calm=true)(he:PE X e te)(gL:Gl X "list")(mL:X.mg "list"=none)(gR:Gl X "reversed")(mR:X.mg "reversed"=none)(hs:starEach [e] X.env=[(false,eval e X.env)]:=by rfl)(hs2:starEach [.Call (.Name "reversed" p2) [e] [] pos2] X.env=[(false,eval (.Call (.Name "reversed" p2) [e] [] pos2) X.env)]:=by rfl):
  PE X (.Call (.Name "list" p) [.Call (.Name "reversed" p2) [e] [] pos2] [] pos) (b5k X.K te):=by
 intro pins s σ H Q I h
 refine wpAny_Call_Name_kw (a0T I gL mL boot_list ?_ (by decide) (by decide))
 refine PyProof.Rows.callWith_type1 ?_ hs2 (by rfl)
 rw[hs2]
 refine Calls.spliced_cons (b4V he gR mR hs I h (fun x H1 s1 a xs its tk I1 q1 ex hv htup hz ht=>?_) fun x H1 q=>by obtain⟨a,xs,e1,e2,_⟩:=q;exact⟨a,xs,e1,e2⟩)
 obtain⟨a',ys,e1,e2,q⟩:=q1
 have ea:a=a':=V.ref.inj (ex.symm.trans e1)
 subst ea
 have exy:=I1.list_inj ht e2
 subst exy
 refine Calls.spliced_nil ?_
 have hne:a≠s1.heap.objs.size:=BB (by obtain⟨o,ho,_⟩:=htup;exact AJ ho)
 have st:StL s1.heap.objs.size a its.toArray 0 (s1.heap.push (a8W a ((its.toArray.size:Int) - 1))):=⟨Nat.zero_le _,⟨_,AI _ rfl,rfl,by simp[a8W]⟩,htup.push _⟩
 refine b0t (s:={s1 with heap:=s1.heap.push (a8W a ((its.toArray.size:Int) - 1)),toks:=tk}) (I1.ok.hd hc) hne hz st fun h' tk' acc c keep hS hacc=>?_
 have hk:∀b u,s1.heap.get? b=some u->h'.get? b=some u:=fun b u e=>keep b u (BB (AJ e)) (AC _ e)
 have hv':W0 xs its.toArray.toList:=by simpa using hv
 have hr:=b1P hv' hacc
 have hp:s1.heap.objs.size<=(s1.heap.push (a8W a ((its.toArray.size:Int) - 1))).objs.size:=by rw[Heap.size_push];omega
 refine⟨.ref _,_,I1.laid (t':=tk') hk hp (show Y3 X.prog X.w _ h' _ (.lst xs.reverse)from⟨?_,acc.toList,c,hr,by simpa using hS⟩),rfl,q _ (I1.hok.fresh hp)⟩
 rw[hr.length,Array.length_toList,hacc.1]
 exact hz
end
end L2
namespace XC
open PySem
noncomputable abbrev a1T (l:List Env):List Addr:=l.filterMap (·.frame)
noncomputable def Tr (h:Heap) (e:Addr) (cls:Value) (dd:Option Addr) (T:Addr) (fl:Value):Prop:=
 ∃oe vs oT ts,h.get? e=some oe/\oe.cls=cls/\oe.dict=dd/\oe.data= .fields vs/\vs[1]?=some (.ref T)/\T≠e/\h.get? T=some oT/\oT.data= .fields ts/\ts[3]?=some fl/\vs[2]?=some .none
structure a4B(l:List Env)(e:Addr)(ts:List Addr)(h h':Heap):Prop where
 keep:∀b o,h.get? b=some o->b≠e->b∉ts->b∉a1T l->h'.get? b=some o
 slot:∀b o,h.get? b=some o->b∈a1T l->∃sl,h'.get? b=some {o with slots:=sl}
section
variable{M:Model}{A:Around}{E:Value->Shared->Prop}{s:Shared}
theorem a1X{h base:Heap}{l:List Env}(g:h.FunFrames base l):∀b∈a1T l,base.get? b=none/\∃o,h.get? b=some o/\∀vs,o.data≠ .fields vs:=fun b hb=>by
 obtain⟨h1,o,h2,h3⟩:=g.mem hb
 exact⟨h1,o,h2,h3⟩
theorem a8g{o:Obj}{f:Array Value->Array Value}{vs:Array Value}(hd:o.data= .fields vs):(o.mapFields f).dict=o.dict:=by
 obtain⟨c,d,dt,sl⟩:=o
 subst hd
 rfl
theorem a7R{base:Heap}{env:Env}{outer:List Env}{L e:Addr}{oe:Obj}{vs:Array Value}{head:Value}{had:Bool}{Q:Unit->Shared->Prop}
  (hfr:A.frames=some (env::outer))(hl:s.heap.FunFrames base (env::outer))(hf:env.frame=some L)(he:s.heap.get? e=some oe)(hd:oe.data= .fields vs)(hz:1 < vs.size)(hc:vs[2]?=some .none)
  (h:∀h' T,a4B (env::outer) e [] s.heap h'->s.heap.get? T=none->Tr h' e oe.cls oe.dict T (rawInt L)->Q () {s with heap:=h'}):
  wpAny M A (do let a<-frameOf env;let p<-entryPlaceOf L had;let b<-EntryCells.newEntry head a .none (rawInt L) .none p;setField (.ref e) 1 b) Q E s:=by
 have ne:e∉a1T (env::outer):=fun z=>by
  obtain⟨_,o,q,n⟩:=a1X hl e z
  rw[he]at q
  cases q
  exact n vs hd
 refine AA (wpAny_frameOf_fun hfr hl hf fun g S=>AA (wpAny_entryPlaceOf fun p hp=>?_))
 unfold EntryCells.newEntry newFields
 refine AA (wpAny_newObj_type ?_ (hp.sizeOk5 _ _ _ _ _))
 generalize ht:([head,Value.ref L,Value.none,rawInt L,Value.none]++(if p.isEmpty then List.replicate 6 Value.none else p)).toArray=tv
 have h3:tv[3]?=some (rawInt L):=by rw[<-ht];simp
 have g1:g.get? e=some oe:=(S.2.1 e ne).trans he
 have te:g.objs.size≠e:=Nat.ne_of_gt (AJ g1)
 have d2:=Obj.data_mapFields hd (·.setIfInBounds 1 (Value.ref g.objs.size))
 have g2:=AC {cls:= .type "traceback",dict:=none,data:= .fields tv} g1
 refine wpAny_setField g2 hd hz (h _ g.objs.size ⟨fun b o q z _ w=>?_,fun b o q w=>?_⟩ (Heap.get?_none_of_le (by rw[S.1];exact AH _)) ?_)
 ·rw[BA _ _ (Ne.symm z)]
  exact AC _ ((S.2.1 b w).trans q)
 ·obtain⟨sl,q2⟩:=S.2.2 b o q
  have z:b≠e:=fun z=>ne (z▸w)
  exact⟨sl,by rw[BA _ _ (Ne.symm z)];exact AC _ q2⟩
 ·refine⟨_,_,{cls:= .type "traceback",dict:=none,data:= .fields tv},tv,BE _ g2 (Obj.isFreed_of_fields d2),Obj.cls_mapFields _ _,a8g hd,d2,?_,te,?_,rfl,h3,by rw[Array.getElem?_setIfInBounds_ne (by decide)];exact hc⟩
  ·rw[Array.getElem?_setIfInBounds_self,if_pos hz]
  ·rw[BA _ _ (Ne.symm te)]
   exact AI _ rfl
theorem a9C{base:Heap}{env:Env}{outer:List Env}{L e:Addr}{oe:Obj}{vs:Array Value}{Q:Unit->Shared->Prop}
  (hfr:A.frames=some (env::outer))(hl:s.heap.FunFrames base (env::outer))(hf:env.frame=some L)(he:s.heap.get? e=some oe)(hd:oe.data= .fields vs)(h1:vs[1]?=some .none)(hc:vs[2]?=some .none)
  (h:∀h' T,a4B (env::outer) e [] s.heap h'->s.heap.get? T=none->Tr h' e oe.cls oe.dict T (rawInt L)->Q () {s with heap:=h'}):wpAny M A (noteFrame (.ref e) env) Q E s:=by
 unfold noteFrame
 simp only[hf]
 refine AA (wpAny_field he hd h1 ?_)
 rw[if_neg (by decide)]
 exact a7R hfr hl hf he hd (BT.mp h1).1 hc h
theorem a6k{h:Heap}{e T:Addr}{cls fl x:Value}{dd:Option Addr}(ht:Tr h e cls dd T fl):
  (∀b o,b≠T->h.get? b=some o->(h.update T (Obj.mapFields (·.setIfInBounds 3 x))).get? b=some o)/\Tr (h.update T (Obj.mapFields (·.setIfInBounds 3 x))) e cls dd T x:=by
 obtain⟨oe,vs,oT,ts,h1,h2,h2',h3,h4,h5,h6,h7,h8,h9⟩:=ht
 have hz:3 < ts.size:=(BT.mp h8).1
 have d2:=Obj.data_mapFields h7 (·.setIfInBounds 3 x)
 refine⟨fun b o z q=>by rw[BA _ _ (Ne.symm z)];exact q,oe,vs,_,_,?_,h2,h2',h3,h4,h5,BE _ h6 (Obj.isFreed_of_fields d2),d2,?_,h9⟩
 ·rw[BA _ _ h5]
  exact h1
 ·rw[Array.getElem?_setIfInBounds_self,if_pos hz]
theorem a5U{base:Heap}{env:Env}{outer:List Env}{L e T:Addr}{cls:Value}{dd:Option Addr}{Q:Unit->Shared->Prop}
  (hfr:A.frames=some (env::outer))(hl:s.heap.FunFrames base (env::outer))(hf:env.frame=some L)(ht:Tr s.heap e cls dd T .none)
  (h:∀h' T',a4B (env::outer) e [T] s.heap h'->s.heap.get? T'=none->Tr h' e cls dd T' (rawInt L)->Q () {s with heap:=h'}):wpAny M A (noteFrame (.ref e) env) Q E s:=by
 obtain⟨k1,oe,vs,oT,ts,a1,a2,a2',a3,a4,a5,a6,a7,a8,a9⟩:=a6k (x:= .none) ht
 obtain⟨oe0,vs0,oT0,ts0,h1,h2,h2',h3,h4,h5,h6,h7,h8,h9⟩:=ht
 unfold noteFrame
 simp only[hf]
 refine AA (wpAny_field h1 h3 h4 ?_)
 rw[if_pos (show(Value.ref T != Value.none)=true from by simp)]
 refine AA (wpAny_field h6 h7 h8 ?_)
 rw[if_neg (show¬((Value.none==rawInt L)=true)from by simp[rawInt])]
 have nT:T∉a1T (env::outer):=fun z=>by
  obtain⟨_,o,q,n⟩:=a1X hl T z
  rw[h6]at q
  cases q
  exact n ts0 h7
 have nt:∀b o,s.heap.get? b=some o->(∀vs,o.data≠ .fields vs)->b≠T:=fun b o q n z=>by
  rw[z,h6]at q
  cases q
  exact n ts0 h7
 refine AA (wpAny_setField h6 h7 (BT.mp h8).1 ?_)
 refine a7R hfr (hl.of_keeps fun b o q n=>⟨o,k1 b o (nt b o q n) q,rfl⟩) hf a1 a3 (BT.mp a4).1 a9 fun h' T' G n t=>?_
 refine h h' T' ⟨fun b o q z w u=>G.keep b o (k1 b o (fun z=>w (by rw[z];exact List.mem_singleton_self _)) q) z (by simp) u,fun b o q w=>G.slot b o (k1 b o (fun z=>nT (z▸w)) q) w⟩ ?_ (by rw[<-a2,<-a2'];exact t)
 cases q:s.heap.get? T' with
 | none=>rfl
 | some o=>
  by_cases z:T'=T
  ·rw[z,a6]at n
   cases n
  ·rw[show(s.heap.update T (Obj.mapFields (·.setIfInBounds 3 Value.none))).get? T'=some o from k1 T' o z q]at n
   cases n
theorem a4L{e T:Addr}{cls fl:Value}{dd:Option Addr}{Q:Unit->Shared->Prop}(ht:Tr s.heap e cls dd T fl)
  (h:∀h',(∀b o,b≠T->s.heap.get? b=some o->h'.get? b=some o)->Tr h' e cls dd T .none->Q () {s with heap:=h'}):wpAny M A (setFlight (.ref e) none) Q E s:=by
 obtain⟨k,t⟩:=a6k (x:= .none) ht
 obtain⟨oe,vs,oT,ts,h1,h2,h2',h3,h4,h5,h6,h7,h8,h9⟩:=ht
 unfold setFlight
 refine AA (wpAny_field h1 h3 h4 ?_)
 rw[if_pos (show(Value.ref T != Value.none)=true from by simp)]
 exact wpAny_setField h6 h7 (BT.mp h8).1 (h _ k t)
theorem a4B.off{l:List Env}{e T:Addr}{ts:List Addr}{h h1 h2:Heap}(G:a4B l e ts h h1)(k:∀b o,b≠T->h1.get? b=some o->h2.get? b=some o)(hT:h.get? T=none\/T∈ts)(nT:T∉a1T l):a4B l e ts h h2:=by
 refine⟨fun b o q z w u=>k b o (fun y=>?_) (G.keep b o q z w u),fun b o q w=>?_⟩
 ·rcases hT with y2 | y2
  ·rw[y,y2]at q;cases q
  ·exact w (y▸y2)
 ·obtain⟨sl,q2⟩:=G.slot b o q w
  exact⟨sl,k b _ (fun y=>nT (y▸w)) q2⟩
theorem a2H{h base:Heap}{l:List Env}{T:Addr}(n:h.get? T=none)(g:h.FunFrames base l):T∉a1T l:=fun z=>by
 obtain⟨_,o,q,_⟩:=a1X g T z
 rw[n]at q
 cases q
theorem a8c{base:Heap}{env:Env}{outer:List Env}{L e:Addr}{oe:Obj}{vs:Array Value}{Q:Unit->Shared->Prop}
  (hfr:A.frames=some (env::outer))(hl:s.heap.FunFrames base (env::outer))(hf:env.frame=some L)(he:s.heap.get? e=some oe)(hd:oe.data= .fields vs)(h1:vs[1]?=some .none)(hc:vs[2]?=some .none)
  (h:∀h' T,a4B (env::outer) e [] s.heap h'->s.heap.get? T=none->Tr h' e oe.cls oe.dict T .none->Q () {s with heap:=h'}):wpAny M A (leaving env (.ref e)) Q E s:=by
 unfold leaving
 exact AA (a9C hfr hl hf he hd h1 hc fun h' T G n t=>a4L t fun h2 k t2=>h h2 T (G.off k (.inl n) (a2H n hl)) n t2)
theorem a8F{base:Heap}{env:Env}{outer:List Env}{L e T:Addr}{cls:Value}{dd:Option Addr}{Q:Unit->Shared->Prop}
  (hfr:A.frames=some (env::outer))(hl:s.heap.FunFrames base (env::outer))(hf:env.frame=some L)(ht:Tr s.heap e cls dd T .none)
  (h:∀h' T',a4B (env::outer) e [T] s.heap h'->s.heap.get? T'=none->Tr h' e cls dd T' .none->Q () {s with heap:=h'}):wpAny M A (leaving env (.ref e)) Q E s:=by
 unfold leaving
 exact AA (a5U hfr hl hf ht fun h' T' G n t=>a4L t fun h2 k t2=>h h2 T' (G.off k (.inl n) (a2H n hl)) n t2)
end
end XC
namespace L2
open PySem PySem.Spec PyProof.Rows XC
noncomputable def CXe (P:Program) (w:World):CXT:=fun outer H s E v s'=>∃(a T:Addr)(cls:Value)(dd:Option Addr)(H':Hp),v= .ref a/\s'.os=s.os/\AllBare s'.gens/\Un (frs outer) [] H H' s.heap s'.heap/\HOk P w H' s'.heap/\s.heap.get? a=none/\H' a=none/\Tr s'.heap a cls dd T .none/\s.heap.get? T=none/\H' T=none/\E cls dd H'
theorem HOk.gone{P:Program}{w:World}{h h':Heap}{l:List Env}{e:Addr}{ts:List Addr}{H:Hp}(ok:HOk P w H h)(G:a4B l e ts h h')(he:H e=none)(hts:∀b∈ts,H b=none)(hf:∀b∈frs l,H b=none):HOk P w H h':=fun b o q=>
 (ok b o q).stay (fun c u hc r=>by
  have hH:H c≠none:=by
   rcases hc with z | z
   ·rw[z,q];simp
   ·rw[z];simp
  exact G.keep c u r (fun z=>hH (by rw[z];exact he)) (fun z=>hH (hts c z)) (fun z=>hH (hf c z))) (fun _ q=>q) fun _ _ q=>q
theorem Un.gone{h0 h h':Heap}{env:Env}{outer:List Env}{e:Addr}{ts:List Addr}{H0 H:Hp}(u:Un (frs outer) [] H0 H h0 h)(G:a4B (env::outer) e ts h h')(he:h0.get? e=none)(hts:∀b∈ts,h0.get? b=none)(hF:∀L,env.frame=some L->h0.get? L=none)(hu:∀b∈frs outer,H0 b=none):Un (frs outer) [] H0 H h0 h':=by
 have hfr:∀b o,h0.get? b=some o->b∉frs outer->b∉a1T (env::outer):=fun b o hb hn hm=>by
  have hm:b∈(env::outer).filterMap (·.frame):=hm
  rw[AS]at hm
  cases ef:env.frame with
  | none=>rw[ef]at hm;exact hn hm
  | some L=>
   rw[ef]at hm
   rcases List.mem_cons.mp hm with z | z
   ·rw[z,hF L ef]at hb;cases hb
   ·exact hn z
 have hin:∀b,b∈frs outer->b∈a1T (env::outer):=fun b hb=>by
  show b∈(env::outer).filterMap (·.frame)
  rw[AS]
  cases env.frame with
  | none=>exact hb
  | some L=>exact AK _ hb
 have hne:∀b o,h0.get? b=some o->b≠e:=fun b o hb z=>by rw[z,he]at hb;cases hb
 have hnt:∀b o,h0.get? b=some o->b∉ts:=fun b o hb z=>by rw[hts b z]at hb;cases hb
 refine⟨fun b o q n hf hx=>G.keep b o (u.keep b o q n hf hx) (hne b o q) (hnt b o q) (hfr b o q hf),fun b o q n hf hx=>?_,u.free,fun b o q hx=>?_,u.tups,u.frzs,u.tbls⟩
 ·obtain⟨sl,h1⟩:=u.slot b o q n hf hx
  obtain⟨sl',h2⟩:=G.slot b _ h1 (hin b hf)
  exact⟨sl',h2⟩
 ·by_cases hf:b∈frs outer
  ·obtain⟨sl,h1⟩:=u.slot b o q (hu b hf) hf hx
   obtain⟨sl',h2⟩:=G.slot b _ h1 (hin b hf)
   exact⟨_,h2⟩
  ·obtain⟨o',h1⟩:=u.there b o q hx
   exact⟨o',G.keep b o' h1 (hne b o q) (hnt b o q) (hfr b o q hf)⟩
theorem Y3.there{P:Program}{w:World}{H:Hp}{h:Heap}{a:Addr}{o:HO}(x:Y3 P w H h a o):∃u,h.get? a=some u:=by
 cases o with
 | lst xs=>obtain⟨_,_,_,_,e⟩:=x;exact⟨_,e⟩
 | tup xs=>obtain⟨_,_,_,o,e,_⟩:=x;exact⟨_,e⟩
 | dK kvs=>obtain⟨_,_,_,_,o,_,_,e,_⟩:=x;exact⟨_,e⟩
 | dT kvs=>obtain⟨_,_,_,_,o,_,_,e,_⟩:=x;exact⟨_,e⟩
 | set S n=>obtain⟨o,_,_,_,e,_⟩:=x;exact⟨_,e⟩
 | ins C dx fs=>obtain⟨_,_,_,e,_⟩:=x;exact⟨_,e⟩
 | own y=>obtain⟨_,e⟩:=x;exact⟨_,e⟩
 | xd fs=>obtain⟨_,⟨_,_,_,e,_⟩,_⟩:=x;exact⟨_,e⟩
 | rng lo hi=>obtain⟨_,_,_,e⟩:=x;exact⟨_,e⟩
 | frz ob u=>obtain⟨e,_⟩:=x;exact⟨_,e⟩
 | tbl ps=>exact⟨_,x⟩
 | met f y=>exact⟨_,x⟩
 | ext φ=>obtain⟨_,⟨_,e⟩,_⟩:=x;exact⟨_,e⟩
theorem HOk.un_at{P:Program}{w:World}{h:Heap}{H:Hp}{a:Addr}(ok:HOk P w H h)(n:h.get? a=none):H a=none:=by
 cases q:H a with
 | none=>rfl
 | some o=>obtain⟨u,e⟩:=(ok a o q).there;rw[n]at e;cases e
section
variable{P:Program}{w:World}{K:W.Frag}{mg:Str->Option Value}{base:Heap}{N:List Str}{qual:Str}{scope:Scope}{f:Addr}{cd:Value}{A:Around}{outer:List Env}{s:Shared}{H:Hp}{E:XK}{pins:List (Addr×Obj)}{σ:St}{H':Hp}{s':Shared}
theorem a9S:∀L,(envOfC qual scope s.heap.objs.size f cd).frame=some L->s.heap.get? L=none:=fun L e=>by
 have e2:L=s.heap.objs.size:=(Option.some.inj e).symm
 rw[e2]
 cases q:s.heap.get? s.heap.objs.size with
 | none=>rfl
 | some o=>exact absurd (AJ q) (Nat.lt_irrefl _)
theorem Inv.up{X:Cx}{s1:Shared}{H1:Hp}(I:Inv X pins σ H1 s1)(hx:X.ex=[]){b:Addr}(n:s1.heap.get? b=none):X.s₀.heap.get? b=none:=by
 cases q:X.s₀.heap.get? b with
 | none=>rfl
 | some o=>
  obtain⟨o',z⟩:=I.base.there b o q (by rw[hx];intro z;cases z)
  rw[n]at z
  cases z
theorem b1w(I:Inv (a0h (CXe P w) P w K mg base N qual scope f cd A outer s H E) pins σ H' s'){a:Addr}{oe:Obj}{vs:Array Value}(he:s'.heap.get? a=some oe)(hd:oe.data= .fields vs)(h1:vs[1]?=some .none)(hc:vs[2]?=some .none)(new:s.heap.get? a=none)(fr:H' a=none)(hE:E oe.cls oe.dict H'):
  (a0h (CXe P w) P w K mg base N qual scope f cd A outer s H E).xe (.ref a) s':=by
 refine a8c (base:=base) (L:=s.heap.objs.size) I.ok.frames I.stack rfl he hd h1 hc fun h' T G hT ht=>?_
 exact⟨a,T,oe.cls,oe.dict,H',rfl,I.os,I.bare,Un.gone I.base G new (fun b z=>by cases z) a9S I.ok.frf,HOk.gone I.hok G fr (fun b z=>by cases z) I.stkFree,new,fr,ht,I.up rfl hT,HOk.un_at I.hok hT,hE⟩
theorem b3l(I:Inv (a0h (CXe P w) P w K mg base N qual scope f cd A outer s H E) pins σ H' s'){a T:Addr}{cls:Value}{dd:Option Addr}(ht:Tr s'.heap a cls dd T .none)(new:s.heap.get? a=none)(newT:s.heap.get? T=none)(fr:H' a=none)(frT:H' T=none)(hE:E cls dd H'):
  (a0h (CXe P w) P w K mg base N qual scope f cd A outer s H E).xe (.ref a) s':=by
 refine a8F (base:=base) (L:=s.heap.objs.size) I.ok.frames I.stack rfl ht fun h' T' G hT' ht'=>?_
 exact⟨a,T',cls,dd,H',rfl,I.os,I.bare,Un.gone I.base G new (fun b z=>by rw[AD.mp z];exact newT) a9S I.ok.frf,HOk.gone I.hok G fr (fun b z=>by rw[AD.mp z];exact frT) I.stkFree,new,fr,ht',I.up rfl hT',HOk.un_at I.hok hT',hE⟩
theorem b6U:a5K (CXe P w) (a0h (CXe P w) P w K mg base N qual scope f cd A outer s H E) E:=fun pins σ H1 s1 v s2 I h=>by
 obtain⟨a,T,cls,dd,H2,rfl,os,bare,un,hok,new,fr,ht,newT,frT,hE⟩:=h
 have I2:=Inv.call' (ch:=[]) I os un hok bare (fun b z=>by cases z)
 exact b3l I2 ht (I.up rfl new) (I.up rfl newT) fr frT hE
theorem a9O:PassesOwn (model P w) (a0h (CXe P w) P w K mg base N qual scope f cd A outer s H E).A (a0h (CXe P w) P w K mg base N qual scope f cd A outer s H E).env (a0h (CXe P w) P w K mg base N qual scope f cd A outer s H E).xe:=PassesOwn.leaving
end
structure ClE(P:Program)(w:World)(K:W.Frag)(mg:Str->Option Value)(base:Heap)(k:Nat)(x:Str)(ps:List Str)(sp:Sp):Prop where
 ex:∃f fd,a4C P w K mg base (CXe P w) k f fd ps sp/\mg x=some (.ref f)/\W.keepIn K (.ref f)=true/\a4t K fd ps []
theorem b5z{X:Cx}{j k:Nat}{x:Str}{ps:List Str}{sp:Sp}{E:XK}{e:Expr}{es:List Expr}{t:TA}{p pos:Pos}(C:ClE X.prog X.w X.K X.mg X.base j x ps sp)(hx:a5K (CXe X.prog X.w) X E)(hr:a0c k X.A)(hg:Gl X x)(ha:PA X (e::es) t)(hjk:j<=k:=by decide)
  (hdb:(x==("__debug__":Str))=false:=by decide)(he:starEach (e::es) X.env=(false,eval e X.env)::starEach es X.env:=by rfl)(hpl:(backTo pos (starEach es X.env)).any (·.1)=false:=by rfl):
  PE X (.Call (.Name x p) (e::es) [] pos) (b2c sp [] E t):=by
 obtain⟨f,fd,F,hm,hk,hb⟩:=C.ex
 exact b0e F (hr.mono hjk) hg hm hk hb .nil hx ha hdb he hpl
theorem ClE.of{P:Program}{w:World}{K:W.Frag}{mg:Str->Option Value}{base:Heap}{x:Str}{st:Stmt}{N ps:List Str}{k:Nat}{sp:Sp}(T:W2 K mg x st)(S:R3 N ps (J0 st))(len:∀vs H Q E,sp vs H Q E->vs.length=ps.length)
  (hb:∀(kV doc pm:Value)(an:Option Addr)(cdv ct:Value)(us:List Value),us.length=ps.length->bindArgs (W.fnOf x x (a0f st) (F6 st) (J0 st) .none kV doc pm an cdv ct) ⟨us,[]⟩=pure (ps.zip us))
  (hbody:∀(f:Addr)(cdv:Value)(A:Around)(outer:List Env)(s:Shared)(H:Hp)(vs:List V)(Q:VK)(E:XK),a0c k (A.deeper (envOfC x (J0 st) s.heap.objs.size f cdv))->sp vs H Q E->
   ∃t,PSs (a0h (CXe P w) P w K mg base N x (J0 st) f cdv A outer s H E) (F6 st) t/\t {nx:=fun _ H'=>Q .non H',rt:=Q} (a2a N vs) H):ClE P w K mg base (k+1) x ps sp:=by
 obtain⟨f,fd,F,m⟩:=T
 obtain⟨oc,od,kV,doc,pm,an,cdv,ct,osl,rfl,lk,hcd⟩:=F.ex
 exact⟨f,_,b5i lk hcd S len fun A outer s H vs Q E hr hsp=>hbody f cdv A outer s H vs Q E hr hsp,m,F.kp,F.binds hb⟩
end L2
namespace L2
open PySem PySem.Spec PyProof.Rows XC
structure Fr1(X:Cx)(pins:List (Addr×Obj))(b:Addr):Prop where
 s0:X.s₀.heap.get? b=none
 loc:b≠X.env.locals
 cel:∀x c,X.env.cells.lookup x=some c->c≠b
 pin:∀p∈X.pn++pins,p.1≠b
section
variable{X:Cx}{pins:List (Addr×Obj)}{σ:St}{H H':Hp}{s:Shared}{h':Heap}{a:Addr}{ts:List Addr}
theorem Inv.fr1(I:Inv X pins σ H s)(hx:X.ex=[]){b:Addr}(n:s.heap.get? b=none):Fr1 X pins b:=by
 refine⟨I.up hx n,fun z=>?_,fun x c e z=>?_,fun p hp z=>?_⟩
 ·obtain⟨m,⟨o,_,_,ho,_⟩,_⟩:=I.loc
  rw[<-z,n]at ho
  cases ho
 ·obtain⟨v,o,ho,_⟩:=I.cell x c e
  rw[z,n]at ho
  cases ho
 ·have q:=(I.pin p hp).1
  rw[z,n]at q
  cases q
theorem Inv.flown{t':Nat}(I:Inv X pins σ H s)(hx:X.ex=[])(hs:X.stack=X.env::X.outer)(hf:X.env.frame=some X.env.locals)(G:a4B X.stack a ts s.heap h')(ha:Fr1 X pins a)(ht:∀b∈ts,Fr1 X pins b)(na:H a=none)
  (hH:H'=H\/∃o,H'=upd H a o)(hok:HOk X.prog X.w H' h'):Inv X pins σ H' {s with heap:=h',toks:=t'}:=by
 have fre:a1T X.stack=X.env.locals::X.fs:=by
  rw[hs]
  show(X.env::X.outer).filterMap (·.frame)=_
  rw[AS,hf]
  rfl
 have stay:∀b,b≠a->H' b=H b:=fun b z=>by
  rcases hH with e | ⟨o,e⟩
  ·rw[e]
  ·rw[e,I0 z]
 have stayT:∀b o,H b=some o->H' b=some o:=fun b o q=>by rw[stay b (R6 q na)];exact q
 have any:∀b o,s.heap.get? b=some o->b≠a->b∉ts->∃sl,h'.get? b=some {o with slots:=sl}:=fun b o q z w=>by
  by_cases hb:b∈a1T X.stack
  ·exact G.slot b o q hb
  ·exact⟨o.slots,G.keep b o q z w hb⟩
 have old:∀b o,X.s₀.heap.get? b=some o->b≠a/\b∉ts:=fun b o q=>⟨(fun z=>by rw[z,ha.s0]at q;cases q),(fun z=>by rw[(ht b z).s0]at q;cases q)⟩
 have cellK:∀x c,X.env.cells.lookup x=some c->∀v,s.heap.IsCell c v->h'.IsCell c v:=fun x c e v⟨o,ho,hd⟩=>by
  obtain⟨sl,q⟩:=any c o ho (ha.cel x c e) fun z=>(ht c z).cel x c e rfl
  exact⟨_,q,hd⟩
 refine⟨I.ok,I.os,I.bare,⟨fun b o e n hb hx=>?_,fun b o e n hb hx=>?_,fun b o e n hx=>?_,fun b o e hx=>?_,fun b xs e=>stayT b _ (I.base.tups b xs e),fun b o xs e=>stayT b _ (I.base.frzs b o xs e),fun b ps e=>?_⟩,?_,fun x c e=>?_,?_,fun x c e=>?_,fun p hp=>?_,hok,I.len⟩
 ·refine G.keep b o (I.base.keep b o e n hb hx) (old b o e).1 (old b o e).2 fun z=>?_
  rw[fre]at z
  rcases List.mem_cons.mp z with z | z
  ·exact absurd (AZ (AJ e) I.ok.above) (by rw[z];exact Nat.lt_irrefl _)
  ·exact hb z
 ·obtain⟨sl,e1⟩:=I.base.slot b o e n hb hx
  obtain⟨sl',e2⟩:=G.slot b _ e1 (by rw[fre];exact AK _ hb)
  exact⟨sl',e2⟩
 ·rw[stay b (old b o e).1]
  exact I.base.free b o e n hx
 ·obtain⟨o1,e1⟩:=I.base.there b o e hx
  obtain⟨sl,e2⟩:=any b o1 e1 (old b o e).1 (old b o e).2
  exact⟨_,e2⟩
 ·obtain⟨more,e1⟩:=I.base.tbls b ps e
  exact⟨more,stayT b _ e1⟩
 ·obtain⟨m,⟨o,es,ep,ho,r⟩,hl⟩:=I.loc
  obtain⟨sl,q⟩:=any _ o ho (fun z=>ha.loc z.symm) (fun z=>(ht _ z).loc rfl)
  refine⟨m,⟨_,es,ep,q,r⟩,fun i x v e1 e2 e3=>?_⟩
  obtain⟨u,r1,l⟩:=hl i x v e1 e2 e3
  refine⟨u,r1,?_⟩
  rcases l with l | ⟨k,c,e,z⟩
  ·exact .inl l
  ·exact .inr ⟨k,c,e,cellK x c e _ z⟩
 ·obtain⟨v,z⟩:=I.cell x c e
  exact⟨v,cellK x c e v z⟩
 ·rw[stay _ (fun z=>ha.loc z.symm)]
  exact I.free
 ·rw[stay c (ha.cel x c e)]
  exact I.freeC x c e
 ·obtain⟨e,n,ne,nf,d⟩:=I.pin p hp
  refine⟨G.keep p.1 p.2 e (ha.pin p hp) (fun z=>(ht _ z).pin p hp rfl) (fun z=>?_),by rw[stay _ (ha.pin p hp)];exact n,ne,nf,d⟩
  rw[fre]at z
  rcases List.mem_cons.mp z with z | z
  ·exact ne z
  ·exact nf z
theorem HOk.take{P:Program}{w:World}{h:Heap}{o:HO}(ok:HOk P w H h)(na:H a=none)(new:Y3 P w (upd H a o) h a o):HOk P w (upd H a o) h:=fun b u e=>by
 by_cases hb:b=a
 ·subst hb
  rw[G1]at e
  cases e
  exact new
 ·rw[I0 hb]at e
  exact(ok b u e).stay (fun _ _ _ q=>q) (fun c q=>by rw[I0 (R6 q na)];exact q) fun c xs q=>by rw[I0 (R6 q na)];exact q
theorem a2C{M:Model}{A:Around}{E:Value->Shared->Prop}{i:Nat}{n:Str}{pos:Pos}{Q:Unit->Shared->Prop}(I:Inv X pins σ H s)(hN:X.N.Nodup)(hi:X.N[i]?=some n)(hk:X.env.kindOf n=some .local)
  (h:∀s',Inv X pins (σ.set i none) H s'->Q () s'):wpAny M A (do bindName X.env n .none;unbindBehindTheSuite X.env n pos) Q E s:=by
 obtain⟨m,hn,hl⟩:=id I.loc
 obtain⟨oL,_,_,hoL,_⟩:=id hn
 have hiσ:i < σ.length:=by rw[I.len];exact(List.getElem?_eq_some_iff.mp hi).1
 refine wpAny_nameGoes_keeps hk hn (by rw[I.ok.kind];rfl) fun h' v hn' hs=>h _ ⟨I.ok,I.os,I.bare,⟨fun b o e n hb hx=>?_,fun b o e n hb hx=>?_,I.base.free,fun b o e hx=>?_,I.base.tups,I.base.frzs,I.base.tbls⟩,⟨_,hn',fun j y v' e1 e2 e3=>?_⟩,fun y c e=>?_,I.free,I.freeC,fun p hp=>?_,fun b ob e=>?_,by rw[List.length_set];exact I.len⟩
 ·exact(hs.2 b (BB (AZ (AJ e) I.ok.above))).trans (I.base.keep b o e n hb hx)
 ·obtain⟨sl,e1⟩:=I.base.slot b o e n hb hx
  exact⟨sl,(hs.2 b (BB (AZ (AJ e) I.ok.above))).trans e1⟩
 ·obtain⟨o',e1⟩:=I.base.there b o e hx
  exact⟨o',(hs.2 b (BB (AZ (AJ e) I.ok.above))).trans e1⟩
 ·by_cases hj:j=i
  ·rw[hj,BK hiσ]at e2
   cases e2
  ·rw[BP (Ne.symm hj)]at e2
   obtain⟨u',r',q⟩:=hl j y v' e1 e2 e3
   refine⟨u',r',?_⟩
   rcases q with⟨k,e⟩ | ⟨k,c,e,z⟩
   ·refine .inl ⟨k,?_⟩
    have:y≠n:=fun e=>hj (a5x hN e1 (e▸hi))
    simp[this,e]
   ·exact .inr ⟨k,c,e,z.sameBut hs (I.cne y c e)⟩
 ·obtain⟨w',z⟩:=I.cell y c e
  exact⟨w',z.sameBut hs (I.cne y c e)⟩
 ·obtain⟨e,n,ne,nf,d⟩:=I.pin p hp
  exact⟨(hs.2 p.1 ne).trans e,n,ne,nf,d⟩
 ·refine(I.hok b ob e).stay (fun c w' hc q=>(hs.2 c ?_).trans q) (fun _ q=>q) fun _ _ q=>q
  intro z
  rcases hc with hc | hc
  ·rw[<-hc,z,I.free]at e;cases e
  ·rw[z,I.free]at hc;cases hc
end
noncomputable def ExO (a C:Addr) (dd:Option Addr):HO:= .ext fun h=>∃o vs,h.get? a=some o/\o.cls= .ref C/\o.dict=dd/\o.data= .fields vs/\vs[2]?=some .none
noncomputable abbrev Cx.hand (X:Cx) (a:Addr):Cx:={X with A:=X.A.mark (some (.ref a)),calm:=false,xe:=fun _ _=>False}
section
variable{X:Cx}{pins:List (Addr×Obj)}{σ:St}{H:Hp}{s:Shared}{a:Addr}
theorem Inv.hand(I:Inv X pins σ H s)(a:Addr):Inv (X.hand a) pins σ H s:=
 ⟨⟨I.ok.mod,I.ok.kind,I.ok.glob,I.ok.blt,I.ok.above,I.ok.inj,I.ok.has,I.ok.cab,fun z=>absurd (show false=true from z) AE,I.ok.frames,I.ok.stk,I.ok.exf,I.ok.bs,I.ok.bsz,I.ok.noex,I.ok.exfs,I.ok.funs,I.ok.frf⟩,I.os,I.bare,I.base,I.loc,I.cell,I.free,I.freeC,I.pin,I.hok,I.len⟩
theorem Inv.unhand(ok:X.Ok)(I:Inv (X.hand a) pins σ H s):Inv X pins σ H s:=⟨ok,I.os,I.bare,I.base,I.loc,I.cell,I.free,I.freeC,I.pin,I.hok,I.len⟩
end
noncomputable def Up (X:Cx) (pins:List (Addr×Obj)) (σ:St) (E:XK) (e:Value) (s:Shared):Prop:=
 ∃(a T:Addr)(cls:Value)(dd:Option Addr)(H:Hp),e= .ref a/\Inv X pins σ H s/\Fr1 X pins a/\Fr1 X pins T/\H a=none/\H T=none/\Tr s.heap a cls dd T .none/\E cls dd H
noncomputable def b5e (X:Cx) (body:List Stmt) (t:XK->TS):Prop:=
 ∀(pins:List (Addr×Obj))(s:Shared)(σ:St)(H:Hp)(D:a0X)(E:XK)(xe1:Value->Shared->Prop),Inv X pins σ H s->(∀e s2,Up X pins σ E e s2->xe1 e s2)->t E D σ H->wpAny (model X.prog X.w) X.A (execs body X.env) (SP X pins D) xe1 s
section
variable{X:Cx}{j k:Nat}{f:Str}{ps:List Str}{sp:Sp}{e:Expr}{es:List Expr}{ta:TA}{p pos cpos:Pos}
theorem PA.nox{t:TA}(h:PA X.nox es t)(xe1:Value->Shared->Prop):PA (X.wish xe1) es t:=fun pos pins s σ H Q I hw=>
 wpAny_mono (h pos pins s σ H Q (I.unwish.wish _) hw) (fun _ _⟨v,H',I',r,q⟩=>⟨v,H',I'.unwish.wish _,r,q⟩) fun _ _ z=>False.elim z
theorem b4B(C:ClE X.prog X.w X.K X.mg X.base j f ps sp)(hx:X.ex=[])(hr:a0c k X.A)(hg:Gl X f)(ha:PA X.nox (e::es) ta)(hjk:j<=k)
  (hdb:(f==("__debug__":Str))=false)(he:starEach (e::es) X.env=(false,eval e X.env)::starEach es X.env)(hpl:(backTo cpos (starEach es X.env)).any (·.1)=false)
  {pins:List (Addr×Obj)}{s:Shared}{σ:St}{H:Hp}{Q:VK}{E:XK}{xe1:Value->Shared->Prop}(I:Inv X pins σ H s)(hu:∀e s2,Up X pins σ E e s2->xe1 e s2)(h:ta σ H fun vs H1=>sp (vs++[]) H1 Q E):
  wpAny (model X.prog X.w) X.A (eval (.Call (.Name f p) (e::es) [] cpos) X.env) (EP X pins σ Q) xe1 s:=by
 obtain⟨fa,fd,F,hm,hk,hb⟩:=C.ex
 refine wpAny_Call_Name_kw (a2B I hg hm ?_ hdb)
 refine W.callWith_K (h₀:=X.base) I.ok.mod.kin hk (thn (PA.nox ha xe1 cpos pins s σ H _ (I.wish _) h) fun us s1⟨vs,H1,I1,r,q⟩=>⟨I1.kIn,?_⟩) he hpl
 have I1:=I1.unwish
 have r2:W0 (vs++[]) (us++[]):=r.append .nil
 have hl:(us++[]).length=ps.length:=by rw[<-r2.length];exact F.len _ _ _ _ q
 refine wpAny_call (codeAny_mono (F.run X.A X.stack s1 H1 ⟨us,[]⟩ (us++[]) (vs++[]) Q E (hr.mono hjk) I1.env0 (hb s1 us I1.kIn hl) r2 q) fun r s' hq=>?_)
 cases r with
 | error v=>
  obtain⟨a,T,cls,dd,H2,rfl,os,bare,un,hok,new,fr,ht,newT,frT,hE⟩:=hq
  exact hu _ _ ⟨a,T,cls,dd,H2,rfl,Inv.call' (ch:=[]) I1 os un hok bare (fun b z=>by cases z),I1.fr1 hx new,I1.fr1 hx newT,fr,frT,ht,hE⟩
 | ok fl=>
  cases fl with
  | ret u=>exact I1.after hq
  | next=>exact False.elim hq
  | brk=>exact False.elim hq
  | cont=>exact False.elim hq
noncomputable def b5X (sp:Sp) (ta:TA) (k:V->TS):XK->TS:=fun E D σ H=>ta σ H fun vs H1=>sp (vs++[]) H1 (fun v H2=>k v D σ H2) E
theorem b3P(C:ClE X.prog X.w X.K X.mg X.base j f ps sp)(hr:a0c k X.A)(hg:Gl X f)(ha:PA X.nox (e::es) ta)(hjk:j<=k:=by decide)(hx:X.ex=[]:=by rfl)
  (hdb:(f==("__debug__":Str))=false:=by decide)(he:starEach (e::es) X.env=(false,eval e X.env)::starEach es X.env:=by rfl)(hpl:(backTo cpos (starEach es X.env)).any (·.1)=false:=by rfl)
  (hs:swapsWith (.Call (.Name f p) (e::es) [] cpos) none pos.line X.env=pure false:=by rfl):
  b5e X [.Expr (.Call (.Name f p) (e::es) [] cpos) pos] (b5X sp ta fun _=>a4W):=by
 intro pins s σ H D E xe1 I hu h
 refine wpAny_execs_cons (thn (Q:=fun f s1=>SP X pins D f s1) (wpAny_Expr_any (thn (b4B C hx hr hg ha hjk hdb he hpl I hu h) fun v s1⟨x,H1,I1,r1,q1⟩=>⟨σ,H1,I1,q1⟩) I.quiet hs) fun f s1 q=>?_)
 cases f with
 | next=>exact wpAny_execs_nil q
 | ret v=>exact q
 | brk=>exact q
 | cont=>exact q
end
structure XK1(K:W.Frag)(C:Addr):Prop where
 cl:(W.clsIn K C).isSome=true
 ty:W.typeIn K (.ref C)=some (.type "type")
 base:W.mroIn K C (.type "BaseException")=some true
 ga:W.findIn K (.ref C) "__getattribute__"=some (some (.builtin "BaseException.__getattribute__"))
 gt:W.findIn K (.ref C) "__getattr__"=some none
 ca:W.findIn K (.ref C) "__class__"=some (some (.builtin "object.__class__"))
 gd:W.specialIn K (.builtin "object.__class__") "__get__"=some (some (.builtin "getset_descriptor.__get__"))
 tk:W.takesIn K (.builtin "object.__class__")=some true
 ob:W.mroIn K C (.type "object")=some true
theorem a3f{K:W.Frag}{M:Model}{h:Heap}(x:K.In h){C:Addr}(e:(W.clsIn K C).isSome=true):W.Looks M h (isType (.ref C)) true:=by
 unfold W.clsIn at e
 split at e
 ·rename_i c' d' cd' sl' ho
  intro A' Q' E' s' k q
  unfold isType loadHead
  exact AA (wpAny_loadPart (k _ _ (x _ _ ho)) (AB q))
 ·cases e
theorem b0P{M:Model}{A:Around}{E:Value->Shared->Prop}{s:Shared}{K:W.Frag}{a C B:Addr}{o:Obj}{Q:Bool->Shared->Prop}(X:K.In s.heap)(b:XK1 K B)(sub:W.mroIn K C (.ref B)=some true)(ha:s.heap.get? a=some o)(hc:o.cls= .ref C)
  (h:Q true s):wpAny M A (excMatches (.ref a) (.ref B)) Q E s:=by
 obtain⟨hh,g,d,t,os⟩:=s
 have L1:=W.looks_typeIn (M:=M) X b.ty
 have L2:W.Looks M hh (isSubtype (.type "type") (.type "tuple")) false:=W.Looks.of_pure tc_notTuple
 have L3:=a3f (M:=M) X b.cl
 have L4:=W.looks_mroIn (M:=M) X b.base
 have L5:W.Looks M hh (typeOf (.ref a)) (.ref C):=hc▸(W.Looks.ld ha).andThen .now
 have L6:=W.looks_mroIn (M:=M) X sub
 have L7:W.Looks M hh (isInstance (.ref B) (.type "tuple")) false:=L1.andThen L2
 have L8:W.Looks M hh (isExcClass (.ref B)) true:=L3.andThen (by simpa using L4)
 unfold excMatches
 refine AA (L7.at ?_)
 simp only[Bool.false_eq_true,if_false,List.forIn_cons,List.forIn_nil,pure_bind]
 refine AA (AA (AA (L8.at ?_)))
 simp only[Bool.not_true,Bool.false_eq_true,if_false]
 refine AB (AB (AA (L5.at (AA (AA (AA (L6.at ?_)))))))
 simp only[if_true]
 exact AB (AB (AB h))
noncomputable def b6H (i:Nat) (D:a0X):a0X:={nx:=fun σ H=>D.nx (σ.set i none) H,rt:=D.rt,bk:=fun σ H=>D.bk (σ.set i none) H,ct:=fun σ H=>D.ct (σ.set i none) H}
noncomputable def b5x (K:W.Frag) (B:Addr) (i:Nat) (tb:XK->TS) (th:Addr->TS):TS:=fun D σ H=>
 tb (fun cls dd H2=>∃C,cls= .ref C/\W.mroIn K C (.ref B)=some true/\∀a,H2 a=none->th a (b6H i D) (σ.set i (some (.ref a))) (upd H2 a (ExO a C dd))) D σ H
section
variable{X:Cx}{body:List Stmt}{tb:XK->TS}{x n:Str}{B:Addr}{i:Nat}{b0:Stmt}{suite:List Stmt}{th:Addr->TS}{np hp pos:Pos}
theorem b5o{P:Program}{w:World}{H:Hp}{h:Heap}{a T C:Addr}{dd:Option Addr}{fl:Value}(t:Tr h a (.ref C) dd T fl):Y3 P w (upd H a (ExO a C dd)) h a (ExO a C dd):=by
 obtain⟨oe,vs,oT,ts,h1,h2,h2',h3,_,_,_,_,_,h9⟩:=t
 exact⟨⟨oe,vs,h1,h2,h2',h3,h9⟩,⟨oe,h1⟩,fun g1 g2⟨o,vs,q,r⟩k=>⟨o,vs,k o q,r⟩⟩
theorem b3p(hN:X.N.Nodup)(hi:X.N[i]?=some n)(hk:X.env.kindOf n=some .local)(hg:Gl X x)(hm:X.mg x=some (.ref B))(b:XK1 X.K B)(hb:b5e X body tb)(hh:∀a,PSs (X.hand a) (b0::suite) (th a))
  (hx:X.ex=[]:=by rfl)(hs:X.stack=X.env::X.outer:=by rfl)(hf:X.env.frame=some X.env.locals:=by rfl)(hd:(x==("__debug__":Str))=false:=by decide)(hfn:X.fn n=true\/X.env.scope.names.lookup n=some .local:=by first | exact .inl rfl | exact .inr rfl):
  PS X (.Try body [.ExceptHandler (some (.Name x np)) (some n) (b0::suite) hp] [] [] pos) (b5x X.K B i tb th):=by
 intro pins s σ H D I h
 refine wpAny_Try_except (thn (hb pins s σ H D _ _ I (fun e s1 u=>?_) h) fun f s1 q=>?_)
 ·obtain⟨a,T,cls,dd,H2,rfl,I1,fa,fT,na,nT,ht,C,rfl,sub,hth⟩:=u
  have st:s1.heap.FunFrames X.base (X.env::X.outer):=hs▸I1.stack
  refine a5U (by rw[I1.ok.frames,hs]) st hf ht fun h3 T3 G3 n3 t3=>a4L t3 fun h4 k4 t4=>?_
  have G4:=G3.off k4 (.inl n3) (a2H n3 st)
  have ok4:HOk X.prog X.w H2 h4:=HOk.gone I1.hok G4 na (fun b z=>by rw[AD.mp z];exact nT) (hs▸I1.stkFree)
  have I4:Inv X pins σ H2 {s1 with heap:=h4}:=I1.flown (t':=s1.toks) hx hs hf (hs▸G4) fa (fun b z=>by rw[AD.mp z];exact fT) na (.inl rfl) ok4
  obtain⟨oe,vs,oT,tt,e1,e2,_⟩:=id t4
  refine wpAny_handleBy_cons (codeAny_handlers_test (a2B (I4.hand a) hg hm (b0P I4.kIn b sub e1 e2 (codeAny_handlers_suite_as (a4L t4 fun h5 k5 t5=>?_))) hd)) (by intro q;cases q)
  have G5:=G4.off k5 (.inl n3) (a2H n3 st)
  have ok5:HOk X.prog X.w H2 h5:=HOk.gone I1.hok G5 na (fun b z=>by rw[AD.mp z];exact nT) (hs▸I1.stkFree)
  have I5:Inv X pins σ (upd H2 a (ExO a C dd)) {s1 with heap:=h5}:=I1.flown (t':=s1.toks) hx hs hf (hs▸G5) fa (fun b z=>by rw[AD.mp z];exact fT) na (.inr ⟨_,rfl⟩) (ok5.take na (b5o t5))
  refine a3H I5 hN hi (.inl hk) (show U8 (.ref a) (.ref a)from rfl) (fun s6 I6=>?_) hfn
  refine wpAny_mono (hh a pins s6 _ _ _ (I6.hand a) (hth a na)) (fun f s7 q=>?_) fun _ _ z=>z.elim
  cases f with
  | next=>
   obtain⟨σ',H',I',q⟩:=q
   exact a2C (I'.unhand I.ok) hN hi hk fun s8 I8=>⟨_,H',I8,q⟩
  | brk=>
   obtain⟨σ',H',I',q⟩:=q
   exact a2C (I'.unhand I.ok) hN hi hk fun s8 I8=>⟨_,H',I8,q⟩
  | cont=>
   obtain⟨σ',H',I',q⟩:=q
   exact a2C (I'.unhand I.ok) hN hi hk fun s8 I8=>⟨_,H',I8,q⟩
  | ret u=>
   obtain⟨v,σ',H',I',r,q⟩:=q
   exact a2C (I'.unhand I.ok) hN hi hk fun s8 I8=>⟨v,_,H',I8,r,q⟩
 ·cases f with
  | next=>exact wpAny_execs_nil q
  | ret v=>exact q
  | brk=>exact q
  | cont=>exact q
end
noncomputable abbrev bmV:List Value:=[.type "ValueError",.type "Exception",.type "BaseException",.type "object"]
section
variable{P:Program}{w:World}{K:W.Frag}{mg:Str->Option Value}{base:Heap}{N:List Str}{qual:Str}{scope:Scope}{f:Addr}{cd:Value}{A:Around}{outer:List Env}{s:Shared}{H:Hp}{E:XK}
end
end L2
namespace L2
open PySem PySem.Spec PyProof.Rows XC
section
variable{prog:Program}{w:World}{A:Around}{E:Value->Shared->Prop}{s:Shared}{K:W.Frag}{x C:Addr}{ox:Obj}{od:Option Obj}
theorem b0E(k:XK1 K C):W.findObj K C od "__class__"=some (.bind (.builtin "getset_descriptor.__get__") (.builtin "object.__class__")):=by
 obtain⟨cd,hc⟩:=Option.isSome_iff_exists.mp k.cl
 unfold W.findObj
 rw[hc,Option.bind_some,k.ca,Option.bind_some]
 simp[k.gd,k.tk]
theorem a6z{M:Model}{tk:Tok}{n:Str}{Q:Unit->Shared->Prop}(k:XK1 K C)(X:K.In s.heap)(I:W.InstAt s.heap x ox C od)(h:Q () s):wpAny M A (checkBuiltinCall "BaseException.__getattribute__" ⟨[.ref x,.str n tk],[]⟩) Q E s:=by
 obtain⟨hh,g,d,t,os⟩:=s
 have hk:builtinKind "BaseException.__getattribute__"=some .slot:=by decide +kernel
 have hsplit:splitId "BaseException.__getattribute__"=some ("BaseException","__getattribute__"):=by decide +kernel
 have ha:=F.args_bexc_ga (.ref x) (.str n tk)
 have L1:W.Looks M hh (isInstance (.ref x) (.type "BaseException")) true:=(I.type (M:=M)).andThen (W.looks_mroIn X k.base)
 simp only[checkBuiltinCall,hk,hsplit]
 refine AA (L1.at ?_)
 simp only[Bool.not_true,Bool.false_eq_true,if_false]
 exact AX ha h
theorem b0O{Q:Option Value->Shared->Prop}(k:XK1 K C)(X:K.In s.heap)(I:W.InstAt s.heap x ox C od)(h:Q (some (.ref C)) {s with toks:=s.toks+1}):wpAny (model prog w) A (getAttr? (.ref x) "__class__") Q E s:=by
 obtain⟨hh,g,d,t,os⟩:=s
 have L0:=I.type (M:=model prog w)
 have L1:=W.looks_findIn (M:=model prog w) X k.ga
 have L2:=W.looks_findIn (M:=model prog w) X k.gt
 have L3:=W.looks_find (M:=model prog w) X I (b0E k)
 unfold getAttr? getAttrBy? getAttrBy
 refine AA (wpAny_mkText (AA (wpAny_attempt (BG (AA (L0.at (AA (L1.at ?_))))))))
 dsimp only
 rw[if_neg (by rw[show(Value.builtin "BaseException.__getattribute__"==Value.builtin "object.__getattribute__")=false by decide +kernel,Bool.and_false];exact AE)]
 unfold getAttrByItsOwn hookBefore
 rw[if_pos (show onTheHeap (Value.ref C)=true from rfl)]
 refine AA (L2.at (AA (wpAny_attempt (BG ?_))))
 unfold callGetattribute boundAndCalled
 rw[if_neg (by rw[Bool.false_and];exact AE)]
 refine AA (AX (F.excAttr_ValueError.ga.bind _) ?_)
 refine wpAny_call (codeAny_call_builtin F.excAttr_ValueError.ga.plain F.entry_bexc_ga (a6z k X I ?_))
 unfold Builtin.«object.__getattribute__»
 refine AA (AX (a:=(Value.ref x,[Value.str "__class__" t])) rfl (AA (AX (a:=("__class__":Str)) rfl (AA (L0.at (AA (L3.at ?_)))))))
 show wpAny _ _ (holding [Value.builtin "object.__class__"] (call (.builtin "getset_descriptor.__get__") [.builtin "object.__class__",.ref x,.ref C]) >>= ret) _ _ _
 refine AA (BG (wpAny_call (W.class_get (s:=⟨hh,g,d,t+1,os⟩) X I k.ob (AB ?_))))
 show wpAny _ _ (handedOut (.ref C)) _ _ _
 exact W.handed_on rfl (AB h)
end
theorem a5I{K:W.Frag}{x C:Addr}(k:XK1 K C):W.KitX K (.ref x) (.ref C) (fun h=>∃ox od,W.InstAt h x ox C od)where
 ty:=fun _ _ _⟨_,_,I⟩=>I.type
 it:=fun _ _ X _=>a3f X k.cl
 ne:=fun h tp dd its n sl X htp=>by
  refine Bool.eq_false_iff.mpr fun q=>?_
  have e:C=tp:=Value.ref.inj (beq_iff_eq.mp q)
  subst e
  have z:=k.cl
  unfold W.clsIn at z
  split at z
  ·rename_i ho
   have z2:=(X _ _ ho).symm.trans htp
   cases z2
  ·cases z
 ca:=fun X⟨_,_,I⟩q=>b0O k X I q
inductive ExC (K:W.Frag) (H:Hp) (t:Value):V->Bool->Prop
 | one {B:Addr} {b:Bool} (e:W.kitOne K t (.ref B)=some b):ExC K H t (.ref B) b
 | ty {T:String} {b:Bool} (e:W.kitOne K t (.type T)=some b):ExC K H t (.ty T) b
 | tup {p:Addr} {Bs:List Addr} {b:Bool} (h:H p=some (.tup (Bs.map V.ref))) (e:W.kitAny K t (Bs.map Value.ref)=some b):ExC K H t (.ref p) b
noncomputable def a4e (H:Hp):Option Addr->Prop
 | none=>True
 | some dx=>∃u,H dx=some u
theorem a5X:∀{Bs:List Addr}{its:List Value},W0 (Bs.map V.ref) its->its=Bs.map Value.ref
 | [],_,.nil=>rfl
 | B::r,_,.cons h t=>by
  rw[a5X t,show _=Value.ref B from h]
  rfl
theorem b2v{P:Program}{w:World}{H:Hp}{h:Heap}{a C:Addr}{dd:Option Addr}(ok:HOk P w H h)(ha:H a=some (ExO a C dd))(hd:a4e H dd):∃ox od,W.InstAt h a ox C od:=by
 obtain⟨⟨o,vs,h1,h2,h3,h4,_⟩,_⟩:=ok a _ ha
 have nc:W.notCls o=true:=by unfold W.notCls;rw[h4]
 cases dd with
 | none=>exact⟨o,none,h1,h2,nc,by rw[h3];trivial⟩
 | some dx=>
  obtain⟨u,hu⟩:=hd
  obtain⟨od,q⟩:=(ok dx u hu).there
  exact⟨o,some od,h1,h2,nc,by rw[h3];exact q⟩
theorem a7c{X:Cx}:a0R X (.builtin "isinstance") (fun xs H Q=>∃a C dd c b,xs=[.ref a,c]/\H a=some (ExO a C dd)/\a4e H dd/\XK1 X.K C/\ExC X.K H (.ref C) c b/\Q (.bl b) H):=by
 intro pins s σ H xs us Q I r h
 obtain⟨a,C,dd,c,b,rfl,ha,hd,k,hc,q⟩:=h
 obtain⟨u,w',rfl,rx,ry⟩:=a7T r
 cases(show u=Value.ref a from rx)
 have J:=b2v I.hok ha hd
 cases hc with
 | @one B b e=>
  cases(show w'=Value.ref B from ry)
  exact W.kia_one (a5I k) I.kIn J e (fun z=>nomatch z) fun tk=>⟨.bl b,H,I.tok _,rfl,q⟩
 | @ty T b e=>
  cases(show w'=Value.type T from ry)
  exact W.kia_one (a5I k) I.kIn J e (fun z=>nomatch z) fun tk=>⟨.bl b,H,I.tok _,rfl,q⟩
 | @tup p Bs b hp e=>
  cases(show w'=Value.ref p from ry)
  obtain⟨_,its,rv,⟨oc,od,oda,osl⟩,e1,e2,n,e3⟩:=(show Y3 X.prog X.w H s.heap p (.tup (Bs.map V.ref))from I.hok p _ hp)
  dsimp only at e2 e3
  subst e2 e3
  rw[a5X rv]at e1
  exact W.kia_tup (a5I k) I.kIn J e1 e (fun z=>nomatch z) fun tk=>⟨.bl b,H,I.tok _,rfl,q⟩
theorem a4A:bootBuiltins "ValueError"=some (.type "ValueError"):=by kernel_rfl
end L2
namespace L2
open PySem PySem.Spec PyProof.Rows XC
inductive a5c:List Value->Prop
 | base:a5c bmV
 | own {c:Addr} {l:List Value}:a5c l->a5c (.ref c::l)
theorem a5c.pass(self:Value){l:List Value}(h:a5c l):refuseLoop self "__setattr__" l=pure ():=by
 induction h with
 | base=>exact F.store_ValueError.passes self
 | own _ ih=>rw[refuseLoop_ref];exact ih
structure XF(K:W.Frag)(C:Addr)(f:Str):Prop where
 cd:∃cd,W.clsIn K C=some cd/\a5c cd.mro/\cd.hasDict=true
 sa:W.findIn K (.ref C) "__setattr__"=some (some (.builtin "object.__setattr__"))
 no:W.findIn K (.ref C) f=some none
section
variable{prog:Program}{w:World}{A:Around}{E:Value->Shared->Prop}{s:Shared}{K:W.Frag}{x C:Addr}{o:Obj}{vs:Array Value}{f:Str}{v:Value}
theorem b3I{Q:Unit->Shared->Prop}(k:XK1 K C)(xf:XF K C f)(X:K.In s.heap)(hx:s.heap.get? x=some o)(hc:o.cls= .ref C)(hd:o.dict=none)(hv:o.data= .fields vs)
  (h:∀h' dx tk,dx=s.heap.objs.size->(∀b u,b≠x->s.heap.get? b=some u->h'.get? b=some u)->h'.get? x=some {o with dict:=some dx}->dx≠x->h'.Ns1 dx (fun y=>if y=f then some v else none)->Q () {s with heap:=h',toks:=tk}):
  wpAny (model prog w) A (setAttr (.ref x) f v) Q E s:=by
 obtain⟨hh,g,d,t,os⟩:=s
 obtain⟨cd,c1,c2,c3⟩:=xf.cd
 have SF:=F.store_ValueError
 have L0:W.Looks (model prog w) hh (typeOf (.ref x)) (.ref C):=hc▸(W.Looks.ld hx).andThen .now
 have L1:=W.looks_findIn (M:=model prog w) X xf.sa
 have L2:=W.looks_findIn (M:=model prog w) X xf.no
 have L3:W.Looks (model prog w) hh (mroOf (.ref C)) cd.mro:=(W.looks_clsIn X c1).andThen .now
 have L4:W.Looks (model prog w) hh (isInstance (.ref x) (.type "object")) true:=L0.andThen (W.looks_mroIn X k.ob)
 unfold setAttr callSpecial? specialOf
 refine AA (wpAny_mkText (AA (AA (AA (L0.at (L1.at ?_))))))
 refine BG (AA (AX (SF.slot.bind (.ref x)) ?_))
 refine AA (wpAny_call (codeAny_call_builtin SF.slot.plain SF.entry (@W.check_slot (model prog w) _ _ ⟨hh,g,d,t+1,os⟩ "object.__setattr__" "object" "__setattr__" (.ref x) [.str f t,v] [] _ SF.kind SF.split L4 (SF.args (.ref x) (.str f t) v) ?_)))
 show wpAny _ _ (Builtin.«object.__setattr__» ⟨[.ref x,.str f t,v],[]⟩) _ _ _
 rw[W.osa_eq,refuse_eq]
 refine AA (AA (L0.at (AA (L3.at ?_))))
 rw[c2.pass]
 refine AB (AA (L0.at (AA (L2.at (AA (AB ?_))))))
 show wpAny _ _ (Builtin.ObjectAttr.storeInOwnDict (.ref x) (.ref C) (.str f t) f v false) _ _ _
 obtain⟨oc,od,oda,osl⟩:=o
 dsimp only at hc hd hv
 subst hc hd hv
 refine AA (AB (AA (AA (wpAny_loadPart hx (AA ((W.looks_clsIn X c1).at ?_))))))
 rw[c3]
 have hx1:(hh.push {cls:= .type "dict",data:= .dict #[]}).get? x=some ⟨.ref C,none,.fields vs,osl⟩:=AC _ hx
 have hxs:x≠hh.objs.size:=BB (AJ hx)
 refine AA (wpAny_alloc' (AA (wpAny_update' hx1 (AB ?_))))
 have gx:((hh.push {cls:= .type "dict",data:= .dict #[]}).update x fun o=>{o with dict:=some hh.objs.size}).get? x=some ⟨.ref C,some hh.objs.size,.fields vs,osl⟩:=BE _ hx1 rfl
 have gd:((hh.push {cls:= .type "dict",data:= .dict #[]}).update x fun o=>{o with dict:=some hh.objs.size}).get? hh.objs.size=some {cls:= .type "dict",data:= .dict #[]}:=by
  rw[BA _ _ hxs]
  exact AI _ rfl
 have ko:∀b u,b≠x->hh.get? b=some u->((hh.push {cls:= .type "dict",data:= .dict #[]}).update x fun o=>{o with dict:=some hh.objs.size}).get? b=some u:=fun b u z q=>by
  rw[BA _ _ (Ne.symm z)]
  exact AC _ q
 show wpAny _ _ (Builtin.ObjectAttr.storeInDict hh.objs.size (.str f t) f v) _ _ ⟨(hh.push {cls:= .type "dict",data:= .dict #[]}).update x fun o=>{o with dict:=some hh.objs.size},g,d,t+1,os⟩
 generalize ((hh.push {cls:= .type "dict",data:= .dict #[]}).update x fun o=>{o with dict:=some hh.objs.size})=h2 at gx gd ko
 have nd:h2.Ns hh.objs.size (fun _=>none):=⟨_, #[],_,gd,rfl,fun e he=>absurd he (by simp),fun _=>rfl⟩
 unfold Builtin.ObjectAttr.storeInDict Builtin.ObjectAttr.newKeyGuard
 refine AA (AB (AA (wpAny_nsSet1 (Heap.Ns1.of_empty nd) fun h3 n3 S3=>?_)))
 obtain⟨oD,esD,epD,a1,a2,a3⟩:=n3.count (Within.cons f v Within.nil)
 refine AA (wpAny_lookBehind a1 (by rw[a2];exact pastItsLine_dict (Nat.le_trans a3 (by rw[List.length_cons,List.length_nil,sizeLine_eq];omega))) ?_)
 refine AB (AB (AB ?_))
 refine h h3 hh.objs.size _ rfl (fun b u z q=>?_) ((S3.2 x hxs).trans gx) (Ne.symm hxs) n3
 exact(S3.2 b (BB (AJ q))).trans (ko b u z q)
theorem b3G{Q:Value->Shared->Prop}{expr:Bool}{dx:Addr}{mA:Str->Option Value}(k:XK1 K C)(xf:XF K C f)(X:K.In s.heap)(hx:s.heap.get? x=some o)(hc:o.cls= .ref C)(hd:o.dict=some dx)(hv:o.data= .fields vs)(hn:s.heap.Ns1 dx mA)(hf:mA f=some v)(hh:W.handedIn v=true)
  (h:∀tk,Q v {s with toks:=tk}):wpAny (model prog w) A (getAttr (.ref x) f expr) Q E s:=by
 obtain⟨hp,g,d,t,os⟩:=s
 obtain⟨cd,c1,c2,c3⟩:=xf.cd
 obtain⟨od,es,ep,n1,n2,n3,n4,n5⟩:=id hn
 have I:W.InstAt hp x o C (some od):=⟨hx,hc,by unfold W.notCls;rw[hv],by rw[hd];exact n1⟩
 have lk:W.lookIn f od=some (some v):=by
  unfold W.lookIn
  rw[n2]
  have q:=n5 f
  rw[hf]at q
  unfold nsFind findBy at q
  obtain⟨en,q1,q2⟩:=Option.map_eq_some_iff.mp q
  dsimp only
  rw[<-Array.find?_toList]at q1
  rw[q1]
  exact congrArg (fun z=>some (some z)) q2
 have fo:W.findObj K C (some od) f=some (.value v):=by
  unfold W.findObj
  rw[c1,Option.bind_some,xf.no,Option.bind_some]
  simp[W.ownOf,c3,lk]
 have L0:=I.type (M:=model prog w)
 have L1:=W.looks_findIn (M:=model prog w) X k.ga
 have L2:=W.looks_findIn (M:=model prog w) X k.gt
 have L3:=W.looks_find (M:=model prog w) X I fo
 unfold getAttr getAttrBy
 refine AA (wpAny_mkText (BG (AA (L0.at (AA (L1.at ?_))))))
 dsimp only
 rw[if_neg (by rw[show(Value.builtin "BaseException.__getattribute__"==Value.builtin "object.__getattribute__")=false by decide +kernel,Bool.and_false];exact AE)]
 unfold getAttrByItsOwn hookBefore
 rw[if_pos (show onTheHeap (Value.ref C)=true from rfl)]
 refine AA (L2.at (AA (wpAny_attempt (BG ?_))))
 unfold callGetattribute boundAndCalled
 rw[if_neg (by rw[show onTheHeap (Value.builtin "BaseException.__getattribute__")=false from rfl,Bool.and_false];exact AE)]
 refine AA (AX (F.excAttr_ValueError.ga.bind _) ?_)
 refine wpAny_call (codeAny_call_builtin F.excAttr_ValueError.ga.plain F.entry_bexc_ga (a6z k X I ?_))
 unfold Builtin.«object.__getattribute__»
 refine AA (AX (a:=(Value.ref x,[Value.str f t])) rfl (AA (AX (a:=f) rfl (AA (L0.at (AA (L3.at (AB ?_))))))))
 show wpAny _ _ (handedOut v) _ _ _
 exact W.handed_on hh (h _)
end
section
variable{prog:Program}{w:World}{A:Around}{E:Value->Shared->Prop}{h:Heap}{g:Array GenState}{d:Drawn}{t:Nat}{os:OsState}
variable{nm q:Str}{C N e:Addr}{bs bm:List Value}{hdct:Bool}{sn:List Str}{sub:List Value}{ab:Bool}{col:Option Bool}{dd:Option Addr}{k0 k1 k2 k3 k5:Option Value}{oe:Obj}{vs:Array Value}{v:Value}
end
section
variable{prog:Program}{w:World}{A:Around}{E:Value->Shared->Prop}{h:Heap}{g:Array GenState}{d:Drawn}{t:Nat}{os:OsState}
variable{nm q:Str}{C N fI:Addr}{bs bm:List Value}{hdct:Bool}{sn:List Str}{sub:List Value}{ab:Bool}{col:Option Bool}{dd:Option Addr}{k0 k1 k2 k3 k5:Option Value}{oI:Obj}{rest:List Value}
end
end L2
namespace L2
open PySem PySem.Spec PyProof.Rows XC
noncomputable def ExN (a C:Addr) (dd:Option Addr):HO:= .ext fun h=>∃o vs a0,h.get? a=some o/\o.cls= .ref C/\o.dict=dd/\o.data= .fields vs/\vs[0]?=some (.ref a0)/\vs[1]?=some .none/\vs[2]?=some .none
theorem b2M{H:Hp}{a:Addr}{o:HO}(h:H a=some o):upd H a o=H:=by
 funext b
 unfold upd
 by_cases e:b=a
 ·rw[if_pos e,e,h]
 ·rw[if_neg e]
structure XB(K:W.Frag)(B:Addr):Prop where
 ga:W.specialIn K (.ref B) "__getattribute__"=some (some (.builtin "type.__getattribute__"))
 rd:W.readsIn K B (.type "type")=true
 fc:W.findCls K (.ref B) (.type "type") "__init__"=some (.val (.builtin "ValueError.__init__"))
section
variable{X:Cx}{b:Str}{B:Addr}{bp apos pos spos:Pos}{e1 e2:Expr}{ta:TA}
end
section
variable{X:Cx}{o value:Expr}{f:Str}{ta tv:TE}{pos pos':Pos}
noncomputable def b7c (K:W.Frag) (ta tv:TE) (f:Str):TS:=fun D σ H=>tv σ H fun y H1=>ta σ H1 fun x H2=>∃a C,x= .ref a/\H2 a=some (ExN a C none)/\XK1 K C/\XF K C f/\∀dx,H2 dx=none->D.nx σ (upd (upd H2 dx (.xd [(f,y)])) a (ExN a C (some dx)))
theorem b4e(ha:PE X o ta)(hv:PE X value tv)(hs:swapsWith value (some (.Attribute o f pos')) pos.line X.env=pure false):PS X (.Assign [.Attribute o f pos'] value pos) (b7c X.K ta tv f):=by
 intro pins s σ H D I h
 refine plainObj_wpAny_Assign_Attribute (thn (hv pins s σ H _ I h) fun u s1⟨y,H1,I1,ry,q⟩=>thn (ha pins s1 σ H1 _ I1 q) fun ov s2⟨x,H2,I2,rx,a,C,ex,hx,k,xf,q2⟩=>?_) hs
 subst ex
 obtain rfl:ov=Value.ref a:=rx
 obtain⟨⟨ob,fs,a0,o1,o2,o3,o4,o5,o6,o7⟩,_⟩:=I2.hok a _ hx
 refine b3I k xf I2.kIn o1 o2 o3 o4 fun h' dx tk edx kp hx' ne ns=>?_
 have fr:H2 dx=none:=I2.hok.fresh (by rw[edx];exact AH _)
 have lt:∀b u,s2.heap.get? b=some u->b≠dx:=fun b u q z=>by rw[z,edx]at q;exact absurd (AJ q) (Nat.lt_irrefl _)
 have hne:∀b u,H2 b=some u->b≠dx:=fun b u q=>R6 q fr
 have other:∀b,b≠a->b≠dx->upd (upd H2 dx (.xd [(f,y)])) a (ExN a C (some dx)) b=H2 b:=fun b z1 z2=>by rw[I0 z1,I0 z2]
 have old:∀b v,H2 b=some v->v≠ExN a C none->b≠a:=fun b v q z w=>by rw[w,hx]at q;exact z (Option.some.inj q).symm
 refine⟨σ,_,I2.un (t':=tk) ⟨fun b u q n _ _=>kp b u (fun z=>by rw[z,hx]at n;cases n) q,fun b u q n _ _=>⟨u.slots,kp b u (fun z=>by rw[z,hx]at n;cases n) q⟩,fun b u q n _=>?_,fun b u q _=>?_,fun b xs q=>?_,fun b u xs q=>?_,fun b ps q=>⟨#[],?_⟩⟩ fun b u q=>?_,q2 dx fr⟩
 ·rw[other b (fun z=>by rw[z,hx]at n;cases n) (lt b u q)]
  exact n
 ·by_cases z:b=a
  ·exact⟨_,z▸hx'⟩
  ·exact⟨u,kp b u z q⟩
 ·rw[other b (old b _ q (by intro z;cases z)) (hne b _ q)]
  exact q
 ·rw[other b (old b _ q (by intro z;cases z)) (hne b _ q)]
  exact q
 ·rw[other b (old b _ q (by intro z;cases z)) (hne b _ q),q]
  simp
 ·by_cases z1:b=a
  ·subst z1
   rw[G1]at q
   cases q
   exact⟨⟨_,fs,a0,hx',o2,rfl,o4,o5,o6,o7⟩,⟨_,hx'⟩,fun g1 g2⟨o,vs,a0,q,r⟩k=>⟨o,vs,a0,k o q,r⟩⟩
  ·by_cases z2:b=dx
   ·subst z2
    rw[I0 z1,G1]at q
    cases q
    refine⟨_,ns,fun y'=>?_⟩
    by_cases ey:y'=f
    ·subst ey
     rw[if_pos rfl,List.lookup_cons]
     simp[a3J]
     exact ry
    ·rw[if_neg ey,List.lookup_cons]
     rw[show(y'==f)=false from by simpa using ey]
     simp[a3J]
   ·rw[other b z1 z2]at q
    refine(I2.hok b u q).stay (fun c v hc r=>kp c v ?_ r) (fun c r=>?_) fun c xs r=>?_
    ·rcases hc with hc | hc
     ·rw[hc];exact z1
     ·exact old c _ hc (by intro z;cases z)
    ·rw[other c (old c _ r (by intro z;cases z)) (hne c _ r)]
     exact r
    ·rw[other c (old c _ r (by intro z;cases z)) (hne c _ r)]
     exact r
noncomputable def b5h (K:W.Frag) (ta:TE) (f:Str):TE:=fun σ H Q=>ta σ H fun x H1=>∃a C dx fs v,x= .ref a/\H1 a=some (ExO a C (some dx))/\H1 dx=some (.xd fs)/\XK1 K C/\XF K C f/\fs.lookup f=some v/\Q v H1
theorem a8X{v:V}{u:Value}(r:U8 v u):W.handedIn u=true:=by
 cases v with
 | non=>cases(show u=_ from r);rfl
 | bl b=>cases(show u=_ from r);rfl
 | int i=>obtain⟨t,rfl⟩:=r;rfl
 | str x=>obtain⟨t,rfl⟩:=r;rfl
 | byt x=>obtain⟨t,rfl⟩:=r;rfl
 | flt x=>obtain⟨t,rfl⟩:=r;rfl
 | ref a=>cases(show u=_ from r);rfl
 | ty n=>cases(show u=_ from r);rfl
theorem b4J{e:Expr}(he:PE X e ta)(hb:attributeBase e f X.env (eval e X.env)=eval e X.env):PE X (.Attribute e f pos) (b5h X.K ta f):=by
 intro pins s σ H Q I h
 refine b3Z hb (thn (he pins s σ H _ I h) fun u s1⟨x,H1,I1,rx,a,C,dx,fs,v,ex,hx,hdx,k,xf,l,q⟩=>?_)
 subst ex
 obtain rfl:u=Value.ref a:=rx
 obtain⟨⟨ob,vs,o1,o2,o3,o4,_⟩,_⟩:=I1.hok a _ hx
 obtain⟨mA,ns,rel⟩:=I1.hok dx _ hdx
 have rf:=rel f
 rw[l]at rf
 cases em:mA f with
 | none=>rw[em]at rf;exact False.elim rf
 | some w=>
  rw[em]at rf
  exact b3G k xf I1.kIn o1 o2 o3 o4 ns em (a8X rf) fun tk=>⟨v,H1,I1.tok _,rf,q⟩
end
end L2
namespace L2
open PySem PySem.Spec PyProof.Rows XC
noncomputable def a2K (H:Hp) (a:Addr):Hp:=fun b=>if b=a then none else H b
theorem b0d{H:Hp}{a b:Addr}(h:b≠a):a2K H a b=H b:=by unfold a2K;rw[if_neg h]
theorem a2u{H:Hp}{a b:Addr}(h:H b=none):a2K H a b=none:=by unfold a2K;split<;>first | rfl | exact h
theorem b1L{H:Hp}{a b:Addr}{o:HO}(h:a2K H a b=some o):b≠a/\H b=some o:=by
 unfold a2K at h
 split at h
 ·cases h
 ·rename_i z
  exact⟨z,h⟩
theorem Inv.drop{X:Cx}{pins:List (Addr×Obj)}{σ:St}{H:Hp}{s:Shared}{a:Addr}{φ:Heap->Prop}(I:Inv X pins σ H s)(h:H a=some (.ext φ)):Inv X pins σ (a2K H a) s:=by
 have keep:∀b o,H b=some o->o≠ .ext φ->a2K H a b=some o:=fun b o q z=>by
  rw[b0d fun w=>by rw[w,h]at q;exact z (Option.some.inj q).symm]
  exact q
 refine⟨I.ok,I.os,I.bare,⟨fun b o q n=>I.base.keep b o q n,fun b o q n=>I.base.slot b o q n,fun b o q n hx=>a2u (I.base.free b o q n hx),I.base.there,fun b xs q=>keep b _ (I.base.tups b xs q) (by intro z;cases z),fun b o xs q=>keep b _ (I.base.frzs b o xs q) (by intro z;cases z),fun b ps q=>?_⟩,I.loc,I.cell,a2u I.free,fun x c e=>a2u (I.freeC x c e),fun p hp=>?_,fun b o q=>?_,I.len⟩
 ·obtain⟨more,e⟩:=I.base.tbls b ps q
  exact⟨more,keep b _ e (by intro z;cases z)⟩
 ·obtain⟨e,n,r⟩:=I.pin p hp
  exact⟨e,a2u n,r⟩
 ·obtain⟨z,q⟩:=b1L q
  exact(I.hok b o q).stay (fun _ _ _ r=>r) (fun c r=>keep c _ r (by intro z;cases z)) fun c xs r=>keep c _ r (by intro z;cases z)
theorem b1i{M:Model}{A:Around}{E:Value->Shared->Prop}{s:Shared}{K:W.Frag}{C:Addr}{env:Env}{x:Sem Value}{Q:Flow->Shared->Prop}(hh:A.handled=none)(k:XK1 K C)
  (h:wpAny M A x (fun v s1=>∃e oe vs,v= .ref e/\K.In s1.heap/\s1.heap.get? e=some oe/\oe.cls= .ref C/\oe.data= .fields vs/\vs[1]?=some .none/\E (.ref e) s1) E s):wpAny M A (raiseStmt env (some x) none) Q E s:=by
 unfold raiseStmt
 refine AA (wpAny_mono h (fun v s1 z=>?_) fun _ _ z=>z)
 obtain⟨e,oe,vs,rfl,X,he,hc,hd,h1,hE⟩:=z
 obtain⟨hp,g,d,t,os⟩:=s1
 have L0:W.Looks M hp (typeOf (.ref e)) (.ref C):=hc▸(W.Looks.ld he).andThen .now
 have L1:W.Looks M hp (isType (.ref e)) false:=by
  intro A' Q' E' s' kp q
  unfold isType loadHead
  refine AA (wpAny_loadPart (kp _ _ he) ?_)
  rw[hd]
  exact AB q
 have L2:W.Looks M hp (isInstance (.ref e) (.type "BaseException")) true:=L0.andThen (W.looks_mroIn X k.base)
 have L3:=W.looks_typeIn (M:=M) X k.ty
 refine AA (AB (AA (BG ?_)))
 unfold excFromValue isExcClass
 refine AA (AA (L1.at ?_))
 simp only[Bool.false_eq_true,if_false]
 refine AB (AA (L2.at ?_))
 simp only[if_true]
 refine AB ?_
 refine AA (L1.at ?_)
 simp only[Bool.false_eq_true,if_false]
 unfold raisedInstance
 refine AA (AA (L0.at (AA (L3.at ?_))))
 rw[if_pos (by decide)]
 refine AB (AA ?_)
 unfold setFlight
 refine AA (wpAny_field he hd h1 ?_)
 rw[if_neg (by decide)]
 exact AB (wpAny_raiseNew_none hh hE)
section
variable{P:Program}{w:World}{K:W.Frag}{mg:Str->Option Value}{base:Heap}{N:List Str}{qual:Str}{scope:Scope}{f:Addr}{cd:Value}{A:Around}{outer:List Env}{s:Shared}{H:Hp}{E:XK}
end
end L2
namespace XC
open PySem
section
variable{M:Model}{A:Around}{E:Value->Shared->Prop}{s:Shared}
end
end XC
namespace L2
open PySem PySem.Spec PyProof.Rows XC
section
variable{P:Program}{w:World}{K:W.Frag}{mg:Str->Option Value}{base:Heap}{N:List Str}{qual:Str}{scope:Scope}{f:Addr}{cd:Value}{A:Around}{outer:List Env}{s:Shared}{H:Hp}{E:XK}{pins:List (Addr×Obj)}{σ:St}{H':Hp}{s':Shared}
end
section
variable{X:Cx}{tg elt iter:Expr}{ifs:List Expr}{sc:Scope}{pos:Pos}{M:List Str}{ρ:List (Option Nat)}{wi:TI}{g:TG}{tt:TT}{te:TE}
end
section
variable{P:Program}{w:World}{K:W.Frag}{mg:Str->Option Value}{base:Heap}{N':List Str}{qual:Str}{scope:Scope}{f:Addr}{cd:Value}{A:Around}{outer:List Env}{s0:Shared}{H0:Hp}{E:XK}
variable{tg elt iter:Expr}{ifs:List Expr}{sc:Scope}{pos:Pos}{M:List Str}{ρ:List (Option Nat)}{wi:TI}{g:TG}{tt:TT}{te:TE}
end
end L2
namespace L2
open PySem XC
section
variable{P:Program}{w:World}{K:W.Frag}{mg:Str->Option Value}{base:Heap}{N':List Str}{qual:Str}{scope:Scope}{f:Addr}{cd:Value}{A:Around}{outer:List Env}{s0:Shared}{H0:Hp}{E:XK}
variable{tg elt iter:Expr}{ifs:List Expr}{sc:Scope}{pos:Pos}{M:List Str}{ρ:List (Option Nat)}{wi:TI}{g:TG}{tt:TT}{te:TE}
end
end L2
namespace L2
open PySem PySem.Spec PyProof.Rows
section
variable{X:Cx}
end
end L2
namespace L2
open PySem PySem.Spec PyProof.Rows
section
variable{X:Cx}
end
end L2
namespace L2
open PySem PySem.Spec PyProof.Rows
section
variable{P:Program}{w:World}{K:W.Frag}{mg:Str->Option Value}{base:Heap}
end
section
variable{X:Cx}{j k:Nat}{C:Addr}{x m:Str}{ps:List Str}{sp:Sp}{o e:Expr}{es:List Expr}{ta:TE}{t:TA}{p pos apos:Pos}
end
end L2
namespace L2
open PySem PySem.Spec PyProof.Rows PySem.W RV
end L2
namespace L2
open PySem PySem.Spec PyProof.Rows
section
variable{A:GA}{tk:Int}{ft:V}{rd md:Addr}
end
noncomputable abbrev Wx:=Str×Nat×Rw
noncomputable abbrev Dd:=Str×Int×Str×Nat
noncomputable abbrev Ft:=Str×Str×Nat×Int
section
variable{CP CG:Addr}{H:Hp}{g:Addr}{A:GA}{N:Nt}{ns:List Int}{S:GS}
end
end L2
namespace L2
open PySem PySem.Spec PyProof.Rows
end L2
namespace L2
open PySem PySem.Spec PyProof.Rows
section
variable{X:Cx}
end
end L2
namespace L2
open PySem PySem.Spec PyProof.Rows XC
noncomputable def a0z (l:List Value):Prop:=∀y:String,l.contains (.type y)=bmV.contains (.type y)
theorem a0z.own{l:List Value}(c:Addr)(h:a0z l):a0z (.ref c::l):=fun y=>by
 rw[List.contains_cons,h y]
 rfl
section
variable{M:Model}{A:Around}{E:Value->Shared->Prop}{h:Heap}{g:Array GenState}{d:Drawn}{t:Nat}{os:OsState}
variable{nm q:Str}{C N:Addr}{bs bm:List Value}{hdct:Bool}{sn:List Str}{sub:List Value}{ab:Bool}{col:Option Bool}{dd:Option Addr}{k0 k1 k2 k3 k5:Option Value}
theorem a8A{vs:List Value}{Q:Unit->Shared->Prop}(T:a0z bm)(cC:h.get? C=some (excClassObj nm q C N bs bm hdct sn sub ab col dd k0 k1 k2 k3 k5 "ValueError.__new__"))
  (z:Q () ⟨h,g,d,t,os⟩):wpAny M A (checkBuiltinCall "ValueError.__new__" ⟨.ref C::vs,[]⟩) Q E ⟨h,g,d,t,os⟩:=by
 have B:=F.excBase_ValueError
 have c1:(Value.ref C::bm).contains (.type "ValueError")=true:=by
  rw[List.contains_cons,T,B.hasB,Bool.or_true]
 have ns:=B.noStar
 simp only[checkBuiltinCall,B.newKind,B.newSplit,B.newRow]
 repeat (first
  | refine wpAny_loadPart_at cC ?_
  | (refine wpAny_isSubtype_exc cC ?_
     rw[c1])
  | refine wpAny_staticBase_exc cC ?_
  | refine wpAny_madeBy_exc cC ?_
  | simp only[bne_self_eq_false,Bool.false_eq_true,if_false]
  | wp_step)
 exact z
theorem a7h{e:Addr}{oe:Obj}{vs:List Value}{Q:Unit->Shared->Prop}(T:a0z bm)(cC:h.get? C=some (excClassObj nm q C N bs bm hdct sn sub ab col dd k0 k1 k2 k3 k5 "ValueError.__new__"))
  (he:h.get? e=some oe)(hcls:oe.cls= .ref C)(z:Q () ⟨h,g,d,t,os⟩):wpAny M A (checkBuiltinCall "ValueError.__init__" ⟨.ref e::vs,[]⟩) Q E ⟨h,g,d,t,os⟩:=by
 have B:=F.excBase_ValueError
 have c1:(Value.ref C::bm).contains (.type "ValueError")=true:=by
  rw[List.contains_cons,T,B.hasB,Bool.or_true]
 have ns:=B.noStar
 simp only[checkBuiltinCall,B.initKind,B.initSplit,B.initRow]
 repeat (first
  | (with_reducible refine wpAny_loadPart_at he ?_
     rw[hcls])
  | with_reducible refine wpAny_loadPart_at cC ?_
  | (with_reducible refine wpAny_isSubtype_exc cC ?_
     rw[c1])
  | wp_step)
 refine wpAny_onRaise ?_
 have ck:∀(x y:String)(n:Nat),Bind.check ⟨.positional,"*","ValueError",.self,[⟨"args",.varPos,false⟩]⟩ x y n (List.map (fun x=>x.fst) ({pos:=Value.ref e::vs}:Args).kw)=pure ():=fun x y n=>check_star_args _ _ _ _ _ _
 rw[ck]
 exact AB z
end
section
variable{prog:Program}{w:World}{A:Around}{R:Result->Shared->Prop}{h:Heap}{g:Array GenState}{d:Drawn}{t:Nat}{os:OsState}
variable{nm q:Str}{C N:Addr}{bs bm:List Value}{hdct:Bool}{sn:List Str}{sub:List Value}{ab:Bool}{col:Option Bool}{dd:Option Addr}{k0 k1 k2 k3 k5:Option Value}
theorem b2K{vs:List Value}(T:a0z bm)(cC:h.get? C=some (excClassObj nm q C N bs bm hdct sn sub ab col dd k0 k1 k2 k3 k5 "ValueError.__new__"))(hz:vs.length<=sizeLine)
  (z:R (.ok (.ret (.ref (h.objs.size+1)))) ⟨(h.push {cls:= .type "tuple",data:= .seq vs.toArray}).push {cls:= .ref C,data:= .fields #[.ref h.objs.size,.none,.none,.none,.bool false,.none]},g,d,t,os⟩):
  codeAny (model prog w) A (.builtin "ValueError.__new__" ⟨.ref C::vs,[]⟩) R ⟨h,g,d,t,os⟩:=by
 have B:=F.excBase_ValueError
 have en:=B.ends
 have c1:(Value.ref C::bm).contains (.type "ValueError")=true:=by
  rw[List.contains_cons,T,B.hasB,Bool.or_true]
 have c2:(Value.ref C::bm).contains (.type "AttributeError")=false:=by
  rw[List.contains_cons,T,B.noAttr]
  rfl
 have c3:(Value.ref C::bm).contains (.type "NameError")=false:=by
  rw[List.contains_cons,T,B.noName]
  rfl
 refine codeAny_builtinAt B.entry ?_
 unfold Builtin.«BaseException.__new__»
 refine PySem.wpAt_bind ?_
 show PySem.wpAt _ _ _ (stack >>= _) _ _ _
 refine PySem.wpAt_bind (PySem.wpAt_stack fun p below=>PySem.wpAt_of_wpAny ?_)
 wp_walk
 refine PySem.wpAt_of_wpAny ?_
 rw[B.owner]
 repeat (first
  | with_reducible refine wpAny_madeHere_exc B.canon cC ?_
  | with_reducible refine wpAny_loadPart_at cC ?_
  | (with_reducible refine wpAny_isSubtype_exc cC ?_
     first | rw[c1] | rw[c2] | rw[c3])
  | wp_step)
 show R _ _
 rw[Heap.size_push]
 exact z
end
section
variable{prog:Program}{w:World}{A:Around}{E:Value->Shared->Prop}{h:Heap}{g:Array GenState}{d:Drawn}{t:Nat}{os:OsState}
variable{nm q:Str}{C N fI e:Addr}{bs bm:List Value}{hdct:Bool}{sn:List Str}{sub:List Value}{ab:Bool}{col:Option Bool}{dd:Option Addr}{k0 k1 k2 k3 k5:Option Value}{oI oe:Obj}{rest:List Value}{vs:Array Value}{v v2:Value}
theorem b0C{Q:Value->Shared->Prop}(hC:h.get? C=some (excClassObj nm q C N bs bm hdct sn sub ab col dd k0 k1 k2 k3 k5 "ValueError.__new__"))(T:a0z bm)(he:h.get? e=some oe)(hc:oe.cls= .ref C)(hd:oe.data= .fields vs){a0:Addr}(h0:vs[0]?=some (.ref a0))
  (k:∀h' t',h.get? t'=none->(∀b o,b≠e->h.get? b=some o->h'.get? b=some o)->h'.get? e=some (oe.mapFields (·.setIfInBounds 0 (.ref t')))->Q .none ⟨h',g,d,t,os⟩):
  wpAny (model prog w) A (call (.builtin "ValueError.__init__") [.ref e,v,v2]) Q E ⟨h,g,d,t,os⟩:=by
 refine wpAny_call (codeAny_call_builtin F.excBase_ValueError.init.plain F.excBase_ValueError.initEntry (a7h T hC he hc ?_))
 iterate 12 (first | wp_step | skip)
 have he2:=AC {cls:= .type "tuple",data:= .seq #[v,v2]} he
 unfold Builtin.BaseException.bexcPut
 refine AA (wpAny_field he2 hd h0 (AA (wpAny_setField he2 hd (BT.mp h0).1 ?_)))
 wp_walk
 refine k _ h.objs.size (Heap.get?_none_of_le (AH _)) (fun b o z qb=>?_) (BE _ he2 (Obj.isFreed_of_fields (Obj.data_mapFields hd _)))
 rw[BA _ _ (Ne.symm z)]
 exact AC _ qb
theorem a9L{Q:Fin->Shared->Prop}(hC:h.get? C=some (excClassObj nm q C N bs bm hdct sn sub ab col dd k0 k1 k2 k3 k5 "ValueError.__new__"))(T:a0z bm)(hl:W.Looks (model prog w) h (typeLookup (.ref C) "__init__") (some (.ref fI)))
  (hf:h.get? fI=some oI)(hc:oI.cls= .type "function")(hz:rest.length<=sizeLine)
  (k:∀h' e,Heap.MadeExcOf h h' e (.ref C) rest->wpAny (model prog w) A (call (.ref fI) (.ref e::rest)) (fun r s'=>r= .none/\Q (.done (.ret (.ref e))) s') E ⟨h',g,d,t,os⟩):
  wpAny (model prog w) A (Builtin.«type.__call__» ⟨.ref C::rest,[]⟩) Q E ⟨h,g,d,t,os⟩:=by
 iterate 60 (first | with_reducible refine wpAny_loadPart_at hC ?_ | with_reducible refine wpAny_madeBy_exc hC ?_ | wp_step | skip)
 refine codeAny_call_builtin_code (Code.quiet_builtin _ F.excBase_ValueError.quiet) (a8A T hC (b2K T hC hz ?_))
 have kp:∀b o,h.get? b=some o->((h.push {cls:= .type "tuple",data:= .seq rest.toArray}).push {cls:= .ref C,data:= .fields #[.ref h.objs.size,.none,.none,.none,.bool false,.none]}).get? b=some o:=fun b o e=>AC _ (AC _ e)
 have gt:((h.push {cls:= .type "tuple",data:= .seq rest.toArray}).push {cls:= .ref C,data:= .fields #[.ref h.objs.size,.none,.none,.none,.bool false,.none]}).get? h.objs.size=some {cls:= .type "tuple",data:= .seq rest.toArray}:=AC _ (AI _ rfl)
 have ge:((h.push {cls:= .type "tuple",data:= .seq rest.toArray}).push {cls:= .ref C,data:= .fields #[.ref h.objs.size,.none,.none,.none,.bool false,.none]}).get? (h.objs.size+1)=some {cls:= .ref C,data:= .fields #[.ref h.objs.size,.none,.none,.none,.bool false,.none]}:=by
  rw[show h.objs.size+1=(h.push {cls:= .type "tuple",data:= .seq rest.toArray}).objs.size from(Heap.size_push _ _).symm]
  exact AI _ rfl
 have M:=Heap.MadeExcOf.mk (h:=h) (e:=h.objs.size+1) (cls:= .ref C) (args:=rest) kp (Heap.get?_none_of_le (Nat.le_succ _)) ⟨h.objs.size,ge,Heap.get?_none_of_le (AH _),gt⟩
 generalize (h.push {cls:= .type "tuple",data:= .seq rest.toArray}).push {cls:= .ref C,data:= .fields #[.ref h.objs.size,.none,.none,.none,.bool false,.none]}=h1 at kp gt ge M⊢
 generalize h.objs.size+1=e at ge M⊢
 have L0:W.Looks (model prog w) h1 (typeOf (.ref e)) (.ref C):=(W.Looks.ld ge).andThen .now
 have L1:=hl.keeps kp
 show wpAny _ _ _ _ _ _
 refine AA ?_
 unfold isInstance
 refine AA (L0.at (wpAny_isSubtype_exc (kp _ _ hC) ?_))
 rw[show(Value.ref C::bm).contains (Value.ref C)=true by simp]
 simp only[Bool.not_true,Bool.false_eq_true,if_false]
 unfold callSpecial? specialOf
 refine AA (BG (AA (AA (L0.at (L1.at (BG (AA ?_)))))))
 unfold bindSpecial
 refine AA (wpAny_typeOf (show(⟨h1,g,d,t,os⟩:Shared).TypeIs (.ref fI) "function" from⟨_,kp _ _ hf,hc⟩) ?_)
 rw[if_pos (by decide)]
 refine AB (AA (wpAny_mono (k h1 e M) (fun r s' z=>?_) fun _ _ z=>z))
 obtain⟨z1,z2⟩:=z
 subst z1
 refine AB ?_
 dsimp only
 rw[if_neg (by decide)]
 exact AB z2
theorem b0J{Q:Value->Shared->Prop}(hC:h.get? C=some (excClassObj nm q C N bs bm hdct sn sub ab col dd k0 k1 k2 k3 k5 "ValueError.__new__"))(T:a0z bm)(hl:W.Looks (model prog w) h (typeLookup (.ref C) "__init__") (some (.ref fI)))
  (hf:h.get? fI=some oI)(hc:oI.cls= .type "function")(hz:rest.length<=sizeLine)
  (k:∀h' e,Heap.MadeExcOf h h' e (.ref C) rest->wpAny (model prog w) (A.under (.builtin "type.__call__" ⟨.ref C::rest,[]⟩)) (call (.ref fI) (.ref e::rest)) (fun r s'=>r= .none/\Q (.ref e) s') E ⟨h',g,d,t,os⟩):
  wpAny (model prog w) A (call (.ref C) rest) Q E ⟨h,g,d,t,os⟩:=by
 have f1:=tc_lookup
 have f2:=tc_bind (.ref C)
 have hT:(⟨h,g,d,t,os⟩:Shared).TypeIs (.ref C) "type":=⟨_,hC,rfl⟩
 refine wpAny_call (codeAny_of_tree ?_)
 show wpAny _ _ (callAny (.ref C) _) _ _ _
 repeat (any_goals (first | wp_step | assumption | with_reducible refine wpAny_loadPart_at hC ?_))
 refine⟨rfl,codeAny_call_builtin_at (Code.quiet_builtin _ (by decide +kernel)) entry_typeCall (wpAny_check_type_call_sub hC (a9L hC T hl hf hc hz fun h' e m=>k h' e m))⟩
end
section
variable{prog:Program}{w:World}{A:Around}{E:Value->Shared->Prop}{s:Shared}{K:W.Frag}{x C:Addr}{o:Obj}{vs:Array Value}{f:Str}{v:Value}
theorem b3C{Q:Unit->Shared->Prop}{dx:Addr}{mA:Str->Option Value}{ns:List Str}(k:XK1 K C)(xf:XF K C f)(X:K.In s.heap)(hx:s.heap.get? x=some o)(hc:o.cls= .ref C)(hd:o.dict=some dx)(hv:o.data= .fields vs)(hn:s.heap.Ns1 dx mA)(hw:Within mA ns)(hl:ns.length<=3)(hnew:mA f=none)
  (h:∀h' tk,(∀b,b≠dx->h'.get? b=s.heap.get? b)->h'.Ns1 dx (fun y=>if y=f then some v else mA y)->Q () {s with heap:=h',toks:=tk}):
  wpAny (model prog w) A (setAttr (.ref x) f v) Q E s:=by
 obtain⟨hh,g,d,t,os⟩:=s
 obtain⟨cd,c1,c2,c3⟩:=xf.cd
 have SF:=F.store_ValueError
 have L0:W.Looks (model prog w) hh (typeOf (.ref x)) (.ref C):=hc▸(W.Looks.ld hx).andThen .now
 have L1:=W.looks_findIn (M:=model prog w) X xf.sa
 have L2:=W.looks_findIn (M:=model prog w) X xf.no
 have L3:W.Looks (model prog w) hh (mroOf (.ref C)) cd.mro:=(W.looks_clsIn X c1).andThen .now
 have L4:W.Looks (model prog w) hh (isInstance (.ref x) (.type "object")) true:=L0.andThen (W.looks_mroIn X k.ob)
 unfold setAttr callSpecial? specialOf
 refine AA (wpAny_mkText (AA (AA (AA (L0.at (L1.at ?_))))))
 refine BG (AA (AX (SF.slot.bind (.ref x)) ?_))
 refine AA (wpAny_call (codeAny_call_builtin SF.slot.plain SF.entry (@W.check_slot (model prog w) _ _ ⟨hh,g,d,t+1,os⟩ "object.__setattr__" "object" "__setattr__" (.ref x) [.str f t,v] [] _ SF.kind SF.split L4 (SF.args (.ref x) (.str f t) v) ?_)))
 show wpAny _ _ (Builtin.«object.__setattr__» ⟨[.ref x,.str f t,v],[]⟩) _ _ _
 rw[W.osa_eq,refuse_eq]
 refine AA (AA (L0.at (AA (L3.at ?_))))
 rw[c2.pass]
 refine AB (AA (L0.at (AA (L2.at (AA (AB ?_))))))
 show wpAny _ _ (Builtin.ObjectAttr.storeInOwnDict (.ref x) (.ref C) (.str f t) f v false) _ _ _
 obtain⟨oc,od,oda,osl⟩:=o
 dsimp only at hc hd hv
 subst hc hd hv
 refine AA (AB (AA (AA (wpAny_loadPart hx ?_))))
 refine AA ((W.looks_clsIn X c1).at ?_)
 rw[c3]
 refine AB ?_
 show wpAny _ _ (Builtin.ObjectAttr.storeInDict dx (.str f t) f v) _ _ ⟨hh,g,d,t+1,os⟩
 unfold Builtin.ObjectAttr.storeInDict Builtin.ObjectAttr.newKeyGuard
 refine AA (AB (AA (wpAny_nsSet1 hn fun h3 n3 S3=>?_)))
 obtain⟨oD,esD,epD,a1,a2,a3⟩:=n3.count (Within.cons f v hw)
 refine AA (wpAny_lookBehind a1 (by rw[a2];exact pastItsLine_dict (Nat.le_trans a3 (by rw[List.length_cons,sizeLine_eq];omega))) ?_)
 refine AB (AB (AB ?_))
 exact h h3 _ (fun b z=>S3.2 b z) n3
end
end L2
namespace L2
open PySem PySem.Spec PyProof.Rows XC
structure XJ(K:W.Frag)(C fI:Addr):Prop where
 obj:∃R B N nm q bs hdct sn sub ab col dd k0 k1 k2 k3 k5,K.lookup C=some (excClassObj nm q C N bs (.ref R:: .ref B::bmV) hdct sn sub ab col dd k0 k1 k2 k3 k5 "ValueError.__new__")
 ini:W.findIn K (.ref C) "__init__"=some (some (.ref fI))
 fn:W.isFn K (.ref fI)=true
theorem XJ.here{K:W.Frag}{h:Heap}{C fI:Addr}(x:XJ K C fI)(X:K.In h):∃N nm q bs bm hdct sn sub ab col dd k0 k1 k2 k3 k5,h.get? C=some (excClassObj nm q C N bs bm hdct sn sub ab col dd k0 k1 k2 k3 k5 "ValueError.__new__")/\a0z bm:=by
 obtain⟨R,B,N,nm,q,bs,hdct,sn,sub,ab,col,dd,k0,k1,k2,k3,k5,e⟩:=x.obj
 exact⟨N,nm,q,bs,_,hdct,sn,sub,ab,col,dd,k0,k1,k2,k3,k5,X _ _ e,a0z.own R (a0z.own B fun _=>rfl)⟩
section
variable{X:Cx}{b:Str}{B:Addr}{bp apos pos spos:Pos}{e1 e2 e3:Expr}{ta:TA}
noncomputable def b5O (K:W.Frag) (ta:TA):TS:=fun D σ H=>ta σ H fun vs H1=>∃x C fI v w,vs=[.ref x,v,w]/\H1 x=some (ExN x C none)/\XJ K C fI/\D.nx σ H1
theorem b2N{pl:Sem Bool}(hg:Gl X b)(hm:X.mg b=some (.ref B))(xb:XB X.K B)(ha:PA X [e1,e2,e3] ta)(hd:(b==("__debug__":Str))=false:=by decide)
  (hs:swapsWith (.Call (.Attribute (.Name b bp) "__init__" apos) [e1,e2,e3] [] pos) none spos.line X.env=pure false:=by rfl)
  (he:starEach [e1,e2,e3] X.env=(false,eval e1 X.env)::starEach [e2,e3] X.env:=by rfl)(hpl:(backTo pos (starEach [e2,e3] X.env)).any (·.1)=false:=by rfl)
  (ht:eval (.Call (.Attribute (.Name b bp) "__init__" apos) [e1,e2,e3] [] pos) X.env=(do
   let ov<-eval (.Name b bp) X.env
   standAt apos.atName
   let(f,first)<-holding [ov] (getMethod ov "__init__" pl)
   callWith pos f first (backTo pos (starEach [e1,e2,e3] X.env)) (backToKw pos (keywordEach [] X.env))):=by rfl):
  PS X (.Expr (.Call (.Attribute (.Name b bp) "__init__" apos) [e1,e2,e3] [] pos) spos) (b5O X.K ta):=by
 intro pins s σ H D I h
 refine wpAny_Expr_any (Q:=SP X pins D) ?_ I.quiet hs
 refine W.methodCall_KW (pl:=pl) (a2B I hg hm ?_ hd) ht
 refine W.method_cls I.kIn xb.ga (W.cls_value I.kIn xb.rd xb.fc rfl ?_)
 refine PyProof.Rows.callWith_builtin1 (thn (ha pos pins _ σ H _ (I.tok _) h) fun us s1⟨vs,H1,I1,r,x,C,fI,v,w',ev,hx,xi,q⟩=>?_) he hpl
 subst ev
 obtain⟨u1,u2,u3,rfl,r1,r2,r3⟩:∃u1 u2 u3,us=[u1,u2,u3]/\U8 (.ref x) u1/\U8 v u2/\U8 w' u3:=by
  cases r with
  | cons a r=>
   cases r with
   | cons b r=>
    cases r with
    | cons c r=>cases r;exact⟨_,_,_,rfl,a,b,c⟩
 cases(show u1=Value.ref x from r1)
 obtain⟨⟨o,fs,a0,o1,o2,o3,o4,o5,o6,o7⟩,_⟩:=I1.hok x _ hx
 obtain⟨N,nm,q',bs,bm,hdct,sn,sub,ab,col,dd,k0,k1,k2,k3,k5,hC,T⟩:=xi.here I1.kIn
 obtain⟨hh,g,d,t,os⟩:=s1
 refine b0C hC T o1 o2 o4 o5 fun h' t' _ kp hx'=>?_
 have d2:=Obj.data_mapFields o4 (·.setIfInBounds 0 (Value.ref t'))
 have J:Inv X pins σ (upd H1 x (ExN x C none)) {(⟨hh,g,d,t,os⟩:Shared)with heap:=h',toks:=t}:=I1.write (e:=x) (by rw[hx];trivial) (.inl rfl) kp ⟨_,hx'⟩ ⟨⟨_,_,t',hx',(Obj.cls_mapFields _ _).trans o2,(a8g o4).trans o3,d2,?_,?_,?_⟩,⟨_,hx'⟩,fun g1 g2⟨o,vs,a0,q,r⟩k=>⟨o,vs,a0,k o q,r⟩⟩
 ·rw[b2M hx]at J
  exact⟨σ,H1,J,q⟩
 ·rw[Array.getElem?_setIfInBounds_self,if_pos (BT.mp o5).1]
 ·rw[Array.getElem?_setIfInBounds_ne (by decide)]
  exact o6
 ·rw[Array.getElem?_setIfInBounds_ne (by decide)]
  exact o7
end
section
variable{X:Cx}{o value:Expr}{f:Str}{ta tv:TE}{pos pos':Pos}
theorem b1R{fs:List (Str×V)}{y:Str}(h:fs.lookup y≠none):y∈fs.map (·.1):=by
 induction fs with
 | nil=>exact absurd rfl h
 | cons p r ih=>
  rw[List.map_cons]
  by_cases e:y=p.1
  ·rw[e];exact AM
  ·refine AK _ (ih fun z=>h ?_)
   obtain⟨a,b⟩:=p
   rw[List.lookup_cons,show(y==a)=false from by simpa using e]
   exact z
theorem a9G{fs:List (Str×V)}{y f:Str}{v:V}(hf:fs.lookup f=none):(fs++[(f,v)]).lookup y=if y=f then some v else fs.lookup y:=by
 induction fs with
 | nil=>
  rw[List.nil_append,List.lookup_cons]
  by_cases e:y=f
  ·subst e;simp
  ·rw[if_neg e,show(y==f)=false from by simpa using e]
 | cons p r ih=>
  obtain⟨a,b⟩:=p
  rw[List.lookup_cons]at hf
  have hfa:(f==a)=false:=by
   cases z:(f==a)with
   | true=>rw[z]at hf;cases hf
   | false=>rfl
  rw[hfa]at hf
  rw[List.cons_append,List.lookup_cons,List.lookup_cons,ih hf]
  cases z:(y==a)with
  | true=>
   have e1:y=a:=by simpa using z
   have e2:¬y=f:=fun w=>by rw[<-w,e1]at hfa;simp at hfa
   exact(if_neg e2).symm
  | false=>rfl
noncomputable def b6L (K:W.Frag) (ta tv:TE) (f:Str):TS:=fun D σ H=>tv σ H fun y H1=>ta σ H1 fun x H2=>∃a C dx fs,x= .ref a/\H2 a=some (ExN a C (some dx))/\H2 dx=some (.xd fs)/\XK1 K C/\XF K C f/\fs.lookup f=none/\fs.length<=3/\D.nx σ (upd H2 dx (.xd (fs++[(f,y)])))
theorem b3W(ha:PE X o ta)(hv:PE X value tv)(hs:swapsWith value (some (.Attribute o f pos')) pos.line X.env=pure false):PS X (.Assign [.Attribute o f pos'] value pos) (b6L X.K ta tv f):=by
 intro pins s σ H D I h
 refine plainObj_wpAny_Assign_Attribute (thn (hv pins s σ H _ I h) fun u s1⟨y,H1,I1,ry,q⟩=>thn (ha pins s1 σ H1 _ I1 q) fun ov s2⟨x,H2,I2,rx,a,C,dx,fs,ex,hx,hdx,k,xf,hf,hl,q2⟩=>?_) hs
 subst ex
 obtain rfl:ov=Value.ref a:=rx
 obtain⟨⟨ob,vs,a0,o1,o2,o3,o4,o5,o6,o7⟩,_⟩:=I2.hok a _ hx
 obtain⟨mA,ns,rel⟩:=I2.hok dx _ hdx
 have hw:Within mA (fs.map (·.1)):=fun y' hy'=>b1R fun z=>hy' (by
  have:=rel y'
  rw[z]at this
  cases e:mA y' with
  | none=>rfl
  | some u=>rw[e]at this;exact this.elim)
 have hnew:mA f=none:=by
  have:=rel f
  rw[hf]at this
  cases e:mA f with
  | none=>rfl
  | some u=>rw[e]at this;exact this.elim
 refine b3C k xf I2.kIn o1 o2 o3 o4 ns hw (by rw[List.length_map];exact hl) hnew fun h' tk kp ns'=>?_
 have kp':∀b u,b≠dx->s2.heap.get? b=some u->h'.get? b=some u:=fun b u z r=>(kp b z).trans r
 obtain⟨od,es,ep,n1,n2⟩:=id ns'
 have other:∀b,b≠dx->upd H2 dx (.xd (fs++[(f,y)])) b=H2 b:=fun b z=>I0 z
 have ne:∀b,H2 b=none->b≠dx:=fun b z w=>by rw[w,hdx]at z;cases z
 have ot:∀b v,H2 b=some v->v≠ .xd fs->b≠dx:=fun b v q z w=>by rw[w,hdx]at q;exact z (Option.some.inj q).symm
 refine⟨σ,_,I2.un (t':=tk) ⟨fun b u q n _ _=>kp' b u (ne b n) q,fun b u q n _ _=>⟨u.slots,kp' b u (ne b n) q⟩,fun b u q n _=>?_,fun b u q _=>?_,fun b xs q=>?_,fun b u xs q=>?_,fun b ps q=>⟨#[],?_⟩⟩ fun b u q=>?_,q2⟩
 ·rw[other b (ne b n)]
  exact n
 ·by_cases z:b=dx
  ·exact⟨_,z▸n1⟩
  ·exact⟨u,kp' b u z q⟩
 ·rw[other b (ot b _ q (by intro z;cases z))]
  exact q
 ·rw[other b (ot b _ q (by intro z;cases z))]
  exact q
 ·rw[other b (ot b _ q (by intro z;cases z)),q]
  simp
 ·by_cases z:b=dx
  ·subst z
   rw[G1]at q
   cases q
   refine⟨_,ns',fun y'=>?_⟩
   rw[a9G hf]
   by_cases ey:y'=f
   ·rw[if_pos ey,if_pos ey]
    exact ry
   ·rw[if_neg ey,if_neg ey]
    exact rel y'
  ·rw[other b z]at q
   refine(I2.hok b u q).stay (fun c v hc r=>kp' c v ?_ r) (fun c r=>?_) fun c xs r=>?_
   ·rcases hc with hc | hc
    ·rw[hc];exact z
    ·exact ot c _ hc (by intro z;cases z)
   ·rw[other c (ot c _ r (by intro z;cases z))]
    exact r
   ·rw[other c (ot c _ r (by intro z;cases z))]
    exact r
end
noncomputable def a7a (C:Addr) (f g:Str):Sp:=fun vs H Q _=>∃e v w,vs=[.ref e,v,w]/\H e=some (ExN e C none)/\∀dx,H dx=none->Q .non (upd (upd H dx (.xd [(f,v),(g,w)])) e (ExN e C (some dx)))
structure XDl(P:Program)(w:World)(K:W.Frag)(mg:Str->Option Value)(base:Heap)(k:Nat)(C:Addr)(f g:Str)(ps:List Str):Prop where
 ex:∃fI fd,a4C P w K mg base CX0 k fI fd ps (a7a C f g)/\XJ K C fI/\W.keepIn K (.ref C)=true/\a4t K fd ps []
noncomputable def b5f (K:W.Frag) (C:Addr) (qual:Str) (st:Stmt):Prop:=∃f fd,Fun K "__init__" qual st f fd/\XJ K C f/\W.keepIn K (.ref C)=true
theorem XDl.of{P:Program}{w:World}{K:W.Frag}{mg:Str->Option Value}{base:Heap}{C:Addr}{f g qual:Str}{st:Stmt}{N ps:List Str}{k:Nat}(T:b5f K C qual st)(S:R3 N ps (J0 st))(hps:ps.length=3)
  (hb:∀(kV doc pm:Value)(an:Option Addr)(cdv ct:Value)(us:List Value),us.length=ps.length->bindArgs (W.fnOf "__init__" qual (a0f st) (F6 st) (J0 st) .none kV doc pm an cdv ct) ⟨us,[]⟩=pure (ps.zip us))
  (hbody:∀(f':Addr)(cdv:Value)(A:Around)(outer:List Env)(s:Shared)(H:Hp)(vs:List V)(Q:VK)(E:XK),XJ K C f'->a0c k (A.deeper (envOfC qual (J0 st) s.heap.objs.size f' cdv))->a7a C f g vs H Q E->
   ∃t,PSs (a0h CX0 P w K mg base N qual (J0 st) f' cdv A outer s H E).nox (F6 st) t/\t {nx:=fun _ H'=>Q .non H',rt:=Q} (a2a N vs) H):XDl P w K mg base (k+1) C f g ps:=by
 obtain⟨fI,fd,F,x,kp⟩:=T
 refine⟨fI,fd,F.ok S (fun vs H Q E h=>?_) (fun cdv A outer s H vs Q E=>hbody fI cdv A outer s H vs Q E x),x,kp,F.binds hb⟩
 obtain⟨e,v,w',rfl,_⟩:=h
 exact hps.symm
section
variable{P:Program}{w:World}{K:W.Frag}{mg:Str->Option Value}{base:Heap}{N:List Str}{qual:Str}{scope:Scope}{f:Addr}{cd:Value}{A:Around}{outer:List Env}{s:Shared}{H:Hp}{E:XK}
theorem b0G{x:Str}{C:Addr}{fl gl:Str}{ps:List Str}{j k:Nat}{e1 e2:Expr}{ta:TA}{np cpos pos:Pos}(M:XDl P w K mg base j C fl gl ps)(hr:a0c k (a0h (CXe P w) P w K mg base N qual scope f cd A outer s H E).A)(hg:Gl (a0h (CXe P w) P w K mg base N qual scope f cd A outer s H E) x)(hm:mg x=some (.ref C))(k1:XK1 K C)
  (ha:PA (a0h (CXe P w) P w K mg base N qual scope f cd A outer s H E) [e1,e2] ta)(hjk:j+1<=k:=by decide)(hd:(x==("__debug__":Str))=false:=by decide)
  (he:starEach [e1,e2] (a0h (CXe P w) P w K mg base N qual scope f cd A outer s H E).env=(false,eval e1 (a0h (CXe P w) P w K mg base N qual scope f cd A outer s H E).env)::starEach [e2] (a0h (CXe P w) P w K mg base N qual scope f cd A outer s H E).env:=by rfl)(hpl:(backTo cpos (starEach [e2] (a0h (CXe P w) P w K mg base N qual scope f cd A outer s H E).env)).any (·.1)=false:=by rfl):
  PS (a0h (CXe P w) P w K mg base N qual scope f cd A outer s H E) (.Raise (some (.Call (.Name x np) [e1,e2] [] cpos)) none pos) (fun _ σ H'=>ta σ H' fun vs H2=>∃v v2,vs=[v,v2]/\∀dx,H2 dx=none->E (.ref C) (some dx) (upd H2 dx (.xd [(fl,v),(gl,v2)]))):=by
 intro pins s1 σ H1 D I h
 obtain⟨fI,fd,F,xi,kp,hb⟩:=M.ex
 rw[arm_exec_Raise]
 refine AA (wpAny_standAt (b1i (K:=K) (C:=C) (I.ok.hd rfl) k1 ?_))
 refine AA (wpAny_mono (wpAny_Call_Name_kw (a2B I hg hm ?_ hd)) (fun v s2 z=>AA (wpAny_standAt (AB z))) fun _ _ z=>z)
 refine W.callWith_K (h₀:=base) I.ok.mod.kin kp (thn (ha cpos pins s1 σ H1 _ I h) fun us s2⟨vs,H2,I2,r,v,v2,ev,q⟩=>⟨I2.kIn,?_⟩) he hpl
 subst ev
 obtain⟨u,u2,rfl,ru,ru2⟩:=a7T r
 obtain⟨N',nm,q',bs,bm,hdct,sn,sub,ab,col,dd,k0,k1',k2,k3,k5,hC,T⟩:=xi.here I2.kIn
 have tf:W.typeIn K (.ref fI)=some (.type "function"):=beq_iff_eq.mp xi.fn
 obtain⟨oI,hI,cI⟩:=Option.map_eq_some_iff.mp tf
 obtain⟨hh,g,d,t,os⟩:=s2
 refine b0J hC T (W.looks_findIn I2.kIn xi.ini) (I2.kIn _ _ hI) cI F2 fun h' e m=>?_
 have G:a4B (a0h (CXe P w) P w K mg base N qual scope f cd A outer s H E).stack e [] hh h':=⟨fun b o q _ _ _=>m.keeps b o q,fun b o q _=>⟨o.slots,m.keeps b o q⟩⟩
 have ne:H2 e=none:=HOk.un_at I2.hok m.new
 obtain⟨t0,ge,_⟩:=m.there
 have I3:Inv (a0h (CXe P w) P w K mg base N qual scope f cd A outer s H E) pins σ (upd H2 e (ExN e C none)) ⟨h',g,d,t,os⟩:=I2.flown (t':=t) rfl rfl rfl G (I2.fr1 rfl m.new) (fun b z=>by cases z) ne (.inr ⟨_,rfl⟩) ((I2.hok.kept m.keeps).take ne ⟨⟨_,_,t0,ge,rfl,rfl,rfl,rfl,rfl,rfl⟩,⟨_,ge⟩,fun g1 g2⟨o,vs,a0,q,r⟩k=>⟨o,vs,a0,k o q,r⟩⟩)
 have hsp:a7a C fl gl [.ref e,v,v2] (upd H2 e (ExN e C none)) (fun v' H'=>v'= .non/\∃dx,H2 dx=none/\dx≠e/\H'=upd (upd (upd H2 e (ExN e C none)) dx (.xd [(fl,v),(gl,v2)])) e (ExN e C (some dx))) E0:=⟨e,v,v2,rfl,G1,fun dx hdx=>by
  have z:dx≠e:=fun z=>by rw[z,G1]at hdx;cases hdx
  rw[I0 z]at hdx
  exact⟨rfl,dx,hdx,z,rfl⟩⟩
 refine wpAny_call (codeAny_mono (F.run _ (a0h (CXe P w) P w K mg base N qual scope f cd A outer s H E).stack ⟨h',g,d,t,os⟩ _ ⟨[.ref e,u,u2],[]⟩ [.ref e,u,u2] [.ref e,v,v2] _ E0 ((hr.mono hjk).make C [u,u2] []) (I3.env0.make C [u,u2] []) (hb _ [.ref e,u,u2] I3.kIn (F.len _ _ _ _ hsp)) (.cons rfl (.cons ru (.cons ru2 .nil))) hsp) fun r s3 hq=>?_)
 cases r with
 | error z=>exact False.elim hq
 | ok fw=>
  cases fw with
  | next=>exact False.elim hq
  | brk=>exact False.elim hq
  | cont=>exact False.elim hq
  | ret uu=>
   obtain⟨v',H',I4,rv,ev,dx,hdx,ne2,eH⟩:=I3.after hq
   subst ev
   subst eH
   obtain⟨⟨oe,fs,a0,o1,o2,o3,o4,o5,o6,o7⟩,_⟩:=I4.hok e _ G1
   refine⟨rv,e,oe,fs,rfl,I4.kIn,o1,o2,o4,o6,?_⟩
   have I5:=I4.drop (a:=e) G1
   have eD:a2K (upd (upd (upd H2 e (ExN e C none)) dx (.xd [(fl,v),(gl,v2)])) e (ExN e C (some dx))) e=upd H2 dx (.xd [(fl,v),(gl,v2)]):=by
    funext b
    by_cases z:b=e
    ·rw[z]
     unfold a2K
     rw[if_pos rfl,I0 (Ne.symm ne2),ne]
    ·rw[b0d z,I0 z]
     by_cases z2:b=dx
     ·rw[z2,G1,G1]
     ·rw[I0 z2,I0 z2,I0 z]
   rw[eD]at I5
   exact b1w I5 o1 o4 o6 o7 (I2.up rfl m.new) (by rw[I0 (Ne.symm ne2)];exact ne) (by rw[o2,o3];exact q dx hdx)
end
end L2
namespace L2
open PySem PySem.Spec PyProof.Rows
theorem b6i{X:Cx}:OpR X (compareOp .Is) (fun x y H Q=>∃b c,x= .bl b/\y= .bl c/\Q (.bl (b==c)) H):=by
 intro pins s σ H x y v u Q I rx ry h
 obtain⟨b,c,rfl,rfl,q⟩:=h
 cases rx
 cases ry
 have:compareOp .Is (.bool b) (.bool c)=pure (.bool (b==c)):=by
  cases b<;>cases c<;>rfl
 rw[this]
 exact AB ⟨.bl _,H,I,rfl,q⟩
end L2
namespace K44
open PySem L2 PyProof.Rows
noncomputable def top (i:Nat):Stmt:=zP.main.body.getD i (.Pass ⟨0,0,0,0⟩)
noncomputable abbrev Z0:Stmt:=b4G (top 2) 0
theorem a1O:R3 ["self","part","row"] ["self","part","row"] (J0 Z0):=⟨rfl,rfl,rfl,by decide +kernel,rfl,by decide +kernel,by decide +kernel⟩
noncomputable abbrev a1m:Stmt:=top 14
theorem F0:R3 ["parts","found","part","rows","number","row"] ["parts"] (J0 a1m):=⟨rfl,rfl,rfl,by decide +kernel,rfl,by decide +kernel,by decide +kernel⟩
noncomputable abbrev a1J:Stmt:=top 15
theorem B8:R3 ["parts","owns","part","number","row"] ["parts"] (J0 a1J):=⟨rfl,rfl,rfl,by decide +kernel,rfl,by decide +kernel,by decide +kernel⟩
noncomputable abbrev a6N:Stmt:=top 16
theorem a0u:R3 ["parts","owns","onward","part","number","row","given","own"] ["parts"] (J0 a6N):=⟨rfl,rfl,rfl,by decide +kernel,rfl,by decide +kernel,by decide +kernel⟩
noncomputable abbrev a4R:Stmt:=top 17
theorem M8:R3 ["parts","found","onward","start","way","here","name"] ["parts"] (J0 a4R):=⟨rfl,rfl,rfl,by decide +kernel,rfl,by decide +kernel,by decide +kernel⟩
noncomputable abbrev a8K:Stmt:=top 18
theorem a3b:R3 ["parts","found","part","number","row"] ["parts"] (J0 a8K):=⟨rfl,rfl,rfl,by decide +kernel,rfl,by decide +kernel,by decide +kernel⟩
noncomputable abbrev a5i:Stmt:=top 19
theorem b1B:R3 ["parts","part"] ["parts","part"] (J0 a5i):=⟨rfl,rfl,rfl,by decide +kernel,rfl,by decide +kernel,by decide +kernel⟩
noncomputable abbrev a1j:Stmt:=top 20
theorem a0K:R3 ["parts","part","kind","found","row"] ["parts","part","kind"] (J0 a1j):=⟨rfl,rfl,rfl,by decide +kernel,rfl,by decide +kernel,by decide +kernel⟩
noncomputable abbrev a6P:Stmt:=top 21
theorem a3r:R3 ["parts","root","begun","waiting","part"] ["parts","root"] (J0 a6P):=⟨rfl,rfl,rfl,by decide +kernel,rfl,by decide +kernel,by decide +kernel⟩
noncomputable abbrev a2n:Stmt:=top 23
theorem O3:R3 ["parts","owns","used","part","own","found","new"] ["parts"] (J0 a2n):=⟨rfl,rfl,rfl,by decide +kernel,rfl,by decide +kernel,by decide +kernel⟩
noncomputable abbrev a2R:Stmt:=top 24
theorem a2r:R3 ["own","used","number"] ["own","used"] (J0 a2R):=⟨rfl,rfl,rfl,by decide +kernel,rfl,by decide +kernel,by decide +kernel⟩
noncomputable abbrev a0P:Stmt:=top 25
theorem Y4:R3 ["parts","places","news","part","own","new","found","name","place"] ["parts"] (J0 a0P):=⟨rfl,rfl,rfl,by decide +kernel,rfl,by decide +kernel,by decide +kernel⟩
noncomputable abbrev a1l:Stmt:=top 26
theorem a2l:R3 ["part","row","news","kind"] ["part","row","news"] (J0 a1l):=⟨rfl,rfl,rfl,by decide +kernel,rfl,by decide +kernel,by decide +kernel⟩
noncomputable abbrev a0q:Stmt:=top 27
theorem a4Q:R3 ["part","terms","news"] ["part","terms","news"] (J0 a0q):=⟨rfl,rfl,rfl,by decide +kernel,rfl,by decide +kernel,by decide +kernel⟩
noncomputable abbrev a0v:Stmt:=top 28
theorem a3S:R3 ["part","thing","news"] ["part","thing","news"] (J0 a0v):=⟨rfl,rfl,rfl,by decide +kernel,rfl,by decide +kernel,by decide +kernel⟩
noncomputable abbrev a0N:Stmt:=top 29
theorem a4u:R3 ["part","when","news"] ["part","when","news"] (J0 a0N):=⟨rfl,rfl,rfl,by decide +kernel,rfl,by decide +kernel,by decide +kernel⟩
noncomputable abbrev a5A:Stmt:=top 31
theorem a3g:R3 ["parts","root","news","work","rows","origins"] ["parts","root"] (J0 a5A):=⟨rfl,rfl,rfl,by decide +kernel,rfl,by decide +kernel,by decide +kernel⟩
noncomputable abbrev a1h:Stmt:=top 32
theorem B1:R3 ["parts","root","rows","part","number","row"] ["parts","root"] (J0 a1h):=⟨rfl,rfl,rfl,by decide +kernel,rfl,by decide +kernel,by decide +kernel⟩
noncomputable abbrev a0B:Stmt:=top 33
theorem Z5:R3 ["parts","root","rows","begun","waiting","work","step","row"] ["parts","root"] (J0 a0B):=⟨rfl,rfl,rfl,by decide +kernel,rfl,by decide +kernel,by decide +kernel⟩
noncomputable abbrev a0H:Stmt:=top 34
theorem a2L:R3 ["part","rows","steps"] ["part","rows"] (J0 a0H):=⟨rfl,rfl,rfl,by decide +kernel,rfl,by decide +kernel,by decide +kernel⟩
noncomputable abbrev a1k:Stmt:=top 36
theorem a5a:R3 ["_law_script","_law_k"] ["_law_script","_law_k"] (J0 a1k):=⟨rfl,rfl,rfl,by decide +kernel,rfl,by decide +kernel,by decide +kernel⟩
noncomputable abbrev a1z:Stmt:=top 37
theorem B7:R3 ["_law_cell","_law_k","_law_found","_law_number","_law_by"] ["_law_cell","_law_k"] (J0 a1z):=⟨rfl,rfl,rfl,by decide +kernel,rfl,by decide +kernel,by decide +kernel⟩
noncomputable abbrev a2V:Stmt:=top 38
theorem O1:R3 ["_law_base","_law_k","_law_letters","_law_size","_law_name_here","_law_j","_law_step"] ["_law_base","_law_k"] (J0 a2V):=⟨rfl,rfl,rfl,by decide +kernel,rfl,by decide +kernel,by decide +kernel⟩
noncomputable abbrev a2T:Stmt:=top 39
theorem a8s:R3 ["_law_script","_law_k"] ["_law_script","_law_k"] (J0 a2T):=⟨rfl,rfl,rfl,by decide +kernel,rfl,by decide +kernel,by decide +kernel⟩
noncomputable abbrev a2f:Stmt:=top 40
theorem B2:R3 ["_law_script","_law_first","_law_many","_law_house","_law_k"] ["_law_script"] (J0 a2f):=⟨rfl,rfl,rfl,by decide +kernel,rfl,by decide +kernel,by decide +kernel⟩
noncomputable abbrev a2o:Stmt:=top 41
theorem a6Z:R3 ["_law_part","_law_pool_here","_law_k"] ["_law_part","_law_pool_here","_law_k"] (J0 a2o):=⟨rfl,rfl,rfl,by decide +kernel,rfl,by decide +kernel,by decide +kernel⟩
noncomputable abbrev a2e:Stmt:=top 42
theorem B3:R3 ["_law_house","_law_pools_here","_law_here","_law_other","_law_xs","_law_part","_law_given","_law_pairs_here","_law_t","_law_own"] ["_law_house","_law_pools_here","_law_here","_law_other","_law_xs"] (J0 a2e):=⟨rfl,rfl,rfl,by decide +kernel,rfl,by decide +kernel,by decide +kernel⟩
noncomputable abbrev a2i:Stmt:=top 43
theorem O4:R3 ["_law_house","_law_pools_here","_law_xs","_law_here","_law_part","_law_at","_law_kind","_law_other","_law_own","_law_given"] ["_law_house","_law_pools_here","_law_xs"] (J0 a2i):=⟨rfl,rfl,rfl,by decide +kernel,rfl,by decide +kernel,by decide +kernel⟩
noncomputable abbrev a4a:Stmt:=top 44
theorem M3:R3 ["_law_owns","_law_xs","_law_terms","_law_t","_law_number","_law_thing"] ["_law_owns","_law_xs"] (J0 a4a):=⟨rfl,rfl,rfl,by decide +kernel,rfl,by decide +kernel,by decide +kernel⟩
noncomputable abbrev a3R:Stmt:=top 45
theorem M2:R3 ["_law_row_here","_law_part","_law_names","_law_kind","_law_one","_law_xs","_law_when","_law_terms"] ["_law_row_here","_law_part","_law_names"] (J0 a3R):=⟨rfl,rfl,rfl,by decide +kernel,rfl,by decide +kernel,by decide +kernel⟩
noncomputable abbrev B0:Stmt:=top 46
theorem F9:R3 ["_law_house","_law_pool_here","_law_names","_law_parts_here","_law_name_here","_law_part"] ["_law_house","_law_pool_here"] (J0 B0):=⟨rfl,rfl,rfl,by decide +kernel,rfl,by decide +kernel,by decide +kernel⟩
noncomputable abbrev a2g:Stmt:=top 47
theorem a0G:R3 ["_law_script","_law_first","_law_own","_law_other"] ["_law_script"] (J0 a2g):=⟨rfl,rfl,rfl,by decide +kernel,rfl,by decide +kernel,by decide +kernel⟩
noncomputable abbrev a2q:Stmt:=top 48
theorem a0F:R3 ["_law_script","_law_house","_law_pools_here","_law_k"] ["_law_script"] (J0 a2q):=⟨rfl,rfl,rfl,by decide +kernel,rfl,by decide +kernel,by decide +kernel⟩
noncomputable abbrev B9:Stmt:=top 49
theorem O6:R3 ["_law_parts_here","_law_step","_law_some","_law_k","_law_name_here","_law_rows"] ["_law_parts_here","_law_step"] (J0 B9):=⟨rfl,rfl,rfl,by decide +kernel,rfl,by decide +kernel,by decide +kernel⟩
noncomputable abbrev a0L:Stmt:=top 50
theorem D0:R3 ["_law_rows_by","_law_root","_law_begun_here","_law_amid","_law_rows","_law_at"] ["_law_rows_by","_law_root"] (J0 a0L):=⟨rfl,rfl,rfl,by decide +kernel,rfl,by decide +kernel,by decide +kernel⟩
noncomputable abbrev a4f:Stmt:=top 51
theorem a0m:R3 ["_law_parts_here","_law_root","_law_rows_by","_law_name_here","_law_rows","_law_k"] ["_law_parts_here","_law_root"] (J0 a4f):=⟨rfl,rfl,rfl,by decide +kernel,rfl,by decide +kernel,by decide +kernel⟩
noncomputable abbrev a1i:Stmt:=top 52
theorem D9:R3 ["_law_parts_here","_law_root","_law_found","e","_law_other"] ["_law_parts_here","_law_root"] (J0 a1i):=⟨rfl,rfl,rfl,by decide +kernel,rfl,by decide +kernel,by decide +kernel⟩
noncomputable abbrev a2d:Stmt:=top 53
theorem a1K:R3 ["_law_parts_here","_law_root","_law_due_here","_law_found"] ["_law_parts_here","_law_root"] (J0 a2d):=⟨rfl,rfl,rfl,by decide +kernel,rfl,by decide +kernel,by decide +kernel⟩
noncomputable abbrev a7M:Stmt:=top 54
theorem a1U:R3 ["_law_script","_law_first","_law_parts_here","_law_step","_law_name_here","_law_rows","_law_root","_law_bare"] ["_law_script"] (J0 a7M):=⟨rfl,rfl,rfl,by decide +kernel,rfl,by decide +kernel,by decide +kernel⟩
structure Adr where
 BundleError:Addr
 Asks:Addr
 Endless:Addr
 NoMap:Addr
 NoName:Addr
 NoPart:Addr
 NoPlace:Addr
 NoRow:Addr
 NotGiven:Addr
 TooMany:Addr
 Twice:Addr
structure b1E(K:W.Frag)(mg:Str->Option Value)(A:Adr):Prop where
 m_BundleError:mg "BundleError"=some (.ref A.BundleError)
 m_Asks:mg "Asks"=some (.ref A.Asks)
 m_Endless:mg "Endless"=some (.ref A.Endless)
 m_NoMap:mg "NoMap"=some (.ref A.NoMap)
 m_NoName:mg "NoName"=some (.ref A.NoName)
 m_NoPart:mg "NoPart"=some (.ref A.NoPart)
 m_NoPlace:mg "NoPlace"=some (.ref A.NoPlace)
 m_NoRow:mg "NoRow"=some (.ref A.NoRow)
 m_NotGiven:mg "NotGiven"=some (.ref A.NotGiven)
 m_TooMany:mg "TooMany"=some (.ref A.TooMany)
 m_Twice:mg "Twice"=some (.ref A.Twice)
 k_Asks:XK1 K A.Asks
 i_bun:W.kitOne K (.ref A.Asks) (.ref A.BundleError)=some true
 i_val:W.kitOne K (.ref A.Asks) (.type "ValueError")=some true
 i_oth:W.kitAny K (.ref A.Asks) [.ref A.Endless,.ref A.NoMap,.ref A.NoName,.ref A.NoPart,.ref A.NoPlace,.ref A.NoRow,.ref A.NotGiven,.ref A.TooMany,.ref A.Twice]=some false
 s_Asks:W.mroIn K A.Asks (.ref A.Asks)=some true
 x_Asks:b5f K A.Asks "RefusedAt.__init__" Z0
 f_Asks_part:XF K A.Asks "part"
 f_Asks_row:XF K A.Asks "row"
 b_BundleError:XB K A.BundleError
structure Txt(K:W.Frag)(mg:Str->Option Value):Prop where
 n_len:mg "len"=none
 n_range:mg "range"=none
 n_str:mg "str"=none
 n_tuple:mg "tuple"=none
 n_list:mg "list"=none
 n_dict:mg "dict"=none
 n_enumerate:mg "enumerate"=none
 n_isinstance:mg "isinstance"=none
 n_min:mg "min"=none
 n_max:mg "max"=none
 n_zip:mg "zip"=none
 n_int:mg "int"=none
 n_bool:mg "bool"=none
 n_reversed:mg "reversed"=none
 n_ValueError:mg "ValueError"=none
 d_placed_rows:W2 K mg "placed_rows" a1m
 d_given_owns:W2 K mg "given_owns" a1J
 d_links:W2 K mg "links" a6N
 d_makers:W2 K mg "makers" a4R
 d_made:W2 K mg "made" a8K
 d_brings:W2 K mg "brings" a5i
 d_named_parts:W2 K mg "named_parts" a1j
 d_order:W2 K mg "order" a6P
 d_new_names:W2 K mg "new_names" a2n
 d_numbered:W2 K mg "numbered" a2R
 d_makers_names:W2 K mg "makers_names" a0P
 d_renamed_row:W2 K mg "renamed_row" a1l
 d_renamed_sum:W2 K mg "renamed_sum" a0q
 d_renamed_thing:W2 K mg "renamed_thing" a0v
 d_renamed_when:W2 K mg "renamed_when" a0N
 d_flat:W2 K mg "flat" a5A
 d_refuse_asks:W2 K mg "refuse_asks" a1h
 d_work_in_order:W2 K mg "work_in_order" a0B
 d_last_first:W2 K mg "last_first" a0H
 d_law_cell_at:W2 K mg "_law_cell_at" a1k
 d_law_stream:W2 K mg "_law_stream" a1z
 d_law_name:W2 K mg "_law_name" a2V
 d_law_pool:W2 K mg "_law_pool" a2T
 d_law_begun:W2 K mg "_law_begun" a2f
 d_law_fresh:W2 K mg "_law_fresh" a2o
 d_law_pairs:W2 K mg "_law_pairs" a2e
 d_law_added:W2 K mg "_law_added" a2i
 d_law_sum:W2 K mg "_law_sum" a4a
 d_law_row:W2 K mg "_law_row" a3R
 d_law_finished:W2 K mg "_law_finished" B0
 d_law_pools:W2 K mg "_law_pools" a2g
 d_law_parts:W2 K mg "_law_parts" a2q
 d_law_some_asks:W2 K mg "_law_some_asks" B9
 d_law_begun_by:W2 K mg "_law_begun_by" a0L
 d_law_due:W2 K mg "_law_due" a4f
 d_law_refused:W2 K mg "_law_refused" a1i
 d_law_right:W2 K mg "_law_right" a2d
 xs:∃A:Adr,b1E K mg A
noncomputable def a6L:Sp:=fun vs H Q _=>∃(a:Addr)(ps:List Pt)(n k:Str)(rs:List Rw),vs=[.ref a,.str n,.str k]/\(k="bring" \/k="ask")/\O9 H a ps/\(ps.map (·.1)).Nodup/\(n,rs)∈ps/\ps.length<=1000/\rs.length<=900/\
 ∀(p:Addr)(H':Hp),G8 H H'->H' p=some (.tup ((F4 k rs).map V.str))->Q (.ref p) H'
noncomputable def b4L (k:Str):Sp:=fun vs H Q _=>∃(a:Addr)(ps:List Pt)(n:Str)(rs:List Rw),vs=[.ref a,.str n]/\O9 H a ps/\(ps.map (·.1)).Nodup/\(n,rs)∈ps/\ps.length<=1000/\rs.length<=900/\
 ∀(p:Addr)(H':Hp),G8 H H'->H' p=some (.tup ((F4 k rs).map V.str))->Q (.ref p) H'
theorem a1f{K:W.Frag}{H:Hp}:∀{vs:List V}{ps:List Pt},Paired (a1G H) vs ps->∃qs:List (Str×V),Paired (fun v(p:Str×V)=>∃t,v= .ref t/\SqT K H t [.str p.1,p.2]) vs qs/\qs.map (·.1)=ps.map (·.1)/\∀n rs,(n,rs)∈ps->∃u ws,(n,V.ref u)∈qs/\H u=some (.tup ws)/\a0e H ws rs
 | _,_,.nil=>⟨[],.nil,rfl,fun n rs h=>by simp at h⟩
 | _,_,.cons (b:=p) ⟨t,u,ws,e,h1,h2,h3⟩ hr=>by
  obtain⟨qs,g1,g2,g3⟩:=a1f (K:=K) hr
  refine⟨(p.1,.ref u)::qs,.cons ⟨t,e,SqT.of h1⟩ g1,by rw[List.map_cons,List.map_cons,g2],fun n rs h=>?_⟩
  rcases List.mem_cons.mp h with z | z
  ·rw[<-z]at h1 h3⊢
   exact⟨u,ws,AM,h2,h3⟩
  ·obtain⟨u',ws',k1,k2⟩:=g3 n rs z
   exact⟨u',ws',AK _ k1,k2⟩
theorem R1.dK{H:Hp}{l:Addr}{kvs kvs':List (Key×V)}(h:H l=some (.dK kvs)):R1 H (upd H l (.dK kvs')):=fun b zs q=>by
 rw[I0 (a7E q h (by intro z;cases z))]
 exact q
section
variable{P:Program}{w:World}{K:W.Frag}{mg:Str->Option Value}{base:Heap}
theorem b0T:("abcdefghijklmnopqrstuvwxyz0123456789":Str).cps.toList.length=36:=by decide +kernel
theorem a4F:(a8u:Str)="abcdefghijklmnopqrstuvwxyz":=rfl
theorem a2t:("abcdefghijklmnopqrstuvwxyz":Str).length<=sizeLine:=by decide +kernel
theorem a8S:(("abcdefghijklmnopqrstuvwxyz":Str)++("0123456789":Str)).length<=sizeLine:=by decide +kernel
theorem a8i:(("abcdefghijklmnopqrstuvwxyz":Str)++("0123456789":Str))="abcdefghijklmnopqrstuvwxyz0123456789":=by decide +kernel
noncomputable def b6j:Sp:=fun vs H Q _=>∃b k:Int,vs=[.int b,.int k]/\0<=b/\b < 2147483647/\0<=k/\k < 1000/\∀H':Hp,G8 H H'->Q (.str (W8 b k)) H'
theorem a9Q(T:Txt K mg):L2.Cl P w K mg base 1 "_law_name" ["_law_base","_law_k"] b6j:=by
 refine Cl.of T.d_law_name O1 (fun vs H Q E h=>?_) (fun _ _ _ _ _ _ us hl=>by obtain⟨a,b,rfl⟩:=a1P hl;rfl) (fun f cdv A outer s H vs Q E hr h=>?_)
 ·obtain⟨b,k,rfl,_⟩:=h
  rfl
 ·obtain⟨b,k,rfl,hb,hb2,hk,hk2,q⟩:=h
  refine⟨_,(G7 (J3 (i:=2) O1.nd rfl (Or.inl rfl) U5)
   (G7 (J3 (i:=1) O1.nd rfl (Or.inl rfl) (J1 U1 (J1 Z6 (J1 E6 (pv 1) (J2 J4 (Y2 (G0 G2 (G0 G2 (G0 G2 (G0 G2 (G0 G2 (G0 G2 G6))))))) (J1 U1 (pv 0) G2) (fun _ _=>rfl))) (J1 W7 (pv 0) G2)) G2))
   (G7 (J3 (i:=0) O1.nd rfl (Or.inl rfl) (J1 W7 (pv 0) G2))
   (G7 (Y8 (R0 F3 (J1 U1 (pv 0) G2) G2 (U4 _))
    (G9 (R5 (J1 b0i (J2 a5B (pv 2) (J1 U1 (J1 Z6 (J1 W7 (pv 0) G2) (J1 W7 (pv 1) G2)) G2) (fun _ _=>rfl)) (J1 Z6 G2 (J1 U1 (pv 1) G2))))) U9)
   (G7 (Y8 (R0 F3 (J1 U1 (pv 0) G2) G2 (U4 _))
    (G9 (R5 (J1 M1 (J1 b0i (J2 a5B (pv 2) (J1 U1 (J1 W7 (pv 0) G2) G2) (fun _ _=>rfl)) (J1 Z6 G2 (J1 U1 (J1 W7 (pv 0) G2) G2))) (W3 a1F (by rfl) T.n_str boot_str (G0 (pv 1) G6))))) U9)
   (G7 (J3 (i:=3) O1.nd rfl (Or.inl rfl) (J1 Z6 G2 (J1 U1 (J1 W7 (pv 0) G2) G2)))
   (G7 (J3 (i:=4) O1.nd rfl (Or.inl rfl) U5)
   (G7 (Z7 AQ rfl (a0k (by rfl) T.n_range (G0 (pv 3) G6)) (J5 (i:=5) O1.nd rfl (Or.inl rfl))
    (G7 (J3 (i:=6) O1.nd rfl (Or.inl rfl) (J1 W7 (pv 0) (J1 Z6 G2 (J1 E6 (J1 E6 G2 (pv 5)) (pv 5)))))
    (G9 (Y8 (R0 F3 (pv 5) (J1 U1 (J1 W7 (pv 0) G2) (pv 3)) (U4 _))
     (G9 (J3 (i:=4) O1.nd rfl (Or.inl rfl) (J1 M1 (pv 4) (J2 a5B (pv 2) (J1 U1 (J1 Z6 (pv 6) (pv 1)) G2) (fun _ _=>rfl))))) (G9 (Y8 (R0 F3 (pv 5) G2 (U4 _))
      (G9 (J3 (i:=4) O1.nd rfl (Or.inl rfl) (J1 M1 (pv 4) (J2 a5B (pv 2) (J1 U1 (pv 6) G2) (fun _ _=>rfl))))) (G9 (J3 (i:=4) O1.nd rfl (Or.inl rfl) (J1 M1 (pv 4) (J2 a5B (J1 M1 (pv 2) U5) (J1 U1 (pv 6) G2) (fun _ _=>rfl)))))))))))
   (G9 (R5 (pv 4))))))))))),?_⟩
  have h6:0<=b % 6:=by omega
  have h7:b % 6 < 6:=by omega
  refine⟨_,rfl,(by show 6<=sizeLine;decide),fun l gl=>?_⟩
  have s1:G8 H (upd H l (.lst [.int 1,.int 5,.int 7,.int 11,.int 13,.int 23])):=(G8.refl H).new gl
  have hat:atI [V.int 1,V.int 5,V.int 7,V.int 11,V.int 13,V.int 23] (b % 6)=some (.int ([1,5,7,11,13,23].getD (b % 6).toNat 0)):=by
   have:(b % 6).toNat=0\/(b % 6).toNat=1\/(b % 6).toNat=2\/(b % 6).toNat=3\/(b % 6).toNat=4\/(b % 6).toNat=5:=by omega
   have e1:(((b % 6).toNat:Nat):Int)=b % 6:=by omega
   rw[<-e1]
   simp only[Int.toNat_natCast]
   rcases this with e | e | e | e | e | e<;>rw[e]<;>exact W9 rfl
  refine⟨_,rfl,_,_,rfl,rfl,(by show(0:Int) < 6;decide),l,_,_,_,rfl,rfl,SqL.of G1,hat,?_⟩
  refine⟨_,_,rfl,rfl,.inl ⟨by omega,by omega⟩,?_⟩
  refine⟨_,rfl,_,_,rfl,rfl,⟨by decide,by decide⟩,_,_,rfl,rfl,_,_,rfl,rfl,(by show(0:Int) < 24;decide),?_⟩
  refine⟨_,rfl,_,_,rfl,rfl,⟨by decide,by decide⟩,?_⟩
  obtain⟨r1,r2⟩:=a2v b k
  have q':∀H':Hp,G8 (upd H l (.lst [.int 1,.int 5,.int 7,.int 11,.int 13,.int 23])) H'->Q (.str (W8 b k)) H':=fun H' s2=>q H' (s1.trans s2)
  clear hat
  have hb':0<=b/144:=by omega
  have hb3:b/144 < 2147483647:=by omega
  have q2:∀H':Hp,G8 (upd H l (.lst [.int 1,.int 5,.int 7,.int 11,.int 13,.int 23])) H'->∀x,x=W8 b k->Q (.str x) H':=fun H' s2 x e=>by rw[e];exact q' H' s2
  clear q'
  unfold W8 at q2
  show a0s 0 (V.int (b/144)) [some (.int b),some (.int (a1N b k)),some (.str "abcdefghijklmnopqrstuvwxyz"),none,none,none,none] _ _
  generalize upd H l (.lst [.int 1,.int 5,.int 7,.int 11,.int 13,.int 23])=H1 at q2⊢
  generalize a1N b k=k' at r1 r2 q2⊢
  generalize b/144=b' at hb' hb3 q2⊢
  simp only at q2
  refine⟨_,rfl,_,_,rfl,rfl,(by show(0:Int) < 4;decide),rfl,_,rfl,a6B (fun e1=>?_) (fun e1=>?_)⟩
  ·rw[if_pos e1]at q2
   refine⟨_,rfl,_,rfl,_,_,rfl,rfl,⟨by decide,by decide⟩,_,rfl,_,_,rfl,rfl,⟨by decide,by decide⟩,_,_,rfl,rfl,_,_,rfl,rfl,(by show(0:Int) < 26;decide),_,_,_,rfl,rfl,a2t,a1r _ 0 (by omega) (by rw[<-a4F,a3o];omega),?_⟩
   refine⟨_,rfl,_,_,rfl,rfl,(by show(0:Int) < 8;decide),_,_,rfl,rfl,_,_,rfl,rfl,(by omega),(by omega),?_⟩
   exact q2 _ (G8.refl _) _ rfl
  ·rw[if_neg e1]at q2
   refine⟨_,rfl,_,_,rfl,rfl,(by show(0:Int) < 4;decide),rfl,_,rfl,a6B (fun e2=>?_) (fun e2=>?_)⟩
   ·rw[if_pos e2]at q2
    refine⟨_,rfl,_,rfl,_,_,rfl,rfl,⟨by decide,by decide⟩,_,_,rfl,rfl,(by show(0:Int) < 26;decide),_,_,_,rfl,rfl,a2t,a1r _ 0 (by omega) (by rw[<-a4F,a3o];omega),?_⟩
    refine⟨_,rfl,_,_,rfl,rfl,⟨by decide,by decide⟩,_,_,rfl,rfl,(by show(0:Int) < 6;decide),_,_,rfl,rfl,_,_,rfl,rfl,(by omega),(by omega),?_⟩
    refine⟨_,rfl,_,rfl,?_,_,_,rfl,rfl,?_,?_⟩
    ·exact Nat.lt_of_le_of_lt (Nat.log2_le_self _) (by omega)
    ·obtain⟨n1,n2⟩:=a3B (n:=k') r1 (by omega)
     have n3:(Str.ofString (toString k')).length<=60:=by
      have:=congrArg List.length n1
      rw[List.length_map,Array.length_toList]at this
      show(Str.ofString (toString k')).cps.size<=60
      omega
     have n4:(⟨(List.replicate (1+b'/104 % 6).toNat (a8u.cps.toList.getD (b'/4 % 26).toNat 0)).toArray⟩:Str).length<=6:=by
      show(List.replicate (1+b'/104 % 6).toNat (a8u.cps.toList.getD (b'/4 % 26).toNat 0)).toArray.size<=6
      rw[List.size_toArray,List.length_replicate];omega
     exact Nat.le_of_lt (J6 (by
      have n4':(⟨(List.replicate (1+b'/104 % 6).toNat (("abcdefghijklmnopqrstuvwxyz":Str).cps.toList.getD (b'/4 % 26).toNat 0)).toArray⟩:Str).length<=6:=n4
      omega))
    ·exact q2 _ (G8.refl _) _ rfl
   ·rw[if_neg e2]at q2
    have hz1:0 < 1+b'/4 % 8:=by omega
    have hz2:1+b'/4 % 8<=8:=by omega
    refine⟨_,rfl,_,_,rfl,rfl,⟨by decide,by decide⟩,_,_,rfl,rfl,(by show(0:Int) < 8;decide),_,_,rfl,rfl,?_⟩
    show a0s 3 (V.int (1+b'/4 % 8)) [some (.int b'),some (.int k'),some (.str "abcdefghijklmnopqrstuvwxyz"),none,none,none,none] _ _
    generalize 1+b'/4 % 8=z at q2 hz1 hz2⊢
    refine⟨_,rfl,_,rfl,(by omega),(by omega),M9 (fun i σ H2=>H2=H1/\∃v5 v6:Option V,σ=[some (.int b'),some (.int k'),some (.str "abcdefghijklmnopqrstuvwxyz"),some (.int z),some (.str ⟨(nm3 b' k' z i).toArray⟩),v5,v6])
     ⟨rfl,none,none,rfl⟩ ?_ ?_⟩
    ·rintro i σ H2 hi ⟨rfl,v5,v6,rfl⟩
     have hi8:i<=7:=by omega
     have hsq:(11*(i:Int))*(i:Int)<=539/\0<=(11*(i:Int))*(i:Int):=by
      have:i=0\/i=1\/i=2\/i=3\/i=4\/i=5\/i=6\/i=7:=by omega
      rcases this with e | e | e | e | e | e | e | e<;>subst e<;>decide
     have hnl:(⟨(nm3 b' k' z i).toArray⟩:Str).length=i:=by
      show(nm3 b' k' z i).toArray.size=i
      rw[List.size_toArray,a2E]
     have hst:∀(c:Nat),nm3 b' k' z (i+1)=nm3 b' k' z i++[c]->(⟨(nm3 b' k' z i).toArray⟩:Str)++(⟨#[c]⟩:Str)=⟨(nm3 b' k' z (i+1)).toArray⟩:=fun c e=>by
      rw[e]
      show(⟨(nm3 b' k' z i).toArray++ #[c]⟩:Str)=_
      simp
     have hlen1:∀c:Nat,(⟨(nm3 b' k' z i).toArray⟩:Str).length+(⟨#[c]⟩:Str).length<=sizeLine:=fun c=>by
      rw[hnl]
      exact Nat.le_of_lt (J6 (by show i+1<=1000;omega))
     rw[Int.zero_add]
     refine⟨_,rfl,_,rfl,_,_,rfl,rfl,.inl ⟨by decide,by decide⟩,_,rfl,_,_,rfl,rfl,.inl ⟨by omega,by omega⟩,_,_,rfl,rfl,_,_,rfl,rfl,⟨by omega,by omega⟩,?_⟩
     refine⟨_,rfl,_,rfl,_,_,rfl,rfl,⟨by decide,by decide⟩,_,rfl,_,_,rfl,rfl,hz1,rfl,_,rfl,a6B (fun e3=>?_) (fun e3=>?_)⟩
     ·refine⟨_,rfl,_,rfl,_,rfl,_,rfl,_,_,rfl,rfl,_,_,rfl,rfl,(by show(0:Int) < 26;decide),_,_,_,rfl,rfl,a2t,a1r _ 0 (by omega) (by rw[<-a4F,a3o];omega),_,_,rfl,rfl,hlen1 _,?_⟩
      rw[hst _ (by show nm3 b' k' z i++[_]=_;rw[if_pos e3];rfl)]
      exact⟨rfl,_,_,rfl⟩
     ·refine⟨_,rfl,rfl,_,rfl,a6B (fun e4=>?_) (fun e4=>?_)⟩
      ·refine⟨_,rfl,_,rfl,_,rfl,_,_,rfl,rfl,(by show(0:Int) < 26;decide),_,_,_,rfl,rfl,a2t,a1r _ 0 (by omega) (by rw[<-a4F,a3o];omega),_,_,rfl,rfl,hlen1 _,?_⟩
       rw[hst _ (by show nm3 b' k' z i++[_]=_;rw[if_neg e3,if_pos e4];rfl)]
       exact⟨rfl,_,_,rfl⟩
      ·refine⟨_,rfl,_,rfl,_,_,rfl,rfl,(by decide +kernel),_,rfl,_,_,rfl,rfl,(by show(0:Int) < 36;decide),_,_,_,rfl,rfl,a8S,a1r _ 0 (by omega) (by rw[a8i,b0T];omega),_,_,rfl,rfl,hlen1 _,?_⟩
       rw[hst _ (by show nm3 b' k' z i++[_]=_;rw[if_neg e3,if_neg e4,a8i];rfl)]
       exact⟨rfl,_,_,rfl⟩
    ·rintro σ H2 ⟨rfl,v5,v6,rfl⟩
     exact⟨_,rfl,q2 _ (G8.refl _) _ rfl⟩
noncomputable def b6o (K:W.Frag):Sp:=fun vs H Q _=>∃(a:Addr)(ns:List Int)(k:Int),vs=[.ref a,.int k]/\SqL K H a (ns.map V.int)/\0<=k/\∀c:Int,Q (.int c) H
noncomputable def Bnd (ns:List Int):Prop:=∀n∈ns,0<=n/\n < 2147483647
noncomputable def b1Y:Sp:=fun vs H Q _=>∃(c k:Int),vs=[.int c,.int k]/\0<=k/\k < 1000/\∀(l:Addr)(xs:List Int)(H':Hp),G8 H H'->H l=none->H' l=some (.lst (xs.map V.int))->xs.length=6->Bnd xs->Q (.ref l) H'
noncomputable def b5u (K:W.Frag):Sp:=fun vs H Q _=>∃(a:Addr)(ns:List Int)(k:Int),vs=[.ref a,.int k]/\SqL K H a (ns.map V.int)/\0<=k/\∀c:Int,0<=c->c < 2147483647->Q (.int c) H
theorem a3C(T:Txt K mg):L2.Cl P w K mg base 1 "_law_cell_at" ["_law_script","_law_k"] (b6o K):=by
 refine Cl.of T.d_law_cell_at a5a (fun vs H Q E h=>?_) (fun _ _ _ _ _ _ us hl=>by obtain⟨a,b,rfl⟩:=a1P hl;rfl) (fun f cdv A outer s H vs Q E hr h=>?_)
 ·obtain⟨a,ns,k,rfl,_⟩:=h
  rfl
 ·obtain⟨a,ns,k,rfl,hS,hk,q⟩:=h
  refine⟨_,(G7 (Y8 (R0 a6D (pv 1) (R4 J9 (by rfl) T.n_len PySem.boot_len (G0 (pv 0) G6)) (U4 _))
    (G9 (R5 (J2 J4 (pv 0) (pv 1) (fun _ _=>rfl)))) U9)
   (G9 (R5 G2))),?_⟩
  refine⟨_,rfl,_,rfl,a,_,rfl,.inl hS,_,_,rfl,rfl,_,rfl,?_⟩
  refine a4X (fun hlt=>?_) (fun hlt=>?_)
  ·have hlt':k < (ns.length:Int):=by simpa using hlt
   refine⟨_,rfl,_,rfl,a,_,_,_,rfl,rfl,hS,Y0 V.int ns 0 hk hlt',?_⟩
   exact q _
  ·exact q 0
theorem b4d(T:Txt K mg):L2.Cl P w K mg base 2 "_law_pool" ["_law_script","_law_k"] (b5u K):=by
 have C_law_cell_at:=a3C (P:=P) (w:=w) (base:=base) T
 refine Cl.of T.d_law_pool a8s (fun vs H Q E h=>?_) (fun _ _ _ _ _ _ us hl=>by obtain⟨a,b,rfl⟩:=a1P hl;rfl) (fun f cdv A outer s H vs Q E hr h=>?_)
 ·obtain⟨a,ns,k,rfl,_⟩:=h
  rfl
 ·obtain⟨a,ns,k,rfl,hS,hk,q⟩:=h
  refine⟨_,(G9 (R5 (J1 U1 (J1 E6 (W4 C_law_cell_at hr (by rfl) (G0 (pv 0) (G0 (pv 1) G6))) G2) G2))),?_⟩
  refine⟨_,rfl,_,rfl,a,ns,k,rfl,hS,hk,fun c=>?_⟩
  refine⟨_,_,rfl,rfl,.inr ⟨by decide,by decide⟩,_,_,rfl,rfl,(by show(0:Int) < 2147483647;decide),q _ (by omega) (by omega)⟩
theorem b1t(T:Txt K mg):L2.Cl P w K mg base 1 "_law_stream" ["_law_cell","_law_k"] b1Y:=by
 refine Cl.of T.d_law_stream B7 (fun vs H Q E h=>?_) (fun _ _ _ _ _ _ us hl=>by obtain⟨a,b,rfl⟩:=a1P hl;rfl) (fun f cdv A outer s H vs Q E hr h=>?_)
 ·obtain⟨c,k,rfl,_⟩:=h
  rfl
 ·obtain⟨c,k,rfl,hk1,hk2,q⟩:=h
  refine⟨_,(G7 (J3 (i:=2) B7.nd rfl (Or.inl rfl) (Y2 G6))
   (G7 (J3 (i:=3) B7.nd rfl (Or.inl rfl) (J1 Z6 (J1 Z6 (J1 U1 (pv 0) G2) (J1 E6 (J1 E6 G2 (pv 1)) (pv 1))) G2))
   (G7 (Z7 AQ rfl (a1a (Y2 (G0 G2 (G0 G2 (G0 G2 (G0 G2 (G0 G2 (G0 G2 G6)))))))) (J5 (i:=4) B7.nd rfl (Or.inl rfl))
    (G7 (J3 (i:=3) B7.nd rfl (Or.inl rfl) (J1 U1 (J1 Z6 (J1 Z6 (J1 E6 (pv 3) (pv 3)) (J1 E6 (pv 4) (pv 3))) (pv 1)) G2))
    (G9 (Y5 (B4 PySem.F.plainAttrs_list PySem.F.slot_list_append PySem.F.type_list_append Z8 (pv 2) (G0 (pv 3) G6))))))
   (G9 (R5 (pv 2)))))),?_⟩
  refine⟨a0W,fun l hl=>?_⟩
  have s1:G8 H (upd H l (.lst [])):=(G8.refl H).new hl
  have hkk:48271*k*k<=48271*1000*1000:=Int.mul_le_mul (by omega) (by omega) hk1 (by decide)
  have hkk0:0<=48271*k*k:=Int.mul_nonneg (by omega) hk1
  refine⟨_,rfl,_,_,rfl,rfl,(by show(0:Int) < 2147483647;decide),_,rfl,_,_,rfl,rfl,.inl ⟨by decide,by decide⟩,_,rfl,_,_,rfl,rfl,.inl ⟨by omega,by omega⟩,_,_,rfl,rfl,_,_,rfl,rfl,?_⟩
  have z0a:0<=c % 2147483647+48271*k*k+7:=by omega
  have z0b:c % 2147483647+48271*k*k+7 < 1000000000000:=by omega
  refine⟨(by show 6<=sizeLine;decide),fun b hb=>?_⟩
  have hlb:l≠b:=R6 (G1 (H:=H) (a:=l) (o:= .lst [])) hb
  refine⟨b,rfl,⟨_,SqL.of G1⟩,a1W (K:=K) (a:=b) (xs:=[.int 48271,.int 69621,.int 16807,.int 39373,.int 62089,.int 40692]) (fun i σ H2=>∃(zs:List Int)(z:Int)(v4:Option V),σ=[some (.int c),some (.int k),some (.ref l),some (.int z),v4]/\G8 H H2/\H2 l=some (.lst (zs.map V.int))/\H2 b=some (.lst [.int 48271,.int 69621,.int 16807,.int 39373,.int 62089,.int 40692])/\zs.length=i/\Bnd zs/\0<=z/\z < 1000000000000)
   ⟨[],_,none,rfl,s1.new hb,U3 G1 hb,G1,rfl,(fun n hn=>by simp at hn),z0a,z0b⟩ (fun i σ H2 _⟨_,_,_,_,_,_,h,_⟩=>SqL.of h) ?_ ?_⟩
  ·rintro i x σ H2 hx ⟨zs,z,v4,rfl,s2,hl2,hb2,hlen,hbd,hz0,hz1⟩
   have hi:i < 6:=(List.getElem?_eq_some_iff.mp hx).1
   obtain⟨n,rfl,hn0,hn1⟩:∃n:Int,x= .int n/\0<=n/\n<=70000:=by
    have:=AG hx
    simp only[List.mem_cons,List.not_mem_nil,or_false]at this
    rcases this with rfl | rfl | rfl | rfl | rfl | rfl<;>exact⟨_,rfl,by decide,by decide⟩
   refine⟨_,rfl,_,rfl,_,_,rfl,rfl,.inl ⟨by omega,by omega⟩,_,rfl,_,rfl,_,_,rfl,rfl,.inl ⟨by omega,by omega⟩,_,_,rfl,rfl,_,rfl,_,_,rfl,rfl,_,_,rfl,rfl,(by show(0:Int) < 2147483647;decide),?_⟩
   generalize z*z+n*z+k=y
   refine⟨_,rfl,.inl ⟨rfl,_,SqL.of hl2⟩,_,rfl,l,_,_,rfl,rfl,hl2,J6 (by rw[List.length_map];omega),?_⟩
   refine⟨zs++[y % 2147483647],y % 2147483647,_,rfl,s2.put hl,by rw[G1,List.map_append];rfl,by rw[I0 hlb.symm];exact hb2,by simp[hlen],fun n hn=>?_,by omega,by omega⟩
   rcases AL.mp hn with h | h
   ·exact hbd n h
   ·rw[AD.mp h];omega
  ·rintro σ H2 ⟨zs,z,v4,rfl,s2,hl2,hb2,hlen,hbd,hz0,hz1⟩
   exact⟨_,rfl,q l zs _ s2 hl hl2 hlen hbd⟩
noncomputable def New (H0:Hp) (l:Addr) (A:List Q4):Prop:=H0 l=none/\∀(i:Nat)(q:Q4)(x:Nat),A[i]?=some q->x < 4->H0 (q.nth x)=none
noncomputable def b1x (hs:List Pp):Prop:=∀pp∈hs,pp.rows=[]/\pp.owns=[]/\pp.gives=[]/\0<=pp.sh/\pp.sh < 100
noncomputable def b3N (K:W.Frag):Sp:=fun vs H Q _=>∃(a:Addr)(ns:List Int),vs=[.ref a]/\SqL K H a (ns.map V.int)/\∀(l:Addr)(A:List Q4)(hs:List Pp)(H':Hp),G8 H H'->R7 H' l A [] hs->New H l A->1<=hs.length->hs.length<=24->b1x hs->Q (.ref l) H'
theorem New.snoc{H:Hp}{l:Addr}{A:List Q4}{q:Q4}(h:New H l A)(hq:∀x,x < 4->H (q.nth x)=none):New H l (A++[q]):=by
 refine⟨h.1,fun i u x e hx=>?_⟩
 by_cases hi:i < A.length
 ·rw[List.getElem?_append_left hi]at e
  exact h.2 i u x e hx
 ·rw[List.getElem?_append_right (by omega)]at e
  have h0:i - A.length=0:=by
   have:=(List.getElem?_eq_some_iff.mp e).1
   simp only[List.length_singleton]at this
   omega
  rw[h0]at e
  simp only[List.getElem?_cons_zero,Option.some.injEq]at e
  rw[<-e]
  exact hq x hx
theorem lt4{x:Nat}(h:x < 4):x=0\/x=1\/x=2\/x=3:=by omega
theorem b2e{H:Hp}{l:Addr}(h:H l=some (.lst [])):R7 H l [] [] []:=⟨h,rfl,fun i q pp e=>by simp at e,fun i q x e=>by simp at e,fun d hd=>by simp at hd,fun i j q u x y e=>by simp at e⟩
theorem a5y{H H2:Hp}{l r o g p:Addr}{A:List Q4}{hs:List Pp}{c:Int}(s2:G8 H H2)(hh:R7 H2 l A [] hs)(hn:New H l A)(hb:b1x hs)(hc0:0<=c)(hc1:c < 100)(gr:H2 r=none)(go:upd H2 r (.lst []) o=none)(gg:upd (upd H2 r (.lst [])) o (.lst []) g=none)
  (gp:upd (upd (upd H2 r (.lst [])) o (.lst [])) g (.lst []) p=none):
  R7 (upd (upd (upd (upd (upd H2 r (.lst [])) o (.lst [])) g (.lst [])) p (.lst [.ref r,.ref o,.ref g,.int c])) l (.lst ((A.map fun q=>V.ref q.p)++[.ref p]))) l (A++[⟨p,r,o,g⟩]) [] (hs++[⟨[],[],[],c⟩])/\New H l (A++[⟨p,r,o,g⟩])/\b1x (hs++[⟨[],[],[],c⟩]):=by
 have hro:r≠o:=R6 (G1 (H:=H2) (a:=r) (o:= .lst [])) go
 have hrg:r≠g:=R6 (U3 (G1 (H:=H2) (a:=r) (o:= .lst [])) go) gg
 have hrp:r≠p:=R6 (U3 (U3 (G1 (H:=H2) (a:=r) (o:= .lst [])) go) gg) gp
 have hog:o≠g:=R6 (G1 (H:=upd H2 r (.lst [])) (a:=o) (o:= .lst [])) gg
 have hop:o≠p:=R6 (U3 (G1 (H:=upd H2 r (.lst [])) (a:=o) (o:= .lst [])) gg) gp
 have hgp:g≠p:=R6 (G1 (H:=upd (upd H2 r (.lst [])) o (.lst [])) (a:=g) (o:= .lst [])) gp
 have no:H2 o=none:=by rw[I0 hro.symm]at go;exact go
 have ng:H2 g=none:=by rw[I0 hog.symm,I0 hrg.symm]at gg;exact gg
 have np:H2 p=none:=by rw[I0 hgp.symm,I0 hop.symm,I0 hrp.symm]at gp;exact gp
 have hnew:∀x,x < 4->H2 ((⟨p,r,o,g⟩:Q4).nth x)=none:=fun x hx=>by
  rcases lt4 hx with rfl | rfl | rfl | rfl
  ·exact np
  ·exact gr
  ·exact no
  ·exact ng
 have S:G8 H2 (upd (upd (upd (upd H2 r (.lst [])) o (.lst [])) g (.lst [])) p (.lst [.ref r,.ref o,.ref g,.int c])):=((((G8.refl H2).new gr).new go).new gg).new gp
 refine⟨R7.add hh S hnew (fun x y hx hy z=>?_) G1 ?_ ?_ ?_,hn.snoc fun x hx=>s2.free (hnew x hx),fun pp hpp=>?_⟩
 ·rcases lt4 hx with rfl | rfl | rfl | rfl<;>rcases lt4 hy with rfl | rfl | rfl | rfl<;>first | rfl | (exfalso;first | exact hro z | exact hro z.symm | exact hrg z | exact hrg z.symm | exact hrp z | exact hrp z.symm | exact hog z | exact hog z.symm | exact hop z | exact hop z.symm | exact hgp z | exact hgp z.symm)
 ·exact U3 (U3 (U3 G1 go) gg) gp
 ·exact U3 (U3 G1 gg) gp
 ·exact U3 G1 gp
 ·rcases AL.mp hpp with z | z
  ·exact hb pp z
  ·rw[AD.mp z]
   exact⟨rfl,rfl,rfl,hc0,hc1⟩
theorem b3z(T:Txt K mg):L2.Cl P w K mg base 2 "_law_begun" ["_law_script"] (b3N K):=by
 have C_law_cell_at:=a3C (P:=P) (w:=w) (base:=base) T
 refine Cl.of T.d_law_begun B2 (fun vs H Q E h=>?_) (fun _ _ _ _ _ _ us hl=>by obtain⟨a,rfl⟩:=a5N hl;rfl) (fun f cdv A outer s H vs Q E hr h=>?_)
 ·obtain⟨a,ns,rfl,_⟩:=h
  rfl
 ·obtain⟨a,ns,rfl,hS,q⟩:=h
  refine⟨_,(G7 (J3 (i:=1) B2.nd rfl (Or.inl rfl) (W4 C_law_cell_at hr (by rfl) (G0 (pv 0) (G0 G2 G6))))
   (G7 (J3 (i:=2) B2.nd rfl (Or.inl rfl) (J1 Z6 G2 (J1 U1 (pv 1) G2)))
   (G7 (Y8 (R0 F3 (J1 U1 (J1 W7 (pv 1) G2) G2) G2 (U4 _))
    (G9 (J3 (i:=2) B2.nd rfl (Or.inl rfl) (J1 Z6 G2 (J1 U1 (J1 W7 (pv 1) G2) G2)))) U9)
   (G7 (J3 (i:=3) B2.nd rfl (Or.inl rfl) (Y2 G6))
   (G7 (Z7 AQ rfl (a0k (by rfl) T.n_range (G0 (pv 2) G6)) (J5 (i:=4) B2.nd rfl (Or.inl rfl))
    (G9 (Y5 (B4 PySem.F.plainAttrs_list PySem.F.slot_list_append PySem.F.type_list_append Z8 (pv 3) (G0 (Y2 (G0 (Y2 G6) (G0 (Y2 G6) (G0 (Y2 G6) (G0 (J1 E6 (pv 4) (J1 U1 (J1 W7 (pv 1) G2) G2)) G6))))) G6)))))
   (G9 (R5 (pv 3)))))))),?_⟩
  refine⟨_,rfl,a,ns,0,rfl,hS,(by decide),fun c=>?_⟩
  refine⟨_,rfl,_,_,rfl,rfl,(by show(0:Int) < 6;decide),_,_,rfl,rfl,?_⟩
  refine⟨_,rfl,_,_,rfl,rfl,⟨by decide,by decide⟩,_,_,rfl,rfl,(by show(0:Int) < 8;decide),rfl,_,rfl,a6B (fun e1=>?_) (fun e1=>?_)⟩
  ·refine⟨_,rfl,_,_,rfl,rfl,⟨by decide,by decide⟩,_,_,rfl,rfl,(by show(0:Int) < 24;decide),_,_,rfl,rfl,?_⟩
   have hm1:1<=1+c/48 % 24:=by omega
   have hm2:1+c/48 % 24<=24:=by omega
   show a0s 2 (V.int (1+c/48 % 24)) _ _ _
   generalize 1+c/48 % 24=m at hm1 hm2⊢
   refine⟨a0W,fun l hl=>?_⟩
   have s1:G8 H (upd H l (.lst [])):=(G8.refl H).new hl
   refine⟨_,rfl,_,rfl,(by omega),(by omega),M9 (fun i σ H2=>∃(A:List Q4)(hs:List Pp)(v4:Option V),σ=[some (.ref a),some (.int c),some (.int m),some (.ref l),v4]/\G8 H H2/\R7 H2 l A [] hs/\New H l A/\hs.length=i/\b1x hs)
    ⟨[],[],none,rfl,s1,b2e G1,⟨hl,fun i q x e=>by simp at e⟩,rfl,fun pp hpp=>by simp at hpp⟩ ?_ ?_⟩
   ·rintro i σ H2 hi ⟨A,hs,v4,rfl,s2,hh,hn,hlen,hb⟩
    have hk0:0<=(0+(i:Int)):=by omega
    have hk1:(0+(i:Int))<=23:=by omega
    generalize 0+(i:Int)=k at hk0 hk1⊢
    have hc1:0<=c/6 % 5:=by omega
    have hc2:c/6 % 5<=4:=by omega
    have hm0:0<=k*(c/6 % 5):=Int.mul_nonneg hk0 hc1
    have hm3:k*(c/6 % 5)<=23*4:=Int.mul_le_mul hk1 hc2 hc1 (by decide)
    refine⟨_,rfl,.inl ⟨rfl,_,SqL.of hh.ll⟩,a0W,fun r gr=>⟨a0W,fun o go=>⟨a0W,fun g gg=>?_⟩⟩⟩
    refine⟨_,rfl,_,rfl,_,_,rfl,rfl,⟨by decide,by decide⟩,_,_,rfl,rfl,(by show(0:Int) < 5;decide),_,_,rfl,rfl,.inl ⟨by omega,by omega⟩,(by show 4<=sizeLine;decide),fun p gp=>?_⟩
    obtain⟨S1,S2,S3⟩:=a5y s2 hh hn hb hm0 (by omega) gr go gg gp
    have hll:=(((((G8.refl H2).new gr).new go).new gg).new (o:= .lst [.ref r,.ref o,.ref g,.int (k*(c/6 % 5))]) gp) _ _ hh.ll
    refine⟨l,_,_,rfl,rfl,hll,J6 (by rw[List.length_map,hh.len];omega),?_⟩
    exact⟨_,_,_,rfl,((((s2.new gr).new go).new gg).new gp).put hl,S1,S2,by rw[List.length_append,hlen];rfl,S3⟩
   ·rintro σ H2 ⟨A,hs,v4,rfl,s2,hh,hn,hlen,hb⟩
    exact⟨_,rfl,q l A hs _ s2 hh hn (by omega) (by omega) hb⟩
  ·have hm1:1<=1+c % 6:=by omega
   have hm2:1+c % 6<=24:=by omega
   show a4W _ [some (.ref a),some (.int c),some (.int (1+c % 6)),none,none] _
   generalize 1+c % 6=m at hm1 hm2⊢
   refine⟨a0W,fun l hl=>?_⟩
   have s1:G8 H (upd H l (.lst [])):=(G8.refl H).new hl
   refine⟨_,rfl,_,rfl,(by omega),(by omega),M9 (fun i σ H2=>∃(A:List Q4)(hs:List Pp)(v4:Option V),σ=[some (.ref a),some (.int c),some (.int m),some (.ref l),v4]/\G8 H H2/\R7 H2 l A [] hs/\New H l A/\hs.length=i/\b1x hs)
    ⟨[],[],none,rfl,s1,b2e G1,⟨hl,fun i q x e=>by simp at e⟩,rfl,fun pp hpp=>by simp at hpp⟩ ?_ ?_⟩
   ·rintro i σ H2 hi ⟨A,hs,v4,rfl,s2,hh,hn,hlen,hb⟩
    have hk0:0<=(0+(i:Int)):=by omega
    have hk1:(0+(i:Int))<=23:=by omega
    generalize 0+(i:Int)=k at hk0 hk1⊢
    have hc1:0<=c/6 % 5:=by omega
    have hc2:c/6 % 5<=4:=by omega
    have hm0:0<=k*(c/6 % 5):=Int.mul_nonneg hk0 hc1
    have hm3:k*(c/6 % 5)<=23*4:=Int.mul_le_mul hk1 hc2 hc1 (by decide)
    refine⟨_,rfl,.inl ⟨rfl,_,SqL.of hh.ll⟩,a0W,fun r gr=>⟨a0W,fun o go=>⟨a0W,fun g gg=>?_⟩⟩⟩
    refine⟨_,rfl,_,rfl,_,_,rfl,rfl,⟨by decide,by decide⟩,_,_,rfl,rfl,(by show(0:Int) < 5;decide),_,_,rfl,rfl,.inl ⟨by omega,by omega⟩,(by show 4<=sizeLine;decide),fun p gp=>?_⟩
    obtain⟨S1,S2,S3⟩:=a5y s2 hh hn hb hm0 (by omega) gr go gg gp
    have hll:=(((((G8.refl H2).new gr).new go).new gg).new (o:= .lst [.ref r,.ref o,.ref g,.int (k*(c/6 % 5))]) gp) _ _ hh.ll
    refine⟨l,_,_,rfl,rfl,hll,J6 (by rw[List.length_map,hh.len];omega),?_⟩
    exact⟨_,_,_,rfl,((((s2.new gr).new go).new gg).new gp).put hl,S1,S2,by rw[List.length_append,hlen];rfl,S3⟩
   ·rintro σ H2 ⟨A,hs,v4,rfl,s2,hh,hn,hlen,hb⟩
    exact⟨_,rfl,q l A hs _ s2 hh hn (by omega) (by omega) hb⟩
noncomputable def b3Q:Sp:=fun vs H Q _=>∃(p r o g:Addr)(b k sh:Int),vs=[.ref p,.int b,.int k]/\H p=some (.lst [.ref r,.ref o,.ref g,.int sh])/\0<=b/\b < 2147483647/\0<=k/\∀H':Hp,G8 H H'->Q (.str (W8 b ((k+sh) % 24))) H'
theorem a7J(T:Txt K mg):L2.Cl P w K mg base 2 "_law_fresh" ["_law_part","_law_pool_here","_law_k"] b3Q:=by
 have C_law_name:=a9Q (P:=P) (w:=w) (base:=base) T
 refine Cl.of T.d_law_fresh a6Z (fun vs H Q E h=>?_) (fun _ _ _ _ _ _ us hl=>by obtain⟨a,b,c,rfl⟩:=a7l hl;rfl) (fun f cdv A outer s H vs Q E hr h=>?_)
 ·obtain⟨p,r,o,g,b,k,sh,rfl,_⟩:=h
  rfl
 ·obtain⟨p,r,o,g,b,k,sh,rfl,hp,hb0,hb1,hk,q⟩:=h
  refine⟨_,(G9 (R5 (W4 C_law_name hr (by rfl) (G0 (pv 1) (G0 (J1 U1 (J1 Z6 (pv 2) (J2 J4 (pv 0) G2 (fun _ _=>rfl))) G2) G6))))),?_⟩
  refine⟨_,rfl,_,rfl,_,rfl,p,_,_,_,rfl,rfl,SqL.of hp,rfl,_,_,rfl,rfl,_,_,rfl,rfl,(by show(0:Int) < 24;decide),?_⟩
  exact⟨b,(k+sh) % 24,rfl,hb0,hb1,by omega,by omega,q⟩
noncomputable def D1 (l:Addr) (A:List Q4) (H H':Hp):Prop:=∀a o,¬inH l A [] a->H a=some o->H' a=some o
structure a2I(H:Hp)(pl l:Addr)(A:List Q4)(b0 b1 b2:Int):Prop where
 h:H pl=some (.lst [.int b0,.int b1,.int b2])
 n:¬inH l A [] pl
 r0:0<=b0/\b0 < 2147483647
 r1:0<=b1/\b1 < 2147483647
 r2:0<=b2/\b2 < 2147483647
noncomputable def b3F:Sp:=fun vs H Q _=>∃(l pl x:Addr)(A:List Q4)(hs:List Pp)(b0 b1 b2:Int)(i j n:Nat)(pp pq:Pp)(xs:List Int),vs=[.ref l,.ref pl,.int i,.int j,.ref x]/\R7 H l A [] hs/\a2I H pl l A b0 b1 b2/\a7s H (inH l A []) x xs/\xs.length=6/\Bnd xs/\
 hs[i]?=some pp/\hs[j]?=some pq/\i≠j/\pp.owns=W5 b0 pp.sh n/\n<=17/\(∀y∈pq.gives,F7 y)/\pq.gives.length<=100/\
 ∀(m:Nat)(ps:List (Str×Str))(q:Addr)(H':Hp),m<=6->ps.length=m->W5 b0 pp.sh n++ps.map (·.2)=W5 b0 pp.sh (n+m)->(∀p∈ps,p.1∈pq.gives)->a0Z H' q ps->R7 H' l A [] (hs.set i {pp with owns:=W5 b0 pp.sh (n+m)})->D1 l A H H'->Q (.ref q) H'
theorem b3b(T:Txt K mg):L2.Cl P w K mg base 3 "_law_pairs" ["_law_house","_law_pools_here","_law_here","_law_other","_law_xs"] b3F:=by
 have C_law_fresh:=a7J (P:=P) (w:=w) (base:=base) T
 refine Cl.of T.d_law_pairs B3 (fun vs H Q E h=>?_) (fun _ _ _ _ _ _ us hl=>match us,hl with | [_,_,_,_,_],_=>rfl) (fun f cdv A' outer s H vs Q E hr h=>?_)
 ·obtain⟨l,pl,x,A,hs,b0,b1,b2,i,j,n,pp,pq,xs,rfl,_⟩:=h
  rfl
 ·obtain⟨l,pl,x,A,hs,b0,b1,b2,i,j,n,pp,pq,xs,rfl,hh,hpl,⟨hx,hxn⟩,hx6,hxb,ei,ej,hij,hown,hn,hgo,hgl,q⟩:=h
  obtain⟨qi,eqi⟩:∃q,A[i]?=some q:=⟨A[i]'(by rw[hh.len];exact(List.getElem?_eq_some_iff.mp ei).1),by simp[hh.len,(List.getElem?_eq_some_iff.mp ei).1]⟩
  obtain⟨qj,eqj⟩:∃q,A[j]?=some q:=⟨A[j]'(by rw[hh.len];exact(List.getElem?_eq_some_iff.mp ej).1),by simp[hh.len,(List.getElem?_eq_some_iff.mp ej).1]⟩
  have mi:(A.map fun q=>V.ref q.p)[i]?=some (.ref qi.p):=by rw[List.getElem?_map,eqi];rfl
  have mj:(A.map fun q=>V.ref q.p)[j]?=some (.ref qj.p):=by rw[List.getElem?_map,eqj];rfl
  have Pi:=hh.pt i qi pp eqi ei
  have Pj:=hh.pt j qj pq eqj ej
  have hx2:∀k:Int,0<=k->k < 6->0<=xs.getD k.toNat 0/\xs.getD k.toNat 0 < 2147483647:=fun k h0 h1=>by
   have hk:k.toNat < xs.length:=by omega
   rw[BH,AU hk]
   exact hxb _ (List.getElem_mem hk)
  refine⟨_,(G7 (J3 (i:=5) B3.nd rfl (Or.inl rfl) (J2 J4 (pv 0) (pv 2) (fun _ _=>rfl)))
   (G7 (J3 (i:=6) B3.nd rfl (Or.inl rfl) (J2 J4 (J2 J4 (pv 0) (pv 3) (fun _ _=>rfl)) G2 (fun _ _=>rfl)))
   (G7 (J3 (i:=7) B3.nd rfl (Or.inl rfl) (Y2 G6))
   (G7 (Z7 AQ rfl (a0k (by rfl) T.n_range (G0 (R4 (a3Y rfl) (by rfl) T.n_min boot_min (G0 (R4 J9 (by rfl) T.n_len PySem.boot_len (G0 (pv 6) G6)) (G0 (J1 Z6 (J1 U1 (J2 J4 (pv 4) G2 (fun _ _=>rfl)) G2) (J1 E6 (J1 W7 (J1 U1 (J1 W7 (J2 J4 (pv 4) G2 (fun _ _=>rfl)) G2) G2) G2) G2)) G6))) G6)) (J5 (i:=8) B3.nd rfl (Or.inl rfl))
    (G7 (J3 (i:=9) B3.nd rfl (Or.inl rfl) (W4 C_law_fresh hr (by rfl) (G0 (pv 5) (G0 (J2 J4 (pv 1) G2 (fun _ _=>rfl)) (G0 (R4 J9 (by rfl) T.n_len PySem.boot_len (G0 (J2 J4 (pv 5) G2 (fun _ _=>rfl)) G6)) G6)))))
    (G7 (Y5 (B4 PySem.F.plainAttrs_list PySem.F.slot_list_append PySem.F.type_list_append Z8 (J2 J4 (pv 5) G2 (fun _ _=>rfl)) (G0 (pv 9) G6)))
    (G9 (Y5 (B4 PySem.F.plainAttrs_list PySem.F.slot_list_append PySem.F.type_list_append Z8 (pv 7) (G0 (U6 (G0 (J2 J4 (pv 6) (J1 U1 (J1 Z6 (J2 J4 (pv 4) G2 (fun _ _=>rfl)) (J1 E6 (pv 8) (J1 U1 (J1 W7 (J2 J4 (pv 4) G2 (fun _ _=>rfl)) G2) G2))) (R4 J9 (by rfl) T.n_len PySem.boot_len (G0 (pv 6) G6))) (fun _ _=>rfl)) (G0 (pv 9) G6))) G6)))))))
   (G9 (R5 (W3 Z3 (by rfl) T.n_tuple boot_tuple (G0 (pv 7) G6)))))))),?_⟩
  refine⟨_,rfl,_,rfl,l,_,_,_,rfl,rfl,SqL.of hh.ll,W9 mi,?_⟩
  refine⟨_,rfl,_,rfl,l,_,_,_,rfl,rfl,SqL.of hh.ll,W9 mj,qj.p,_,_,_,rfl,rfl,SqL.of Pj.p,rfl,?_⟩
  refine⟨a0W,fun d hd=>?_⟩
  have s1:G8 H (upd H d (.lst [])):=(G8.refl H).new hd
  refine⟨_,rfl,qj.g,_,rfl,.inl (SqL.of (s1 _ _ Pj.g)),?_⟩
  refine⟨_,rfl,x,_,_,_,rfl,rfl,SqL.of (s1 _ _ hx),Y0 V.int xs 0 (by decide) (by omega),_,_,rfl,rfl,(by show(0:Int) < 4;decide),?_⟩
  refine⟨_,rfl,x,_,_,_,rfl,rfl,SqL.of (s1 _ _ hx),Y0 V.int xs 0 (by decide) (by omega),_,_,rfl,rfl,⟨by decide,by decide⟩,_,_,rfl,rfl,(by show(0:Int) < 8;decide),_,_,rfl,rfl,⟨by decide,by decide⟩,_,_,rfl,rfl,.inl ⟨by omega,by omega⟩,_,_,rfl,rfl,?_⟩
  have hE0:0<=xs.getD (2:Int).toNat 0 % 4+xs.getD (2:Int).toNat 0/4 % 8/7*3:=by omega
  have hE1:xs.getD (2:Int).toNat 0 % 4+xs.getD (2:Int).toNat 0/4 % 8/7*3<=6:=by omega
  refine⟨_,_,rfl,?_⟩
  have hL:((pq.gives.map V.str).length:Int)=pq.gives.length:=by rw[List.length_map]
  have hM0:0<=(if xs.getD (2:Int).toNat 0 % 4+xs.getD (2:Int).toNat 0/4 % 8/7*3 < ((pq.gives.map V.str).length:Int)then xs.getD (2:Int).toNat 0 % 4+xs.getD (2:Int).toNat 0/4 % 8/7*3 else((pq.gives.map V.str).length:Int)):=by split<;>omega
  have hM1:(if xs.getD (2:Int).toNat 0 % 4+xs.getD (2:Int).toNat 0/4 % 8/7*3 < ((pq.gives.map V.str).length:Int)then xs.getD (2:Int).toNat 0 % 4+xs.getD (2:Int).toNat 0/4 % 8/7*3 else((pq.gives.map V.str).length:Int))<=6:=by split<;>omega
  have hM2:(if xs.getD (2:Int).toNat 0 % 4+xs.getD (2:Int).toNat 0/4 % 8/7*3 < ((pq.gives.map V.str).length:Int)then xs.getD (2:Int).toNat 0 % 4+xs.getD (2:Int).toNat 0/4 % 8/7*3 else((pq.gives.map V.str).length:Int))<=pq.gives.length:=by split<;>omega
  generalize (if xs.getD (2:Int).toNat 0 % 4+xs.getD (2:Int).toNat 0/4 % 8/7*3 < ((pq.gives.map V.str).length:Int)then xs.getD (2:Int).toNat 0 % 4+xs.getD (2:Int).toNat 0/4 % 8/7*3 else((pq.gives.map V.str).length:Int))=M at hM0 hM1 hM2⊢
  have e0:hs.set i {pp with owns:=W5 b0 pp.sh (n+0)}=hs:=by
   rw[Nat.add_zero,<-hown]
   obtain⟨hlt,he⟩:=List.getElem?_eq_some_iff.mp ei
   rw[<-he]
   exact List.set_getElem_self hlt
  have hset:∀pp':Pp,(hs.set i pp')[i]?=some pp':=fun pp'=>BK (List.getElem?_eq_some_iff.mp ei).1
  have hsetj:∀pp':Pp,(hs.set i pp')[j]?=some pq:=fun pp'=>by rw[BP hij];exact ej
  refine⟨_,rfl,(by omega),(by omega),M9 (fun t σ H2=>∃(ps:List (Str×Str))(vs:List V)(v8 v9:Option V),σ=[some (.ref l),some (.ref pl),some (.int i),some (.int j),some (.ref x),some (.ref qi.p),some (.ref qj.g),some (.ref d),v8,v9]/\R7 H2 l A [d] (hs.set i {pp with owns:=W5 b0 pp.sh (n+t)})/\D1 l A H H2/\H2 d=some (.lst vs)/\L2.a6G H2 vs ps/\ps.length=t/\W5 b0 pp.sh n++ps.map (·.2)=W5 b0 pp.sh (n+t)/\∀p∈ps,p.1∈pq.gives)
   ⟨[],[],none,none,rfl,by rw[e0];exact(hh.aside hd).same s1,fun a o _ e=>s1 _ _ e,G1,.nil,rfl,by simp,fun p hp=>by simp at hp⟩ ?_ ?_⟩
  ·rintro t σ H2 ht ⟨ps,vs,v8,v9,rfl,h2,k2,hd2,hps,hpl2,hdr,hgv⟩
   have P2:=h2.pt i qi _ eqi (hset _)
   have hot:((({pp with owns:=W5 b0 pp.sh (n+t)}:Pp).owns.map V.str).length:Int)=((n+t:Nat):Int):=by rw[List.length_map];show((W5 b0 pp.sh (n+t)).length:Int)=_;rw[a0V]
   refine⟨_,rfl,_,rfl,pl,_,_,_,rfl,rfl,SqL.of (k2 _ _ hpl.n hpl.h),rfl,_,rfl,qi.p,_,_,_,rfl,rfl,SqL.of P2.p,rfl,qi.o,_,rfl,.inl (SqL.of P2.o),?_⟩
   refine⟨qi.p,qi.r,qi.o,qi.g,b0,_,pp.sh,rfl,P2.p,hpl.r0.1,hpl.r0.2,by omega,fun H3 s3=>?_⟩
   rw[hot]
   have P3:=(h2.same s3).pt i qi _ eqi (hset _)
   refine⟨_,rfl,qi.p,_,_,_,rfl,rfl,SqL.of P3.p,rfl,.inl ⟨rfl,_,SqL.of P3.o⟩,_,rfl,qi.o,_,_,rfl,rfl,P3.o,J6 (by rw[List.length_map];show(W5 b0 pp.sh (n+t)).length<=1000;rw[a0V];omega),?_⟩
   have h4:R7 (upd H3 (qi.nth 2) (.lst (({pp with owns:=W5 b0 pp.sh (n+t)}:Pp).owns.map V.str++[.str (W8 b0 ((((n+t:Nat):Int)+pp.sh) % 24))]))) l A [d] ((hs.set i {pp with owns:=W5 b0 pp.sh (n+t)}).set i {pp with owns:=W5 b0 pp.sh (n+(t+1))}):=by
    refine(h2.same s3).put eqi (hset _) (by omega) (fun H' eH TT KK o4=>?_) ⟨_,P3.o⟩
    obtain⟨rv,r1,r2⟩:=P3.r
    refine⟨(o4 0 (by omega) (by omega)).trans P3.p,⟨rv,(o4 1 (by omega) (by omega)).trans r1,Paired.mapP r2 fun _ _ y=>y.keep TT fun a as ha hv=>⟨KK a as ha hv,ha⟩⟩,?_,(o4 3 (by omega) (by omega)).trans P3.g⟩
    rw[eH]
    show upd H3 qi.o _ qi.o=_
    rw[G1]
    show _=some (HO.lst ((W5 b0 pp.sh (n+t+1)).map V.str))
    rw[a1d,List.map_append]
    rfl
   rw[List.set_set]at h4
   have T4:R1 H3 (upd H3 qi.o (.lst (({pp with owns:=W5 b0 pp.sh (n+t)}:Pp).owns.map V.str++[.str (W8 b0 ((((n+t:Nat):Int)+pp.sh) % 24))]))):=R1.lst P3.o
   have k4:D1 l A H (upd H3 qi.o (.lst (({pp with owns:=W5 b0 pp.sh (n+t)}:Pp).owns.map V.str++[.str (W8 b0 ((((n+t:Nat):Int)+pp.sh) % 24))]))):=fun a o ha e=>by
    have hne:a≠qi.o:=fun z=>ha (Or.inr (Or.inr ⟨i,qi,2,eqi,by omega,z.symm⟩))
    rw[I0 hne]
    exact s3 _ _ (k2 a o ha e)
   have hd4:upd H3 qi.o (.lst (({pp with owns:=W5 b0 pp.sh (n+t)}:Pp).owns.map V.str++[.str (W8 b0 ((((n+t:Nat):Int)+pp.sh) % 24))])) d=some (.lst vs):=by
    have hne:d≠qi.o:=((h2.xl d AM).2 i qi 2 eqi (by omega)).symm
    rw[I0 hne]
    exact s3 _ _ hd2
   have h4':R7 (upd H3 qi.o (.lst (({pp with owns:=W5 b0 pp.sh (n+t)}:Pp).owns.map V.str++[.str (W8 b0 ((((n+t:Nat):Int)+pp.sh) % 24))]))) l A [d] (hs.set i {pp with owns:=W5 b0 pp.sh (n+(t+1))}):=h4
   have ps4:L2.a6G (upd H3 qi.o (.lst (({pp with owns:=W5 b0 pp.sh (n+t)}:Pp).owns.map V.str++[.str (W8 b0 ((((n+t:Nat):Int)+pp.sh) % 24))]))) vs ps:=hps.mono (s3.tups.trans T4)
   clear h4
   generalize upd H3 qi.o (.lst (({pp with owns:=W5 b0 pp.sh (n+t)}:Pp).owns.map V.str++[.str (W8 b0 ((((n+t:Nat):Int)+pp.sh) % 24))]))=H4 at T4 k4 hd4 h4' ps4⊢
   have Pj4:=h4'.pt j qj pq eqj (hsetj _)
   have hgp:0 < ((pq.gives.map V.str).length:Int):=by rw[hL];omega
   obtain⟨x30,x31⟩:=hx2 3 (by decide) (by decide)
   have hid0:0<=(xs.getD (3:Int).toNat 0+(0+(t:Int))*(xs.getD (3:Int).toNat 0/7 % 2)) % ((pq.gives.map V.str).length:Int):=BO _ (by omega)
   have hid1:(xs.getD (3:Int).toNat 0+(0+(t:Int))*(xs.getD (3:Int).toNat 0/7 % 2)) % ((pq.gives.map V.str).length:Int) < (pq.gives.length:Int):=by rw[<-hL];exact BQ _ hgp
   refine⟨_,rfl,.inl ⟨rfl,_,SqL.of hd4⟩,_,rfl,_,rfl,x,_,_,_,rfl,rfl,SqL.of (k4 _ _ hxn hx),Y0 V.int xs 0 (by decide) (by omega),?_⟩
   refine⟨_,rfl,_,rfl,x,_,_,_,rfl,rfl,SqL.of (k4 _ _ hxn hx),Y0 V.int xs 0 (by decide) (by omega),_,_,rfl,rfl,⟨by decide,by decide⟩,_,_,rfl,rfl,(by show(0:Int) < 2;decide),_,_,rfl,rfl,.inl ⟨by omega,by omega⟩,_,_,rfl,rfl,?_⟩
   refine⟨_,rfl,qj.g,_,rfl,.inl (SqL.of Pj4.g),_,_,rfl,rfl,hgp,qj.g,_,_,_,rfl,rfl,SqL.of Pj4.g,Y0 V.str pq.gives "" hid0 hid1,_,rfl,F2,fun tp htp=>?_⟩
   have s5:G8 H4 (upd H4 tp (.tup [.str (pq.gives.getD ((xs.getD (3:Int).toNat 0+(0+(t:Int))*(xs.getD (3:Int).toNat 0/7 % 2)) % ((pq.gives.map V.str).length:Int)).toNat ""),.str (W8 b0 ((((n+t:Nat):Int)+pp.sh) % 24))])):=(G8.refl H4).new htp
   refine⟨d,_,_,rfl,rfl,s5 _ _ hd4,J6 (by rw[AF ps4,hpl2];omega),?_⟩
   have hdt:tp≠d:=fun z=>by rw[z,hd4]at htp;cases htp
   have T6:=s5.tups.trans (R1.lst (ys:=vs++[.ref tp]) (s5 _ _ hd4))
   refine⟨ps++[(pq.gives.getD ((xs.getD (3:Int).toNat 0+(0+(t:Int))*(xs.getD (3:Int).toNat 0/7 % 2)) % ((pq.gives.map V.str).length:Int)).toNat "",W8 b0 ((((n+t:Nat):Int)+pp.sh) % 24))],vs++[.ref tp],_,_,rfl,(h4'.same s5).other AM (s5 _ _ hd4),fun a o ha e=>?_,G1,Paired.snoc (ps4.mono T6) ⟨tp,rfl,?_,?_,?_⟩,by rw[List.length_append,hpl2];rfl,?_,fun p hp=>?_⟩
   ·rw[I0 (fun z=>by rw[z,hd]at e;cases e)]
    exact s5 _ _ (k4 a o ha e)
   ·rw[I0 hdt,G1]
   ·have hlt:((xs.getD (3:Int).toNat 0+(0+(t:Int))*(xs.getD (3:Int).toNat 0/7 % 2)) % ((pq.gives.map V.str).length:Int)).toNat < pq.gives.length:=by omega
    rw[BH,AU hlt]
    exact hgo _ (List.getElem_mem hlt)
   ·exact a7x hpl.r0.1
   ·rw[List.map_append,<-List.append_assoc,hdr,<-Nat.add_assoc,a1d];rfl
   ·rcases AL.mp hp with z | z
    ·exact hgv p z
    ·rw[AD.mp z]
     have hlt:((xs.getD (3:Int).toNat 0+(0+(t:Int))*(xs.getD (3:Int).toNat 0/7 % 2)) % ((pq.gives.map V.str).length:Int)).toNat < pq.gives.length:=by omega
     show pq.gives.getD _ "" ∈_
     rw[BH,AU hlt]
     exact List.getElem_mem hlt
  ·rintro σ H2 ⟨ps,vs,v8,v9,rfl,h2,k2,hd2,hps,hpl2,hdr,hgv⟩
   refine⟨_,rfl,d,_,rfl,.inl ⟨SqL.of hd2,fun b gb=>?_⟩⟩
   have s3:G8 H2 (upd H2 b (.tup vs)):=(G8.refl H2).new gb
   exact q M.toNat ps b _ (by omega) hpl2 hdr hgv ⟨⟨vs,G1,hps.mono s3.tups⟩,by omega⟩ ((h2.same s3).back) (fun a o ha e=>s3 _ _ (k2 a o ha e))
noncomputable def b4F (K:W.Frag):Sp:=fun vs H Q _=>∃(a:Addr)(ns:List Int),vs=[.ref a]/\SqL K H a (ns.map V.int)/\∀(l:Addr)(b0 b1 b2:Int)(H':Hp),G8 H H'->H l=none->H' l=some (.lst [.int b0,.int b1,.int b2])->(0<=b0/\b0 < 2147483647)->(0<=b1/\b1 < 2147483647)->(0<=b2/\b2 < 2147483647)->Q (.ref l) H'
theorem b5g(x y:Int){k:Int}(h0:0<=k)(h1:k < 2):atI [V.int x,V.int y] k=some (V.int (if k=0 then x else y)):=by
 have:k=0\/k=1:=by omega
 rcases this with rfl | rfl<;>rfl
theorem b2o(T:Txt K mg):L2.Cl P w K mg base 3 "_law_pools" ["_law_script"] (b4F K):=by
 have C_law_cell_at:=a3C (P:=P) (w:=w) (base:=base) T
 have C_law_pool:=b4d (P:=P) (w:=w) (base:=base) T
 refine Cl.of T.d_law_pools a0G (fun vs H Q E h=>?_) (fun _ _ _ _ _ _ us hl=>by obtain⟨a,rfl⟩:=a5N hl;rfl) (fun f cdv A outer s H vs Q E hr h=>?_)
 ·obtain⟨a,ns,rfl,_⟩:=h
  rfl
 ·obtain⟨a,ns,rfl,hS,q⟩:=h
  refine⟨_,(G7 (J3 (i:=1) a0G.nd rfl (Or.inl rfl) (W4 C_law_cell_at hr (by rfl) (G0 (pv 0) (G0 G2 G6))))
   (G7 (J3 (i:=2) a0G.nd rfl (Or.inl rfl) (W4 C_law_pool hr (by rfl) (G0 (pv 0) (G0 G2 G6))))
   (G7 (J3 (i:=3) a0G.nd rfl (Or.inl rfl) (W4 C_law_pool hr (by rfl) (G0 (pv 0) (G0 G2 G6))))
   (G9 (R5 (Y2 (G0 (pv 2) (G0 (J2 J4 (Y2 (G0 (pv 2) (G0 (pv 3) G6))) (J1 U1 (J1 W7 (pv 1) G2) G2) (fun _ _=>rfl)) (G0 (J2 J4 (Y2 (G0 (pv 2) (G0 (pv 3) G6))) (J1 U1 (J1 W7 (pv 1) G2) G2) (fun _ _=>rfl)) G6))))))))),?_⟩
  refine⟨_,rfl,a,ns,0,rfl,hS,(by decide),fun c=>?_⟩
  refine⟨_,rfl,a,ns,1,rfl,hS,(by decide),fun x hx0 hx1=>?_⟩
  refine⟨_,rfl,a,ns,2,rfl,hS,(by decide),fun y hy0 hy1=>?_⟩
  refine⟨_,rfl,_,rfl,_,rfl,F2,fun u hu=>?_⟩
  refine⟨_,rfl,_,_,rfl,rfl,⟨by decide,by decide⟩,_,_,rfl,rfl,(by show(0:Int) < 2;decide),u,_,_,_,rfl,rfl,SqL.of G1,b5g x y (by omega) (by omega),?_⟩
  refine⟨_,rfl,_,rfl,F2,fun v hv=>?_⟩
  refine⟨_,rfl,_,_,rfl,rfl,⟨by decide,by decide⟩,_,_,rfl,rfl,(by show(0:Int) < 2;decide),v,_,_,_,rfl,rfl,SqL.of G1,b5g x y (by omega) (by omega),?_⟩
  refine⟨a0A,fun l hl=>?_⟩
  have s2:=(((G8.refl H).new (o:= .lst [.int x,.int y]) hu).new (o:= .lst [.int x,.int y]) hv)
  refine q l _ _ _ _ (s2.new hl) (s2.free hl) G1 ⟨hx0,hx1⟩ ?_ ?_
  ·split<;>constructor<;>assumption
  ·split<;>constructor<;>assumption
theorem a5C(x:Str):∀l:List Str,inV (.str x) (l.map V.str)=decide (x∈l)
 | []=>by simp[inV]
 | a::r=>by
  have ih:=a5C x r
  unfold inV at ih⊢
  rw[List.map_cons,List.any_cons,ih]
  by_cases e:a=x
  ·subst e;simp[eqV]
  ·have h2:¬x=a:=fun z=>e z.symm
   simp[eqV,e,h2]
theorem b0S(l:List Str):(l.map V.str).all a1M=true:=by
 induction l with
 | nil=>rfl
 | cons a r ih=>rw[List.map_cons,List.all_cons,ih];rfl
theorem a9i{xs:List Int}(h6:xs.length=6)(hb:Bnd xs)(k:Int)(h0:0<=k)(h1:k < 6):0<=xs.getD k.toNat 0/\xs.getD k.toNat 0 < 2147483647:=by
 have hk:k.toNat < xs.length:=by omega
 rw[BH,AU hk]
 exact hb _ (List.getElem_mem hk)
noncomputable def b7g:Sp:=fun vs H Q _=>∃(o x:Addr)(ws:List Str)(xs:List Int),vs=[.ref o,.ref x]/\H o=some (.lst (ws.map V.str))/\(∀y∈ws,F7 y)/\H x=some (.lst (xs.map V.int))/\xs.length=6/\Bnd xs/\
 ∀(t:Addr)(ts:List (Int×Th))(H':Hp),G8 H H'->a1c H' t ts->a9P ts->(∀d∈ts,∀y,d.2=Th.nam y->y∈ws)->Q (.ref t) H'
theorem a3U(t n:Int)(h0:0<=t):atI [V.int 1,V.int 1,V.int (-1)] ((if(1:Int) < t then 1 else t)*(1+n/7 % 2))=some (.int (if t=0 then 1 else if n/7 % 2=0 then 1 else -1)):=by
 have h7:n/7 % 2=0\/n/7 % 2=1:=by omega
 by_cases e:t=0
 ·subst e
  rcases h7 with z | z<;>rw[z]<;>rfl
 ·have:(if(1:Int) < t then 1 else t)=1:=by split<;>omega
  rw[this,if_neg e]
  rcases h7 with z | z<;>rw[z]<;>rfl
theorem a3L{i:Nat}{σ:L2.St}{H:Hp}{Q:L2.St->Hp->Prop}(C:Int->Prop)(k0:Int)(h0:C k0)(h:∀kd:Int,C kd->a0s i (V.int kd) σ H Q):a0s i (V.int k0) σ H Q:=h k0 h0
theorem a1t{H H2 H5:Hp}{o x l tp:Addr}{ws:List Str}{vs:List V}{ts:List (Int×Th)}{i:Nat}{n:Int}{a b c:Option V}(hl:H l=none)(s2:G8 H H2)(hl2:H2 l=some (.lst vs))(hts:a5g H2 vs ts)(hlen:ts.length=i)(hsg:∀d∈ts,d.1=1\/d.1= -1)(hhd:∀d,ts.head?=some d->d.1=1)(hth:∀d∈ts,b1K d.2)(hnm:∀d∈ts,∀y,d.2=Th.nam y->y∈ws)
  (s5:G8 H2 H5){th:Th}(htp:H5 tp=some (.tup [.int (if(i:Int)=0 then 1 else if n/7 % 2=0 then 1 else -1),thV th]))(hok:b1K th)(hin:∀y,th= .nam y->y∈ws):
  ∃(vs':List V)(ts':List (Int×Th))(v3 v4 v5:Option V),[some (V.ref o),some (V.ref x),some (V.ref l),a,b,c]=[some (.ref o),some (.ref x),some (.ref l),v3,v4,v5]/\G8 H (upd H5 l (.lst (vs++[.ref tp])))/\upd H5 l (.lst (vs++[.ref tp])) l=some (.lst vs')/\a5g (upd H5 l (.lst (vs++[.ref tp]))) vs' ts'/\ts'.length=i+1/\(∀d∈ts',d.1=1\/d.1= -1)/\(∀d,ts'.head?=some d->d.1=1)/\(∀d∈ts',b1K d.2)/\(∀d∈ts',∀y,d.2=Th.nam y->y∈ws):=by
 have h5l:=s5 _ _ hl2
 have T:R1 H2 (upd H5 l (.lst (vs++[.ref tp]))):=s5.tups.trans (R1.lst h5l)
 have hne:tp≠l:=fun z=>by rw[z,h5l]at htp;cases htp
 have hsn:(if(i:Int)=0 then(1:Int)else if n/7 % 2=0 then 1 else -1)=1\/(if(i:Int)=0 then(1:Int)else if n/7 % 2=0 then 1 else -1)= -1:=by
  split
  ·exact .inl rfl
  ·split
   ·exact .inl rfl
   ·exact .inr rfl
 refine⟨vs++[.ref tp],ts++[((if(i:Int)=0 then 1 else if n/7 % 2=0 then 1 else -1),th)],a,b,c,rfl,(s2.trans s5).put hl,G1,Paired.snoc (hts.mono T) ⟨tp,rfl,by rw[I0 hne];exact htp,hok⟩,by rw[List.length_append,hlen];rfl,fun d hd=>?_,fun d hd=>?_,fun d hd=>?_,fun d hd=>?_⟩
 ·rcases AL.mp hd with z | z
  ·exact hsg d z
  ·rw[AD.mp z];exact hsn
 ·cases ts with
  | nil=>
   simp only[List.nil_append,List.head?_cons,Option.some.injEq]at hd
   rw[<-hd,<-hlen]
   rfl
  | cons p r=>exact hhd d hd
 ·rcases AL.mp hd with z | z
  ·exact hth d z
  ·rw[AD.mp z];exact hok
 ·rcases AL.mp hd with z | z
  ·exact hnm d z
  ·rw[AD.mp z];exact hin
theorem b6r(T:Txt K mg):L2.Cl P w K mg base 1 "_law_sum" ["_law_owns","_law_xs"] b7g:=by
 refine Cl.of T.d_law_sum M3 (fun vs H Q E h=>?_) (fun _ _ _ _ _ _ us hl=>by obtain⟨a,b,rfl⟩:=a1P hl;rfl) (fun f cdv A outer s H vs Q E hr h=>?_)
 ·obtain⟨o,x,ws,xs,rfl,_⟩:=h
  rfl
 ·obtain⟨o,x,ws,xs,rfl,ho,hws,hx,h6,hb,q⟩:=h
  have hu0:=Nat.lt_of_succ_lt (B5 hr)
  have R:=a9i h6 hb
  refine⟨_,(G7 (J3 (i:=2) M3.nd rfl (Or.inl rfl) (Y2 G6))
   (G7 (Z7 AQ rfl (a0k (by rfl) T.n_range (G0 (J1 Z6 (J1 Z6 G2 (J1 U1 (J1 W7 (J2 J4 (pv 1) G2 (fun _ _=>rfl)) G2) G2)) (J1 E6 (J1 W7 (J1 U1 (J1 W7 (J2 J4 (pv 1) G2 (fun _ _=>rfl)) G2) G2) G2) G2)) G6)) (J5 (i:=3) M3.nd rfl (Or.inl rfl))
    (G7 (J3 (i:=4) M3.nd rfl (Or.inl rfl) (J1 U1 (J1 E6 (J1 Z6 (J2 J4 (pv 1) G2 (fun _ _=>rfl)) (J1 E6 (J1 E6 G2 (pv 3)) (pv 3))) (J1 Z6 (J2 J4 (pv 1) G2 (fun _ _=>rfl)) (pv 3))) G2))
    (G7 (J3 (i:=5) M3.nd rfl (Or.inl rfl) (J1 U1 (pv 4) G2))
    (G7 (Y8 (R0 F3 (J1 U1 (J1 W7 (pv 4) G2) G2) G2 (U4 _))
     (G9 (J3 (i:=5) M3.nd rfl (Or.inl rfl) (J1 U1 (J1 E6 (J1 E6 (J1 E6 (J1 E6 (J1 E6 (J1 Z6 (pv 4) G2) (J2 J4 (pv 1) G2 (fun _ _=>rfl))) (J2 J4 (pv 1) G2 (fun _ _=>rfl))) (J2 J4 (pv 1) G2 (fun _ _=>rfl))) (J2 J4 (pv 1) G2 (fun _ _=>rfl))) (J2 J4 (pv 1) G2 (fun _ _=>rfl))) (J1 b5Q G2 G2)))) U9)
    (G7 (Y8 (PW.pt (a1D (R0 (a1C hu0) (pv 0) (Y2 G6) (U4 _)) (a0E (R0 a5r (J1 U1 (J1 W7 (pv 4) G2) G2) G2 (U4 _)))))
     (G9 (J3 (i:=5) M3.nd rfl (Or.inl rfl) (J2 J4 (pv 0) (J1 U1 (J1 W7 (pv 4) G2) (R4 J9 (by rfl) T.n_len PySem.boot_len (G0 (pv 0) G6))) (fun _ _=>rfl)))) U9)
    (G9 (Y5 (B4 PySem.F.plainAttrs_list PySem.F.slot_list_append PySem.F.type_list_append Z8 (pv 2) (G0 (U6 (G0 (J2 J4 (Y2 (G0 G2 (G0 G2 (G0 (b0f a7g G2) G6)))) (J1 E6 (R4 (a3Y rfl) (by rfl) T.n_min boot_min (G0 (pv 3) (G0 G2 G6))) (J1 Z6 G2 (J1 U1 (J1 W7 (pv 4) G2) G2))) (fun _ _=>rfl)) (G0 (pv 5) G6))) G6)))))))))
   (G9 (R5 (W3 Z3 (by rfl) T.n_tuple boot_tuple (G0 (pv 2) G6)))))),?_⟩
  refine⟨a0W,fun l hl=>?_⟩
  have s1:G8 H (upd H l (.lst [])):=(G8.refl H).new hl
  refine⟨_,rfl,x,_,_,_,rfl,rfl,SqL.of (s1 _ _ hx),Y0 V.int xs 0 (by decide) (by omega),_,_,rfl,rfl,⟨by decide,by decide⟩,_,_,rfl,rfl,(by show(0:Int) < 3;decide),_,_,rfl,rfl,?_⟩
  refine⟨_,rfl,x,_,_,_,rfl,rfl,SqL.of (s1 _ _ hx),Y0 V.int xs 0 (by decide) (by omega),_,_,rfl,rfl,⟨by decide,by decide⟩,_,_,rfl,rfl,(by show(0:Int) < 4;decide),_,_,rfl,rfl,⟨by decide,by decide⟩,_,_,rfl,rfl,.inl ⟨by omega,by omega⟩,_,_,rfl,rfl,?_⟩
  have hM0:1<=1+xs.getD (1:Int).toNat 0/4 % 3+xs.getD (1:Int).toNat 0/12 % 4/3*3:=by omega
  have hM1:1+xs.getD (1:Int).toNat 0/4 % 3+xs.getD (1:Int).toNat 0/12 % 4/3*3<=6:=by omega
  generalize 1+xs.getD (1:Int).toNat 0/4 % 3+xs.getD (1:Int).toNat 0/12 % 4/3*3=M at hM0 hM1⊢
  refine⟨_,rfl,(by omega),(by omega),M9 (fun i σ H2=>∃(vs:List V)(ts:List (Int×Th))(v3 v4 v5:Option V),σ=[some (.ref o),some (.ref x),some (.ref l),v3,v4,v5]/\G8 H H2/\H2 l=some (.lst vs)/\a5g H2 vs ts/\ts.length=i/\(∀d∈ts,d.1=1\/d.1= -1)/\(∀d,ts.head?=some d->d.1=1)/\(∀d∈ts,b1K d.2)/\(∀d∈ts,∀y,d.2=Th.nam y->y∈ws))
   ⟨[],[],none,none,none,rfl,s1,G1,.nil,rfl,fun d hd=>by simp at hd,fun d hd=>by simp at hd,fun d hd=>by simp at hd,fun d hd=>by simp at hd⟩ ?_ ?_⟩
  ·rintro i σ H2 hi ⟨vs,ts,v3,v4,v5,rfl,s2,hl2,hts,hlen,hsg,hhd,hth,hnm⟩
   rw[Int.zero_add]
   have hi6:(i:Int)<=5:=by omega
   have hi0:(0:Int)<=i:=by omega
   have r2:=R 2 (by decide) (by decide)
   have r3:=R 3 (by decide) (by decide)
   have hii0:0<=613*(i:Int)*i:=Int.mul_nonneg (by omega) hi0
   have hii1:613*(i:Int)*i<=613*5*5:=Int.mul_le_mul (by omega) hi6 hi0 (by decide)
   have hx2:=s2 _ _ hx
   have ho2:=s2 _ _ ho
   refine⟨_,rfl,x,_,_,_,rfl,rfl,SqL.of hx2,Y0 V.int xs 0 (by decide) (by omega),_,rfl,_,_,rfl,rfl,.inl ⟨by omega,by omega⟩,_,rfl,_,_,rfl,rfl,.inl ⟨by omega,by omega⟩,_,_,rfl,rfl,?_⟩
   refine⟨_,rfl,x,_,_,_,rfl,rfl,SqL.of hx2,Y0 V.int xs 0 (by decide) (by omega),_,rfl,_,_,rfl,rfl,_,_,rfl,rfl,.inl ⟨by omega,by omega⟩,_,_,rfl,rfl,(by show(0:Int) < 2147483629;decide),?_⟩
   show a0s 4 (V.int ((xs.getD (2:Int).toNat 0+613*(i:Int)*i)*(xs.getD (3:Int).toNat 0+i) % 2147483629)) _ _ _
   obtain⟨n,hn0,hn1,hne⟩:∃n:Int,0<=n/\n < 2147483629/\(xs.getD (2:Int).toNat 0+613*(i:Int)*i)*(xs.getD (3:Int).toNat 0+i) % 2147483629=n:=⟨_,by omega,by omega,rfl⟩
   rw[hne]
   clear hne
   refine⟨_,rfl,_,_,rfl,rfl,(by show(0:Int) < 10;decide),?_⟩
   refine⟨_,rfl,_,_,rfl,rfl,⟨by decide,by decide⟩,_,_,rfl,rfl,(by show(0:Int) < 4;decide),rfl,_,rfl,a6B (fun e1=>?_) (fun e1=>?_)⟩
   ·have r0:=R 0 (by decide) (by decide)
    have r1:=R 1 (by decide) (by decide)
    have r4:=R 4 (by decide) (by decide)
    have r5:=R 5 (by decide) (by decide)
    refine⟨_,rfl,_,_,rfl,rfl,_,rfl,x,_,_,_,rfl,rfl,SqL.of hx2,Y0 V.int xs 0 (by decide) (by omega),_,_,rfl,rfl,.inr ⟨by omega,by omega⟩,?_⟩
    refine⟨_,rfl,x,_,_,_,rfl,rfl,SqL.of hx2,Y0 V.int xs 0 (by decide) (by omega),_,_,rfl,rfl,.inr ⟨by omega,by omega⟩,?_⟩
    refine⟨_,rfl,x,_,_,_,rfl,rfl,SqL.of hx2,Y0 V.int xs 0 (by decide) (by omega),_,_,rfl,rfl,.inr ⟨by omega,by omega⟩,?_⟩
    refine⟨_,rfl,x,_,_,_,rfl,rfl,SqL.of hx2,Y0 V.int xs 0 (by decide) (by omega),_,_,rfl,rfl,.inr ⟨by omega,by omega⟩,?_⟩
    refine⟨_,rfl,x,_,_,_,rfl,rfl,SqL.of hx2,Y0 V.int xs 0 (by decide) (by omega),_,_,rfl,rfl,.inr ⟨by omega,by omega⟩,?_⟩
    refine⟨_,_,rfl,rfl,⟨by decide,by decide,by decide⟩,_,_,rfl,rfl,(by show(0:Int) < 10 ^ (60:Int).toNat;decide),?_⟩
    refine a3L (fun m=>0<=m/\m < 10 ^ 60) _ ⟨BO _ (by decide),BQ _ (by decide)⟩ (fun m hm=>?_)
    refine⟨_,rfl,a0W,fun e he=>?_⟩
    have s3:G8 H2 (upd H2 e (.lst [])):=(G8.refl H2).new he
    refine⟨o,e,_,rfl,rfl,SqL.of (s3 _ _ ho2),SqL.of G1,_,rfl,?_⟩
    refine a4X (fun c1=>?_) (fun c1=>?_)
    ·have hwl:0 < ((ws.map V.str).length:Int):=by
      cases ws with
      | nil=>exact absurd c1 (by decide)
      | cons a r=>rw[List.length_map,List.length_cons];omega
     refine⟨_,rfl,_,_,rfl,rfl,⟨by decide,by decide⟩,_,_,rfl,rfl,(by show(0:Int) < 4;decide),_,_,rfl,rfl,_,rfl,?_⟩
     refine a4X (fun c2=>?_) (fun c2=>?_)
     ·have hL:((ws.map V.str).length:Int)=ws.length:=by rw[List.length_map]
      have hd0:0<=n/40 % ((ws.map V.str).length:Int):=BO _ (by omega)
      have hd1:n/40 % ((ws.map V.str).length:Int) < (ws.length:Int):=by rw[<-hL];exact BQ _ hwl
      refine⟨_,rfl,_,rfl,_,_,rfl,rfl,⟨by decide,by decide⟩,_,rfl,o,_,rfl,.inl (SqL.of (s3 _ _ ho2)),_,_,rfl,rfl,hwl,o,_,_,_,rfl,rfl,SqL.of (s3 _ _ ho2),Y0 V.str ws "" hd0 hd1,?_⟩
      have hym:ws.getD (n/40 % ((ws.map V.str).length:Int)).toNat "" ∈ws:=by
       have hlt:(n/40 % ((ws.map V.str).length:Int)).toNat < ws.length:=by omega
       rw[BH,AU hlt]
       exact List.getElem_mem hlt
      generalize ws.getD (n/40 % ((ws.map V.str).length:Int)).toNat ""=y at hym⊢
      refine⟨_,rfl,.inl ⟨rfl,_,SqL.of (s3 _ _ hl2)⟩,_,rfl,a0A,fun g hg=>?_⟩
      have s4:G8 H2 (upd (upd H2 e (.lst [])) g (.lst [.int 1,.int 1,.int (-1)])):=(s3).new hg
      refine⟨_,rfl,_,_,rfl,_,rfl,_,_,rfl,rfl,⟨by decide,by decide⟩,_,_,rfl,rfl,(by show(0:Int) < 2;decide),_,_,rfl,rfl,_,_,rfl,rfl,.inl ⟨by split<;>omega,by split<;>omega⟩,g,_,_,_,rfl,rfl,SqL.of G1,a3U i n hi0,?_⟩
      refine⟨_,rfl,F2,fun tp htp=>?_⟩
      have s5:=s4.new (o:= .tup [.int (if(i:Int)=0 then 1 else if n/7 % 2=0 then 1 else -1),thV (.nam y)]) htp
      refine⟨l,_,_,rfl,rfl,s5 _ _ hl2,J6 (by rw[AF hts,hlen];omega),?_⟩
      exact a1t hl s2 hl2 hts hlen hsg hhd hth hnm s5 G1 (th:= .nam y) (hws y hym) (fun z ez=>by cases ez;exact hym)
     ·refine⟨_,rfl,.inl ⟨rfl,_,SqL.of (s3 _ _ hl2)⟩,_,rfl,a0A,fun g hg=>?_⟩
      have s4:G8 H2 (upd (upd H2 e (.lst [])) g (.lst [.int 1,.int 1,.int (-1)])):=(s3).new hg
      refine⟨_,rfl,_,_,rfl,_,rfl,_,_,rfl,rfl,⟨by decide,by decide⟩,_,_,rfl,rfl,(by show(0:Int) < 2;decide),_,_,rfl,rfl,_,_,rfl,rfl,.inl ⟨by split<;>omega,by split<;>omega⟩,g,_,_,_,rfl,rfl,SqL.of G1,a3U i n hi0,?_⟩
      refine⟨_,rfl,F2,fun tp htp=>?_⟩
      have s5:=s4.new (o:= .tup [.int (if(i:Int)=0 then 1 else if n/7 % 2=0 then 1 else -1),thV (.num m)]) htp
      refine⟨l,_,_,rfl,rfl,s5 _ _ hl2,J6 (by rw[AF hts,hlen];omega),?_⟩
      exact a1t hl s2 hl2 hts hlen hsg hhd hth hnm s5 G1 (th:= .num m) hm (fun z ez=>by cases ez)
    ·refine B6 ?_
     refine⟨_,rfl,.inl ⟨rfl,_,SqL.of (s3 _ _ hl2)⟩,_,rfl,a0A,fun g hg=>?_⟩
     have s4:G8 H2 (upd (upd H2 e (.lst [])) g (.lst [.int 1,.int 1,.int (-1)])):=(s3).new hg
     refine⟨_,rfl,_,_,rfl,_,rfl,_,_,rfl,rfl,⟨by decide,by decide⟩,_,_,rfl,rfl,(by show(0:Int) < 2;decide),_,_,rfl,rfl,_,_,rfl,rfl,.inl ⟨by split<;>omega,by split<;>omega⟩,g,_,_,_,rfl,rfl,SqL.of G1,a3U i n hi0,?_⟩
     refine⟨_,rfl,F2,fun tp htp=>?_⟩
     have s5:=s4.new (o:= .tup [.int (if(i:Int)=0 then 1 else if n/7 % 2=0 then 1 else -1),thV (.num m)]) htp
     refine⟨l,_,_,rfl,rfl,s5 _ _ hl2,J6 (by rw[AF hts,hlen];omega),?_⟩
     exact a1t hl s2 hl2 hts hlen hsg hhd hth hnm s5 G1 (th:= .num m) hm (fun z ez=>by cases ez)
   ·have hm:0<=n % 10/\n % 10 < 10 ^ 60:=⟨by omega,Int.lt_of_lt_of_le (show n % 10 < 10 by omega) (by decide)⟩
    show a4W _ [some (.ref o),some (.ref x),some (.ref l),some (.int i),some (.int n),some (.int (n % 10))] _
    generalize n % 10=m at hm⊢
    refine⟨_,rfl,a0W,fun e he=>?_⟩
    have s3:G8 H2 (upd H2 e (.lst [])):=(G8.refl H2).new he
    refine⟨o,e,_,rfl,rfl,SqL.of (s3 _ _ ho2),SqL.of G1,_,rfl,?_⟩
    refine a4X (fun c1=>?_) (fun c1=>?_)
    ·have hwl:0 < ((ws.map V.str).length:Int):=by
      cases ws with
      | nil=>exact absurd c1 (by decide)
      | cons a r=>rw[List.length_map,List.length_cons];omega
     refine⟨_,rfl,_,_,rfl,rfl,⟨by decide,by decide⟩,_,_,rfl,rfl,(by show(0:Int) < 4;decide),_,_,rfl,rfl,_,rfl,?_⟩
     refine a4X (fun c2=>?_) (fun c2=>?_)
     ·have hL:((ws.map V.str).length:Int)=ws.length:=by rw[List.length_map]
      have hd0:0<=n/40 % ((ws.map V.str).length:Int):=BO _ (by omega)
      have hd1:n/40 % ((ws.map V.str).length:Int) < (ws.length:Int):=by rw[<-hL];exact BQ _ hwl
      refine⟨_,rfl,_,rfl,_,_,rfl,rfl,⟨by decide,by decide⟩,_,rfl,o,_,rfl,.inl (SqL.of (s3 _ _ ho2)),_,_,rfl,rfl,hwl,o,_,_,_,rfl,rfl,SqL.of (s3 _ _ ho2),Y0 V.str ws "" hd0 hd1,?_⟩
      have hym:ws.getD (n/40 % ((ws.map V.str).length:Int)).toNat "" ∈ws:=by
       have hlt:(n/40 % ((ws.map V.str).length:Int)).toNat < ws.length:=by omega
       rw[BH,AU hlt]
       exact List.getElem_mem hlt
      generalize ws.getD (n/40 % ((ws.map V.str).length:Int)).toNat ""=y at hym⊢
      refine⟨_,rfl,.inl ⟨rfl,_,SqL.of (s3 _ _ hl2)⟩,_,rfl,a0A,fun g hg=>?_⟩
      have s4:G8 H2 (upd (upd H2 e (.lst [])) g (.lst [.int 1,.int 1,.int (-1)])):=(s3).new hg
      refine⟨_,rfl,_,_,rfl,_,rfl,_,_,rfl,rfl,⟨by decide,by decide⟩,_,_,rfl,rfl,(by show(0:Int) < 2;decide),_,_,rfl,rfl,_,_,rfl,rfl,.inl ⟨by split<;>omega,by split<;>omega⟩,g,_,_,_,rfl,rfl,SqL.of G1,a3U i n hi0,?_⟩
      refine⟨_,rfl,F2,fun tp htp=>?_⟩
      have s5:=s4.new (o:= .tup [.int (if(i:Int)=0 then 1 else if n/7 % 2=0 then 1 else -1),thV (.nam y)]) htp
      refine⟨l,_,_,rfl,rfl,s5 _ _ hl2,J6 (by rw[AF hts,hlen];omega),?_⟩
      exact a1t hl s2 hl2 hts hlen hsg hhd hth hnm s5 G1 (th:= .nam y) (hws y hym) (fun z ez=>by cases ez;exact hym)
     ·refine⟨_,rfl,.inl ⟨rfl,_,SqL.of (s3 _ _ hl2)⟩,_,rfl,a0A,fun g hg=>?_⟩
      have s4:G8 H2 (upd (upd H2 e (.lst [])) g (.lst [.int 1,.int 1,.int (-1)])):=(s3).new hg
      refine⟨_,rfl,_,_,rfl,_,rfl,_,_,rfl,rfl,⟨by decide,by decide⟩,_,_,rfl,rfl,(by show(0:Int) < 2;decide),_,_,rfl,rfl,_,_,rfl,rfl,.inl ⟨by split<;>omega,by split<;>omega⟩,g,_,_,_,rfl,rfl,SqL.of G1,a3U i n hi0,?_⟩
      refine⟨_,rfl,F2,fun tp htp=>?_⟩
      have s5:=s4.new (o:= .tup [.int (if(i:Int)=0 then 1 else if n/7 % 2=0 then 1 else -1),thV (.num m)]) htp
      refine⟨l,_,_,rfl,rfl,s5 _ _ hl2,J6 (by rw[AF hts,hlen];omega),?_⟩
      exact a1t hl s2 hl2 hts hlen hsg hhd hth hnm s5 G1 (th:= .num m) hm (fun z ez=>by cases ez)
    ·refine B6 ?_
     refine⟨_,rfl,.inl ⟨rfl,_,SqL.of (s3 _ _ hl2)⟩,_,rfl,a0A,fun g hg=>?_⟩
     have s4:G8 H2 (upd (upd H2 e (.lst [])) g (.lst [.int 1,.int 1,.int (-1)])):=(s3).new hg
     refine⟨_,rfl,_,_,rfl,_,rfl,_,_,rfl,rfl,⟨by decide,by decide⟩,_,_,rfl,rfl,(by show(0:Int) < 2;decide),_,_,rfl,rfl,_,_,rfl,rfl,.inl ⟨by split<;>omega,by split<;>omega⟩,g,_,_,_,rfl,rfl,SqL.of G1,a3U i n hi0,?_⟩
     refine⟨_,rfl,F2,fun tp htp=>?_⟩
     have s5:=s4.new (o:= .tup [.int (if(i:Int)=0 then 1 else if n/7 % 2=0 then 1 else -1),thV (.num m)]) htp
     refine⟨l,_,_,rfl,rfl,s5 _ _ hl2,J6 (by rw[AF hts,hlen];omega),?_⟩
     exact a1t hl s2 hl2 hts hlen hsg hhd hth hnm s5 G1 (th:= .num m) hm (fun z ez=>by cases ez)
  ·rintro σ H2 ⟨vs,ts,v3,v4,v5,rfl,s2,hl2,hts,hlen,hsg,hhd,hth,hnm⟩
   refine⟨_,rfl,l,_,rfl,.inl ⟨SqL.of hl2,fun b gb=>?_⟩⟩
   have s3:G8 H2 (upd H2 b (.tup vs)):=(G8.refl H2).new gb
   exact q b ts _ (s2.trans s3) ⟨⟨vs,G1,hts.mono s3.tups⟩,by omega,by omega⟩ ⟨by omega,by omega,hth,hsg,hhd⟩ hnm
theorem a2W{α β:Type}{F:α->β->Prop}:∀{xs xs':List α}{ys ys':List β},Paired F xs ys->Paired F xs' ys'->Paired F (xs++xs') (ys++ys')
 | _,_,_,_,.nil,h=>h
 | _,_,_,_,.cons r t,h=> .cons r (a2W t h)
theorem a4s{α β:Type}{F:α->β->Prop}:∀{xs:List α}{ys:List β}(n:Nat),Paired F xs ys->Paired F (xs.take n) (ys.take n)
 | _,_,0,_=>by simp only[List.take_zero];exact .nil
 | _,_,n+1,.nil=>by simp only[List.take_nil];exact .nil
 | _,_,n+1,.cons r t=> .cons r (a4s n t)
theorem a4r{α β:Type}{F:α->β->Prop}:∀{xs:List α}{ys:List β}(n:Nat),Paired F xs ys->Paired F (xs.drop n) (ys.drop n)
 | _,_,0,h=>h
 | _,_,n+1,.nil=>by simp only[List.drop_nil];exact .nil
 | _,_,n+1,.cons r t=>a4r n t
theorem D1.refl(l:Addr)(A:List Q4)(H:Hp):D1 l A H H:=fun _ _ _ e=>e
theorem D1.same{l:Addr}{A:List Q4}{H H1 H2:Hp}(k:D1 l A H H1)(s:G8 H1 H2):D1 l A H H2:=fun a o ha e=>s _ _ (k a o ha e)
theorem D1.trans{l:Addr}{A:List Q4}{H H1 H2:Hp}(k:D1 l A H H1)(s:D1 l A H1 H2):D1 l A H H2:=fun a o ha e=>s _ _ ha (k a o ha e)
theorem D1.put{l:Addr}{A:List Q4}{H H1:Hp}(k:D1 l A H H1){i:Nat}{q:Q4}{x:Nat}{o:HO}(e:A[i]?=some q)(hx:x < 4):D1 l A H (upd H1 (q.nth x) o):=fun a c ha ec=>by
 rw[I0 (fun z=>ha (Or.inr (Or.inr ⟨i,q,x,e,hx,z.symm⟩)))]
 exact k a c ha ec
theorem a1x{H:Hp}{l:Addr}{A:List Q4}{hs:List Pp}(h:R7 H l A [] hs){i:Nat}{q:Q4}{pp:Pp}{vs:List V}{v:V}{pr:Pr}(k:Nat)(e1:A[i]?=some q)(e2:hs[i]?=some pp)(hv:H q.r=some (.lst vs))(hp:a7n H (inH l A []) v pr):
  R7 (upd H q.r (.lst (vs.take k++v::vs.drop k))) l A [] (hs.set i {pp with rows:=pp.rows.take k++pr::pp.rows.drop k}):=by
 refine h.put (x:=1) e1 e2 (by omega) (fun H' eH TT KK o4=>?_) ⟨_,hv⟩
 have P:=h.pt i q pp e1 e2
 obtain⟨vs',r1,r2⟩:=P.r
 have ev:vs'=vs:=by
  have:some (HO.lst vs')=some (HO.lst vs):=r1.symm.trans hv
  injection this with this
  injection this
 subst ev
 have kp:∀{w:V}{z:Pr},a7n H (inH l A []) w z->a7n H' (inH l A []) w z:=fun y=>y.keep TT fun a as ha hva=>⟨KK a as ha hva,ha⟩
 refine⟨(o4 0 (by omega) (by omega)).trans P.p,⟨vs'.take k++v::vs'.drop k,?_,?_⟩,(o4 2 (by omega) (by omega)).trans P.o,(o4 3 (by omega) (by omega)).trans P.g⟩
 ·rw[eH];exact G1
 ·have r3:=Paired.mapP r2 fun _ _ y=>kp y
  exact a2W (a4s k r3) (.cons (kp hp) (a4r k r3))
theorem b0D{H:Hp}{l:Addr}{A:List Q4}{hs:List Pp}(h:R7 H l A [] hs){i:Nat}{q:Q4}{pp:Pp}(y:Str)(e1:A[i]?=some q)(e2:hs[i]?=some pp):
  R7 (upd H q.o (.lst (pp.owns.map V.str++[.str y]))) l A [] (hs.set i {pp with owns:=pp.owns++[y]}):=by
 have P:=h.pt i q pp e1 e2
 refine h.put (x:=2) e1 e2 (by omega) (fun H' eH TT KK o4=>?_) ⟨_,P.o⟩
 obtain⟨vs',r1,r2⟩:=P.r
 refine⟨(o4 0 (by omega) (by omega)).trans P.p,⟨vs',(o4 1 (by omega) (by omega)).trans r1,Paired.mapP r2 fun _ _ y=>y.keep TT fun a as ha hva=>⟨KK a as ha hva,ha⟩⟩,?_,(o4 3 (by omega) (by omega)).trans P.g⟩
 rw[eH]
 show upd H q.o _ q.o=_
 rw[G1,List.map_append]
 rfl
theorem a9e{H:Hp}{l:Addr}{A:List Q4}{hs:List Pp}(h:R7 H l A [] hs){i:Nat}{q:Q4}{pp:Pp}(y:Str)(e1:A[i]?=some q)(e2:hs[i]?=some pp):
  R7 (upd H q.g (.lst (pp.gives.map V.str++[.str y]))) l A [] (hs.set i {pp with gives:=pp.gives++[y]}):=by
 have P:=h.pt i q pp e1 e2
 refine h.put (x:=3) e1 e2 (by omega) (fun H' eH TT KK o4=>?_) ⟨_,P.g⟩
 obtain⟨vs',r1,r2⟩:=P.r
 refine⟨(o4 0 (by omega) (by omega)).trans P.p,⟨vs',(o4 1 (by omega) (by omega)).trans r1,Paired.mapP r2 fun _ _ y=>y.keep TT fun a as ha hva=>⟨KK a as ha hva,ha⟩⟩,(o4 2 (by omega) (by omega)).trans P.o,?_⟩
 rw[eH]
 show upd H q.g _ q.g=_
 rw[G1,List.map_append]
 rfl
noncomputable def a1Z:Pr->List Str
 | .own _ n _=> [n]
 | .bring _ ps _=>ps.map (·.2)
 | _=> []
noncomputable def a4j:Pr->List Str
 | .give _ g _=> [g]
 | _=> []
noncomputable def a9f (xs:List Int):Prop:=xs.length=6/\Bnd xs
noncomputable def a7O (hs:List Pp) (i:Nat):Pr->Prop
 | .own k n xs=>(k="set" \/k="take")/\a9f xs
 | .bring j ps xs=>j < hs.length/\j≠i/\ps.length<=6/\(∀p∈ps,∃pq,hs[j]?=some pq/\p.1∈pq.gives)/\a9f xs
 | .give o g xs=>(∃pp,hs[i]?=some pp/\o∈pp.owns)/\a9f xs
 | .ask j xs=>j < hs.length/\j≠i/\a9f xs
 | .sum k xs=>(k="say" \/k="need")/\a9f xs
structure b5t(b0 b1:Int)(hs:List Pp)(i:Nat)(pp:Pp):Prop where
 n:∃n,pp.owns=W5 b0 pp.sh n/\n<=23
 m:∃m,pp.gives=W5 b1 pp.sh m/\m<=23
 r:pp.rows.length<=40
 md:(pp.rows.flatMap a1Z).Perm pp.owns
 gv:(pp.rows.flatMap a4j).Perm pp.gives
 ok:∀pr∈pp.rows,a7O hs i pr
noncomputable def a5M (b0 b1:Int) (hs:List Pp):Prop:=∀i pp,hs[i]?=some pp->b5t b0 b1 hs i pp
theorem a7O.mono{hs hs':List Pp}(hl:hs'.length=hs.length)(hg:∀(j:Nat)pq,hs[j]?=some pq->∃pq',hs'[j]?=some pq'/\(∀y∈pq.owns,y∈pq'.owns)/\(∀y∈pq.gives,y∈pq'.gives)){i:Nat}{pr:Pr}(h:a7O hs i pr):a7O hs' i pr:=by
 cases pr with
 | own k n xs=>exact h
 | bring j ps xs=>
  obtain⟨h1,h2,h3,h4,h5⟩:=h
  refine⟨by rw[hl];exact h1,h2,h3,fun p hp=>?_,h5⟩
  obtain⟨pq,e,m⟩:=h4 p hp
  obtain⟨pq',e',_,m'⟩:=hg j pq e
  exact⟨pq',e',m' _ m⟩
 | give o g xs=>
  obtain⟨⟨pp,e,m⟩,h5⟩:=h
  obtain⟨pq',e',m',_⟩:=hg i pp e
  exact⟨⟨pq',e',m' _ m⟩,h5⟩
 | ask j xs=>exact⟨by rw[hl];exact h.1,h.2⟩
 | sum k xs=>exact h
theorem a8k{β:Type}(f:Pr->List β)(rs:List Pr)(k:Nat)(y:Pr):((rs.take k++y::rs.drop k).flatMap f).Perm (f y++rs.flatMap f):=by
 rw[List.flatMap_append,BC]
 refine(List.perm_append_comm_assoc _ _ _).trans ?_
 rw[<-List.flatMap_append,List.take_append_drop]
theorem a5M.put{b0 b1:Int}{hs:List Pp}(h:a5M b0 b1 hs){i:Nat}{pp pp':Pp}{k:Nat}{y:Pr}(e:hs[i]?=some pp)(hn:∃n,pp'.owns=W5 b0 pp'.sh n/\n<=23)(hm:∃m,pp'.gives=W5 b1 pp'.sh m/\m<=23)(hr:pp'.rows=pp.rows.take k++y::pp.rows.drop k)(h39:pp.rows.length<=39)
  (ho:(a1Z y++pp.owns).Perm pp'.owns)(hg:(a4j y++pp.gives).Perm pp'.gives)(hy:a7O (hs.set i pp') i y):a5M b0 b1 (hs.set i pp'):=by
 have hi:=(List.getElem?_eq_some_iff.mp e).1
 have G:∀(j:Nat)pq,hs[j]?=some pq->∃pq',(hs.set i pp')[j]?=some pq'/\(∀y∈pq.owns,y∈pq'.owns)/\(∀y∈pq.gives,y∈pq'.gives):=fun j pq ej=>by
  by_cases hij:i=j
  ·subst hij
   rw[e]at ej
   cases ej
   exact⟨pp',BK hi,fun z hz=>ho.mem_iff.mp (AR _ hz),fun z hz=>hg.mem_iff.mp (AR _ hz)⟩
  ·exact⟨pq,by rw[BP hij];exact ej,fun z hz=>hz,fun z hz=>hz⟩
 intro j pq ej
 by_cases hij:i=j
 ·subst hij
  rw[BK hi]at ej
  cases ej
  have P:=h i pp e
  refine⟨hn,hm,?_,?_,?_,fun pr hpr=>?_⟩
  ·rw[hr,List.length_append,List.length_cons,BD,List.length_drop];omega
  ·rw[hr]
   exact(a8k a1Z pp.rows k y).trans ((List.Perm.append_left _ P.md).trans ho)
  ·rw[hr]
   exact(a8k a4j pp.rows k y).trans ((List.Perm.append_left _ P.gv).trans hg)
  ·rw[hr]at hpr
   rcases AL.mp hpr with z | z
   ·exact(P.ok pr (List.mem_of_mem_take z)).mono (List.length_set ..) G
   ·rcases List.mem_cons.mp z with z | z
    ·rw[z];exact hy
    ·exact(P.ok pr (List.mem_of_mem_drop z)).mono (List.length_set ..) G
 ·rw[BP hij]at ej
  have P:=h j pq ej
  exact⟨P.n,P.m,P.r,P.md,P.gv,fun pr hpr=>(P.ok pr hpr).mono (List.length_set ..) G⟩
noncomputable def Giv (hs:List Pp) (j:Nat) (g o:Str):Prop:=∃pq xs,hs[j]?=some pq/\Pr.give o g xs∈pq.rows
noncomputable def a5Q (hs:List Pp):Prop:=∃(rk:Nat->Str->Nat)(B:Nat),(∀i o,rk i o<=B)/\∀i pp,hs[i]?=some pp->∀j ps xs,Pr.bring j ps xs∈pp.rows->∀q∈ps,∃o,Giv hs j q.1 o/\rk j o < rk i q.2
theorem Giv.put{hs:List Pp}{i:Nat}{pp pp':Pp}(e:hs[i]?=some pp)(hr:∀r∈pp.rows,r∈pp'.rows){j:Nat}{g o:Str}(h:Giv hs j g o):Giv (hs.set i pp') j g o:=by
 obtain⟨pq,xs,e1,h1⟩:=h
 by_cases hij:i=j
 ·subst hij
  rw[e]at e1
  cases e1
  exact⟨pp',xs,BK (List.getElem?_eq_some_iff.mp e).1,hr _ h1⟩
 ·exact⟨pq,xs,by rw[BP hij];exact e1,h1⟩
theorem a4M{α:Type}{l:List α}{k:Nat}{y:α}:∀r,r∈l.take k++y::l.drop k↔r∈l\/r=y:=fun r=>by
 have h:=List.take_append_drop k l
 constructor
 ·intro z
  rcases AL.mp z with z | z
  ·exact .inl (List.mem_of_mem_take z)
  ·rcases List.mem_cons.mp z with z | z
   ·exact .inr z
   ·exact .inl (List.mem_of_mem_drop z)
 ·rintro(z | z)
  ·rw[<-h]at z
   rcases AL.mp z with z | z
   ·exact BF _ z
   ·exact AR _ (AK _ z)
  ·rw[z]
   exact AR _ AM
theorem a5Q.put{hs:List Pp}(h:a5Q hs){i:Nat}{pp pp':Pp}{k:Nat}{y:Pr}(e:hs[i]?=some pp)(hr:pp'.rows=pp.rows.take k++y::pp.rows.drop k)(hy:∀j ps xs,y≠ .bring j ps xs):a5Q (hs.set i pp'):=by
 obtain⟨rk,B,hB,h⟩:=h
 have hi:=(List.getElem?_eq_some_iff.mp e).1
 have hrm:∀r∈pp.rows,r∈pp'.rows:=fun r z=>by rw[hr];exact(a4M r).mpr (.inl z)
 refine⟨rk,B,hB,fun a pa ea j ps xs hm q hq=>?_⟩
 by_cases hia:i=a
 ·subst hia
  rw[BK hi]at ea
  cases ea
  rw[hr]at hm
  rcases(a4M _).mp hm with z | z
  ·obtain⟨o,h1,h2⟩:=h i pp e j ps xs z q hq
   exact⟨o,h1.put e hrm,h2⟩
  ·exact absurd z.symm (hy j ps xs)
 ·rw[BP hia]at ea
  obtain⟨o,h1,h2⟩:=h a pa ea j ps xs hm q hq
  exact⟨o,h1.put e hrm,h2⟩
theorem b0j{rows:List Pr}{g:Str}(h:g∈rows.flatMap a4j):∃o xs,Pr.give o g xs∈rows:=by
 obtain⟨pr,h1,h2⟩:=BL.mp h
 cases pr with
 | give o g' xs=>
  have:g=g':=by simpa [a4j]using h2
  subst this
  exact⟨o,xs,h1⟩
 | _=>simp[a4j]at h2
theorem a5Q.bring{b0 b1:Int}{hs:List Pp}(h:a5Q hs)(hI:a5M b0 b1 hs){i j:Nat}{pp pp' pq:Pp}{k:Nat}{ps:List (Str×Str)}{xs:List Int}(e:hs[i]?=some pp)(ej:hs[j]?=some pq)(hij:j≠i)(hr:pp'.rows=pp.rows.take k++Pr.bring j ps xs::pp.rows.drop k)(hg:∀q∈ps,q.1∈pq.gives)(hn:∀q∈ps,q.2∉pp.owns):a5Q (hs.set i pp'):=by
 obtain⟨rk,B,hB,h⟩:=h
 have hi:=(List.getElem?_eq_some_iff.mp e).1
 have hrm:∀r∈pp.rows,r∈pp'.rows:=fun r z=>by rw[hr];exact(a4M r).mpr (.inl z)
 have hnew:∀o∈pp.owns,o∉ps.map (·.2):=fun o ho z=>by
  obtain⟨q,hq,z⟩:=AT.mp z
  exact hn q hq (by rw[z];exact ho)
 have hgo:∀{a:Nat}{g o:Str},Giv hs a g o->¬(a=i/\o∈ps.map (·.2)):=fun{a g o}hv z=>by
  obtain⟨pa,ys,ea,hm⟩:=hv
  obtain⟨⟨pa',ea',ho⟩,_⟩:=(hI a pa ea).ok _ hm
  rw[z.1,e]at ea'
  cases ea'
  exact hnew o ho z.2
 have hmade:∀{j':Nat}{ps':List (Str×Str)}{ys:List Int},Pr.bring j' ps' ys∈pp.rows->∀q∈ps',q.2∉ps.map (·.2):=fun{j' ps' ys}hm q hq=>by
  refine hnew q.2 ((hI i pp e).md.mem_iff.mp (BL.mpr ⟨_,hm,?_⟩))
  exact AN (f:=(·.2)) hq
 refine⟨fun a o=>if a=i/\o∈ps.map (·.2)then B+1 else rk a o,B+1,fun a o=>?_,fun a pa ea j' ps' ys hm q hq=>?_⟩
 ·by_cases z:a=i/\o∈ps.map (·.2)
  ·simp only[if_pos z];omega
  ·simp only[if_neg z]
   have:=hB a o
   omega
 ·by_cases hia:i=a
  ·subst hia
   rw[BK hi]at ea
   cases ea
   rw[hr]at hm
   rcases(a4M _).mp hm with z | z
   ·obtain⟨o,h1,h2⟩:=h i pp e j' ps' ys z q hq
    refine⟨o,h1.put e hrm,?_⟩
    show(if j'=i/\o∈ps.map (·.2)then B+1 else rk j' o) < (if i=i/\q.2∈ps.map (·.2)then B+1 else rk i q.2)
    rw[if_neg (hgo h1),if_neg (fun y:i=i/\q.2∈ps.map (·.2)=>hmade z q hq y.2)]
    exact h2
   ·cases z
    obtain⟨o,ys',hgm⟩:=b0j ((hI j pq ej).gv.mem_iff.mpr (hg q hq))
    have h1:Giv hs j q.1 o:=⟨pq,ys',ej,hgm⟩
    refine⟨o,h1.put e hrm,?_⟩
    show(if j=i/\o∈ps.map (·.2)then B+1 else rk j o) < (if i=i/\q.2∈ps.map (·.2)then B+1 else rk i q.2)
    rw[if_neg (hgo h1),if_pos (show i=i/\q.2∈ps.map (·.2)from⟨rfl,AN (f:=(·.2)) hq⟩)]
    have:=hB j o
    omega
  ·rw[BP hia]at ea
   obtain⟨o,h1,h2⟩:=h a pa ea j' ps' ys hm q hq
   refine⟨o,h1.put e hrm,?_⟩
   show(if j'=i/\o∈ps.map (·.2)then B+1 else rk j' o) < (if a=i/\q.2∈ps.map (·.2)then B+1 else rk a q.2)
   rw[if_neg (hgo h1),if_neg (fun y:a=i/\q.2∈ps.map (·.2)=>hia y.1.symm)]
   exact h2
noncomputable def b4b:Sp:=fun vs H Q _=>∃(l pl x:Addr)(A:List Q4)(hs:List Pp)(b0 b1 b2:Int)(xs:List Int),vs=[.ref l,.ref pl,.ref x]/\R7 H l A [] hs/\a2I H pl l A b0 b1 b2/\a7s H (inH l A []) x xs/\a9f xs/\1<=hs.length/\hs.length<=24/\a5M b0 b1 hs/\a5Q hs/\
 ∀(hs':List Pp)(H':Hp),R7 H' l A [] hs'->hs'.length=hs.length->a5M b0 b1 hs'->a5Q hs'->D1 l A H H'->Q .non H'
theorem a3Q{t u:TT}{σ:L2.St}{H:Hp}{a b:Bool}(ht:∀Q:Bool->Hp->Prop,Q a H->t σ H Q)(hu:∀Q:Bool->Hp->Prop,Q b H->u σ H Q):∀Q:Bool->Hp->Prop,Q (a && b) H->b0I t u σ H Q:=fun Q h=>by
 refine ht _ ?_
 cases a with
 | true=>exact a0b (hu _ h)
 | false=>exact B6 h
theorem b2g{t u:TT}{σ:L2.St}{H:Hp}{a b:Bool}{Q:Bool->Hp->Prop}(ht:∀Q:Bool->Hp->Prop,Q a H->t σ H Q)(hu:∀Q:Bool->Hp->Prop,Q b H->u σ H Q)(h:Q (a || b) H):tOr t u σ H Q:=by
 refine ht _ ?_
 cases a with
 | true=>exact a0b h
 | false=>exact B6 (hu _ h)
theorem b1O{t u:TT}{A B R:TS}{D:a0X}{σ:L2.St}{H:Hp}{a b:Bool}(ht:∀Q:Bool->Hp->Prop,Q a H->t σ H Q)(hu:∀Q:Bool->Hp->Prop,Q b H->u σ H Q)(h:if(a || b)=true then A {D with nx:=R D} σ H else B {D with nx:=R D} σ H):b0z (a8Z (tOr t u) A B) R D σ H:=b2g ht hu h
theorem b2b{t u:TT}{A B R:TS}{D D2:a0X}{σ:L2.St}{H:Hp}{a b:Bool}(e:D2.nx=b0z (a8Z (tOr t u) A B) R D)(ht:∀Q:Bool->Hp->Prop,Q a H->t σ H Q)(hu:∀Q:Bool->Hp->Prop,Q b H->u σ H Q)(h:if(a || b)=true then A {D with nx:=R D} σ H else B {D with nx:=R D} σ H):a4W D2 σ H:=by
 show D2.nx σ H
 rw[e]
 exact b1O ht hu h
theorem b3f{t u:TT}{A B:TS}{D:a0X}{σ:L2.St}{H:Hp}{a b:Bool}(ht:∀Q:Bool->Hp->Prop,Q a H->t σ H Q)(hu:∀Q:Bool->Hp->Prop,Q b H->u σ H Q)(h:if(a && b)=true then A D σ H else B D σ H):a8Z (b0I t u) A B D σ H:=a3Q ht hu _ h
theorem b4m{t u:TT}{A B:TS}{D:a0X}{σ:L2.St}{H:Hp}{a b:Bool}(ht:∀Q:Bool->Hp->Prop,Q a H->t σ H Q)(hu:∀Q:Bool->Hp->Prop,(∀H1,G8 H H1->Q b H1)->u σ H Q)(h:∀H1,G8 H H1->if(a && b)=true then A D σ H1 else B D σ H1):a8Z (b0I t u) A B D σ H:=by
 refine ht _ ?_
 cases a with
 | true=>exact a0b (hu _ h)
 | false=>exact B6 (h H (G8.refl H))
theorem b2V{c:Int}(h0:0<=c)(h1:c < 4):∃k:Str,atI [V.str "set",V.str "set",V.str "set",V.str "take"] c=some (.str k)/\(k="set" \/k="take"):=by
 have:c=0\/c=1\/c=2\/c=3:=by omega
 rcases this with rfl | rfl | rfl | rfl
 ·exact⟨_,rfl,.inl rfl⟩
 ·exact⟨_,rfl,.inl rfl⟩
 ·exact⟨_,rfl,.inl rfl⟩
 ·exact⟨_,rfl,.inr rfl⟩
theorem a9z{c:Int}(h0:0<=c)(h1:c < 2):∃k:Str,atI [V.str "say",V.str "need"] c=some (.str k)/\(k="say" \/k="need"):=by
 have:c=0\/c=1:=by omega
 rcases this with rfl | rfl
 ·exact⟨_,rfl,.inl rfl⟩
 ·exact⟨_,rfl,.inr rfl⟩
theorem b3d{a L y:Int}{i:Nat}(hL:0 < L)(hi:(i:Int) < L)(h0:0<=y):∃j:Nat,((i:Int)+1+y % (if L - 1 > 1 then L - 1 else 1)) % L=j/\(j:Int) < L/\(1 < L->j≠i):=by
 have hm:(0:Int) < (if L - 1 > 1 then L - 1 else 1):=by split<;>omega
 have r0:=BO y (Int.ne_of_gt hm)
 have r1:=BQ y hm
 have r2:1 < L->y % (if L - 1 > 1 then L - 1 else 1) < L - 1:=fun h=>by
  have:(if L - 1 > 1 then L - 1 else 1)<=L - 1:=by split<;>omega
  omega
 have r3:¬1 < L->y % (if L - 1 > 1 then L - 1 else 1)=0:=fun h=>by
  have:(if L - 1 > 1 then L - 1 else 1)=1:=by rw[if_neg (by omega)]
  rw[this]at r0 r1⊢
  omega
 generalize y % (if L - 1 > 1 then L - 1 else 1)=r at*
 have e0:=BO ((i:Int)+1+r) (Int.ne_of_gt hL)
 have e1:=BQ ((i:Int)+1+r) hL
 refine⟨(((i:Int)+1+r) % L).toNat,by omega,by omega,fun h z=>?_⟩
 have r2':=r2 h
 by_cases hc:(i:Int)+1+r < L
 ·rw[Int.emod_eq_of_lt (by omega) hc]at z
  omega
 ·have e2:((i:Int)+1+r) % L=(i:Int)+1+r - L:=by
   rw[show(i:Int)+1+r=((i:Int)+1+r - L)+L by omega,Int.add_emod_right,Int.emod_eq_of_lt (by omega) (by omega)]
   omega
  rw[e2]at z
  omega
theorem a2I.keep{H H':Hp}{pl l:Addr}{A:List Q4}{b0 b1 b2:Int}(h:a2I H pl l A b0 b1 b2)(k:D1 l A H H'):a2I H' pl l A b0 b1 b2:=⟨k _ _ h.n h.h,h.n,h.r0,h.r1,h.r2⟩
theorem b2I{c:Bool}{N:L2.St->Hp->Prop}{H:Hp}(S:Int->L2.St)(C:Int->Prop)(k1 k2:Int)(h1:c=true->C k1)(h2:c=false->C k2)(h:∀k,C k->N (S k) H):if c=true then N (S k1) H else N (S k2) H:=by
 cases c with
 | true=>exact a0b (h _ (h1 rfl))
 | false=>exact B6 (h _ (h2 rfl))
theorem a1n{b sh:Int}(hb:0<=b){n:Nat}(hn:n<=24):(W5 b sh n).Nodup:=by
 unfold W5
 rw[BI,List.pairwise_map]
 refine List.Pairwise.imp_of_mem (fun{i j}hi hj hne h=>hne ?_) List.nodup_range
 have h1:=List.mem_range.mp hi
 have h2:=List.mem_range.mp hj
 have:=a3Z hb (by omega) (by omega) (by omega) (by omega) h
 omega
theorem b2T(T:Txt K mg):L2.Cl P w K mg base 4 "_law_added" ["_law_house","_law_pools_here","_law_xs"] b4b:=by
 have C_law_fresh:=a7J (P:=P) (w:=w) (base:=base) T
 have C_law_pairs:=b3b (P:=P) (w:=w) (base:=base) T
 refine Cl.of T.d_law_added O4 (fun vs H Q E h=>?_) (fun _ _ _ _ _ _ us hl=>by obtain⟨a,b,c,rfl⟩:=a7l hl;rfl) (fun f cdv A' outer s H vs Q E hr h=>?_)
 ·obtain⟨l,pl,x,A,hs,b0,b1,b2,xs,rfl,_⟩:=h
  rfl
 ·obtain⟨l,pl,x,A,hs,b0,b1,b2,xs,rfl,hh,hpl,⟨hx,hxn⟩,⟨h6,hb⟩,hs1,hs2,hI,hR,q⟩:=h
  have hu0:=Nat.lt_of_succ_lt (B5 hr)
  have R:=a9i h6 hb
  have hAl:((A.map fun q=>V.ref q.p).length:Int)=hs.length:=by rw[List.length_map,hh.len]
  have hlp:(0:Int) < ((A.map fun q=>V.ref q.p).length:Int):=by rw[hAl];omega
  refine⟨_,(G7 (J3 (i:=3) O4.nd rfl (Or.inl rfl) (J1 U1 (J2 J4 (pv 2) G2 (fun _ _=>rfl)) (R4 J9 (by rfl) T.n_len PySem.boot_len (G0 (pv 0) G6))))
   (G7 (J3 (i:=4) O4.nd rfl (Or.inl rfl) (J2 J4 (pv 0) (pv 3) (fun _ _=>rfl)))
   (G7 (J3 (i:=5) O4.nd rfl (Or.inl rfl) (J1 U1 (J2 J4 (pv 2) G2 (fun _ _=>rfl)) (J1 Z6 (R4 J9 (by rfl) T.n_len PySem.boot_len (G0 (J2 J4 (pv 4) G2 (fun _ _=>rfl)) G6)) G2)))
   (G7 (J3 (i:=6) O4.nd rfl (Or.inl rfl) (J1 U1 (J2 J4 (pv 2) G2 (fun _ _=>rfl)) G2))
   (G7 (J3 (i:=7) O4.nd rfl (Or.inl rfl) (J1 U1 (J1 Z6 (J1 Z6 (pv 3) G2) (J1 U1 (J2 J4 (pv 2) G2 (fun _ _=>rfl)) (R4 (a6c rfl) (by rfl) T.n_max boot_max (G0 G2 (G0 (J1 b6e (R4 J9 (by rfl) T.n_len PySem.boot_len (G0 (pv 0) G6)) G2) G6))))) (R4 J9 (by rfl) T.n_len PySem.boot_len (G0 (pv 0) G6))))
   (G7 (Y8 (R0 a5r (R4 J9 (by rfl) T.n_len PySem.boot_len (G0 (J2 J4 (pv 4) G2 (fun _ _=>rfl)) G6)) G2 (U4 _))
    (G9 b4w) U9)
   (G7 (Y8 (PW.pt (a9W (PW.pt (a1D (R0 a5r (R4 J9 (by rfl) T.n_len PySem.boot_len (G0 (J2 J4 (pv 4) G2 (fun _ _=>rfl)) G6)) G2 (U4 _)) (a0E (R0 a6D (pv 6) G2 (U4 _))))) (a9a (PW.pt (a1D (R0 a5r (R4 J9 (by rfl) T.n_len PySem.boot_len (G0 (J2 J4 (pv 4) G2 (fun _ _=>rfl)) G6)) G2 (U4 _)) (a0E (R0 a6D (pv 6) G2 (U4 _))))))))
    (G9 (J3 (i:=6) O4.nd rfl (Or.inl rfl) G2)) U9)
   (G9 (Y8 (R0 a6D (pv 6) G2 (U4 _))
    (G7 (J3 (i:=8) O4.nd rfl (Or.inl rfl) (W4 C_law_fresh hr (by rfl) (G0 (pv 4) (G0 (J2 J4 (pv 1) G2 (fun _ _=>rfl)) (G0 (R4 J9 (by rfl) T.n_len PySem.boot_len (G0 (J2 J4 (pv 4) G2 (fun _ _=>rfl)) G6)) G6)))))
    (G7 (Y5 (B4 PySem.F.plainAttrs_list PySem.F.slot_list_append PySem.F.type_list_append Z8 (J2 J4 (pv 4) G2 (fun _ _=>rfl)) (G0 (pv 8) G6)))
    (G9 (Y5 (B4 PySem.F.plainAttrs_list PySem.F.slot_list_insert PySem.F.type_list_insert a1s (J2 J4 (pv 4) G2 (fun _ _=>rfl)) (G0 (pv 5) (G0 (U6 (G0 (J2 J4 (Y2 (b4a (.cons (.cons (.cons (.cons .nil)))))) (pv 6) (fun _ _=>rfl)) (G0 (pv 8) (G0 (pv 2) G6)))) G6))))))) (G9 (Y8 (PW.pt (a1D (R0 a6D (pv 6) G2 (U4 _)) (a0E (R0 a5r (R4 J9 (by rfl) T.n_len PySem.boot_len (G0 (pv 0) G6)) G2 (U4 _)))))
     (G9 (Y5 (B4 PySem.F.plainAttrs_list PySem.F.slot_list_insert PySem.F.type_list_insert a1s (J2 J4 (pv 4) G2 (fun _ _=>rfl)) (G0 (pv 5) (G0 (U6 (G0 U5 (G0 (U6 (G0 (pv 7) (G0 (W4 C_law_pairs hr (by rfl) (G0 (pv 0) (G0 (pv 1) (G0 (pv 3) (G0 (pv 7) (G0 (pv 2) G6)))))) G6))) (G0 (pv 2) G6)))) G6))))) (G9 (Y8 (PW.pt (a1D (R0 a6D (pv 6) G2 (U4 _)) (a0E (R0 (a1C hu0) (J2 J4 (pv 4) G2 (fun _ _=>rfl)) (Y2 G6) (U4 _)))))
      (G7 (J3 (i:=9) O4.nd rfl (Or.inl rfl) (W4 C_law_fresh hr (by rfl) (G0 (pv 4) (G0 (J2 J4 (pv 1) G2 (fun _ _=>rfl)) (G0 (R4 J9 (by rfl) T.n_len PySem.boot_len (G0 (J2 J4 (pv 4) G2 (fun _ _=>rfl)) G6)) G6)))))
      (G7 (Y5 (B4 PySem.F.plainAttrs_list PySem.F.slot_list_append PySem.F.type_list_append Z8 (J2 J4 (pv 4) G2 (fun _ _=>rfl)) (G0 (pv 9) G6)))
      (G9 (Y5 (B4 PySem.F.plainAttrs_list PySem.F.slot_list_insert PySem.F.type_list_insert a1s (J2 J4 (pv 4) G2 (fun _ _=>rfl)) (G0 (pv 5) (G0 (U6 (G0 U5 (G0 (U6 (G0 (J2 J4 (J2 J4 (pv 4) G2 (fun _ _=>rfl)) (J1 U1 (J2 J4 (pv 2) G2 (fun _ _=>rfl)) (R4 J9 (by rfl) T.n_len PySem.boot_len (G0 (J2 J4 (pv 4) G2 (fun _ _=>rfl)) G6))) (fun _ _=>rfl)) (G0 (pv 9) G6))) (G0 (pv 2) G6)))) G6))))))) (G9 (Y8 (PW.pt (a1D (R0 F3 (pv 6) G2 (U4 _)) (a0E (R0 a5r (R4 J9 (by rfl) T.n_len PySem.boot_len (G0 (pv 0) G6)) G2 (U4 _)))))
       (G9 (Y5 (B4 PySem.F.plainAttrs_list PySem.F.slot_list_insert PySem.F.type_list_insert a1s (J2 J4 (pv 4) G2 (fun _ _=>rfl)) (G0 (pv 5) (G0 (U6 (G0 U5 (G0 (pv 7) (G0 (pv 2) G6)))) G6))))) (G9 (Y5 (B4 PySem.F.plainAttrs_list PySem.F.slot_list_insert PySem.F.type_list_insert a1s (J2 J4 (pv 4) G2 (fun _ _=>rfl)) (G0 (pv 5) (G0 (U6 (G0 (J2 J4 (Y2 (G0 U5 (G0 U5 G6))) (J1 U1 (J2 J4 (pv 2) G2 (fun _ _=>rfl)) G2) (fun _ _=>rfl)) (G0 a4P (G0 (pv 2) G6)))) G6)))))))))))))))))))),?_⟩
  refine⟨_,rfl,x,_,_,_,rfl,rfl,SqL.of hx,Y0 V.int xs 0 (by decide) (by omega),_,rfl,l,_,rfl,.inl (SqL.of hh.ll),_,_,rfl,rfl,hlp,?_⟩
  show a0s 3 (V.int (xs.getD (5:Int).toNat 0 % ((A.map fun q=>V.ref q.p).length:Int))) _ _ _
  obtain⟨i,hi,hie⟩:∃i:Nat,i < hs.length/\xs.getD (5:Int).toNat 0 % ((A.map fun q=>V.ref q.p).length:Int)=i:=⟨(xs.getD (5:Int).toNat 0 % ((A.map fun q=>V.ref q.p).length:Int)).toNat,by have:=BQ (xs.getD (5:Int).toNat 0) hlp;have:=BO (xs.getD (5:Int).toNat 0) (Int.ne_of_gt hlp);omega,by have:=BO (xs.getD (5:Int).toNat 0) (Int.ne_of_gt hlp);omega⟩
  rw[hie]
  clear hie
  obtain⟨pp,ei⟩:∃pp,hs[i]?=some pp:=⟨hs[i],by simp[hi]⟩
  obtain⟨qi,eqi⟩:∃q,A[i]?=some q:=⟨A[i]'(by rw[hh.len];exact hi),by simp[hh.len,hi]⟩
  have mi:(A.map fun q=>V.ref q.p)[i]?=some (.ref qi.p):=by rw[List.getElem?_map,eqi];rfl
  have Pi:=hh.pt i qi pp eqi ei
  obtain⟨rv,hrv,hrp⟩:=Pi.r
  have hrl:rv.length=pp.rows.length:=AF hrp
  have OK:=hI i pp ei
  obtain⟨n,hn,hn23⟩:=OK.n
  obtain⟨m,hm,hm23⟩:=OK.m
  have hol:(pp.owns.map V.str).length=n:=by rw[List.length_map,hn,a0V]
  have hgl:(pp.gives.map V.str).length=m:=by rw[List.length_map,hm,a0V]
  refine⟨_,rfl,_,rfl,l,_,_,_,rfl,rfl,SqL.of hh.ll,W9 mi,?_⟩
  refine⟨_,rfl,x,_,_,_,rfl,rfl,SqL.of hx,Y0 V.int xs 0 (by decide) (by omega),_,rfl,qi.p,_,_,_,rfl,rfl,SqL.of Pi.p,rfl,qi.r,_,rfl,.inl (SqL.of hrv),_,_,rfl,rfl,_,_,rfl,rfl,(by show(0:Int) < (rv.length:Int)+1;omega),?_⟩
  show a0s 5 (V.int (xs.getD (4:Int).toNat 0 % ((rv.length:Int)+1))) _ _ _
  obtain⟨k,hk,hke⟩:∃k:Nat,k<=rv.length/\xs.getD (4:Int).toNat 0 % ((rv.length:Int)+1)=k:=⟨(xs.getD (4:Int).toNat 0 % ((rv.length:Int)+1)).toNat,by have:=BQ (xs.getD (4:Int).toNat 0) (show(0:Int) < (rv.length:Int)+1 by omega);have:=BO (xs.getD (4:Int).toNat 0) (show(rv.length:Int)+1≠0 by omega);omega,by have:=BO (xs.getD (4:Int).toNat 0) (show(rv.length:Int)+1≠0 by omega);omega⟩
  rw[hke]
  clear hke
  refine⟨_,rfl,x,_,_,_,rfl,rfl,SqL.of hx,Y0 V.int xs 0 (by decide) (by omega),_,_,rfl,rfl,(by show(0:Int) < 10;decide),?_⟩
  refine a3L (fun d=>0<=d/\d < 10) _ ⟨by omega,by omega⟩ (fun d hd=>?_)
  have hmx:(0:Int) < (if((A.map fun q=>V.ref q.p).length:Int) - 1 > 1 then((A.map fun q=>V.ref q.p).length:Int) - 1 else 1):=by split<;>omega
  refine⟨_,rfl,_,_,rfl,rfl,_,rfl,x,_,_,_,rfl,rfl,SqL.of hx,Y0 V.int xs 0 (by decide) (by omega),_,rfl,l,_,rfl,.inl (SqL.of hh.ll),_,_,rfl,rfl,_,_,rfl,_,_,rfl,rfl,hmx,_,_,rfl,rfl,_,rfl,l,_,rfl,.inl (SqL.of hh.ll),_,_,rfl,rfl,hlp,?_⟩
  refine a3L (fun j=>∃j':Nat,j=j'/\j' < hs.length/\(1 < hs.length->j'≠i)) _ ?_ (fun j hj=>?_)
  ·obtain⟨j',e1,e2,e3⟩:=b3d (a:=0) (y:=xs.getD (1:Int).toNat 0) (i:=i) hlp (by omega) (R 1 (by decide) (by decide)).1
   exact⟨j',e1,by omega,fun h=>e3 (by omega)⟩
  obtain⟨j,rfl,hj,hji⟩:=hj
  refine⟨_,rfl,qi.p,_,_,_,rfl,rfl,SqL.of Pi.p,rfl,qi.r,_,rfl,.inl (SqL.of hrv),_,_,rfl,rfl,_,rfl,?_⟩
  refine a4X (fun c0=>?_) (fun c0=>?_)
  ·exact q hs H hh rfl hI hR (D1.refl l A H)
  have h39:pp.rows.length<=39:=by
   have:¬((rv.length:Int) > 39):=by simpa using c0
   omega
  apply b2b
  ·with_reducible_and_instances rfl
  ·exact a3Q (a:=decide (((pp.owns.map V.str).length:Int) > 17)) (b:=decide (d < 6)) (fun Q' h=>⟨_,rfl,qi.p,_,_,_,rfl,rfl,SqL.of Pi.p,rfl,qi.o,_,rfl,.inl (SqL.of Pi.o),_,_,rfl,rfl,_,rfl,h⟩) (fun Q' h=>⟨_,rfl,_,_,rfl,rfl,_,rfl,h⟩)
  ·exact a3Q (a:=decide (((pp.gives.map V.str).length:Int) > 22)) (b:=decide (d < 8)) (fun Q' h=>⟨_,rfl,qi.p,_,_,_,rfl,rfl,SqL.of Pi.p,rfl,qi.g,_,rfl,.inl (SqL.of Pi.g),_,_,rfl,rfl,_,rfl,h⟩) (fun Q' h=>⟨_,rfl,_,_,rfl,rfl,_,rfl,h⟩)
  refine b2I (S:=fun e=> [some (.ref l),some (.ref pl),some (.ref x),some (.int i),some (.ref qi.p),some (.int k),some (.int e),some (.int j),none,none]) (fun c=>0<=c/\c < 10/\(c < 6->n<=17)/\(c < 8->m<=22)) 8 d ?_ ?_ (fun c hc=>?_)
  ·exact fun _=>⟨by decide,by decide,fun h=>absurd h (by decide),fun h=>absurd h (by decide)⟩
  ·intro hf
   simp only[Bool.or_eq_false_iff,Bool.and_eq_false_iff,decide_eq_false_iff_not]at hf
   exact⟨hd.1,hd.2,fun h=>by omega,fun h=>by omega⟩
  obtain⟨hc0,hc1,hc6,hc8⟩:=hc
  have hset:∀pp':Pp,(hs.set i pp')[i]?=some pp':=fun pp'=>BK hi
  refine⟨_,rfl,_,_,rfl,rfl,_,rfl,?_⟩
  refine a4X (fun c1=>?_) (fun c1=>?_)
  ·have c1':c < 4:=by simpa using c1
   obtain⟨kk,hat,hkk⟩:=b2V hc0 c1'
   refine⟨_,rfl,_,rfl,pl,_,_,_,rfl,rfl,SqL.of hpl.h,rfl,_,rfl,qi.p,_,_,_,rfl,rfl,SqL.of Pi.p,rfl,qi.o,_,rfl,.inl (SqL.of Pi.o),?_⟩
   refine⟨qi.p,qi.r,qi.o,qi.g,b0,_,pp.sh,rfl,Pi.p,hpl.r0.1,hpl.r0.2,by omega,fun H3 s3=>?_⟩
   rw[hol]
   have h3:=hh.same s3
   have P3:=h3.pt i qi pp eqi ei
   refine⟨_,rfl,qi.p,_,_,_,rfl,rfl,SqL.of P3.p,rfl,.inl ⟨rfl,_,SqL.of P3.o⟩,_,rfl,qi.o,_,_,rfl,rfl,P3.o,J6 (by rw[hol];omega),?_⟩
   have h4:=b0D h3 (W8 b0 (((n:Int)+pp.sh) % 24)) eqi ei
   have k4:D1 l A H (upd H3 qi.o (.lst (pp.owns.map V.str++[.str (W8 b0 (((n:Int)+pp.sh) % 24))]))):=((D1.refl l A H).same s3).put (x:=2) eqi (by omega)
   generalize upd H3 qi.o (.lst (pp.owns.map V.str++[.str (W8 b0 (((n:Int)+pp.sh) % 24))]))=H4 at h4 k4⊢
   have P4:=h4.pt i qi _ eqi (hset _)
   obtain⟨rv4,hrv4,hrp4⟩:=P4.r
   have hrl4:rv4.length=pp.rows.length:=AF hrp4
   refine⟨_,rfl,qi.p,_,_,_,rfl,rfl,SqL.of P4.p,rfl,.inl ⟨rfl,_,SqL.of hrv4⟩,_,rfl,(by show 4<=sizeLine;decide),fun g hg=>?_⟩
   have s5:G8 H4 (upd H4 g (.lst [.str "set",.str "set",.str "set",.str "take"])):=(G8.refl H4).new hg
   refine⟨_,rfl,g,_,_,_,rfl,rfl,SqL.of G1,hat,_,rfl,_,rfl,a0A,fun tp htp=>?_⟩
   have s6:=s5.new (o:= .tup [.str kk,.str (W8 b0 (((n:Int)+pp.sh) % 24)),.ref x]) htp
   refine⟨qi.r,_,_,_,rfl,rfl,s6 _ _ hrv4,(by omega),(by show(k:Int)<=(rv4.length:Int);omega),J6 (by omega),?_⟩
   have h7:=a1x (h4.same s6) (pr:= .own kk (W8 b0 (((n:Int)+pp.sh) % 24)) xs) k eqi (hset _) (s6 _ _ hrv4) ⟨tp,x,rfl,G1,(k4.same s6) _ _ hxn hx,hxn⟩
   rw[List.set_set]at h7
   refine q _ _ h7 (List.length_set ..) ?_ (hR.put (k:=k) (y:= .own kk (W8 b0 (((n:Int)+pp.sh) % 24)) xs) ei rfl (fun _ _ _ z=>by cases z)) ((k4.same s6).put (x:=1) eqi (by omega))
   exact hI.put (k:=k) (y:= .own kk (W8 b0 (((n:Int)+pp.sh) % 24)) xs) ei ⟨n+1,by show pp.owns++[_]=_;rw[hn,a1d],by have:=hc6 (by omega);omega⟩ ⟨m,hm,hm23⟩ rfl h39 List.perm_append_comm (List.Perm.refl _) ⟨hkk,h6,hb⟩
  have c1':¬c < 4:=by simpa using c1
  with_reducible apply b3f
  ·exact fun Q' h=>⟨_,rfl,_,_,rfl,rfl,_,rfl,h⟩
  ·exact fun Q' h=>⟨_,rfl,l,_,rfl,.inl (SqL.of hh.ll),_,_,rfl,rfl,_,rfl,h⟩
  refine a4X (fun c2=>?_) (fun c2=>?_)
  ·simp only[Bool.and_eq_true,decide_eq_true_eq]at c2
   obtain⟨pq,ej⟩:∃pq,hs[j]?=some pq:=⟨hs[j],by simp[hj]⟩
   have hjn:=hji (by have:=c2.2;omega)
   obtain⟨m',hm',hm23'⟩:=(hI j pq ej).m
   have hn17:=hc6 c2.1
   refine⟨_,rfl,qi.p,_,_,_,rfl,rfl,SqL.of Pi.p,rfl,.inl ⟨rfl,_,SqL.of hrv⟩,_,rfl,_,rfl,_,rfl,_,rfl,_,rfl,_,rfl,_,rfl,?_⟩
   refine⟨l,pl,x,A,hs,b0,b1,b2,i,j,n,pp,pq,xs,rfl,hh,hpl,⟨hx,hxn⟩,h6,hb,ei,ej,hjn.symm,hn,hn17,(by rw[hm'];exact a3O hpl.r1.1),(by rw[hm',a0V];omega),fun mm ps q' H4 hmm hpl4 hdr hgv hpa h4 k4=>?_⟩
   have P4:=h4.pt i qi _ eqi (hset _)
   obtain⟨rv4,hrv4,hrp4⟩:=P4.r
   have hrl4:rv4.length=pp.rows.length:=AF hrp4
   refine⟨F2,fun u hu'=>?_⟩
   have s5:G8 H4 (upd H4 u (.tup [.int j,.ref q'])):=(G8.refl H4).new hu'
   refine⟨_,rfl,a0A,fun tp htp=>?_⟩
   have s6:=s5.new (o:= .tup [.str "bring",.ref u,.ref x]) htp
   refine⟨qi.r,_,_,_,rfl,rfl,s6 _ _ hrv4,(by omega),(by show(k:Int)<=(rv4.length:Int);omega),J6 (by omega),?_⟩
   have h7:=a1x (h4.same s6) (pr:= .bring j ps xs) k eqi (hset _) (s6 _ _ hrv4) ⟨tp,u,q',x,rfl,G1,U3 G1 htp,hpa.mono s6.tups,(k4.same s6) _ _ hxn hx,hxn⟩
   rw[List.set_set]at h7
   refine q _ _ h7 (List.length_set ..) ?_ (hR.bring hI (k:=k) (ps:=ps) (xs:=xs) ei ej hjn rfl hgv ?_) ((k4.same s6).put (x:=1) eqi (by omega))
   rotate_left
   ·intro p hp z
    have h1:(W5 b0 pp.sh (n+mm)).Nodup:=a1n hpl.r0.1 (by omega)
    rw[<-hdr]at h1
    exact(AO.mp h1).2.2 _ (by rw[<-hn];exact z) _ (AN (f:=(·.2)) hp) rfl
   refine hI.put (k:=k) (y:= .bring j ps xs) ei ⟨n+mm,rfl,by omega⟩ ⟨m,hm,hm23⟩ rfl h39 ?_ (List.Perm.refl _) ⟨by rw[List.length_set];exact hj,hjn,by omega,fun p hp=>⟨pq,by rw[BP hjn.symm];exact ej,hgv p hp⟩,h6,hb⟩
   show(ps.map (·.2)++pp.owns).Perm (W5 b0 pp.sh (n+mm))
   rw[<-hdr,<-hn]
   exact List.perm_append_comm
  with_reducible apply b4m (b:= !(pp.owns.map V.str).isEmpty)
  ·exact fun Q' h=>⟨_,rfl,_,_,rfl,rfl,_,rfl,h⟩
  ·exact fun Q' h=>⟨_,rfl,qi.p,_,_,_,rfl,rfl,SqL.of Pi.p,rfl,a0W,fun e he=>⟨qi.o,e,_,rfl,rfl,SqL.of (((G8.refl H).new he) _ _ Pi.o),SqL.of G1,_,rfl,h _ ((G8.refl H).new he)⟩⟩
  intro H1 s1
  have h1:=hh.same s1
  have k1:=(D1.refl l A H).same s1
  have P1:=h1.pt i qi pp eqi ei
  have hpl1:=hpl.keep k1
  refine a4X (fun c3=>?_) (fun c3=>?_)
  ·simp only[Bool.and_eq_true,decide_eq_true_eq]at c3
   have hop:0 < ((pp.owns.map V.str).length:Int):=by
    cases e:pp.owns.map V.str with
    | nil=>rw[e]at c3;exact absurd c3.2 (by decide)
    | cons a r=>rw[List.length_cons];omega
   have hm22:=hc8 c3.1
   refine⟨_,rfl,_,rfl,pl,_,_,_,rfl,rfl,SqL.of hpl1.h,rfl,_,rfl,qi.p,_,_,_,rfl,rfl,SqL.of P1.p,rfl,qi.g,_,rfl,.inl (SqL.of P1.g),?_⟩
   refine⟨qi.p,qi.r,qi.o,qi.g,b1,_,pp.sh,rfl,P1.p,hpl.r1.1,hpl.r1.2,by omega,fun H3 s3=>?_⟩
   rw[hgl]
   have h3:=h1.same s3
   have P3:=h3.pt i qi pp eqi ei
   refine⟨_,rfl,qi.p,_,_,_,rfl,rfl,SqL.of P3.p,rfl,.inl ⟨rfl,_,SqL.of P3.g⟩,_,rfl,qi.g,_,_,rfl,rfl,P3.g,J6 (by rw[hgl];omega),?_⟩
   have h4:=a9e h3 (W8 b1 (((m:Int)+pp.sh) % 24)) eqi ei
   have k4:D1 l A H (upd H3 qi.g (.lst (pp.gives.map V.str++[.str (W8 b1 (((m:Int)+pp.sh) % 24))]))):=(k1.same s3).put (x:=3) eqi (by omega)
   generalize upd H3 qi.g (.lst (pp.gives.map V.str++[.str (W8 b1 (((m:Int)+pp.sh) % 24))]))=H4 at h4 k4⊢
   have P4:=h4.pt i qi _ eqi (hset _)
   obtain⟨rv4,hrv4,hrp4⟩:=P4.r
   have hrl4:rv4.length=pp.rows.length:=AF hrp4
   have hL:((pp.owns.map V.str).length:Int)=pp.owns.length:=by rw[List.length_map]
   have hd0:0<=xs.getD (1:Int).toNat 0 % ((pp.owns.map V.str).length:Int):=BO _ (by omega)
   have hd1:xs.getD (1:Int).toNat 0 % ((pp.owns.map V.str).length:Int) < (pp.owns.length:Int):=by rw[<-hL];exact BQ _ hop
   refine⟨_,rfl,qi.p,_,_,_,rfl,rfl,SqL.of P4.p,rfl,.inl ⟨rfl,_,SqL.of hrv4⟩,_,rfl,_,rfl,qi.p,_,_,_,rfl,rfl,SqL.of P4.p,rfl,?_⟩
   refine⟨_,rfl,x,_,_,_,rfl,rfl,SqL.of (k4 _ _ hxn hx),Y0 V.int xs 0 (by decide) (by omega),_,rfl,qi.p,_,_,_,rfl,rfl,SqL.of P4.p,rfl,qi.o,_,rfl,.inl (SqL.of P4.o),_,_,rfl,rfl,hop,qi.o,_,_,_,rfl,rfl,SqL.of P4.o,Y0 V.str pp.owns "" hd0 hd1,?_⟩
   have hym:pp.owns.getD (xs.getD (1:Int).toNat 0 % ((pp.owns.map V.str).length:Int)).toNat "" ∈pp.owns:=by
    have hlt:(xs.getD (1:Int).toNat 0 % ((pp.owns.map V.str).length:Int)).toNat < pp.owns.length:=by omega
    rw[BH,AU hlt]
    exact List.getElem_mem hlt
   generalize pp.owns.getD (xs.getD (1:Int).toNat 0 % ((pp.owns.map V.str).length:Int)).toNat ""=y at hym⊢
   refine⟨_,rfl,F2,fun u hu'=>?_⟩
   have s5:G8 H4 (upd H4 u (.tup [.str y,.str (W8 b1 (((m:Int)+pp.sh) % 24))])):=(G8.refl H4).new hu'
   refine⟨_,rfl,a0A,fun tp htp=>?_⟩
   have s6:=s5.new (o:= .tup [.str "give",.ref u,.ref x]) htp
   refine⟨qi.r,_,_,_,rfl,rfl,s6 _ _ hrv4,(by omega),(by show(k:Int)<=(rv4.length:Int);omega),J6 (by omega),?_⟩
   have h7:=a1x (h4.same s6) (pr:= .give y (W8 b1 (((m:Int)+pp.sh) % 24)) xs) k eqi (hset _) (s6 _ _ hrv4) ⟨tp,u,x,rfl,G1,U3 G1 htp,(k4.same s6) _ _ hxn hx,hxn⟩
   rw[List.set_set]at h7
   refine q _ _ h7 (List.length_set ..) ?_ (hR.put (k:=k) (y:= .give y (W8 b1 (((m:Int)+pp.sh) % 24)) xs) ei rfl (fun _ _ _ z=>by cases z)) ((k4.same s6).put (x:=1) eqi (by omega))
   exact hI.put (k:=k) (y:= .give y (W8 b1 (((m:Int)+pp.sh) % 24)) xs) ei ⟨n,hn,hn23⟩ ⟨m+1,by show pp.gives++[_]=_;rw[hm,a1d],by omega⟩ rfl h39 (List.Perm.refl _) List.perm_append_comm ⟨⟨_,hset _,hym⟩,h6,hb⟩
  with_reducible apply b3f
  ·exact fun Q' h=>⟨_,rfl,rfl,_,rfl,h⟩
  ·exact fun Q' h=>⟨_,rfl,l,_,rfl,.inl (SqL.of h1.ll),_,_,rfl,rfl,_,rfl,h⟩
  obtain⟨rv1,hrv1,hrp1⟩:=P1.r
  have hrl1:rv1.length=pp.rows.length:=AF hrp1
  refine a4X (fun c4=>?_) (fun c4=>?_)
  ·simp only[Bool.and_eq_true,decide_eq_true_eq]at c4
   refine⟨_,rfl,qi.p,_,_,_,rfl,rfl,SqL.of P1.p,rfl,.inl ⟨rfl,_,SqL.of hrv1⟩,_,rfl,_,rfl,_,rfl,a0A,fun tp htp=>?_⟩
   have s6:G8 H1 (upd H1 tp (.tup [.str "ask",.int j,.ref x])):=(G8.refl H1).new htp
   refine⟨qi.r,_,_,_,rfl,rfl,s6 _ _ hrv1,(by omega),(by show(k:Int)<=(rv1.length:Int);omega),J6 (by omega),?_⟩
   have h7:=a1x (h1.same s6) (pr:= .ask j xs) k eqi ei (s6 _ _ hrv1) ⟨tp,x,rfl,G1,(k1.same s6) _ _ hxn hx,hxn⟩
   refine q _ _ h7 (List.length_set ..) ?_ (hR.put (k:=k) (y:= .ask j xs) ei rfl (fun _ _ _ z=>by cases z)) ((k1.same s6).put (x:=1) eqi (by omega))
   exact hI.put (k:=k) (y:= .ask j xs) ei ⟨n,hn,hn23⟩ ⟨m,hm,hm23⟩ rfl h39 (List.Perm.refl _) (List.Perm.refl _) ⟨by rw[List.length_set];exact hj,hji (by have:=c4.2;omega),h6,hb⟩
  ·obtain⟨kk,hat,hkk⟩:=a9z (c:=xs.getD (1:Int).toNat 0 % 2) (by omega) (by omega)
   refine⟨_,rfl,qi.p,_,_,_,rfl,rfl,SqL.of P1.p,rfl,.inl ⟨rfl,_,SqL.of hrv1⟩,_,rfl,F2,fun g hg=>?_⟩
   have s5:G8 H1 (upd H1 g (.lst [.str "say",.str "need"])):=(G8.refl H1).new hg
   refine⟨_,rfl,x,_,_,_,rfl,rfl,SqL.of ((k1.same s5) _ _ hxn hx),Y0 V.int xs 0 (by decide) (by omega),_,_,rfl,rfl,(by show(0:Int) < 2;decide),g,_,_,_,rfl,rfl,SqL.of G1,hat,?_⟩
   refine⟨_,rfl,a0A,fun tp htp=>?_⟩
   have s6:=s5.new (o:= .tup [.str kk,.non,.ref x]) htp
   refine⟨qi.r,_,_,_,rfl,rfl,s6 _ _ hrv1,(by omega),(by show(k:Int)<=(rv1.length:Int);omega),J6 (by omega),?_⟩
   have h7:=a1x (h1.same s6) (pr:= .sum kk xs) k eqi ei (s6 _ _ hrv1) ⟨tp,x,rfl,G1,(k1.same s6) _ _ hxn hx,hxn⟩
   refine q _ _ h7 (List.length_set ..) ?_ (hR.put (k:=k) (y:= .sum kk xs) ei rfl (fun _ _ _ z=>by cases z)) ((k1.same s6).put (x:=1) eqi (by omega))
   exact hI.put (k:=k) (y:= .sum kk xs) ei ⟨n,hn,hn23⟩ ⟨m,hm,hm23⟩ rfl h39 (List.Perm.refl _) (List.Perm.refl _) ⟨hkk,h6,hb⟩
noncomputable def b4X:Pr->Str
 | .own k _ _=>k
 | .bring _ _ _=>"bring"
 | .give _ _ _=>"give"
 | .ask _ _=>"ask"
 | .sum k _=>k
noncomputable def xsP:Pr->List Int
 | .own _ _ xs=>xs
 | .bring _ _ xs=>xs
 | .give _ _ xs=>xs
 | .ask _ xs=>xs
 | .sum _ xs=>xs
noncomputable def b7G (H:Hp) (one:V):Pr->Prop
 | .own _ n _=>one= .str n
 | .bring j ps _=>∃u q,one= .ref u/\H u=some (.tup [.int j,.ref q])/\a0Z H q ps
 | .give o g _=>∃u,one= .ref u/\H u=some (.tup [.str o,.str g])
 | .ask j _=>one= .int j
 | .sum _ _=>one= .non
theorem b2u{H:Hp}{F:Addr->Prop}{v:V}{pr:Pr}(h:a7n H F v pr):∃t x one,v= .ref t/\H t=some (.tup [.str (b4X pr),one,.ref x])/\H x=some (.lst ((xsP pr).map V.int))/\b7G H one pr:=by
 cases pr with
 | own k n xs=>obtain⟨t,x,e,h1,h2⟩:=h;exact⟨t,x,_,e,h1,h2.1,rfl⟩
 | bring j ps xs=>obtain⟨t,u,q,x,e,h1,h2,h3,h4⟩:=h;exact⟨t,x,_,e,h1,h4.1,u,q,rfl,h2,h3⟩
 | give o g xs=>obtain⟨t,u,x,e,h1,h2,h3⟩:=h;exact⟨t,x,_,e,h1,h3.1,u,rfl,h2⟩
 | ask j xs=>obtain⟨t,x,e,h1,h2⟩:=h;exact⟨t,x,_,e,h1,h2.1,rfl⟩
 | sum k xs=>obtain⟨t,x,e,h1,h2⟩:=h;exact⟨t,x,_,e,h1,h2.1,rfl⟩
theorem b4k{hs:List Pp}{i:Nat}{pr:Pr}(h:a7O hs i pr):a9f (xsP pr):=by
 cases pr with
 | own k n xs=>exact h.2
 | bring j ps xs=>exact h.2.2.2.2
 | give o g xs=>exact h.2
 | ask j xs=>exact h.2.2
 | sum k xs=>exact h.2
noncomputable def InS (owns:List Str) (ts:List (Int×Th)):Prop:=∀d∈ts,∀y,d.2=Th.nam y->y∈owns
noncomputable def InO (owns:List Str) (w:Option Str):Prop:=∀y,w=some y->y∈owns
noncomputable def a4v (nms owns:List Str):Pr->Rw->Prop
 | .own k n _,rw=>(k="take"/\rw= .take n)\/(k="set"/\∃ts,rw= .set n ts/\a9P ts/\InS owns ts)
 | .bring j ps _,rw=>∃nm,nms[j]?=some nm/\rw= .bring nm ps
 | .give o g _,rw=>rw= .give o g
 | .ask j _,rw=>∃nm w,nms[j]?=some nm/\rw= .ask nm w/\InO owns w
 | .sum k _,rw=>(k="need"/\∃ts,rw= .need ts/\a9P ts/\InS owns ts)\/(k="say"/\∃ts w,rw= .say ts w/\a9P ts/\InS owns ts/\InO owns w)
noncomputable def b7d:Sp:=fun vs H Q _=>∃(v:V)(nl:Addr)(F:Addr->Prop)(q:Q4)(pp:Pp)(pr:Pr)(i:Nat)(hs:List Pp)(nms:List Str),vs=[v,.ref q.p,.ref nl]/\a7n H F v pr/\b0F H F q pp/\a7O hs i pr/\(∀y∈pp.owns,F7 y)/\H nl=some (.lst (nms.map V.str))/\nms.length=hs.length/\
 ∀(r:Addr)(rw:Rw)(H':Hp),G8 H H'->a0Q H' r rw->a4v nms pp.owns pr rw->Q (.ref r) H'
theorem b4W{t u:TT}{A R:TS}{D:a0X}{N:L2.St->Hp->Prop}{σ:L2.St}{H:Hp}{a b:Bool}(S:V->L2.St)(C:Option Str->Prop)(e:N=b0z (b4y (tC .non) (a0s 6)) (b0z (a8Z (b0I t u) A a4W) R) D)(e6:σ.set 6 (some .non)=S .non)(ht:∀Q:Bool->Hp->Prop,(∀H1,G8 H H1->Q a H1)->t (S .non) H Q)(hu:∀H1,G8 H H1->∀Q:Bool->Hp->Prop,Q b H1->u (S .non) H1 Q)
  (hA:∀H1,G8 H H1->(a && b)=true->(∀y,C (some y)->R D (S (.str y)) H1)->A {D with nx:=R D} (S .non) H1)(hC:C none)(hR:∀w H1,C w->G8 H H1->R D (S (a7P w)) H1):N σ H:=by
 rw[e]
 show a8Z (b0I t u) A a4W {D with nx:=R D} (σ.set 6 (some .non)) H
 rw[e6]
 refine ht _ fun H1 s1=>?_
 cases a with
 | false=>exact B6 (B6 (hR none H1 hC s1))
 | true=>
  refine a0b (hu H1 s1 _ ?_)
  cases b with
  | false=>exact B6 (hR none H1 hC s1)
  | true=>exact a0b (hA H1 s1 rfl fun y hy=>hR (some y) H1 hy s1)
theorem b6c(T:Txt K mg):L2.Cl P w K mg base 2 "_law_row" ["_law_row_here","_law_part","_law_names"] b7d:=by
 have C_law_sum:=b6r (P:=P) (w:=w) (base:=base) T
 refine Cl.of T.d_law_row M2 (fun vs H Q E h=>?_) (fun _ _ _ _ _ _ us hl=>by obtain⟨a,b,c,rfl⟩:=a7l hl;rfl) (fun f cdv A' outer s H vs Q E hr h=>?_)
 ·obtain⟨v,nl,F,q,pp,pr,i,hs,nms,rfl,_⟩:=h
  rfl
 ·obtain⟨v,nl,F,q4,pp,pr,i,hs,nms,rfl,hpr,hpp,hok,hon,hnl,hnl2,q⟩:=h
  have hu0:=Nat.lt_of_succ_lt (B5 hr)
  obtain⟨t,x,one,rfl,ht,hx,hone⟩:=b2u hpr
  obtain⟨h6,hb⟩:=b4k hok
  have R:=a9i h6 hb
  refine⟨_,(G7 (a9b (pv 0) (D8 rfl (J8 (J5 (i:=3) M2.nd rfl (Or.inl rfl)) (J8 (J5 (i:=4) M2.nd rfl (Or.inl rfl)) (J8 (J5 (i:=5) M2.nd rfl (Or.inl rfl)) Z9)))))
   (G7 (J3 (i:=6) M2.nd rfl (Or.inl rfl) a4P)
   (G7 (Y8 (PW.pt (a1D (R0 (a1C hu0) (J2 J4 (pv 1) G2 (fun _ _=>rfl)) (Y2 G6) (U4 _)) (a0E (R0 F3 (J1 U1 (J1 W7 (J2 J4 (pv 5) G2 (fun _ _=>rfl)) G2) G2) G2 (U4 _)))))
    (G9 (J3 (i:=6) M2.nd rfl (Or.inl rfl) (J2 J4 (J2 J4 (pv 1) G2 (fun _ _=>rfl)) (J1 U1 (J1 W7 (J2 J4 (pv 5) G2 (fun _ _=>rfl)) G2) (R4 J9 (by rfl) T.n_len PySem.boot_len (G0 (J2 J4 (pv 1) G2 (fun _ _=>rfl)) G6))) (fun _ _=>rfl)))) U9)
   (G7 (Y8 (R0 F3 (pv 3) U5 (U4 _))
    (G9 (R5 (U6 (G0 U5 (G0 (pv 4) G6))))) U9)
   (G7 (Y8 (R0 F3 (pv 3) U5 (U4 _))
    (G9 (R5 (U6 (G0 U5 (G0 (J2 J4 (pv 2) (J2 U0 (pv 4) G2 (fun _ _=>rfl)) (fun _ _=>rfl)) (G0 (J2 U0 (pv 4) G2 (fun _ _=>rfl)) G6)))))) U9)
   (G7 (Y8 (R0 F3 (pv 3) U5 (U4 _))
    (G9 (R5 (U6 (G0 U5 (G0 (J2 U0 (pv 4) G2 (fun _ _=>rfl)) (G0 (J2 U0 (pv 4) G2 (fun _ _=>rfl)) G6)))))) U9)
   (G7 (Y8 (R0 F3 (pv 3) U5 (U4 _))
    (G9 (R5 (U6 (G0 U5 (G0 (J2 J4 (pv 2) (pv 4) (fun _ _=>rfl)) (G0 (pv 6) G6)))))) U9)
   (G7 (J3 (i:=7) M2.nd rfl (Or.inl rfl) (W4 C_law_sum hr (by rfl) (G0 (J2 J4 (pv 1) G2 (fun _ _=>rfl)) (G0 (pv 5) G6))))
   (G7 (Y8 (R0 F3 (pv 3) U5 (U4 _))
    (G9 (R5 (U6 (G0 U5 (G0 (pv 4) (G0 (pv 7) G6)))))) U9)
   (G7 (Y8 (R0 F3 (pv 3) U5 (U4 _))
    (G9 (R5 (U6 (G0 U5 (G0 (pv 7) G6))))) U9)
   (G9 (R5 (U6 (G0 U5 (G0 (pv 7) (G0 (pv 6) G6)))))))))))))))),?_⟩
  refine⟨_,rfl,t,_,rfl,SqT.of ht,rfl,_,_,rfl,_,_,rfl,_,_,rfl,rfl,?_⟩
  apply b4W (S:=fun v=> [some (.ref t),some (.ref q4.p),some (.ref nl),some (.str (b4X pr)),some one,some (.ref x),some v,none]) (C:=InO pp.owns) (a:= !(pp.owns.map V.str).isEmpty) (b:=decide ((xsP pr).getD (1:Int).toNat 0/2 % 2=1))
  ·with_reducible_and_instances rfl
  ·rfl
  ·exact fun Q' h=>⟨_,rfl,q4.p,_,_,_,rfl,rfl,SqL.of hpp.p,rfl,a0W,fun e he=>⟨q4.o,e,_,rfl,rfl,SqL.of (((G8.refl H).new he) _ _ hpp.o),SqL.of G1,_,rfl,h _ ((G8.refl H).new he)⟩⟩
  ·intro H1 s1 Q' h
   refine⟨_,rfl,x,_,_,_,rfl,rfl,SqL.of (s1 _ _ hx),Y0 V.int (xsP pr) 0 (by decide) (by omega),_,_,rfl,rfl,⟨by decide,by decide⟩,_,_,rfl,rfl,(by show(0:Int) < 2;decide),rfl,_,rfl,?_⟩
   have e:decide (V.int ((xsP pr).getD (1:Int).toNat 0/2 % 2)=V.int 1)=decide ((xsP pr).getD (1:Int).toNat 0/2 % 2=1):=by
    by_cases z:(xsP pr).getD (1:Int).toNat 0/2 % 2=1
    ·rw[z];rfl
    ·rw[AW z,AW (fun y=>z (V.int.inj y))]
   rw[e]
   exact h
  ·intro H1 s1 hc hN
   simp only[Bool.and_eq_true]at hc
   have hop:0 < ((pp.owns.map V.str).length:Int):=by
    cases e:pp.owns.map V.str with
    | nil=>rw[e]at hc;exact absurd hc.1 (by decide)
    | cons a r=>rw[List.length_cons];omega
   have hL:((pp.owns.map V.str).length:Int)=pp.owns.length:=by rw[List.length_map]
   have hd0:0<=(xsP pr).getD (2:Int).toNat 0/32 % ((pp.owns.map V.str).length:Int):=BO _ (by omega)
   have hd1:(xsP pr).getD (2:Int).toNat 0/32 % ((pp.owns.map V.str).length:Int) < (pp.owns.length:Int):=by rw[<-hL];exact BQ _ hop
   have hym:pp.owns.getD ((xsP pr).getD (2:Int).toNat 0/32 % ((pp.owns.map V.str).length:Int)).toNat "" ∈pp.owns:=by
    have hlt:((xsP pr).getD (2:Int).toNat 0/32 % ((pp.owns.map V.str).length:Int)).toNat < pp.owns.length:=by omega
    rw[BH,AU hlt]
    exact List.getElem_mem hlt
   refine⟨_,rfl,q4.p,_,_,_,rfl,rfl,SqL.of (s1 _ _ hpp.p),rfl,_,rfl,x,_,_,_,rfl,rfl,SqL.of (s1 _ _ hx),Y0 V.int (xsP pr) 0 (by decide) (by omega),_,_,rfl,rfl,⟨by decide,by decide⟩,?_⟩
   refine⟨_,rfl,q4.p,_,_,_,rfl,rfl,SqL.of (s1 _ _ hpp.p),rfl,q4.o,_,rfl,.inl (SqL.of (s1 _ _ hpp.o)),_,_,rfl,rfl,hop,q4.o,_,_,_,rfl,rfl,SqL.of (s1 _ _ hpp.o),Y0 V.str pp.owns "" hd0 hd1,?_⟩
   exact hN _ fun y hy=>by cases hy;exact hym
  ·exact fun y hy=>by cases hy
  ·intro w H1 hw s1
   cases pr with
   | own k n xs=>
    have hone':one= .str n:=hone
    subst hone'
    rcases hok.1 with hk | hk
    ·subst hk
     refine⟨_,rfl,rfl,_,rfl,Z4 (show¬("set":Str)="take" by decide +kernel) ?_⟩
     refine⟨_,rfl,rfl,_,rfl,Z4 (show¬("set":Str)="bring" by decide +kernel) ?_⟩
     refine⟨_,rfl,rfl,_,rfl,Z4 (show¬("set":Str)="give" by decide +kernel) ?_⟩
     refine⟨_,rfl,rfl,_,rfl,Z4 (show¬("set":Str)="ask" by decide +kernel) ?_⟩
     refine⟨_,rfl,q4.p,_,_,_,rfl,rfl,SqL.of (s1 _ _ hpp.p),rfl,_,rfl,?_⟩
     refine⟨q4.o,x,pp.owns,xs,rfl,s1 _ _ hpp.o,hon,s1 _ _ hx,h6,hb,fun tt ts H2 s2 hts hso hin=>?_⟩
     refine⟨_,rfl,rfl,_,rfl,a0t ?_⟩
     refine⟨_,rfl,_,rfl,a0A,fun r hr'=>?_⟩
     exact q r (.set n ts) _ ((s1.trans s2).new hr') ⟨tt,G1,hts.mono (R1.new hr')⟩ (.inr ⟨rfl,ts,rfl,hso,hin⟩)
    ·subst hk
     refine⟨_,rfl,rfl,_,rfl,a0t ?_⟩
     refine⟨_,rfl,F2,fun r hr'=>?_⟩
     exact q r (.take n) _ (s1.new hr') G1 (.inl ⟨rfl,rfl⟩)
   | bring j ps xs=>
    obtain⟨u,qq,hone',hu',hps⟩:=hone
    subst hone'
    obtain⟨nm,hnm⟩:∃nm,nms[j]?=some nm:=⟨nms[j]'(by rw[hnl2];exact hok.1),by simp[hnl2,hok.1]⟩
    have mj:(nms.map V.str)[j]?=some (.str nm):=by rw[List.getElem?_map,hnm];rfl
    refine⟨_,rfl,rfl,_,rfl,Z4 (show¬("bring":Str)="take" by decide +kernel) ?_⟩
    refine⟨_,rfl,rfl,_,rfl,a0t ?_⟩
    refine⟨_,rfl,_,rfl,u,_,_,_,rfl,rfl,SqT.of (s1 _ _ hu'),rfl,nl,_,_,_,rfl,rfl,SqL.of (s1 _ _ hnl),W9 mj,_,rfl,u,_,_,_,rfl,rfl,SqT.of (s1 _ _ hu'),rfl,a0A,fun r hr'=>?_⟩
    exact q r (.bring nm ps) _ (s1.new hr') ⟨qq,G1,hps.mono (s1.new hr').tups⟩ ⟨nm,hnm,rfl⟩
   | give o g xs=>
    obtain⟨u,hone',hu'⟩:=hone
    subst hone'
    refine⟨_,rfl,rfl,_,rfl,Z4 (show¬("give":Str)="take" by decide +kernel) ?_⟩
    refine⟨_,rfl,rfl,_,rfl,Z4 (show¬("give":Str)="bring" by decide +kernel) ?_⟩
    refine⟨_,rfl,rfl,_,rfl,a0t ?_⟩
    refine⟨_,rfl,u,_,_,_,rfl,rfl,SqT.of (s1 _ _ hu'),rfl,_,rfl,u,_,_,_,rfl,rfl,SqT.of (s1 _ _ hu'),rfl,a0A,fun r hr'=>?_⟩
    exact q r (.give o g) _ (s1.new hr') G1 rfl
   | ask j xs=>
    have hone':one= .int j:=hone
    subst hone'
    obtain⟨nm,hnm⟩:∃nm,nms[j]?=some nm:=⟨nms[j]'(by rw[hnl2];exact hok.1),by simp[hnl2,hok.1]⟩
    have mj:(nms.map V.str)[j]?=some (.str nm):=by rw[List.getElem?_map,hnm];rfl
    refine⟨_,rfl,rfl,_,rfl,Z4 (show¬("ask":Str)="take" by decide +kernel) ?_⟩
    refine⟨_,rfl,rfl,_,rfl,Z4 (show¬("ask":Str)="bring" by decide +kernel) ?_⟩
    refine⟨_,rfl,rfl,_,rfl,Z4 (show¬("ask":Str)="give" by decide +kernel) ?_⟩
    refine⟨_,rfl,rfl,_,rfl,a0t ?_⟩
    refine⟨_,rfl,_,rfl,nl,_,_,_,rfl,rfl,SqL.of (s1 _ _ hnl),W9 mj,_,rfl,a0A,fun r hr'=>?_⟩
    exact q r (.ask nm w) _ (s1.new hr') G1 ⟨nm,w,hnm,rfl,hw⟩
   | sum k xs=>
    have hone':one= .non:=hone
    subst hone'
    rcases hok.1 with hk | hk
    ·subst hk
     refine⟨_,rfl,rfl,_,rfl,Z4 (show¬("say":Str)="take" by decide +kernel) ?_⟩
     refine⟨_,rfl,rfl,_,rfl,Z4 (show¬("say":Str)="bring" by decide +kernel) ?_⟩
     refine⟨_,rfl,rfl,_,rfl,Z4 (show¬("say":Str)="give" by decide +kernel) ?_⟩
     refine⟨_,rfl,rfl,_,rfl,Z4 (show¬("say":Str)="ask" by decide +kernel) ?_⟩
     refine⟨_,rfl,q4.p,_,_,_,rfl,rfl,SqL.of (s1 _ _ hpp.p),rfl,_,rfl,?_⟩
     refine⟨q4.o,x,pp.owns,xs,rfl,s1 _ _ hpp.o,hon,s1 _ _ hx,h6,hb,fun tt ts H2 s2 hts hso hin=>?_⟩
     refine⟨_,rfl,rfl,_,rfl,Z4 (show¬("say":Str)="set" by decide +kernel) ?_⟩
     refine⟨_,rfl,rfl,_,rfl,Z4 (show¬("say":Str)="need" by decide +kernel) ?_⟩
     refine⟨_,rfl,_,rfl,a0A,fun r hr'=>?_⟩
     exact q r (.say ts w) _ ((s1.trans s2).new hr') ⟨tt,G1,hts.mono (R1.new hr')⟩ (.inr ⟨rfl,ts,w,rfl,hso,hin,hw⟩)
    ·subst hk
     refine⟨_,rfl,rfl,_,rfl,Z4 (show¬("need":Str)="take" by decide +kernel) ?_⟩
     refine⟨_,rfl,rfl,_,rfl,Z4 (show¬("need":Str)="bring" by decide +kernel) ?_⟩
     refine⟨_,rfl,rfl,_,rfl,Z4 (show¬("need":Str)="give" by decide +kernel) ?_⟩
     refine⟨_,rfl,rfl,_,rfl,Z4 (show¬("need":Str)="ask" by decide +kernel) ?_⟩
     refine⟨_,rfl,q4.p,_,_,_,rfl,rfl,SqL.of (s1 _ _ hpp.p),rfl,_,rfl,?_⟩
     refine⟨q4.o,x,pp.owns,xs,rfl,s1 _ _ hpp.o,hon,s1 _ _ hx,h6,hb,fun tt ts H2 s2 hts hso hin=>?_⟩
     refine⟨_,rfl,rfl,_,rfl,Z4 (show¬("need":Str)="set" by decide +kernel) ?_⟩
     refine⟨_,rfl,rfl,_,rfl,a0t ?_⟩
     refine⟨_,rfl,F2,fun r hr'=>?_⟩
     exact q r (.need ts) _ ((s1.trans s2).new hr') ⟨tt,G1,hts.mono (R1.new hr')⟩ (.inl ⟨rfl,ts,rfl,hso,hin⟩)
theorem a0O{X:Cx}:a0R X (.type "tuple") (fun xs H Q=>∃p ys,xs=[.ref p]/\SqL X.K H p ys/\∀l o,H l=none->o.dict=none->Q (.ref l) (upd H l (.frz o (.tup ys)))):=by
 intro pins s σ H xs us Q I r h
 obtain⟨p,ys,rfl,hq,q⟩:=h
 obtain⟨u,rfl,rx⟩:=a5k r
 cases rx
 obtain⟨its,r',pl,hz⟩:=I.list hq
 have hlen:=r'.length
 refine call_tuple_list pl.isList (fun h' kp=>?_) (by simp only[List.size_toArray]<;>omega)
 have I1:Inv X pins σ H {s with heap:=h'}:=I.kept (t':=s.toks) kp
 have I2:Inv X pins σ (upd H h'.objs.size (.frz {cls:= .type "tuple",data:= .seq its.toArray} (.tup ys))) {s with heap:=h'.push {cls:= .type "tuple",data:= .seq its.toArray}}:=
  I1.laid (t':=s.toks) (fun b o e=>AC _ e) (AH _) ⟨AI _ rfl,hz,its,r',⟨_,AI _ rfl,rfl,_,rfl⟩⟩
 exact⟨.ref h'.objs.size,_,I2,rfl,q _ _ (I1.hok.fresh (AH _)) rfl⟩
noncomputable def M4 (b:Int) (n:Nat):List Str:=(List.range n).map fun(j:Nat)=>W8 b (j:Int)
theorem a1p(b:Int)(n:Nat):(M4 b n).length=n:=by unfold M4;simp
theorem a8T(b:Int)(n:Nat):M4 b (n+1)=M4 b n++[W8 b (n:Int)]:=by unfold M4;rw[List.range_succ,List.map_append];rfl
theorem a5Z(b:Int)(n:Nat){i:Nat}(h:i < n):(M4 b n)[i]?=some (W8 b (i:Int)):=by unfold M4;rw[List.getElem?_map,List.getElem?_range h];rfl
noncomputable def b5q (b:Int) (hs:List Pp) (ps:List Pt):Prop:=∀(i:Nat)(pp:Pp)(pt:Pt),hs[i]?=some pp->ps[i]?=some pt->pt.1=W8 b (i:Int)/\Paired (a4v (M4 b hs.length) pp.owns) pp.rows pt.2
noncomputable def a9c:Sp:=fun vs H Q _=>∃(l:Addr)(A:List Q4)(hs:List Pp)(b0 b1 b:Int),vs=[.ref l,.int b]/\R7 H l A [] hs/\(0<=b/\b < 2147483647)/\0<=b0/\1<=hs.length/\hs.length<=24/\a5M b0 b1 hs/\∀(a:Addr)(ps:List Pt)(H':Hp),G8 H H'->O9 H' a ps->ps.length=hs.length->b5q b hs ps->Q (.ref a) H'
theorem a7Q(T:Txt K mg):L2.Cl P w K mg base 3 "_law_finished" ["_law_house","_law_pool_here"] a9c:=by
 have C_law_name:=a9Q (P:=P) (w:=w) (base:=base) T
 have C_law_row:=b6c (P:=P) (w:=w) (base:=base) T
 refine Cl.of T.d_law_finished F9 (fun vs H Q E h=>?_) (fun _ _ _ _ _ _ us hl=>by obtain⟨a,b,rfl⟩:=a1P hl;rfl) (fun f cdv A' outer s H vs Q E hr h=>?_)
 ·obtain⟨l,A,hs,b0,b1,b,rfl,_⟩:=h
  rfl
 ·obtain⟨l,A,hs,b0,b1,b,rfl,hh,hb,hb0,hs1,hs2,hI,q⟩:=h
  refine⟨_,(G7 (J3 (i:=2) F9.nd rfl (Or.inr rfl) (a2G (M:=["_law_k","_law_pool_here"]) (ρ:=[none,some 1]) (J0 B0) ["_law_house","_law_pool_here","_law_names","_law_parts_here","_law_name_here","_law_part"] ⟨rfl,by decide +kernel,by decide +kernel,by decide +kernel,rfl,by decide +kernel,by decide +kernel⟩ (a0k (by rfl) T.n_range (G0 (R4 J9 (by rfl) T.n_len PySem.boot_len (G0 (pv 0) G6)) G6)) (fun _ _ _ _ _ _=>(J5 (i:=0) (show(["_law_k","_law_pool_here"]:List Str).Nodup by decide +kernel) rfl (Or.inl rfl))) (fun _ _ _ _ _ _=>a1y) (fun _ _ _ _ _ _=>(W4 C_law_name hr (by rfl) (G0 (pv 1) (G0 (pv 0) G6))))))
   (G7 (J3 (i:=3) F9.nd rfl (Or.inl rfl) (Y2 G6))
   (G7 (Z7 AQ rfl (b4S (by rfl) T.n_zip (G0 (pv 2) (G0 (pv 0) G6))) (D8 rfl (J8 (J5 (i:=4) F9.nd rfl (Or.inl rfl)) (J8 (J5 (i:=5) F9.nd rfl (Or.inr rfl)) Z9)))
    (G9 (Y5 (B4 PySem.F.plainAttrs_list PySem.F.slot_list_append PySem.F.type_list_append Z8 (pv 3) (G0 (U6 (G0 (pv 4) (G0 (W3 Z3 (by rfl) T.n_tuple boot_tuple (G0 (a2G (M:=["_law_row_here","_law_part","_law_names"]) (ρ:=[none,some 5,some 2]) (J0 B0) ["_law_house","_law_pool_here","_law_names","_law_parts_here","_law_name_here","_law_part"] ⟨rfl,by decide +kernel,by decide +kernel,by decide +kernel,rfl,by decide +kernel,by decide +kernel⟩ (a1a (J2 J4 (pv 5) G2 (fun _ _=>rfl))) (fun _ _ _ _ _ _=>(J5 (i:=0) (show(["_law_row_here","_law_part","_law_names"]:List Str).Nodup by decide +kernel) rfl (Or.inl rfl))) (fun _ _ _ _ _ _=>a1y) (fun _ _ _ _ _ _=>(W4 C_law_row hr (by rfl) (G0 (pv 0) (G0 (pv 1) (G0 (pv 2) G6)))))) G6)) G6))) G6)))))
   (G9 (R5 (W3 a0O (by rfl) T.n_tuple boot_tuple (G0 (pv 3) G6))))))),?_⟩
  have hAn:(A.map fun q=>V.ref q.p).length=hs.length:=by rw[List.length_map,hh.len]
  refine⟨_,rfl,l,_,rfl,.inl (SqL.of hh.ll),_,rfl,(by omega),(by omega),fun D hD=>?_⟩
  refine a3A (A.map fun q=>V.ref q.p).length (fun i σ H2=>∃v0:Option V,σ=[v0,some (.int b)]/\G8 H H2/\H2 D=some (.lst ((M4 b i).map V.str))) ⟨_,rfl,(G8.refl H).new hD,G1⟩ ?_ ?_
  ·rintro i σ H2 hi ⟨v0,rfl,s2,hD2⟩
   refine⟨hi,?_⟩
   rintro x H3 ⟨rfl,rfl⟩
   refine ntG ?_
   refine⟨_,rfl,_,rfl,b,_,rfl,hb.1,hb.2,by omega,by omega,fun H4 s4=>?_⟩
   refine⟨_,s4 _ _ hD2,J6 (by rw[List.length_map,a1p];omega),_,rfl,(s2.trans s4).put hD,?_⟩
   rw[G1,a8T,List.map_append,Int.zero_add]
   rfl
  ·rintro σ H2 ⟨v0,rfl,s2,hD2⟩
   refine⟨AH _,?_⟩
   rw[hAn]at hD2
   refine⟨a0W,fun d hd=>?_⟩
   have s3:G8 H (upd H2 d (.lst [])):=s2.new hd
   have hD3:upd H2 d (.lst []) D=some (.lst ((M4 b hs.length).map V.str)):=U3 hD2 hd
   have hdH:H d=none:=s2.free hd
   have hDd:D≠d:=fun z=>by rw[z,hd]at hD2;cases hD2
   have hll:∀{H':Hp},G8 H H'->H' l=some (.lst (A.map fun q=>V.ref q.p)):=fun s=>s _ _ hh.ll
   refine⟨_,rfl,_,rfl,D,l,rfl,⟨_,SqL.of hD3⟩,⟨_,SqL.of (hll s3)⟩,b2C (K:=K) (a:=D) (b:=l) (xs:=(M4 b hs.length).map V.str) (ys:=A.map fun q=>V.ref q.p) (fun i σ H5=>∃(ps:List Pt)(vs:List V)(v4 v5:Option V),σ=[some (.ref l),some (.int b),some (.ref D),some (.ref d),v4,v5]/\G8 H H5/\H5 D=some (.lst ((M4 b hs.length).map V.str))/\H5 d=some (.lst vs)/\Paired (a1G H5) vs ps/\ps.length=i/\b5q b hs ps)
    (by rw[hAn,List.length_map,a1p]) ⟨[],[],none,none,rfl,s3,hD3,G1,.nil,rfl,fun i pp pt _ e=>by simp at e⟩ (fun i σ H5 _⟨_,_,_,_,_,s5,hD5,_⟩=>⟨SqL.of hD5,SqL.of (hll s5)⟩) ?_ ?_⟩
   ·rintro i x y p σ H5 hx hy ⟨ps,vs,v4,v5,rfl,s5,hD5,hd5,hps,hlen,hfin⟩ hp
    have hi:i < hs.length:=by
     have:=(List.getElem?_eq_some_iff.mp hy).1
     omega
    obtain⟨pp,ei⟩:∃pp,hs[i]?=some pp:=⟨hs[i],by simp[hi]⟩
    obtain⟨qi,eqi⟩:∃q,A[i]?=some q:=⟨A[i]'(by rw[hh.len];exact hi),by simp[hh.len,hi]⟩
    have ex:x= .str (W8 b (i:Int)):=by
     rw[List.getElem?_map,a5Z b _ hi]at hx
     exact(Option.some.inj hx).symm
    have ey:y= .ref qi.p:=by
     rw[List.getElem?_map,eqi]at hy
     exact(Option.some.inj hy).symm
    subst ex ey
    have OK:=hI i pp ei
    obtain⟨n,hn,hn23⟩:=OK.n
    have hon:∀y∈pp.owns,F7 y:=by rw[hn];exact a3O hb0
    have s6:G8 H5 (upd H5 p (.tup [.str (W8 b (i:Int)),.ref qi.p])):=(G8.refl H5).new hp
    refine⟨p,_,rfl,SqT.of G1,rfl,_,_,rfl,_,_,rfl,rfl,?_⟩
    generalize upd H5 p (.tup [.str (W8 b (i:Int)),.ref qi.p])=H6 at s6⊢
    have s06:=s5.trans s6
    have h6:=hh.same s06
    have P6:=h6.pt i qi pp eqi ei
    obtain⟨rv,hrv,hrp⟩:=P6.r
    have hrl:rv.length=pp.rows.length:=AF hrp
    have h40:=OK.r
    refine⟨_,rfl,.inl ⟨rfl,_,SqL.of (s6 _ _ hd5)⟩,_,rfl,_,rfl,qi.p,_,_,_,rfl,rfl,SqL.of P6.p,rfl,qi.r,rfl,⟨_,SqL.of hrv⟩,fun D2 hD2=>?_⟩
    refine a3A rv.length (fun j σ H7=>∃(v0:Option V)(us:List V)(rws:List Rw),σ=[v0,some (.ref qi.p),some (.ref D)]/\G8 H6 H7/\H7 D2=some (.lst us)/\a0e H7 us rws/\rws.length=j/\Paired (a4v (M4 b hs.length) pp.owns) (pp.rows.take j) rws) ⟨_,[],[],rfl,(G8.refl H6).new hD2,G1,.nil,rfl,by rw[List.take_zero];exact .nil⟩ ?_ ?_
    ·rintro j σ H7 hj ⟨v0,us,rws,rfl,s7,hD7,hrs,hrwl,hfr⟩
     refine⟨⟨rv,rv[j],SqL.of (s7 _ _ hrv),by simp⟩,?_⟩
     rintro v H8 ⟨rfl,hv⟩
     have hv':=hv _ (SqL.of (s7 _ _ hrv))
     obtain⟨pr,hpr,hprat⟩:=Paired.get? hrp hv'
     have h7:=h6.same s7
     have P7:=h7.pt i qi pp eqi ei
     refine ntG ?_
     refine⟨_,rfl,_,rfl,_,rfl,?_⟩
     refine⟨v,D,inH l A [],qi,pp,pr,i,hs,M4 b hs.length,rfl,hprat.keep s7.tups (fun a as ha hva=>⟨s7 _ _ hva,ha⟩),P7,OK.ok pr (AG hpr),hon,s7 _ _ (s6 _ _ hD5),a1p _ _,fun r rw H9 s8 hrow hfin8=>?_⟩
     have hul:us.length=rws.length:=AF hrs
     refine⟨us,s8 _ _ hD7,J6 (by omega),?_⟩
     have T8:R1 H8 (upd H9 D2 (.lst (us++[.ref r]))):=s8.tups.trans (R1.lst (s8 _ _ hD7))
     have T9:R1 H9 (upd H9 D2 (.lst (us++[.ref r]))):=R1.lst (s8 _ _ hD7)
     refine⟨_,us++[.ref r],rws++[rw],rfl,(s7.trans s8).put hD2,G1,Paired.snoc (hrs.mono T8) ⟨r,rfl,hrow.mono T9⟩,by rw[List.length_append,hrwl];rfl,?_⟩
     rw[J7 hpr]
     exact Paired.snoc hfr hfin8
    ·rintro σ H7 ⟨v0,us,rws,rfl,s7,hD7,hrs,hrwl,hfr⟩
     refine⟨⟨rv,SqL.of (s7 _ _ hrv),AH _⟩,?_⟩
     rw[hrl,AY]at hfr
     refine⟨D2,_,rfl,.inl ⟨SqL.of hD7,fun u hu=>?_⟩⟩
     have s8:G8 H7 (upd H7 u (.tup us)):=(G8.refl H7).new hu
     refine⟨F2,fun tp htp=>?_⟩
     have s9:=s8.new (o:= .tup [.str (W8 b (i:Int)),.ref u]) htp
     have s59:G8 H5 (upd (upd H7 u (.tup us)) tp (.tup [.str (W8 b (i:Int)),.ref u])):=(s6.trans s7).trans s9
     refine⟨d,_,_,rfl,rfl,s59 _ _ hd5,J6 (by rw[AF hps,hlen];omega),?_⟩
     have hd9:=s59 _ _ hd5
     have T9:=R1.lst (ys:=vs++[.ref tp]) hd9
     have hne:∀{c:Addr}{ws:List V},(upd (upd H7 u (.tup us)) tp (.tup [.str (W8 b (i:Int)),.ref u])) c=some (.tup ws)->c≠d:=fun{c ws}e z=>by rw[z,hd9]at e;cases e
     refine⟨ps++[(W8 b (i:Int),rws)],vs++[.ref tp],_,_,rfl,(s5.trans s59).put hdH,?_,G1,Paired.snoc (Paired.mapP hps fun _ _ z=>z.mono (s59.tups.trans T9)) ⟨tp,u,us,rfl,T9 _ _ G1,T9 _ _ (U3 G1 htp),(hrs.mono (s9.tups.trans T9))⟩,by rw[List.length_append,hlen];rfl,?_⟩
     ·rw[I0 hDd]
      exact s59 _ _ hD5
     ·intro i' pp' pt' e1 e2
      by_cases hlt:i' < ps.length
      ·rw[List.getElem?_append_left hlt]at e2
       exact hfin i' pp' pt' e1 e2
      ·rw[List.getElem?_append_right (by omega)]at e2
       have h0:i' - ps.length=0:=by
        have:=(List.getElem?_eq_some_iff.mp e2).1
        simp only[List.length_singleton]at this
        omega
       rw[h0]at e2
       simp only[List.getElem?_cons_zero,Option.some.injEq]at e2
       have hii:i'=i:=by omega
       subst hii
       rw[ei]at e1
       cases e1
       rw[<-e2]
       exact⟨rfl,hfr⟩
   ·rintro σ H5 ⟨ps,vs,v4,v5,rfl,s5,hD5,hd5,hps,hlen,hfin⟩
    rw[List.length_map,a1p]at hlen
    refine⟨_,rfl,d,_,rfl,SqL.of hd5,fun a o ha ho=>?_⟩
    have s6:G8 H5 (upd H5 a (.frz o (.tup vs))):=(G8.refl H5).new ha
    exact q a ps _ (s5.trans s6) ⟨o,vs,G1,ho,Paired.mapP hps fun _ _ z=>z.mono s6.tups⟩ hlen hfin
theorem a5l{H:Hp}{l x:Addr}{A:List Q4}{hs:List Pp}(h:R7 H l A [] hs)(hx:H x=none):¬inH l A [] x:=by
 rintro(z | z | ⟨i,q,y,e,hy,z⟩)
 ·rw[z,h.ll]at hx;cases hx
 ·simp at z
 ·obtain⟨xs,hxs⟩:=h.there e hy
  rw[z,hx]at hxs;cases hxs
theorem a6e{H H1 H2:Hp}{l:Addr}{A:List Q4}(n:New H l A)(s:G8 H H1)(k:D1 l A H1 H2):G8 H H2:=fun a o e=>by
 refine k a o ?_ (s _ _ e)
 rintro(z | z | ⟨i,q,y,e1,hy,z⟩)
 ·rw[z,n.1]at e;cases e
 ·simp at z
 ·rw[<-z,n.2 i q y e1 hy]at e;cases e
theorem b3g{b0 b1:Int}{hs:List Pp}(h:b1x hs):a5M b0 b1 hs:=fun i pp e=>by
 obtain⟨h1,h2,h3,_⟩:=h pp (AG e)
 refine⟨⟨0,by rw[h2];rfl,by omega⟩,⟨0,by rw[h3];rfl,by omega⟩,by rw[h1];simp,by rw[h1,h2];exact List.Perm.refl _,by rw[h1,h3];exact List.Perm.refl _,fun pr hpr=>by rw[h1]at hpr;simp at hpr⟩
structure O7(hs:List Pp)(b0 b1 b2:Int)(ps:List Pt):Prop where
 r0:0<=b0/\b0 < 2147483647
 r1:0<=b1/\b1 < 2147483647
 r2:0<=b2/\b2 < 2147483647
 lo:1<=hs.length
 hi:hs.length<=24
 inv:a5M b0 b1 hs
 len:ps.length=hs.length
 fin:b5q b2 hs ps
 rk:a5Q hs
noncomputable def a8C (K:W.Frag):Sp:=fun vs H Q _=>∃(a:Addr)(ns:List Int),vs=[.ref a]/\SqL K H a (ns.map V.int)/\ns.length<=1000/\∀(x:Addr)(hs:List Pp)(b0 b1 b2:Int)(ps:List Pt)(H':Hp),G8 H H'->O9 H' x ps->O7 hs b0 b1 b2 ps->Q (.ref x) H'
theorem b2y(T:Txt K mg):L2.Cl P w K mg base 5 "_law_parts" ["_law_script"] (a8C K):=by
 have C_law_cell_at:=a3C (P:=P) (w:=w) (base:=base) T
 have C_law_stream:=b1t (P:=P) (w:=w) (base:=base) T
 have C_law_begun:=b3z (P:=P) (w:=w) (base:=base) T
 have C_law_pools:=b2o (P:=P) (w:=w) (base:=base) T
 have C_law_added:=b2T (P:=P) (w:=w) (base:=base) T
 have C_law_finished:=a7Q (P:=P) (w:=w) (base:=base) T
 refine Cl.of T.d_law_parts a0F (fun vs H Q E h=>?_) (fun _ _ _ _ _ _ us hl=>by obtain⟨a,rfl⟩:=a5N hl;rfl) (fun f cdv A' outer s H vs Q E hr h=>?_)
 ·obtain⟨a,ns,rfl,_⟩:=h
  rfl
 ·obtain⟨a,ns,rfl,hS,hnl,q⟩:=h
  refine⟨_,(G7 (J3 (i:=1) a0F.nd rfl (Or.inl rfl) (W4 C_law_begun hr (by rfl) (G0 (pv 0) G6)))
   (G7 (J3 (i:=2) a0F.nd rfl (Or.inl rfl) (W4 C_law_pools hr (by rfl) (G0 (pv 0) G6)))
   (G7 (Z7 AQ rfl (b0X (by rfl) T.n_range (G0 G2 (G0 (R4 (a3Y rfl) (by rfl) T.n_min boot_min (G0 (R4 (a6c rfl) (by rfl) T.n_max boot_max (G0 (R4 J9 (by rfl) T.n_len PySem.boot_len (G0 (pv 0) G6)) (G0 G2 G6))) (G0 G2 G6))) G6))) (J5 (i:=3) a0F.nd rfl (Or.inl rfl))
    (G9 (Y5 (W4 C_law_added hr (by rfl) (G0 (pv 1) (G0 (pv 2) (G0 (W4 C_law_stream hr (by rfl) (G0 (W4 C_law_cell_at hr (by rfl) (G0 (pv 0) (G0 (pv 3) G6))) (G0 (pv 3) G6))) G6)))))))
   (G9 (R5 (W4 C_law_finished hr (by rfl) (G0 (pv 1) (G0 (J2 J4 (pv 2) G2 (fun _ _=>rfl)) G6)))))))),?_⟩
  refine⟨_,rfl,a,ns,rfl,hS,fun l A hs H1 s1 hh hnew hs1 hs2 hbare=>?_⟩
  refine⟨_,rfl,a,ns,rfl,s1.seq hS,fun pl b0 b1 b2 H2 s2 hpl0 hpl r0 r1 r2=>?_⟩
  have hP:a2I H2 pl l A b0 b1 b2:=⟨hpl,a5l hh hpl0,r0,r1,r2⟩
  have s12:=s1.trans s2
  have hJ:∀M:Int,(if(83:Int) < M then(83:Int)else M)<=83:=fun M=>by split<;>omega
  have hJ0:(13:Int)<=(if(83:Int) < (if(13:Int) > ((ns.map V.int).length:Int)then 13 else((ns.map V.int).length:Int))then(83:Int)else(if(13:Int) > ((ns.map V.int).length:Int)then 13 else((ns.map V.int).length:Int))):=by split<;>split<;>omega
  refine⟨_,rfl,a,_,rfl,.inl (s12.seq hS),_,_,rfl,_,_,rfl,?_⟩
  have hJ1:=hJ (if(13:Int) > ((ns.map V.int).length:Int)then 13 else((ns.map V.int).length:Int))
  generalize (if(83:Int) < (if(13:Int) > ((ns.map V.int).length:Int)then 13 else((ns.map V.int).length:Int))then(83:Int)else(if(13:Int) > ((ns.map V.int).length:Int)then 13 else((ns.map V.int).length:Int)))=J at hJ0 hJ1⊢
  refine⟨_,_,rfl,⟨by omega,by omega,by omega,by omega⟩,M9 (fun i σ H3=>∃(hs':List Pp)(v3:Option V),σ=[some (.ref a),some (.ref l),some (.ref pl),v3]/\R7 H3 l A [] hs'/\hs'.length=hs.length/\a5M b0 b1 hs'/\a5Q hs'/\D1 l A H2 H3)
   ⟨hs,none,rfl,hh.same s2,rfl,b3g hbare,⟨fun _ _=>0,0,fun _ _=>AH _,fun i pp e j ps xs hm=>by rw[(hbare pp (AG e)).1]at hm;simp at hm⟩,D1.refl l A H2⟩ ?_ ?_⟩
  ·rintro i σ H3 hi ⟨hs',v3,rfl,h3,hl3,hI3,hR3,k3⟩
   have S3:=a6e hnew s12 k3
   refine⟨_,rfl,_,rfl,_,rfl,_,rfl,a,ns,_,rfl,S3.seq hS,(by omega),fun c=>?_⟩
   refine⟨_,rfl,c,_,rfl,(by omega),(by omega),fun x xs H4 s4 hx0 hx hx6 hxb=>?_⟩
   refine⟨l,pl,x,A,hs',b0,b1,b2,xs,rfl,h3.same s4,hP.keep (k3.same s4),⟨hx,a5l h3 hx0⟩,⟨hx6,hxb⟩,by omega,by omega,hI3,hR3,fun hs5 H5 h5 hl5 hI5 hR5 k5=>?_⟩
   exact⟨hs5,_,rfl,h5,by omega,hI5,hR5,(k3.same s4).trans k5⟩
  ·rintro σ H3 ⟨hs',v3,rfl,h3,hl3,hI3,hR3,k3⟩
   have S3:=a6e hnew s12 k3
   refine⟨_,rfl,_,rfl,pl,_,_,_,rfl,rfl,SqL.of (hP.keep k3).h,rfl,?_⟩
   refine⟨l,A,hs',b0,b1,b2,rfl,h3,r2,r0.1,by omega,by omega,hI3,fun x ps H4 s4 hp hpl hf=>?_⟩
   exact q x hs' b0 b1 b2 ps H4 (S3.trans s4) hp ⟨r0,r1,r2,by omega,by omega,hI3,hpl,hf,hR3⟩
noncomputable def a9X (K:W.Frag):Sp:=fun vs H Q _=>∃(a:Addr)(ns:List Int),vs=[.ref a]/\SqL K H a (ns.map V.int)/\ns.length<=63/\∀H',Q (.bl true) H'
theorem O7.at{hs:List Pp}{b0 b1 b2:Int}{ps:List Pt}(d:O7 hs b0 b1 b2 ps){i:Nat}{pt:Pt}(e:ps[i]?=some pt):∃pp,hs[i]?=some pp/\b5t b0 b1 hs i pp/\pt.1=W8 b2 (i:Int)/\Paired (a4v (M4 b2 hs.length) pp.owns) pp.rows pt.2:=by
 have hi:i < hs.length:=by rw[<-d.len];exact(List.getElem?_eq_some_iff.mp e).1
 have e2:hs[i]?=some hs[i]:=by simp[hi]
 exact⟨hs[i],e2,d.inv i _ e2,d.fin i _ _ e2 e⟩
theorem O7.names{hs:List Pp}{b0 b1 b2:Int}{ps:List Pt}(d:O7 hs b0 b1 b2 ps):ps.map (·.1)=M4 b2 hs.length:=by
 apply List.ext_getElem?
 intro i
 rw[List.getElem?_map]
 cases e:ps[i]? with
 | none=>
  have h:=List.getElem?_eq_none_iff.mp e
  exact(List.getElem?_eq_none_iff.mpr (by rw[a1p,<-d.len];exact h)).symm
 | some pt=>
  obtain⟨pp,_,_,h,_⟩:=d.at e
  have hi:i < hs.length:=by rw[<-d.len];exact(List.getElem?_eq_some_iff.mp e).1
  rw[a5Z b2 _ hi]
  exact congrArg some h
theorem a8o{b:Int}(hb:0<=b){n:Nat}(hn:n<=24):(M4 b n).Nodup:=by
 unfold M4
 rw[BI,List.pairwise_map]
 refine List.Pairwise.imp_of_mem (fun{i j}hi hj hne h=>hne ?_) List.nodup_range
 have h1:=List.mem_range.mp hi
 have h2:=List.mem_range.mp hj
 have:=a3Z hb (by omega) (by omega) (by omega) (by omega) h
 omega
theorem O7.nodup{hs:List Pp}{b0 b1 b2:Int}{ps:List Pt}(d:O7 hs b0 b1 b2 ps):(ps.map (·.1)).Nodup:=by
 rw[d.names]
 exact a8o d.r2.1 d.hi
theorem O7.rows{hs:List Pp}{b0 b1 b2:Int}{ps:List Pt}(d:O7 hs b0 b1 b2 ps){i:Nat}{pt:Pt}(e:ps[i]?=some pt):pt.2.length<=40:=by
 obtain⟨pp,_,h1,_,h2⟩:=d.at e
 rw[<-AF h2]
 exact h1.r
theorem F5{α:Type}[DecidableEq α]:∀(l N:List α),l.Nodup->(∀x∈l,x∈N)->l.length<=N.length
 | [],N,_,_=>Nat.zero_le _
 | a::r,N,hn,hs=>by
  rw[BN]at hn
  have ha:a∈N:=hs a AM
  have h1:=F5 r (N.erase a) hn.2 fun x hx=>(List.mem_erase_of_ne (fun z=>hn.1 (by rw[<-z];exact hx))).mpr (hs x (AK _ hx))
  rw[List.length_erase_of_mem ha]at h1
  have:0 < N.length:=List.length_pos_of_mem ha
  simp only[List.length_cons];omega
theorem b3k(l:List Str)(x:Str):Y7 (E3 l) (Sum.inr x)=if x∈l then some (.bl true)else none:=by
 induction l with
 | nil=>rfl
 | cons a r ih=>
  have e:E3 (a::r)=(Sum.inr a,.bl true)::E3 r:=rfl
  rw[e]
  by_cases h:a=x
  ·subst h
   rw[E1 rfl,if_pos AM]
  ·rw[O2 (fun z=>h (Sum.inr.inj z)),ih]
   by_cases hm:x∈r
   ·rw[if_pos hm,if_pos (AK _ hm)]
   ·rw[if_neg hm,if_neg (fun z=>by rcases List.mem_cons.mp z with y | y;exact h y.symm;exact hm y)]
theorem a6j(l:List Str)(x:Str):(Y7 (E3 l) (Sum.inr x)).isSome=decide (x∈l):=by
 rw[b3k]
 by_cases h:x∈l
 ·rw[if_pos h,decide_eq_true h];rfl
 ·rw[if_neg h,AW h];rfl
theorem a8h(l:List Str)(x y:Str):y∈a0y l x↔y∈l\/y=x:=by
 unfold a0y
 by_cases h:x∈l
 ·rw[if_pos h]
  exact⟨.inl,fun z=>by rcases z with z | z;exact z;rw[z];exact h⟩
 ·rw[if_neg h,AL,AD]
structure M7(ps:List Pt):Prop where
 nd:(ps.map (·.1)).Nodup
 hi:ps.length<=24
 rows:∀pt∈ps,pt.2.length<=40
theorem O7.fit{hs:List Pp}{b0 b1 b2:Int}{ps:List Pt}(d:O7 hs b0 b1 b2 ps):M7 ps:=⟨d.nodup,by rw[d.len];exact d.hi,fun pt hpt=>by
 obtain⟨i,hi⟩:=AV hpt
 exact d.rows hi⟩
theorem a4K{c:TT}{tb R:TS}{D:a0X}{N:L2.St->Hp->Prop}{i:Nat}{v:V}{σ:L2.St}{H:Hp}(e:N=b0z (a6T c tb) R D)(h:a6T c tb {D with nx:=R D} (σ.set i (some v)) H):a0s i v σ H N:=by
 show N (σ.set i (some v)) H
 rw[e]
 exact h
theorem a4U(T:Txt K mg):L2.Cl P w K mg base 1 "named_parts" ["parts","part","kind"] a6L:=by
 refine Cl.of T.d_named_parts a0K (fun vs H Q E h=>?_) (fun _ _ _ _ _ _ us hl=>by obtain⟨a,b,c,rfl⟩:=a7l hl;rfl) (fun f cdv A outer s H vs Q E hr h=>?_)
 ·obtain⟨a,ps,n,k,rs,rfl,_⟩:=h
  rfl
 ·obtain⟨a,ps,n,k,rs,rfl,hk,⟨o,vs,ha,ho,hps⟩,hnd,hmem,hl1,hl2,q⟩:=h
  have hu:=B5 hr
  refine⟨_,(G7 (J3 (i:=3) a0K.nd rfl (Or.inl rfl) a3k)
   (G7 (Z7 AQ rfl (a0d (E5 hu (W3 (a2Q rfl) (by rfl) T.n_dict boot_dict (G0 (pv 0) G6)) (pv 1) (fun _ _=>rfl))) (J5 (i:=4) a0K.nd rfl (Or.inl rfl))
    (G9 (Y8 (R0 F3 (J2 U0 (pv 4) G2 (fun _ _=>rfl)) (pv 2) (U4 _))
     (G9 (M0 hu (pv 3) (J2 U0 (pv 4) G2 (fun _ _=>rfl)) a3s rfl)) U9)))
   (G9 (R5 (W3 (a4o rfl) (by rfl) T.n_tuple boot_tuple (G0 (pv 3) G6)))))),?_⟩
  intro d gd
  have s1:G8 H (upd H d (.dK [])):=(G8.refl H).new gd
  obtain⟨qs,g1,g2,g3⟩:=a1f (K:=K) (Paired.mapP hps fun _ _ z=>z.mono s1.tups)
  obtain⟨u,ws,k1,k2,k3⟩:=g3 n rs hmem
  have hql:qs.length=ps.length:=by
   have:=congrArg List.length g2
   simpa using this
  refine⟨_,rfl,a,o,vs,qs,rfl,s1 _ _ ha,ho,g1,(by omega),fun e ge=>?_⟩
  have s2:=s1.new (o:= .dK (M5 qs [])) ge
  refine⟨_,rfl,e,.ref u,rfl,?_,?_⟩
  ·have hg:=D3.k (k:=Sum.inr n) (G1 (H:=upd H d (.dK [])) (a:=e) (o:= .dK (M5 qs [])))
   rw[a2w qs [] n (.ref u) (by rw[g2];exact hnd) (.inl k1)]at hg
   exact hg
  ·have s2:G8 H (upd (upd H d (.dK [])) e (.dK (M5 qs []))):=s1.new ge
   have hde:d≠e:=R6 (G1 (H:=H) (a:=d) (o:= .dK [])) ge
   have hwl:ws.length=rs.length:=AF k3
   refine⟨u,rfl,⟨_,SqT.of (U3 k2 ge)⟩,a0o (K:=K) (a:=u) (xs:=ws) (fun i σ H2=>∃v4:Option V,σ=[some (.ref a),some (.str n),some (.str k),some (.ref d),v4]/\G8 H H2/\H2 d=some (.dK (E3 (F4 k (rs.take i))))/\H2 u=some (.tup ws)/\a0e H2 ws rs)
    ⟨none,rfl,s2,?_,U3 k2 ge,k3.mono (R1.new ge)⟩ (fun i σ H2 _⟨_,_,_,_,e2,_⟩=>SqT.of e2) ?_ ?_⟩
   ·rw[I0 hde,G1];rfl
   ·rintro i y σ H2 hx ⟨v4,rfl,s3,hd3,hu3,hr3⟩
    have hi:i < ws.length:=(List.getElem?_eq_some_iff.mp hx).1
    obtain⟨rw,hrw,r,er,hra⟩:=Paired.get? hr3 hx
    subst er
    have hlt:(F4 k (rs.take i)).length<=900:=by
     have h1:=a1Q k (rs.take i) []
     have h2:(rs.take i).length<=rs.length:=List.length_take_le' ..
     unfold F4
     simp only[List.length_nil]at h1
     omega
    have htk:rs.take (i+1)=rs.take i++[rw]:=J7 hrw
    rcases hra.named hk with⟨e1,p,rest,e2,h2⟩ | ⟨e1,e2⟩
    ·have z0:atI (V.str k::V.str p::rest) 0=some (.str k):=W9 (j:=0) rfl
     have z1:atI (V.str k::V.str p::rest) 1=some (.str p):=W9 (j:=1) rfl
     refine⟨_,rfl,r,_,_,_,rfl,rfl,SqT.of h2,z0,_,rfl,rfl,_,rfl,a0t ?_⟩
     refine⟨_,rfl,_,rfl,r,_,_,_,rfl,rfl,SqT.of h2,z1,d,_,rfl,a1L.k (k:=Sum.inr p) hd3 (J6 (by rw[a3j];omega)),?_⟩
     refine⟨_,rfl,s3.put gd,?_,?_,hr3.mono (R1.dK hd3)⟩
     ·rw[G1,a5b,htk,a3l]
      unfold a0Y
      rw[e2]
     ·exact R1.dK hd3 _ _ hu3
    ·obtain⟨x,rest,h2⟩:=hra.kind
     have z0:atI (V.str (R8 rw)::x::rest) 0=some (.str (R8 rw)):=W9 (j:=0) rfl
     refine⟨_,rfl,r,_,_,_,rfl,rfl,SqT.of h2,z0,_,rfl,rfl,_,rfl,Z4 e1 ?_⟩
     refine⟨_,rfl,s3,?_,hu3,hr3⟩
     rw[htk,a3l]
     unfold a0Y
     rw[e2]
     exact hd3
   ·rintro σ H2 ⟨v4,rfl,s3,hd3,hu3,hr3⟩
    rw[hwl,AY]at hd3
    refine⟨_,rfl,d,_,rfl,.inl hd3,fun t gt=>?_⟩
    refine q t _ (s3.new gt) ?_
    rw[G1,a6h]
theorem b1k(T:Txt K mg):L2.Cl P w K mg base 2 "brings" ["parts","part"] (b4L "bring"):=by
 have C_named_parts:=a4U (P:=P) (w:=w) (base:=base) T
 refine Cl.of T.d_brings b1B (fun vs H Q E h=>?_) (fun _ _ _ _ _ _ us hl=>by obtain⟨a,b,rfl⟩:=a1P hl;rfl) (fun f cdv A outer s H vs Q E hr h=>?_)
 ·obtain⟨a,ps,n,rs,rfl,_⟩:=h
  rfl
 ·obtain⟨a,ps,n,rs,rfl,h1,h2,h3,h4,h5,q⟩:=h
  refine⟨_,(G9 (R5 (W4 C_named_parts hr (by rfl) (G0 (pv 0) (G0 (pv 1) (G0 U5 G6)))))),?_⟩
  exact⟨_,rfl,_,rfl,a,ps,n,"bring",rs,rfl,.inl rfl,h1,h2,h3,h4,h5,q⟩
theorem a8Q{l:List Str}(h:l.Nodup)(x:Str):(a0y l x).Nodup:=by
 unfold a0y
 by_cases hx:x∈l
 ·rw[if_pos hx];exact h
 ·rw[if_neg hx]
  refine AO.mpr ⟨h,by simp,fun a ha b hb z=>?_⟩
  rw[AD.mp hb]at z
  exact hx (by rw[<-z];exact ha)
theorem a7X(k m:Str):∀(rs:List Rw)(l:List Str),m∈rs.foldl (a0Y k) l↔m∈l\/∃r∈rs,U2 k r=some m
 | [],l=>by simp
 | r::rs,l=>by
  rw[List.foldl_cons,a7X k m rs]
  have h:m∈a0Y k l r↔m∈l\/U2 k r=some m:=by
   unfold a0Y
   cases e:U2 k r with
   | none=>simp
   | some x=>
    show m∈a0y l x↔_
    rw[a8h]
    simp only[Option.some.injEq]
    exact⟨fun z=>by rcases z with z | z;exact .inl z;exact .inr z.symm,fun z=>by rcases z with z | z;exact .inl z;exact .inr z.symm⟩
  rw[h]
  simp only[List.mem_cons,exists_eq_or_imp,or_assoc]
theorem M6(k m:Str)(rs:List Rw):m∈F4 k rs↔∃r∈rs,U2 k r=some m:=by
 unfold F4
 rw[a7X]
 simp
noncomputable def muS (f wl:Addr) (H:Hp):Nat:=match H f,H wl with
 | some (.dK kvs),some (.lst W)=>(50 - kvs.length)*101+W.length
 | _,_=>0
theorem a8I{f wl:Addr}{H:Hp}{l W:List Str}(h1:H f=some (.dK (E3 l)))(h2:H wl=some (.lst (W.map V.str))):muS f wl H=(50 - l.length)*101+W.length:=by
 unfold muS
 rw[h1,h2]
 simp only[a3j,List.length_map]
theorem b0H(W:List Str):(W.map V.str).dropLast=W.dropLast.map V.str:=by
 rw[List.map_dropLast]
theorem b0L{nms owns:List Str}{pr:Pr}{rw:Rw}{m:Str}(h:a4v nms owns pr rw)(hm:U2 "bring" rw=some m\/U2 "ask" rw=some m):m∈nms:=by
 have nb:∀p ps,(U2 "bring" (.bring p ps)=some m\/U2 "ask" (.bring p ps)=some m)->m=p:=fun p ps z=>by
  rcases z with z | z
  ·have e1:U2 "bring" (.bring p ps)=some p:=by simp[U2]
   rw[e1]at z
   exact(Option.some.inj z).symm
  ·have e2:U2 "ask" (.bring p ps)=none:=by
    show(if("bring":Str)="ask" then some p else none)=none
    rw[if_neg (by decide +kernel)]
   rw[e2]at z
   cases z
 have na:∀p o,(U2 "bring" (.ask p o)=some m\/U2 "ask" (.ask p o)=some m)->m=p:=fun p o z=>by
  rcases z with z | z
  ·have e2:U2 "bring" (.ask p o)=none:=by
    show(if("ask":Str)="bring" then some p else none)=none
    rw[if_neg (by decide +kernel)]
   rw[e2]at z
   cases z
  ·have e1:U2 "ask" (.ask p o)=some p:=by simp[U2]
   rw[e1]at z
   exact(Option.some.inj z).symm
 have no:∀r,U2 "bring" r=none->U2 "ask" r=none->r=rw->False:=fun r h1 h2 e=>by
  subst e
  rcases hm with z | z
  ·rw[h1]at z;cases z
  ·rw[h2]at z;cases z
 cases pr with
 | own k n xs=>
  rcases h with⟨_,e⟩ | ⟨_,ts,e,_⟩
  ·exact(no _ rfl rfl e.symm).elim
  ·exact(no _ rfl rfl e.symm).elim
 | bring j ps xs=>
  obtain⟨nm,h1,e⟩:=h
  subst e
  rw[nb _ _ hm]
  exact AG h1
 | give o g xs=>exact(no _ rfl rfl (show rw= .give o g from h).symm).elim
 | ask j xs=>
  obtain⟨nm,w,h1,e,_⟩:=h
  subst e
  rw[na _ _ hm]
  exact AG h1
 | sum k xs=>
  rcases h with⟨_,ts,e,_⟩ | ⟨_,ts,w,e,_⟩
  ·exact(no _ rfl rfl e.symm).elim
  ·exact(no _ rfl rfl e.symm).elim
inductive Dfs (k:Str->List Str):List Str->List Str->List Str->Prop where
 | nil {V:List Str}:Dfs k V [] V
 | old {V r R:List Str} {n:Str}:n∈V->Dfs k V r R->Dfs k V (n::r) R
 | new {V r R:List Str} {n:Str}:n∉V->Dfs k (V++[n]) (k n++r) R->Dfs k V (n::r) R
inductive Sim:List Str->List Str->List Str->Prop where
 | nil {V:List Str}:Sim V [] []
 | both {V l l':List Str} {n:Str}:Sim (V++[n]) l l'->Sim V (n::l) (n::l')
 | skip {V l l':List Str} {n:Str}:n∈V->Sim V l l'->Sim V l (n::l')
theorem Sim.mono{V l l':List Str}(h:Sim V l l'):∀{V':List Str},(∀x∈V,x∈V')->Sim V' l l':=by
 induction h with
 | nil=>intro V' _;exact .nil
 | both _ ih=>
  intro V' hs
  refine .both (ih fun x hx=>?_)
  rcases AL.mp hx with z | z
  ·exact BF _ (hs x z)
  ·exact AR _ z
 | skip hm _ ih=>intro V' hs;exact .skip (hs _ hm) (ih hs)
theorem Sim.app{V a a':List Str}(h:Sim V a a'):∀{b b':List Str},Sim V b b'->Sim V (a++b) (a'++b'):=by
 induction h with
 | nil=>intro b b' h2;exact h2
 | both _ ih=>intro b b' h2;exact .both (ih (h2.mono fun x hx=>BF _ hx))
 | skip hm _ ih=>intro b b' h2;exact .skip hm (ih h2)
theorem Sim.inv{V l l':List Str}(h:Sim V l l'):∀n r,l=n::r->∃pre l2,l'=pre++n::l2/\(∀x∈pre,x∈V)/\Sim (V++[n]) r l2:=by
 induction h with
 | nil=>intro n r e;cases e
 | both s _=>intro n r e;cases e;exact⟨[],_,rfl,fun x hx=>by simp at hx,s⟩
 | skip hm _ ih=>
  intro n r e
  obtain⟨pre,l2,e2,h1,h2⟩:=ih n r e
  refine⟨_::pre,l2,by rw[e2];rfl,fun x hx=>?_,h2⟩
  rcases List.mem_cons.mp hx with z | z
  ·rw[z];exact hm
  ·exact h1 x z
theorem Sim.inv0{V l l':List Str}(h:Sim V l l'):l=[]->∀x∈l',x∈V:=by
 induction h with
 | nil=>intro _ x hx;simp at hx
 | both _ _=>intro e;cases e
 | skip hm _ ih=>
  intro e x hx
  rcases List.mem_cons.mp hx with z | z
  ·rw[z];exact hm
  ·exact ih e x z
theorem Dfs.olds{k:Str->List Str}{V l R:List Str}(h:Dfs k V l R):∀{pre:List Str},(∀x∈pre,x∈V)->Dfs k V (pre++l) R
 | [],_=>h
 | y::r,hs=> .old (hs y AM) (Dfs.olds h fun x hx=>hs x (AK _ hx))
theorem Dfs.sim{k k':Str->List Str}(hk:∀n V,Sim V (k n) (k' n)){V l R:List Str}(h:Dfs k V l R):∀{l':List Str},Sim V l l'->Dfs k' V l' R:=by
 induction h with
 | nil=>
  intro l' s
  have h1:=Dfs.olds (k:=k') (R:=_) (.nil) (s.inv0 rfl)
  rw[List.append_nil]at h1
  exact h1
 | old hm _ ih=>
  intro l' s
  obtain⟨pre,l2,e,h1,h2⟩:=s.inv _ _ rfl
  subst e
  refine Dfs.olds (.old hm (ih (h2.mono fun x hx=>?_))) h1
  rcases AL.mp hx with z | z
  ·exact z
  ·rw[AD.mp z];exact hm
 | new hn _ ih=>
  intro l' s
  obtain⟨pre,l2,e,h1,h2⟩:=s.inv _ _ rfl
  subst e
  exact Dfs.olds (.new hn (ih (Sim.app (hk _ _) h2))) h1
theorem Dfs.det{k:Str->List Str}{V l R:List Str}(h:Dfs k V l R):∀{R':List Str},Dfs k V l R'->R=R':=by
 induction h with
 | nil=>intro R' h';cases h';rfl
 | old hm _ ih=>
  intro R' h'
  cases h' with
  | old _ h2=>exact ih h2
  | new hn _=>exact absurd hm hn
 | new hn _ ih=>
  intro R' h'
  cases h' with
  | old hm _=>exact absurd hm hn
  | new _ h2=>exact ih h2
theorem a3I(k:Str):∀(rs:List Rw)(acc:List Str),∃D,rs.foldl (a0Y k) acc=acc++D/\∀V,(∀x∈acc,x∈V)->Sim V D (rs.filterMap (U2 k))
 | [],acc=>⟨[],by simp,fun V _=> .nil⟩
 | r::rs,acc=>by
  rw[List.foldl_cons]
  unfold a0Y
  cases e:U2 k r with
  | none=>
   obtain⟨D,h1,h2⟩:=a3I k rs acc
   refine⟨D,h1,fun V hV=>?_⟩
   rw[List.filterMap_cons_none e]
   exact h2 V hV
  | some x=>
   show∃D,rs.foldl (a0Y k) (a0y acc x)=acc++D/\_
   unfold a0y
   by_cases hx:x∈acc
   ·rw[if_pos hx]
    obtain⟨D,h1,h2⟩:=a3I k rs acc
    refine⟨D,h1,fun V hV=>?_⟩
    rw[List.filterMap_cons_some e]
    exact .skip (hV x hx) (h2 V hV)
   ·rw[if_neg hx]
    obtain⟨D,h1,h2⟩:=a3I k rs (acc++[x])
    refine⟨x::D,by rw[h1,List.append_assoc];rfl,fun V hV=>?_⟩
    rw[List.filterMap_cons_some e]
    refine .both (h2 _ fun y hy=>?_)
    rcases AL.mp hy with z | z
    ·exact BF _ (hV y z)
    ·exact AR _ z
noncomputable def R9 (ps:List Pt) (n:Str):List Rw:=((ps.find? fun p=>decide (p.1=n)).map (·.2)).getD []
theorem E4:∀{ps:List Pt}{n:Str}{rs:List Rw},(ps.map (·.1)).Nodup->(n,rs)∈ps->R9 ps n=rs
 | [],n,rs,_,h=>by simp at h
 | p::ps,n,rs,hn,h=>by
  rw[List.map_cons,BN]at hn
  rcases List.mem_cons.mp h with e | e
  ·unfold R9
   rw[List.find?_cons_of_pos (by rw[<-e];simp),<-e];rfl
  ·have hne:¬p.1=n:=fun z=>hn.1 (by rw[z];exact AN (f:=(·.1)) e)
   have:=E4 hn.2 e
   unfold R9 at this⊢
   rw[List.find?_cons_of_neg (by simpa using hne)]
   exact this
noncomputable def k1 (ps:List Pt) (n:Str):List Str:=F4 "bring" (R9 ps n)
noncomputable def k2 (ps:List Pt) (n:Str):List Str:=(R9 ps n).filterMap (U2 "bring")
theorem k12(ps:List Pt)(n:Str)(V:List Str):Sim V (k1 ps n) (k2 ps n):=by
 obtain⟨D,h1,h2⟩:=a3I "bring" (R9 ps n) []
 have e:k1 ps n=D:=by
  unfold k1 F4
  rw[h1]
  rfl
 rw[e]
 exact h2 V fun x hx=>by simp at hx
noncomputable def a0g (ps:List Pt):Prop:=∀n∈ps.map (·.1),∀m∈k1 ps n,m∈ps.map (·.1)
theorem a0I{ps:List Pt}{n:Str}(h:n∈ps.map (·.1)):∃rs,(n,rs)∈ps:=by
 obtain⟨p,hp,e⟩:=AT.mp h
 exact⟨p.2,by rw[<-e];exact hp⟩
theorem O7.closedB{hs:List Pp}{b0 b1 b2:Int}{ps:List Pt}(d:O7 hs b0 b1 b2 ps):a0g ps:=fun n hn m hm=>by
 obtain⟨rs,hmem⟩:=a0I hn
 unfold k1 at hm
 rw[E4 d.nodup hmem]at hm
 obtain⟨r,hr,e⟩:=(M6 "bring" m rs).mp hm
 obtain⟨i,hi⟩:=AV hmem
 obtain⟨pp,_,_,_,h2⟩:=d.at hi
 obtain⟨j,hj⟩:=AV hr
 obtain⟨pr,_,hf⟩:=Paired.get?' h2 hj
 rw[d.names]
 exact b0L hf (.inl e)
noncomputable def b3O:Sp:=fun vs H Q _=>∃(a:Addr)(ps:List Pt)(n:Str),vs=[.ref a,.str n]/\O9 H a ps/\M7 ps/\a0g ps/\n∈ps.map (·.1)/\∀(p:Addr)(R:List Str)(H':Hp),G8 H H'->H' p=some (.tup (R.map V.str))->Dfs (k1 ps) [] [n] R->Q (.ref p) H'
theorem b2G(T:Txt K mg):L2.Cl P w K mg base 3 "order" ["parts","root"] b3O:=by
 have C_brings:=b1k (P:=P) (w:=w) (base:=base) T
 refine Cl.of T.d_order a3r (fun vs H Q E h=>?_) (fun _ _ _ _ _ _ us hl=>by obtain⟨a,b,rfl⟩:=a1P hl;rfl) (fun fa cdv A outer s H vs Q E hr h=>?_)
 ·obtain⟨a,ps,n,rfl,_⟩:=h
  rfl
 ·obtain⟨a,ps,root,rfl,hpf,hfit,hcl,hroot,q⟩:=h
  have hu:=B5 hr
  have hN:(ps.map (·.1)).length<=24:=by rw[List.length_map];exact hfit.hi
  refine⟨_,(G7 (J3 (i:=2) a3r.nd rfl (Or.inl rfl) a3k)
   (G7 (J3 (i:=3) a3r.nd rfl (Or.inl rfl) (Y2 (G0 (pv 1) G6)))
   (G7 (a2b AQ (a7L (pv 3) (fun _=>rfl))
    (G7 (J3 (i:=4) a3r.nd rfl (Or.inl rfl) (a9o PySem.F.plainAttrs_list PySem.F.slot_list_pop PySem.F.type_list_pop a9n (pv 3)))
    (G9 (Y8 (a2U (a3P hu (pv 4) (pv 2)))
     (G7 (M0 hu (pv 2) (pv 4) a3s rfl)
     (G9 (Y5 (B4 PySem.F.plainAttrs_list PySem.F.slot_list_extend PySem.F.type_list_extend a6g (pv 3) (G0 (b3M rfl (W4 C_brings hr (by rfl) (G0 (pv 0) (G0 (pv 4) G6))) (by rfl) T.n_list (by rfl) T.n_reversed) G6))))) U9))))
   (G9 (R5 (W3 (a4o rfl) (by rfl) T.n_tuple boot_tuple (G0 (pv 2) G6))))))),?_⟩
  intro f gf
  have s1:G8 H (upd H f (.dK [])):=(G8.refl H).new gf
  refine⟨_,rfl,b5J,fun wl gw=>?_⟩
  have s2:G8 H (upd (upd H f (.dK [])) wl (.lst [.str root])):=s1.new gw
  have hfw:f≠wl:=R6 (G1 (H:=H) (a:=f) (o:= .dK [])) gw
  have gwH:H wl=none:=s1.free gw
  apply a4K
  ·with_reducible_and_instances rfl
  refine a1V (fun σ H2=>∃(l W:List Str)(v4:Option V),σ=[some (.ref a),some (.str root),some (.ref f),some (.ref wl),v4]/\G8 H H2/\H2 f=some (.dK (E3 l))/\H2 wl=some (.lst (W.map V.str))/\l.Nodup/\(∀n∈l,n∈ps.map (·.1))/\(∀n∈W,n∈ps.map (·.1))/\W.length+(50 - l.length)*101<=6000/\∀R,Dfs (k1 ps) l W.reverse R->Dfs (k1 ps) [] [root] R) (fun _ H2=>muS f wl H2)
   ⟨[],[root],none,rfl,s2,by rw[I0 hfw,G1];rfl,G1,List.nodup_nil,fun n hn=>by simp at hn,fun n hn=>by rw[AD.mp hn];exact hroot,by simp only[List.length_nil,List.length_singleton];omega,fun R h=>h⟩ ?_ ?_
  ·rintro σ H2 ⟨l,W,v4,rfl,s3,hf,hw,hnd,hlN,hWN,hbd,hD⟩
   refine⟨_,rfl,_,.inl ⟨_,SqL.of hw,rfl⟩,?_⟩
   have hll:=F5 l _ hnd hlN
   cases hW:W.getLast? with
   | none=>
    have hWe:W=[]:=List.getLast?_eq_none_iff.mp hW
    subst hWe
    refine B6 ?_
    refine⟨_,rfl,f,_,rfl,.inl hf,fun p gp=>?_⟩
    rw[a6h]
    exact q p l _ (s3.new gp) G1 (hD l .nil)
   | some x=>
    have hne:W≠[]:=fun z=>by rw[z]at hW;simp at hW
    have hWd:W=W.dropLast++[x]:=by
     obtain⟨ys,hys⟩:=List.getLast?_eq_some_iff.mp hW
     rw[hys,List.dropLast_concat]
    have hxW:x∈W:=by rw[hWd];simp
    have hpos:0 < W.length:=List.length_pos_of_mem hxW
    have hrev:W.reverse=x::W.dropLast.reverse:=by
     conv=>lhs;rw[hWd]
     rw[List.reverse_append]
     rfl
    rw[show(!(W.map V.str).isEmpty)=true by cases W with | nil=>exact absurd rfl hne | cons _ _=>rfl]
    refine a0b ?_
    have hlast:(W.map V.str)[(W.map V.str).length - 1]?=some (.str x):=by
     rw[List.getElem?_map,List.length_map,<-List.getLast?_eq_getElem?,hW];rfl
    refine⟨_,rfl,.inl ⟨rfl,_,SqL.of hw⟩,wl,_,_,rfl,rfl,hw,hlast,?_⟩
    rw[b0H]
    have s4:G8 H (upd H2 wl (.lst (W.dropLast.map V.str))):=s3.put gwH
    have hf4:upd H2 wl (.lst (W.dropLast.map V.str)) f=some (.dK (E3 l)):=by rw[I0 hfw];exact hf
    have hw4:upd H2 wl (.lst (W.dropLast.map V.str)) wl=some (.lst (W.dropLast.map V.str)):=G1
    have hmu:=a8I hf hw
    generalize upd H2 wl (.lst (W.dropLast.map V.str))=H4 at s4 hf4 hw4⊢
    have hdl:W.dropLast.length=W.length - 1:=List.length_dropLast
    have hmemW:∀n,n∈W↔n∈W.dropLast\/n=x:=fun n=>by
     conv=>lhs;rw[hWd]
     rw[AL,AD]
    refine⟨_,rfl,_,rfl,f,_,rfl,D3.k (k:=Sum.inr x) hf4,?_⟩
    refine⟨_,rfl,?_⟩
    rw[a6j]
    by_cases hx:x∈l
    ·rw[decide_eq_true hx]
     refine B6 ?_
     refine⟨⟨l,W.dropLast,_,rfl,s4,hf4,hw4,hnd,hlN,fun n hn=>hWN n ((hmemW n).mpr (.inl hn)),by omega,fun R h=>hD R ?_⟩,?_⟩
     ·rw[hrev];exact .old hx h
     ·show muS f wl H4 < muS f wl H2
      rw[a8I hf4 hw4,hmu]
      omega
    ·rw[AW hx]
     refine a0b ?_
     have hxN:x∈ps.map (·.1):=hWN x hxW
     have hadd:a0y l x=l++[x]:=by unfold a0y;rw[if_neg hx]
     have hnd':(a0y l x).Nodup:=a8Q hnd x
     have hlN':∀n∈a0y l x,n∈ps.map (·.1):=fun n hn=>by
      rcases(a8h l x n).mp hn with z | z
      ·exact hlN n z
      ·rw[z];exact hxN
     have hll':=F5 _ _ hnd' hlN'
     rw[hadd,List.length_append,List.length_singleton]at hll'
     refine⟨_,rfl,_,rfl,f,_,rfl,a1L.k (k:=Sum.inr x) hf4 (J6 (by rw[a3j];omega)),?_⟩
     rw[a5b]
     have s5:G8 H (upd H4 f (.dK (E3 (a0y l x)))):=s4.put gf
     have hf5:upd H4 f (.dK (E3 (a0y l x))) f=some (.dK (E3 (a0y l x))):=G1
     have hw5:upd H4 f (.dK (E3 (a0y l x))) wl=some (.lst (W.dropLast.map V.str)):=by rw[I0 hfw.symm];exact hw4
     generalize upd H4 f (.dK (E3 (a0y l x)))=H5 at s5 hf5 hw5⊢
     obtain⟨rs,hmem⟩:=a0I hxN
     have hr40:rs.length<=40:=hfit.rows _ hmem
     have hhi:=hfit.hi
     refine⟨_,rfl,.inl ⟨rfl,_,SqL.of hw5⟩,_,rfl,_,rfl,a,ps,x,rs,rfl,s5.partsF hpf,hfit.nd,hmem,by omega,by omega,fun p H6 s6 hp=>?_⟩
     have hk1:F4 "bring" rs=k1 ps x:=by unfold k1;rw[E4 hfit.nd hmem]
     rw[hk1]at hp
     have hkl:(k1 ps x).length<=40:=by
      have h1:=a1Q "bring" rs []
      rw[<-hk1]
      unfold F4
      simp only[List.length_nil]at h1
      omega
     refine⟨p,_,rfl,SqT.of hp,fun c gc=>?_⟩
     rw[<-List.map_reverse]
     have hw6:=s6 _ _ hw5
     have hf6:=s6 _ _ hf5
     have hwc:wl≠c:=fun z=>by rw[z,gc]at hw6;cases hw6
     have hfc:f≠c:=fun z=>by rw[z,gc]at hf6;cases hf6
     refine⟨wl,c,_,_,rfl,rfl,U3 hw6 gc,G1,Nat.le_of_lt (by
      have:sizeLine=16777216:=sizeLine_eq
      rw[List.length_map,List.length_map,BS];omega),?_⟩
     rw[<-List.map_append]
     have s7:G8 H (upd (upd H6 c (.lst ((k1 ps x).reverse.map V.str))) wl (.lst ((W.dropLast++(k1 ps x).reverse).map V.str))):=((s5.trans s6).new gc).put gwH
     have hf7:upd (upd H6 c (.lst ((k1 ps x).reverse.map V.str))) wl (.lst ((W.dropLast++(k1 ps x).reverse).map V.str)) f=some (.dK (E3 (a0y l x))):=by rw[I0 hfw,I0 hfc];exact hf6
     refine⟨⟨a0y l x,W.dropLast++(k1 ps x).reverse,_,rfl,s7,hf7,G1,hnd',hlN',fun n hn=>?_,?_,fun R h=>hD R ?_⟩,?_⟩
     ·rcases AL.mp hn with z | z
      ·exact hWN n ((hmemW n).mpr (.inl z))
      ·exact hcl x hxN n (List.mem_reverse.mp z)
     ·rw[hadd,List.length_append,List.length_append,List.length_singleton,BS];omega
     ·rw[List.reverse_append,List.reverse_reverse,hadd]at h
      rw[hrev]
      exact .new hx h
     ·show muS f wl _ < muS f wl H2
      rw[a8I hf7 G1,hmu,hadd,List.length_append,List.length_append,List.length_singleton,BS]
      omega
  ·rintro σ H2 Q1 Q2 hQ ⟨v,e,b,hb,hq⟩
   exact⟨v,e,b,hb,hQ _ _ hq⟩
noncomputable abbrev Fr2:=Str×Nat
noncomputable def a4z (b A:Addr) (H0 H:Hp) (v:V) (f:Fr2):Prop:=∃c,v= .ref c/\c≠b/\c≠A/\H0 c=none/\H c=some (.lst [.str f.1,.int (f.2:Int)])
theorem a2A{b A:Addr}{H0 H H':Hp}:∀{vs:List V}{fs:List Fr2},Paired (a4z b A H0 H) vs fs->(∀c,V.ref c∈vs->H' c=H c)->Paired (a4z b A H0 H') vs fs
 | _,_,.nil,_=> .nil
 | _,_,.cons ⟨c,e,h1,h2,h3,h4⟩ t,k=> .cons ⟨c,e,h1,h2,h3,by rw[k c (by rw[e];exact AM)];exact h4⟩ (a2A t fun c hc=>k c (AK _ hc))
theorem a3M{b A:Addr}{H0 H:Hp}:∀{vs:List V}{fs:List Fr2}{c:Addr},Paired (a4z b A H0 H) vs fs->V.ref c∈vs->c≠b/\c≠A/\H0 c=none/\∃f:Fr2,H c=some (.lst [.str f.1,.int (f.2:Int)])
 | _,_,_,.nil,h=>by simp at h
 | _,_,c,.cons (b:=f) ⟨c',e,h1,h2,h3,h4⟩ t,h=>by
  rcases List.mem_cons.mp h with z | z
  ·rw[e]at z
   cases z
   exact⟨h1,h2,h3,f,h4⟩
  ·exact a3M t z
theorem a4w{α β:Type}{F:α->β->Prop}{xs:List α}{ys:List β}{y:β}(h:Paired F xs (ys++[y])):∃xs' x,xs=xs'++[x]/\Paired F xs' ys/\F x y:=by
 induction ys generalizing xs with
 | nil=>
  cases h with
  | cons a t=>cases t;exact⟨[],_,rfl,.nil,a⟩
 | cons z ys ih=>
  cases h with
  | cons a t=>
   obtain⟨xs',x,e,h1,h2⟩:=ih t
   exact⟨_::xs',x,by rw[e];rfl,.cons a h1,h2⟩
noncomputable def frW (g:Str->Nat) (H:Hp) (v:V):Nat:=match v with
 | .ref c=>match H c with
  | some (HO.lst [V.str n,V.int k])=>g n+1 - k.toNat
  | _=>0
 | _=>0
theorem b2Q{g:Str->Nat}{b A:Addr}{H0 H:Hp}:∀{vs:List V}{fs:List Fr2},Paired (a4z b A H0 H) vs fs->(vs.map (frW g H)).sum=(fs.map fun f=>g f.1+1 - f.2).sum
 | _,_,.nil=>rfl
 | _,_,.cons (b:=f) ⟨c,e,_,_,_,h4⟩ t=>by
  rw[List.map_cons,List.map_cons,List.sum_cons,List.sum_cons,b2Q t,e]
  have:frW g H (.ref c)=g f.1+1 - f.2:=by
   unfold frW
   simp only[h4]
   rw[Int.toNat_natCast]
  rw[this]
noncomputable def muB (g:Str->Nat) (b A:Addr) (H:Hp):Nat:=match H b,H A with
 | some (HO.lst vs),some (HO.lst cs)=>(50 - vs.length)*42+(cs.map (frW g H)).sum
 | _,_=>0
theorem a7r{g:Str->Nat}{b A:Addr}{H0 H:Hp}{W:List Str}{vs:List V}{fs:List Fr2}(h1:H b=some (.lst (W.map V.str)))(h2:H A=some (.lst vs))(h3:Paired (a4z b A H0 H) vs fs):muB g b A H=(50 - W.length)*42+(fs.map fun f=>g f.1+1 - f.2).sum:=by
 unfold muB
 rw[h1,h2]
 simp only[List.length_map]
 rw[b2Q h3]
noncomputable def a1I (ps:List Pt) (fs:List Fr2):List Str:=fs.reverse.flatMap fun f=>((R9 ps f.1).drop f.2).filterMap (U2 "bring")
theorem a1e(ps:List Pt)(fs:List Fr2)(f:Fr2):a1I ps (fs++[f])=((R9 ps f.1).drop f.2).filterMap (U2 "bring")++a1I ps fs:=by
 unfold a1I
 rw[List.reverse_append,List.flatMap_append]
 simp
theorem b5Y{H:Hp}{r:Addr}{rw:Rw}(h:a0Q H r rw):(∃m rest,U2 "bring" rw=some m/\H r=some (.tup (.str "bring":: .str m::rest)))\/(¬R8 rw="bring"/\U2 "bring" rw=none):=by
 cases rw with
 | bring m ps=>obtain⟨t,h1,h2⟩:=h;exact .inl ⟨m,_,by simp[U2],h1⟩
 | ask m o=>exact .inr ⟨by simp only[R8];decide +kernel,by show(if("ask":Str)="bring" then some m else none)=none;rw[if_neg (by decide +kernel)]⟩
 | _=>exact .inr ⟨by simp only[R8];decide +kernel,rfl⟩
noncomputable def b0v:Sp:=fun vs H Q _=>∃(d:Addr)(root:Str)(kvs:List (Key×V))(ps:List Pt),vs=[.ref d,.str root]/\H d=some (.dK kvs)/\M7 ps/\a0g ps/\(∀n rs,(n,rs)∈ps->∃u ws,Y7 kvs (Sum.inr n)=some (.ref u)/\H u=some (.tup ws)/\a0e H ws rs)/\root∈ps.map (·.1)/\
 ∀(b:Addr)(R:List Str)(H':Hp),G8 H H'->H' b=some (.lst (R.map V.str))->Dfs (k2 ps) [root] (k2 ps root) R->Q (.ref b) H'
theorem a7W(T:Txt K mg):L2.Cl P w K mg base 1 "_law_begun_by" ["_law_rows_by","_law_root"] b0v:=by
 refine Cl.of T.d_law_begun_by D0 (fun vs H Q E h=>?_) (fun _ _ _ _ _ _ us hl=>by obtain⟨a,b,rfl⟩:=a1P hl;rfl) (fun fa cdv A outer s H vs Q E hr h=>?_)
 ·obtain⟨d,root,kvs,ps,rfl,_⟩:=h
  rfl
 ·obtain⟨d,root,kvs,ps,rfl,hd,hfit,hcl,hdat,hroot,q⟩:=h
  have hu:=B5 hr
  have hu0:=Nat.lt_of_succ_lt (B5 hr)
  have hN:(ps.map (·.1)).length<=24:=by rw[List.length_map];exact hfit.hi
  have hrows:∀n∈ps.map (·.1),(R9 ps n).length<=40:=fun n hn=>by
   obtain⟨rs,hm⟩:=a0I hn
   rw[E4 hfit.nd hm]
   exact hfit.rows _ hm
  refine⟨_,(G7 (J3 (i:=2) D0.nd rfl (Or.inl rfl) (Y2 (G0 (pv 1) G6)))
   (G7 (J3 (i:=3) D0.nd rfl (Or.inl rfl) (Y2 (G0 (Y2 (G0 (pv 1) (G0 G2 G6))) G6)))
   (G7 (a2b AQ (R0 (a1C hu0) (pv 3) (Y2 G6) (U4 _))
    (G7 (J3 (i:=4) D0.nd rfl (Or.inl rfl) (E5 hu (pv 0) (J2 J4 (J2 J4 (pv 3) (b0f a7g G2) (fun _ _=>rfl)) G2 (fun _ _=>rfl)) (fun _ _=>rfl)))
    (G7 (J3 (i:=5) D0.nd rfl (Or.inl rfl) (J2 J4 (J2 J4 (pv 3) (b0f a7g G2) (fun _ _=>rfl)) G2 (fun _ _=>rfl)))
    (G9 (Y8 (R0 F3 (pv 5) (R4 J9 (by rfl) T.n_len PySem.boot_len (G0 (pv 4) G6)) (U4 _))
     (G9 (Y5 (a9o PySem.F.plainAttrs_list PySem.F.slot_list_pop PySem.F.type_list_pop a9n (pv 3)))) (G7 (a9b (J1 Z6 (pv 5) G2) (b5R (J2 J4 (pv 3) (b0f a7g G2) (fun _ _=>rfl)) G2 b2l))
     (G9 (Y8 (PW.pt (a1D (R0 F3 (J2 U0 (J2 U0 (pv 4) (pv 5) (fun _ _=>rfl)) G2 (fun _ _=>rfl)) U5 (U4 _)) (a0E (R0 a6K (J2 U0 (J2 U0 (pv 4) (pv 5) (fun _ _=>rfl)) G2 (fun _ _=>rfl)) (pv 2) (by with_unfolding_all rfl)))))
      (G7 (Y5 (B4 PySem.F.plainAttrs_list PySem.F.slot_list_append PySem.F.type_list_append Z8 (pv 2) (G0 (J2 U0 (J2 U0 (pv 4) (pv 5) (fun _ _=>rfl)) G2 (fun _ _=>rfl)) G6)))
      (G9 (Y5 (B4 PySem.F.plainAttrs_list PySem.F.slot_list_append PySem.F.type_list_append Z8 (pv 3) (G0 (Y2 (G0 (J2 U0 (J2 U0 (pv 4) (pv 5) (fun _ _=>rfl)) G2 (fun _ _=>rfl)) (G0 G2 G6))) G6))))) U9))))))))
   (G9 (R5 (pv 2)))))),?_⟩
  refine⟨_,rfl,b5J,fun b gb=>?_⟩
  have s1:G8 H (upd H b (.lst [.str root])):=(G8.refl H).new gb
  refine⟨_,rfl,F2,fun c0 gc0=>?_⟩
  have s2:G8 H (upd (upd H b (.lst [.str root])) c0 (.lst [.str root,.int 0])):=s1.new gc0
  refine⟨b5J,fun am ga=>?_⟩
  have s3:G8 H (upd (upd (upd H b (.lst [.str root])) c0 (.lst [.str root,.int 0])) am (.lst [.ref c0])):=s2.new ga
  have hb0:upd (upd (upd H b (.lst [.str root])) c0 (.lst [.str root,.int 0])) am (.lst [.ref c0]) b=some (.lst [.str root]):=U3 (U3 G1 gc0) ga
  have hc0:upd (upd (upd H b (.lst [.str root])) c0 (.lst [.str root,.int 0])) am (.lst [.ref c0]) c0=some (.lst [.str root,.int 0]):=U3 G1 ga
  have ham0:upd (upd (upd H b (.lst [.str root])) c0 (.lst [.str root,.int 0])) am (.lst [.ref c0]) am=some (.lst [.ref c0]):=G1
  have hcb:c0≠b:=(R6 (G1 (H:=H) (a:=b) (o:= .lst [.str root])) gc0).symm
  have hca:c0≠am:=R6 (G1 (H:=upd H b (.lst [.str root])) (a:=c0) (o:= .lst [.str root,.int 0])) ga
  have hba:b≠am:=fun z=>by rw[<-z]at ga;rw[U3 G1 gc0]at ga;cases ga
  have gc0H:H c0=none:=s1.free gc0
  have gaH:H am=none:=s2.free ga
  generalize upd (upd (upd H b (.lst [.str root])) c0 (.lst [.str root,.int 0])) am (.lst [.ref c0])=H3 at s3 hb0 hc0 ham0⊢
  have k2d:∀n,((R9 ps n).drop 0).filterMap (U2 "bring")=k2 ps n:=fun n=>by rw[List.drop_zero];rfl
  apply a4K
  ·with_reducible_and_instances rfl
  refine a1V (fun σ H2=>∃(W:List Str)(vs:List V)(fs:List Fr2)(v4 v5:Option V),σ=[some (.ref d),some (.str root),some (.ref b),some (.ref am),v4,v5]/\G8 H H2/\H2 b=some (.lst (W.map V.str))/\H2 am=some (.lst vs)/\Paired (a4z b am H H2) vs fs/\vs.Nodup/\W.Nodup/\(∀n∈W,n∈ps.map (·.1))/\(∀f∈fs,f.1∈ps.map (·.1)/\f.2<=(R9 ps f.1).length)/\vs.length<=W.length/\∀R,Dfs (k2 ps) W (a1I ps fs) R->Dfs (k2 ps) [root] (k2 ps root) R) (fun _ H2=>muB (fun n=>(R9 ps n).length) b am H2)
   ⟨[root],[.ref c0],[(root,0)],none,none,rfl,s3,hb0,ham0,.cons ⟨c0,rfl,hcb,hca,gc0H,hc0⟩ .nil,by simp,by simp,fun n hn=>by rw[AD.mp hn];exact hroot,fun f hf=>by rw[AD.mp hf];exact⟨hroot,Nat.zero_le _⟩,AH _,fun R h=>by
    have e:=a1e ps [] (root,0)
    rw[List.nil_append]at e
    rw[e,k2d]at h
    have e2:a1I ps []=[]:=rfl
    rw[e2,List.append_nil]at h
    exact h⟩ ?_ ?_
  ·rintro σ H2 ⟨W,vs,fs,v4,v5,rfl,s4,hb,ham,hfr,hvn,hWn,hWN,hfs,hvl,hD⟩
   refine⟨_,rfl,a0W,fun e ge=>?_⟩
   have s5:G8 H2 (upd H2 e (.lst [])):=(G8.refl H2).new ge
   have hWl:=F5 W _ hWn hWN
   refine⟨am,e,vs,rfl,rfl,SqL.of (s5 _ _ ham),SqL.of G1,_,rfl,?_⟩
   have hfr5:Paired (a4z b am H (upd H2 e (.lst []))) vs fs:=a2A hfr fun c hc=>by
    obtain⟨_,_,_,f,hf⟩:=a3M hfr hc
    rw[I0 (fun z=>by rw[z,ge]at hf;cases hf)]
   have hmu2:=a7r (g:=fun n=>(R9 ps n).length) hb ham hfr
   have hb5:=s5 _ _ hb
   have ham5:=s5 _ _ ham
   have s15:=s4.trans s5
   generalize upd H2 e (.lst [])=H5 at s5 s15 hfr5 hb5 ham5⊢
   rcases List.eq_nil_or_concat fs with hfe | ⟨fs',⟨n,k⟩,hfe⟩
   ·subst hfe
    cases hfr5
    refine B6 ?_
    exact⟨_,rfl,q b W H5 s15 hb5 (hD W .nil)⟩
   ·rw[List.concat_eq_append]at hfe
    subst hfe
    obtain⟨vs',v,ev,hfr',c,ec,hcb',hca',hcH,hc⟩:=a4w hfr5
    subst ev ec
    rw[show(!(vs'++[V.ref c]).isEmpty)=true by cases vs'<;>rfl]
    refine a0b ?_
    have hnk:=hfs (n,k) (AR _ AM)
    obtain⟨rs,hmem⟩:=a0I hnk.1
    have hrs:R9 ps n=rs:=E4 hfit.nd hmem
    obtain⟨u,ws,hvu,hut,hrw⟩:=hdat n rs hmem
    have hk40:rs.length<=40:=hfit.rows _ hmem
    have hkr:k<=rs.length:=by have:=hnk.2;rw[hrs]at this;exact this
    have hwl:ws.length=rs.length:=AF hrw
    have hget:D3 H5 d (.str n) (some (.ref u)):=by
     have h1:=D3.k (k:=Sum.inr n) (s15 _ _ hd)
     rw[hvu]at h1
     exact h1
    have hlast:atI (vs'++[V.ref c]) (-1)=some (.ref c):=b2H vs' _
    have hcv:V.ref c∉vs':=fun z=>(AO.mp hvn).2.2 _ z _ (AD.mpr rfl) rfl
    have hdrop:(vs'++[V.ref c]).dropLast=vs':=List.dropLast_concat
    refine⟨_,rfl,_,rfl,_,rfl,am,_,_,_,rfl,rfl,SqL.of ham5,hlast,c,_,_,_,rfl,rfl,SqL.of hc,rfl,d,_,rfl,hget,?_⟩
    refine⟨_,rfl,_,rfl,am,_,_,_,rfl,rfl,SqL.of ham5,hlast,c,_,_,_,rfl,rfl,SqL.of hc,rfl,?_⟩
    have hut5:=s15 _ _ hut
    refine⟨_,rfl,_,rfl,u,_,rfl,.inr (SqT.of hut5),rfl,_,rfl,?_⟩
    have hrest:=a1e ps fs' (n,k)
    by_cases hkl:k=rs.length
    ·have hdec:decide (V.int (k:Int)=V.int (ws.length:Int))=true:=decide_eq_true (by rw[hwl,hkl])
     rw[hdec]
     refine a0b ?_
     have hl2:(vs'++[V.ref c])[(vs'++[V.ref c]).length - 1]?=some (.ref c):=by simp
     refine⟨_,rfl,.inl ⟨rfl,_,SqL.of ham5⟩,am,_,_,rfl,rfl,ham5,hl2,?_⟩
     rw[hdrop]
     have hb6:upd H5 am (.lst vs') b=some (.lst (W.map V.str)):=by rw[I0 hba];exact hb5
     have hfr6:Paired (a4z b am H (upd H5 am (.lst vs'))) vs' fs':=a2A hfr' fun c' hc'=>by
      rw[I0 (a3M hfr' hc').2.1]
     refine⟨⟨W,vs',fs',_,_,rfl,s15.put gaH,hb6,G1,hfr6,(AO.mp hvn).1,hWn,hWN,fun f hf=>hfs f (BF _ hf),?_,fun R h=>hD R ?_⟩,?_⟩
     ·rw[List.length_append,List.length_singleton]at hvl
      omega
     ·rw[hrest]
      show Dfs _ _ (((R9 ps n).drop k).filterMap _++_) _
      rw[hrs,hkl,List.drop_length]
      exact h
     ·show muB _ b am _ < muB _ b am H2
      rw[a7r hb6 G1 hfr6,hmu2,List.map_append,List.sum_append]
      simp only[List.map_cons,List.map_nil,List.sum_cons,List.sum_nil]
      rw[hrs]
      omega
    ·have hdec:decide (V.int (k:Int)=V.int (ws.length:Int))=false:=AW (fun z=>hkl (by have:=V.int.inj z;omega))
     rw[hdec]
     refine B6 ?_
     have hklt:k < rs.length:=by omega
     refine⟨_,rfl,_,_,rfl,rfl,?_⟩
     refine⟨_,rfl,_,rfl,am,_,_,_,rfl,rfl,SqL.of ham5,hlast,c,_,_,1,rfl,rfl,hc,rfl,?_⟩
     have hset:([V.str n,V.int (k:Int)]:List V).set 1 (.int ((k:Int)+1))=[.str n,.int ((k+1:Nat):Int)]:=rfl
     rw[hset]
     have hb6:upd H5 c (.lst [.str n,.int ((k+1:Nat):Int)]) b=some (.lst (W.map V.str)):=by rw[I0 hcb'.symm];exact hb5
     have ham6:upd H5 c (.lst [.str n,.int ((k+1:Nat):Int)]) am=some (.lst (vs'++[V.ref c])):=by rw[I0 hca'.symm];exact ham5
     have s6:G8 H (upd H5 c (.lst [.str n,.int ((k+1:Nat):Int)])):=s15.put hcH
     have hfr6':Paired (a4z b am H (upd H5 c (.lst [.str n,.int ((k+1:Nat):Int)]))) vs' fs':=a2A hfr' fun c' hc'=>by
      rw[I0 (fun z=>hcv (by rw[<-z];exact hc'))]
     have hfr6:Paired (a4z b am H (upd H5 c (.lst [.str n,.int ((k+1:Nat):Int)]))) (vs'++[V.ref c]) (fs'++[(n,k+1)]):=Paired.snoc hfr6' ⟨c,rfl,hcb',hca',hcH,G1⟩
     generalize upd H5 c (.lst [.str n,.int ((k+1:Nat):Int)])=H6 at hb6 ham6 s6 hfr6⊢
     obtain⟨rr,hrr⟩:∃rr,rs[k]?=some rr:=⟨rs[k],by simp[hklt]⟩
     obtain⟨vw,hvw,r,er,hra⟩:=Paired.get?' hrw hrr
     subst er
     have hra6:=hra.mono s6.tups
     have hut6:=s6 _ _ hut
     have hat:atI ws (k:Int)=some (.ref r):=W9 hvw
     have hdk:rs.drop k=rr::rs.drop (k+1):=by
      obtain⟨hi,e⟩:=List.getElem?_eq_some_iff.mp hrr
      rw[List.drop_eq_getElem_cons hi,e]
     have hrest2:=a1e ps fs' (n,k+1)
     have hfs6:∀f∈fs'++[(n,k+1)],f.1∈ps.map (·.1)/\f.2<=(R9 ps f.1).length:=fun f hf=>by
      rcases AL.mp hf with z | z
      ·exact hfs f (BF _ z)
      ·rw[AD.mp z]
       refine⟨hnk.1,?_⟩
       show k+1<=(R9 ps n).length
       rw[hrs]
       omega
     have hmu6:muB (fun n=>(R9 ps n).length) b am H6 < muB (fun n=>(R9 ps n).length) b am H2:=by
      rw[a7r hb6 ham6 hfr6,hmu2,List.map_append,List.sum_append,List.map_append,List.sum_append]
      simp only[List.map_cons,List.map_nil,List.sum_cons,List.sum_nil]
      rw[hrs]
      omega
     rcases b5Y hra6 with⟨m,rest,hnm,hrt⟩ | ⟨hkd,hnm⟩
     ·have z0:atI (V.str "bring"::V.str m::rest) 0=some (.str "bring"):=W9 (j:=0) rfl
      have z1:atI (V.str "bring"::V.str m::rest) 1=some (.str m):=W9 (j:=1) rfl
      have hstep:∀R,Dfs (k2 ps) W (m::a1I ps (fs'++[(n,k+1)])) R->Dfs (k2 ps) [root] (k2 ps root) R:=fun R h=>hD R (by
       rw[hrest]
       show Dfs _ _ (((R9 ps n).drop k).filterMap _++_) _
       rw[hrs,hdk,List.filterMap_cons_some hnm]
       rw[hrest2]at h
       have h':Dfs (k2 ps) W (m::(((R9 ps n).drop (k+1)).filterMap (U2 "bring")++a1I ps fs')) R:=h
       rw[hrs]at h'
       exact h')
      have hmN:m∈ps.map (·.1):=hcl n hnk.1 m (by
       unfold k1
       rw[hrs]
       exact(M6 "bring" m rs).mpr ⟨rr,AG hrr,hnm⟩)
      refine⟨_,rfl,_,rfl,u,_,_,_,rfl,rfl,SqT.of hut6,hat,r,_,_,_,rfl,rfl,SqT.of hrt,z0,rfl,_,rfl,a0t ?_⟩
      refine⟨_,rfl,_,rfl,u,_,_,_,rfl,rfl,SqT.of hut6,hat,r,_,_,_,rfl,rfl,SqT.of hrt,z1,_,rfl,b,_,rfl,.inl (SqL.of hb6),rfl,b0S W,_,rfl,?_⟩
      rw[if_pos rfl,a5C]
      by_cases hmW:m∈W
      ·rw[decide_eq_true hmW]
       refine B6 ?_
       exact⟨⟨W,_,_,_,_,rfl,s6,hb6,ham6,hfr6,hvn,hWn,hWN,hfs6,hvl,fun R h=>hstep R (.old hmW h)⟩,hmu6⟩
      ·rw[AW hmW]
       refine a0b ?_
       refine⟨_,rfl,.inl ⟨rfl,_,SqL.of hb6⟩,_,rfl,_,rfl,u,_,_,_,rfl,rfl,SqT.of hut6,hat,r,_,_,_,rfl,rfl,SqT.of hrt,z1,b,_,_,rfl,rfl,hb6,J6 (by rw[List.length_map];omega),?_⟩
       have hW7:W.map V.str++[.str m]=(W++[m]).map V.str:=by rw[List.map_append];rfl
       rw[hW7]
       have T7:R1 H6 (upd H6 b (.lst ((W++[m]).map V.str))):=R1.lst hb6
       have s7:G8 H (upd H6 b (.lst ((W++[m]).map V.str))):=s6.put gb
       have hb7:upd H6 b (.lst ((W++[m]).map V.str)) b=some (.lst ((W++[m]).map V.str)):=G1
       have ham7:upd H6 b (.lst ((W++[m]).map V.str)) am=some (.lst (vs'++[V.ref c])):=by rw[I0 hba.symm];exact ham6
       have hfr7:Paired (a4z b am H (upd H6 b (.lst ((W++[m]).map V.str)))) (vs'++[V.ref c]) (fs'++[(n,k+1)]):=a2A hfr6 fun c' hc'=>by
        rw[I0 (a3M hfr6 hc').1]
       generalize upd H6 b (.lst ((W++[m]).map V.str))=H7 at T7 s7 hb7 ham7 hfr7⊢
       refine⟨_,rfl,.inl ⟨rfl,_,SqL.of ham7⟩,_,rfl,_,rfl,u,_,_,_,rfl,rfl,SqT.of (T7 _ _ hut6),hat,r,_,_,_,rfl,rfl,SqT.of (T7 _ _ hrt),z1,F2,fun c1 gc1=>?_⟩
       have s8:G8 H7 (upd H7 c1 (.lst [.str m,.int 0])):=(G8.refl H7).new gc1
       refine⟨am,_,_,rfl,rfl,s8 _ _ ham7,J6 (by omega),?_⟩
       have h1b:c1≠b:=(R6 hb7 gc1).symm
       have h1a:c1≠am:=(R6 ham7 gc1).symm
       have hc1H:H c1=none:=s7.free gc1
       have s9:G8 H (upd (upd H7 c1 (.lst [.str m,.int 0])) am (.lst ((vs'++[V.ref c])++[.ref c1]))):=(s7.trans s8).put gaH
       have hb9:upd (upd H7 c1 (.lst [.str m,.int 0])) am (.lst ((vs'++[V.ref c])++[.ref c1])) b=some (.lst ((W++[m]).map V.str)):=by rw[I0 hba];exact s8 _ _ hb7
       have hfr9:Paired (a4z b am H (upd (upd H7 c1 (.lst [.str m,.int 0])) am (.lst ((vs'++[V.ref c])++[.ref c1])))) ((vs'++[V.ref c])++[.ref c1]) ((fs'++[(n,k+1)])++[(m,0)]):=by
        refine Paired.snoc (a2A hfr7 fun c' hc'=>?_) ⟨c1,rfl,h1b,h1a,hc1H,by rw[I0 h1a,G1];rfl⟩
        obtain⟨_,h2,_,f,hf⟩:=a3M hfr7 hc'
        rw[I0 h2,I0 (R6 hf gc1)]
       have hWn':(W++[m]).Nodup:=AO.mpr ⟨hWn,by simp,fun x hx y hy z=>hmW (by rw[<-AD.mp hy,<-z];exact hx)⟩
       have hWN':∀x∈W++[m],x∈ps.map (·.1):=fun x hx=>by
        rcases AL.mp hx with z | z
        ·exact hWN x z
        ·rw[AD.mp z];exact hmN
       have hWl':=F5 _ _ hWn' hWN'
       have hm40:=hrows m hmN
       refine⟨⟨W++[m],_,_,_,_,rfl,s9,hb9,G1,hfr9,?_,hWn',hWN',fun f hf=>?_,?_,fun R h=>hstep R (.new hmW ?_)⟩,?_⟩
       ·refine AO.mpr ⟨hvn,by simp,fun x hx y hy z=>?_⟩
        rw[AD.mp hy]at z
        subst z
        obtain⟨_,_,_,f,hf⟩:=a3M hfr7 hx
        rw[gc1]at hf
        cases hf
       ·rcases AL.mp hf with z | z
        ·exact hfs6 f z
        ·rw[AD.mp z]
         exact⟨hmN,Nat.zero_le _⟩
       ·rw[List.length_append,List.length_append (as:=W),List.length_singleton,List.length_singleton]
        omega
       ·have h3:=a1e ps (fs'++[(n,k+1)]) (m,0)
        rw[h3]at h
        have h':Dfs (k2 ps) (W++[m]) (((R9 ps m).drop 0).filterMap (U2 "bring")++a1I ps (fs'++[(n,k+1)])) R:=h
        rw[k2d]at h'
        exact h'
       ·show muB _ b am _ < muB _ b am H2
        rw[a7r hb9 G1 hfr9,hmu2]
        simp only[List.map_append,List.sum_append,List.map_cons,List.map_nil,List.sum_cons,List.sum_nil,List.length_append,List.length_singleton]
        rw[List.length_append,List.length_singleton]at hWl'
        rw[hrs]
        omega
     ·obtain⟨x1,rest,hrt⟩:=hra6.kind
      have z0:atI (V.str (R8 rr)::x1::rest) 0=some (.str (R8 rr)):=W9 (j:=0) rfl
      refine⟨_,rfl,_,rfl,u,_,_,_,rfl,rfl,SqT.of hut6,hat,r,_,_,_,rfl,rfl,SqT.of hrt,z0,rfl,_,rfl,Z4 hkd ?_⟩
      refine⟨⟨W,_,_,_,_,rfl,s6,hb6,ham6,hfr6,hvn,hWn,hWN,hfs6,hvl,fun R h=>hD R ?_⟩,hmu6⟩
      rw[hrest]
      show Dfs _ _ (((R9 ps n).drop k).filterMap _++_) _
      rw[hrs,hdk,List.filterMap_cons_none hnm]
      rw[hrest2]at h
      have h':Dfs (k2 ps) W (((R9 ps n).drop (k+1)).filterMap (U2 "bring")++a1I ps fs') R:=h
      rw[hrs]at h'
      exact h'
  ·rintro σ H2 Q1 Q2 hQ ⟨v,e,z,hz⟩
   refine⟨v,e,z,fun p gp=>?_⟩
   obtain⟨a1,b1,xs,e1,e2,h1,h2,c,ec,hq⟩:=hz p gp
   exact⟨a1,b1,xs,e1,e2,h1,h2,c,ec,hQ _ _ hq⟩
theorem a3E{K:W.Frag}{a:Addr}{xs:List V}{g:TG}{tt:TT}{te:TE}{Q:Hp->Prop}{σ:L2.St}{H:Hp}{D:Addr}(Pv:Nat->L2.St->Hp->Prop)(h0:Pv 0 σ (upd H D (.lst [])))
  (hl:∀i σ2 H2,Pv i σ2 H2->SqT K H2 a xs)
  (hs:∀i x σ2 H2,xs[i]?=some x->Pv i σ2 H2->g x σ2 H2 fun σ4 H4=>tt σ4 H4 fun b H5=>
   if b=true then te σ4 H5 fun y H6=>∃ys,H6 D=some (.lst ys)/\ys.length < sizeLine/\Pv (i+1) σ4 (upd H6 D (.lst (ys++[y])))else Pv (i+1) σ4 H5)
  (hd:∀σ2 H2,Pv xs.length σ2 H2->Q H2):
  ∃W:Nat->Nat->L2.St->Hp->Prop,(∃m,W 0 m σ (upd H D (.lst [])))/\∀i m σ2 H2,W i m σ2 H2->
   ((Itt K a).stop i H2/\Q H2)\/((Itt K a).go i H2/\∃N:L2.St->Hp->Prop,(∀σ' H',N σ' H'->∃m',m' < m/\W (i+1) m' σ' H')/\∀x H3,(Itt K a).yld i H2 x H3->g x σ2 H3 fun σ4 H4=>tt σ4 H4 fun b H5=>
    if b=true then te σ4 H5 fun y H6=>∃ys,H6 D=some (.lst ys)/\ys.length < sizeLine/\N σ4 (upd H6 D (.lst (ys++[y])))else N σ4 H5):=by
 refine a3A xs.length Pv h0 (fun i σ2 H2 hi p=>?_) fun σ2 H2 p=>⟨⟨xs,hl _ _ _ p,AH _⟩,hd _ _ p⟩
 have e:=AU hi
 refine⟨⟨xs,_,hl _ _ _ p,e⟩,fun x H3 hy=>?_⟩
 obtain⟨rfl,hx⟩:=hy
 exact hs i x σ2 H3 (hx xs (hl _ _ _ p)) p
noncomputable abbrev Pl:=Str×Nat×Rw
noncomputable def W6 (n:Str) (rs:List Rw):List Pl:=rs.zipIdx.map fun x=>(n,x.2,x.1)
theorem a4m(n:Str)(rs:List Rw)(rw:Rw):W6 n (rs++[rw])=W6 n rs++[(n,rs.length,rw)]:=by
 unfold W6
 rw[List.zipIdx_append,List.map_append]
 simp
theorem F8(n:Str)(rs:List Rw):(W6 n rs).length=rs.length:=by unfold W6;simp
noncomputable def I9 (ps:List Pt):List Pl:=ps.flatMap fun pt=>W6 pt.1 pt.2
theorem a9p(ps:List Pt)(pt:Pt):I9 (ps++[pt])=I9 ps++W6 pt.1 pt.2:=by
 unfold I9
 rw[List.flatMap_append]
 simp
theorem a1v:∀{ps:List Pt},(∀pt∈ps,pt.2.length<=40)->(I9 ps).length<=40*ps.length
 | [],_=>by simp[I9]
 | pt::r,h=>by
  have h1:=a1v (ps:=r) fun p hp=>h p (AK _ hp)
  have h2:=h pt AM
  have e:I9 (pt::r)=W6 pt.1 pt.2++I9 r:=rfl
  rw[e,List.length_append,F8,List.length_cons]
  omega
noncomputable def a1E (H:Hp) (v:V) (x:Pl):Prop:=∃t r,v= .ref t/\H t=some (.tup [.str x.1,.int (x.2.1:Int),.ref r])/\a0Q H r x.2.2
theorem a1E.mono{H H':Hp}(s:R1 H H'){v:V}{x:Pl}(h:a1E H v x):a1E H' v x:=by
 obtain⟨t,r,e,h1,h2⟩:=h
 exact⟨t,r,e,s _ _ h1,h2.mono s⟩
noncomputable def b2W:Sp:=fun vs H Q _=>∃(a:Addr)(ps:List Pt),vs=[.ref a]/\O9 H a ps/\M7 ps/\∀(p:Addr)(vs:List V)(H':Hp),G8 H H'->H' p=some (.tup vs)->Paired (a1E H') vs (I9 ps)->Q (.ref p) H'
theorem a3K(T:Txt K mg):L2.Cl P w K mg base 1 "placed_rows" ["parts"] b2W:=by
 refine Cl.of T.d_placed_rows F0 (fun vs H Q E h=>?_) (fun _ _ _ _ _ _ us hl=>by obtain⟨a,rfl⟩:=a5N hl;rfl) (fun fa cdv A outer s H vs Q E hr h=>?_)
 ·obtain⟨a,ps,rfl,_⟩:=h
  rfl
 ·obtain⟨a,ps,rfl,hpf,hfit,q⟩:=h
  obtain⟨o,vs,ha,ho,hps⟩:=id hpf
  have sqa:∀{H2:Hp},G8 H H2->SqT K H2 a vs:=fun s2=> .inl (.inr ⟨o,s2 _ _ ha⟩)
  have hvl:vs.length=ps.length:=AF hps
  have hhi:=hfit.hi
  refine⟨_,(G7 (J3 (i:=1) F0.nd rfl (Or.inl rfl) (Y2 G6))
   (G7 (Z7 AQ rfl (a0d (pv 0)) (D8 rfl (J8 (J5 (i:=2) F0.nd rfl (Or.inl rfl)) (J8 (J5 (i:=3) F0.nd rfl (Or.inl rfl)) Z9)))
    (G9 (Z7 AQ rfl (a5v (by rfl) T.n_enumerate (G0 (pv 3) G6)) (D8 rfl (J8 (J5 (i:=4) F0.nd rfl (Or.inl rfl)) (J8 (J5 (i:=5) F0.nd rfl (Or.inl rfl)) Z9)))
     (G9 (Y5 (B4 PySem.F.plainAttrs_list PySem.F.slot_list_append PySem.F.type_list_append Z8 (pv 1) (G0 (U6 (G0 (pv 2) (G0 (pv 4) (G0 (pv 5) G6)))) G6)))))))
   (G9 (R5 (W3 Z3 (by rfl) T.n_tuple boot_tuple (G0 (pv 1) G6)))))),?_⟩
  refine⟨a0W,fun l gl=>?_⟩
  have s1:G8 H (upd H l (.lst [])):=(G8.refl H).new gl
  refine⟨_,rfl,a,rfl,⟨_,sqa s1⟩,a0o (K:=K) (a:=a) (xs:=vs) (fun i σ H2=>∃(us:List V)(v2 v3 v4 v5:Option V),σ=[some (.ref a),some (.ref l),v2,v3,v4,v5]/\G8 H H2/\H2 l=some (.lst us)/\Paired (a1E H2) us (I9 (ps.take i)))
   ⟨[],none,none,none,none,rfl,s1,G1,by rw[List.take_zero];exact .nil⟩ (fun i σ H2 _⟨_,_,_,_,_,_,s2,_⟩=>sqa s2) ?_ ?_⟩
  ·rintro i y σ H2 hy ⟨us,v2,v3,v4,v5,rfl,s2,hl2,hus⟩
   obtain⟨pt,hpt,t,u,ws,ey,ht,hu',hrs⟩:=Paired.get? hps hy
   subst ey
   have hi:i < vs.length:=(List.getElem?_eq_some_iff.mp hy).1
   have hr40:=hfit.rows _ (AG hpt)
   have hpl:(I9 (ps.take i)).length<=40*23:=by
    have h1:=a1v (ps:=ps.take i) fun p hp=>hfit.rows p (List.mem_of_mem_take hp)
    rw[BD]at h1
    omega
   have hwl:ws.length=pt.2.length:=AF hrs
   refine⟨t,_,rfl,SqT.of (s2 _ _ ht),rfl,_,_,rfl,_,_,rfl,rfl,?_⟩
   refine⟨_,rfl,u,rfl,⟨_,SqT.of (s2 _ _ hu')⟩,a7F (K:=K) (a:=u) (xs:=ws) (fun j σ H3=>∃(us:List V)(v4 v5:Option V),σ=[some (.ref a),some (.ref l),some (.str pt.1),some (.ref u),v4,v5]/\G8 H H3/\H3 l=some (.lst us)/\Paired (a1E H3) us (I9 (ps.take i)++W6 pt.1 (pt.2.take j)))
    ⟨us,_,_,rfl,s2,hl2,by rw[List.take_zero];show Paired _ us (I9 (ps.take i)++[]);rw[List.append_nil];exact hus⟩ (fun j σ H3 _⟨_,_,_,_,s3,_⟩=>SqT.of (s3 _ _ hu')) ?_ ?_⟩
   ·rintro j y p σ H3 hy3 ⟨us3,w4,w5,rfl,s3,hl3,hus3⟩ hp
    obtain⟨rw,hrw,r,er,hra⟩:=Paired.get? hrs hy3
    subst er
    have hj:j < pt.2.length:=(List.getElem?_eq_some_iff.mp hrw).1
    have hul:us3.length=(I9 (ps.take i)).length+j:=by
     rw[AF hus3,List.length_append,F8,BD];omega
    have s4:G8 H3 (upd H3 p (.tup [.int (j:Int),.ref r])):=(G8.refl H3).new hp
    refine⟨p,_,rfl,SqT.of G1,rfl,_,_,rfl,_,_,rfl,rfl,?_⟩
    refine⟨_,rfl,.inl ⟨rfl,_,SqL.of (s4 _ _ hl3)⟩,_,rfl,_,rfl,_,rfl,a0A,fun c gc=>?_⟩
    have s5:=s4.new (o:= .tup [.str pt.1,.int (j:Int),.ref r]) gc
    refine⟨l,_,_,rfl,rfl,s5 _ _ hl3,J6 (by omega),?_⟩
    have T5:=s5.tups.trans (R1.lst (ys:=us3++[.ref c]) (s5 _ _ hl3))
    have hne:c≠l:=fun z=>by rw[z]at gc;rw[s4 _ _ hl3]at gc;cases gc
    refine⟨us3++[.ref c],_,_,rfl,(s3.trans s5).put gl,G1,?_⟩
    rw[J7 hrw,a4m,<-List.append_assoc]
    refine Paired.snoc (Paired.mapP hus3 fun _ _ z=>z.mono T5) ⟨c,r,rfl,?_,((hra.mono s3.tups).mono T5)⟩
    rw[I0 hne,G1]
    have:(pt.2.take j).length=j:=by rw[BD];omega
    simp only[this]
   ·rintro σ H3 ⟨us3,w4,w5,rfl,s3,hl3,hus3⟩
    rw[hwl,AY]at hus3
    refine⟨us3,_,_,_,_,rfl,s3,hl3,?_⟩
    rw[J7 hpt,a9p]
    exact hus3
  ·rintro σ H2 ⟨us,v2,v3,v4,v5,rfl,s2,hl2,hus⟩
   rw[hvl,AY]at hus
   refine⟨_,rfl,l,_,rfl,.inl ⟨SqL.of hl2,fun p gp=>?_⟩⟩
   have s3:G8 H2 (upd H2 p (.tup us)):=(G8.refl H2).new gp
   exact q p us _ (s2.trans s3) G1 (Paired.mapP hus fun _ _ z=>z.mono s3.tups)
noncomputable def ownOf:Rw->Option Str
 | .set o _=>some o
 | .take o=>some o
 | _=>none
noncomputable def D6 (pls:List Pl):List (Str×Str):=pls.filterMap fun x=>(ownOf x.2.2).map fun o=>(x.1,o)
noncomputable def W1 (k:Str×Str):List Key:=[Sum.inr k.1,Sum.inr k.2]
theorem a0J{a b:Str×Str}(h:W1 a=W1 b):a=b:=by
 unfold W1 at h
 simp only[List.cons.injEq,Sum.inr.injEq,and_true]at h
 exact Prod.ext h.1 h.2
theorem R1.dT{H:Hp}{l:Addr}{kvs kvs':List (List Key×V)}(h:H l=some (.dT kvs)):R1 H (upd H l (.dT kvs')):=fun b zs q=>by
 rw[I0 (a7E q h (by intro z;cases z))]
 exact q
theorem a2h{κ:Type}[DecidableEq κ]{kvs:List (κ×V)}{k:κ}{v:V}(h:k∉kvs.map (·.1)):O0 kvs k v=kvs++[(k,v)]:=by
 unfold O0
 rw[if_neg]
 intro z
 obtain⟨p,hp,e⟩:=List.any_eq_true.mp z
 exact h (by rw[<-of_decide_eq_true e];exact AN (f:=(·.1)) hp)
theorem b4H{H:Hp}{r:Addr}{rw:Rw}(h:a0Q H r rw):(∃o rest,(R8 rw="set" \/R8 rw="take")/\ownOf rw=some o/\H r=some (.tup (.str (R8 rw):: .str o::rest)))\/(¬(R8 rw="set" \/R8 rw="take")/\ownOf rw=none):=by
 cases rw with
 | set o ts=>obtain⟨t,h1,h2⟩:=h;exact .inl ⟨o,_,.inl rfl,rfl,h1⟩
 | take o=>exact .inl ⟨o,_,.inr rfl,rfl,h⟩
 | _=>exact .inr ⟨by simp only[R8];decide +kernel,rfl⟩
theorem b6P(k a b:Str):inV (.str k) [.str a,.str b]=decide (k=a\/k=b):=by
 have:=a5C k [a,b]
 simpa using this
noncomputable abbrev Kk:=Str×Str
noncomputable def U7 (pls:List Pl):List (Kk×(Str×Nat)):=pls.filterMap fun x=>(ownOf x.2.2).map fun o=>((x.1,o),(x.1,x.2.1))
noncomputable def E9:Rw->Option (Str×Str)
 | .give o g=>some (o,g)
 | _=>none
noncomputable def Y9 (pls:List Pl):List (Kk×Str):=pls.filterMap fun x=>(E9 x.2.2).map fun q=>((x.1,q.2),q.1)
noncomputable def E2:Rw->List (Str×(Str×Str))
 | .bring m ps=>ps.map fun q=>(m,q)
 | _=> []
noncomputable def Z2 (pls:List Pl):List (Kk×Kk):=pls.flatMap fun x=>(E2 x.2.2).map fun q=>((x.1,q.2.2),(q.1,q.2.1))
noncomputable def a5O (gls:List (Kk×Str)) (k:Kk):Str:=((gls.find? fun y=>decide (y.1=k)).map (·.2)).getD ""
theorem a4G:∀{gls:List (Kk×Str)}{k:Kk}{o:Str},(gls.map (·.1)).Nodup->(k,o)∈gls->a5O gls k=o
 | [],k,o,_,h=>by simp at h
 | y::r,k,o,hn,h=>by
  rw[List.map_cons,BN]at hn
  rcases List.mem_cons.mp h with e | e
  ·unfold a5O
   rw[List.find?_cons_of_pos (by rw[<-e];simp),<-e];rfl
  ·have hne:¬y.1=k:=fun z=>hn.1 (by rw[z];exact AN (f:=(·.1)) e)
   have:=a4G hn.2 e
   unfold a5O at this⊢
   rw[List.find?_cons_of_neg (by simpa using hne)]
   exact this
noncomputable def E7 (pls:List Pl):List (Kk×Kk):=(Z2 pls).map fun x=>(x.1,(x.2.1,a5O (Y9 pls) x.2))
inductive Mk (mls:List (Kk×(Str×Nat))) (ls:List (Kk×Kk)):Kk->Str×Nat->Prop where
 | base {k:Kk} {p:Str×Nat}:(k,p)∈mls->Mk mls ls k p
 | step {k k':Kk} {p:Str×Nat}:(k,k')∈ls->Mk mls ls k' p->Mk mls ls k p
structure D7(pls:List Pl):Prop where
 keys:((U7 pls).map (·.1)++(Z2 pls).map (·.1)).Nodup
 gk:((Y9 pls).map (·.1)).Nodup
 gv:∀x∈Z2 pls,∃o,(x.2,o)∈Y9 pls
 ow:∀y∈Y9 pls,(y.1.1,y.2)∈(U7 pls).map (·.1)++(Z2 pls).map (·.1)
 rk:∃r:Kk->Nat,∀x∈E7 pls,r x.2 < r x.1
 len:pls.length<=960
 brs:∀x∈pls,(E2 x.2.2).length<=6
theorem a3i(pls:List Pl):(E7 pls).map (·.1)=(Z2 pls).map (·.1):=by
 unfold E7
 rw[List.map_map]
 rfl
theorem D7.tgt{pls:List Pl}(n:D7 pls){x:Kk×Kk}(hx:x∈E7 pls):x.2∈(U7 pls).map (·.1)\/x.2∈(E7 pls).map (·.1):=by
 obtain⟨y,hy,e⟩:=AT.mp hx
 obtain⟨o,ho⟩:=n.gv y hy
 have h1:=a4G n.gk ho
 have h2:=n.ow _ ho
 rw[<-e]
 show(y.2.1,a5O (Y9 pls) y.2)∈_\/_
 rw[h1,a3i]
 exact AL.mp h2
theorem D7.mkNodup{pls:List Pl}(n:D7 pls):((U7 pls).map (·.1)).Nodup:=(AO.mp n.keys).1
theorem D7.lkNodup{pls:List Pl}(n:D7 pls):((E7 pls).map (·.1)).Nodup:=by rw[a3i];exact(AO.mp n.keys).2.1
theorem D7.apart{pls:List Pl}(n:D7 pls){k:Kk}(h1:k∈(U7 pls).map (·.1))(h2:k∈(E7 pls).map (·.1)):False:=(AO.mp n.keys).2.2 k h1 k (by rw[<-a3i];exact h2) rfl
theorem a5e{α β:Type}:∀{l:List (α×β)}{k:α}{a b:β},(l.map (·.1)).Nodup->(k,a)∈l->(k,b)∈l->a=b
 | [],_,_,_,_,h,_=>by simp at h
 | y::r,k,a,b,hn,h1,h2=>by
  rw[List.map_cons,BN]at hn
  rcases List.mem_cons.mp h1 with e1 | e1<;>rcases List.mem_cons.mp h2 with e2 | e2
  ·rw[<-e1]at e2;exact(Prod.mk.inj e2).2.symm
  ·exact absurd (by rw[<-e1];exact AN (f:=(·.1)) e2) hn.1
  ·exact absurd (by rw[<-e2];exact AN (f:=(·.1)) e1) hn.1
  ·exact a5e hn.2 e1 e2
theorem D7.uniq{pls:List Pl}(n:D7 pls){k:Kk}{p q:Str×Nat}(h1:Mk (U7 pls) (E7 pls) k p)(h2:Mk (U7 pls) (E7 pls) k q):p=q:=by
 induction h1 with
 | base h=>
  cases h2 with
  | base h'=>exact a5e n.mkNodup h h'
  | step h' _=>exact(n.apart (AN (f:=(·.1)) h) (AN (f:=(·.1)) h')).elim
 | step h _ ih=>
  cases h2 with
  | base h'=>exact(n.apart (AN (f:=(·.1)) h') (AN (f:=(·.1)) h)).elim
  | step h' hm=>
   have:=a5e n.lkNodup h h'
   subst this
   exact ih hm
noncomputable def a4N (H:Hp) (kv:List Key×V) (x:Kk×(Str×Nat)):Prop:=kv.1=W1 x.1/\∃t,kv.2= .ref t/\H t=some (.tup [.str x.2.1,.int (x.2.2:Int)])
noncomputable def a6W (H:Hp) (kv:List Key×V) (x:Kk×Kk):Prop:=kv.1=W1 x.1/\∃t,kv.2= .ref t/\H t=some (.tup [.str x.2.1,.str x.2.2])
noncomputable def b5j (kv:List Key×V) (x:Kk×Str):Prop:=kv.1=W1 x.1/\kv.2= .str x.2
theorem a4N.mono{H H':Hp}(s:R1 H H'){kv:List Key×V}{x:Kk×(Str×Nat)}(h:a4N H kv x):a4N H' kv x:=by
 obtain⟨e,t,e2,h⟩:=h
 exact⟨e,t,e2,s _ _ h⟩
theorem a6W.mono{H H':Hp}(s:R1 H H'){kv:List Key×V}{x:Kk×Kk}(h:a6W H kv x):a6W H' kv x:=by
 obtain⟨e,t,e2,h⟩:=h
 exact⟨e,t,e2,s _ _ h⟩
theorem a6R{β:Type}{F:List Key×V->Kk×β->Prop}(hF:∀kv x,F kv x->kv.1=W1 x.1):∀{kvs:List (List Key×V)}{xs:List (Kk×β)},Paired F kvs xs->kvs.map (·.1)=(xs.map (·.1)).map W1
 | _,_,.nil=>rfl
 | _,_,.cons h t=>by rw[List.map_cons,List.map_cons,List.map_cons,a6R hF t,hF _ _ h]
theorem a4Y{β:Type}{F:List Key×V->Kk×β->Prop}(hF:∀kv x,F kv x->kv.1=W1 x.1):∀{kvs:List (List Key×V)}{xs:List (Kk×β)}{x:Kk×β},Paired F kvs xs->(xs.map (·.1)).Nodup->x∈xs->∃kv,F kv x/\Y7 kvs (W1 x.1)=some kv.2
 | _,_,x,.nil,_,h=>by simp at h
 | _,_,x,.cons (a:=kv) (b:=y) hy t,hn,h=>by
  rw[List.map_cons,BN]at hn
  rcases List.mem_cons.mp h with e | e
  ·subst e
   exact⟨kv,hy,E1 (hF _ _ hy)⟩
  ·obtain⟨kv',h1,h2⟩:=a4Y hF t hn.2 e
   refine⟨kv',h1,?_⟩
   rw[O2 (fun z=>hn.1 ?_)]
   ·exact h2
   ·have:W1 y.1=W1 x.1:=(hF _ _ hy).symm.trans z
    rw[a0J this]
    exact AN (f:=(·.1)) e
theorem a7N{β:Type}{F:List Key×V->Kk×β->Prop}(hF:∀kv x,F kv x->kv.1=W1 x.1):∀{kvs:List (List Key×V)}{xs:List (Kk×β)}{k:Kk},Paired F kvs xs->k∉xs.map (·.1)->Y7 kvs (W1 k)=none
 | _,_,k,.nil,_=>rfl
 | _,_,k,.cons (a:=kv) (b:=y) hy t,h=>by
  rw[List.map_cons,List.mem_cons,not_or]at h
  rw[O2 (fun z=>h.1 (a0J ((hF _ _ hy).symm.trans z)).symm)]
  exact a7N hF t h.2
theorem a7f{β:Type}{F:List Key×V->Kk×β->Prop}(hF:∀kv x,F kv x->kv.1=W1 x.1){kvs:List (List Key×V)}{xs:List (Kk×β)}{k:Kk}(h:Paired F kvs xs)(hk:k∉xs.map (·.1)):W1 k∉kvs.map (·.1):=by
 rw[a6R hF h]
 intro z
 obtain⟨k',h1,h2⟩:=AT.mp z
 rw[a0J h2]at h1
 exact hk h1
theorem a5E{α β:Type}{l:List (α×β)}{a b:List (α×β)}(h:(l.map (·.1)).Nodup)(e:l=a++b):(a.map (·.1)).Nodup:=by
 rw[e,List.map_append]at h
 exact(AO.mp h).1
theorem a6M(a b:List Pl):U7 (a++b)=U7 a++U7 b:=by unfold U7;rw[List.filterMap_append]
theorem a7m(a b:List Pl):Y9 (a++b)=Y9 a++Y9 b:=by unfold Y9;rw[List.filterMap_append]
theorem b0s(a b:List Pl):Z2 (a++b)=Z2 a++Z2 b:=by unfold Z2;rw[List.flatMap_append]
theorem b1a(pls:List Pl)(i:Nat):U7 pls=U7 (pls.take i)++U7 (pls.drop i):=by rw[<-a6M,List.take_append_drop]
theorem b0B(pls:List Pl)(i:Nat):Y9 pls=Y9 (pls.take i)++Y9 (pls.drop i):=by rw[<-a7m,List.take_append_drop]
theorem b1m(pls:List Pl)(i:Nat):Z2 pls=Z2 (pls.take i)++Z2 (pls.drop i):=by rw[<-b0s,List.take_append_drop]
theorem a7p(pls:List Pl):(U7 pls).length<=pls.length:=List.length_filterMap_le _ _
theorem b4l(pls:List Pl):(Y9 pls).length<=pls.length:=List.length_filterMap_le _ _
theorem a4I:∀{pls:List Pl},(∀x∈pls,(E2 x.2.2).length<=6)->(Z2 pls).length<=6*pls.length
 | [],_=>by simp[Z2]
 | x::r,h=>by
  have h1:=a4I (pls:=r) fun y hy=>h y (AK _ hy)
  have h2:=h x AM
  have e:Z2 (x::r)=((E2 x.2.2).map fun q=>((x.1,q.2.2),(q.1,q.2.1)))++Z2 r:=rfl
  rw[e,List.length_append,List.length_map,List.length_cons]
  omega
theorem szK{n:Nat}(h:n<=10000):n < sizeLine:=by
 have:sizeLine=16777216:=sizeLine_eq
 omega
noncomputable def b4P:Sp:=fun vs H Q _=>∃(a:Addr)(ps:List Pt),vs=[.ref a]/\O9 H a ps/\M7 ps/\D7 (I9 ps)/\∀(d:Addr)(kvs:List (List Key×V))(H':Hp),G8 H H'->H d=none->H' d=some (.dT kvs)->Paired (a4N H') kvs (U7 (I9 ps))->Q (.ref d) H'
theorem b0m(T:Txt K mg):L2.Cl P w K mg base 2 "made" ["parts"] b4P:=by
 have C_placed_rows:=a3K (P:=P) (w:=w) (base:=base) T
 refine Cl.of T.d_made a3b (fun vs H Q E h=>?_) (fun _ _ _ _ _ _ us hl=>by obtain⟨a,rfl⟩:=a5N hl;rfl) (fun fa cdv A outer s H vs Q E hr h=>?_)
 ·obtain⟨a,ps,rfl,_⟩:=h
  rfl
 ·obtain⟨a,ps,rfl,hpf,hfit,hnet,q⟩:=h
  have hu:=B5 hr
  have hpl:=hnet.len
  refine⟨_,(G7 (J3 (i:=1) a3b.nd rfl (Or.inl rfl) a2s)
   (G7 (Z7 AQ rfl (a0d (W4 C_placed_rows hr (by rfl) (G0 (pv 0) G6))) (D8 rfl (J8 (J5 (i:=2) a3b.nd rfl (Or.inl rfl)) (J8 (J5 (i:=3) a3b.nd rfl (Or.inl rfl)) (J8 (J5 (i:=4) a3b.nd rfl (Or.inl rfl)) Z9))))
    (G9 (Y8 (R0 a6F (J2 U0 (pv 4) G2 (fun _ _=>rfl)) (U6 (G0 U5 (G0 U5 G6))) (by with_unfolding_all rfl))
     (G9 (M0 hu (pv 1) (U6 (G0 (pv 2) (G0 (J2 U0 (pv 4) G2 (fun _ _=>rfl)) G6))) (U6 (G0 (pv 2) (G0 (pv 3) G6))) rfl)) U9)))
   (G9 (R5 (pv 1))))),?_⟩
  intro d gd
  have s1:G8 H (upd H d (.dT [])):=(G8.refl H).new gd
  refine⟨_,rfl,a,ps,rfl,s1.partsF hpf,hfit,fun p vs H1 s2 hp hvs=>?_⟩
  have s12:=s1.trans s2
  have hd1:H1 d=some (.dT []):=s2 _ _ G1
  have hvl:vs.length=(I9 ps).length:=AF hvs
  refine⟨p,rfl,⟨_,SqT.of hp⟩,a0o (K:=K) (a:=p) (xs:=vs) (fun i σ H2=>∃(kvs:List (List Key×V))(v2 v3 v4:Option V),σ=[some (.ref a),some (.ref d),v2,v3,v4]/\G8 H H2/\H2 p=some (.tup vs)/\R1 H1 H2/\H2 d=some (.dT kvs)/\Paired (a4N H2) kvs (U7 ((I9 ps).take i)))
   ⟨[],none,none,none,rfl,s12,hp,R1.refl H1,hd1,by rw[List.take_zero];exact .nil⟩ (fun i σ H2 _⟨_,_,_,_,_,_,h,_⟩=>SqT.of h) ?_ ?_⟩
  ·rintro i y σ H2 hy ⟨kvs,v2,v3,v4,rfl,s3,hp2,T2,hd2,hk⟩
   obtain⟨⟨n,j,rw⟩,hx,t,r,ey,ht,hra⟩:=Paired.get? hvs hy
   subst ey
   have hra2:=hra.mono T2
   have htk:U7 ((I9 ps).take (i+1))=U7 ((I9 ps).take i)++U7 [(n,j,rw)]:=by
    rw[J7 hx,a6M]
   have hkl:kvs.length<=960:=by
    rw[AF hk]
    have h2:=a7p ((I9 ps).take i)
    rw[BD]at h2
    omega
   refine⟨t,_,rfl,SqT.of (T2 _ _ ht),rfl,_,_,rfl,_,_,rfl,_,_,rfl,rfl,?_⟩
   rcases b4H hra2 with⟨o,rest,hkd,ho,hrt⟩ | ⟨hkd,ho⟩
   ·have z0:atI (V.str (R8 rw)::V.str o::rest) 0=some (.str (R8 rw)):=W9 (j:=0) rfl
    have z1:atI (V.str (R8 rw)::V.str o::rest) 1=some (.str o):=W9 (j:=1) rfl
    refine⟨_,rfl,r,_,_,_,rfl,rfl,SqT.of hrt,z0,F2,fun c gc=>?_⟩
    have s4:G8 H2 (upd H2 c (.tup [.str "set",.str "take"])):=(G8.refl H2).new gc
    refine⟨c,_,rfl,.inr (SqT.of G1),rfl,rfl,_,rfl,?_⟩
    rw[if_neg (by decide),b6P,decide_eq_true hkd]
    refine a0b ?_
    refine⟨_,rfl,_,rfl,F2,fun e ge=>?_⟩
    have s5:=s4.new (o:= .tup [.str n,.int (j:Int)]) ge
    refine⟨_,rfl,_,rfl,_,rfl,r,_,_,_,rfl,rfl,SqT.of (s5 _ _ hrt),z1,F2,fun g gg=>?_⟩
    have s6:=s5.new (o:= .tup [.str n,.str o]) gg
    have hd6:=s6 _ _ hd2
    have hg6:upd (upd (upd H2 c (.tup [.str "set",.str "take"])) e (.tup [.str n,.int (j:Int)])) g (.tup [.str n,.str o]) g=some (.tup ((W1 (n,o)).map kV)):=G1
    refine⟨d,_,rfl,a1L.t (k:=W1 (n,o)) hd6 hg6 (szK (by omega)),?_⟩
    have h3:U7 [(n,j,rw)]=[((n,o),(n,j))]:=by simp[U7,ho]
    have hnew:W1 (n,o)∉kvs.map (·.1):=a7f (fun _ _ h=>h.1) hk (fun z=>by
     have h1:=a5E hnet.mkNodup (b1a (I9 ps) (i+1))
     rw[htk,h3,List.map_append]at h1
     exact(AO.mp h1).2.2 _ z _ (AD.mpr rfl) rfl)
    rw[a2h hnew]
    have T6:=s6.tups.trans (R1.dT (kvs':=kvs++[(W1 (n,o),.ref e)]) hd6)
    refine⟨kvs++[(W1 (n,o),.ref e)],_,_,_,rfl,(s3.trans s6).put gd,T6 _ _ hp2,T2.trans T6,G1,?_⟩
    rw[htk,h3]
    refine Paired.snoc (Paired.mapP hk fun _ _ z=>z.mono T6) ⟨rfl,e,rfl,R1.dT (kvs':=kvs++[(W1 (n,o),.ref e)]) hd6 _ _ (U3 G1 gg)⟩
   ·obtain⟨x1,rest,hrt⟩:=hra2.kind
    have z0:atI (V.str (R8 rw)::x1::rest) 0=some (.str (R8 rw)):=W9 (j:=0) rfl
    refine⟨_,rfl,r,_,_,_,rfl,rfl,SqT.of hrt,z0,F2,fun c gc=>?_⟩
    have s4:G8 H2 (upd H2 c (.tup [.str "set",.str "take"])):=(G8.refl H2).new gc
    refine⟨c,_,rfl,.inr (SqT.of G1),rfl,rfl,_,rfl,?_⟩
    rw[if_neg (by decide),b6P,AW hkd]
    refine B6 ?_
    have h3:U7 [(n,j,rw)]=[]:=by simp[U7,ho]
    exact⟨kvs,_,_,_,rfl,s3.trans s4,s4 _ _ hp2,T2.trans s4.tups,s4 _ _ hd2,by rw[htk,h3,List.append_nil];exact Paired.mapP hk fun _ _ z=>z.mono s4.tups⟩
  ·rintro σ H2 ⟨kvs,v2,v3,v4,rfl,s3,hp2,T2,hd2,hk⟩
   rw[hvl,AY]at hk
   exact⟨_,rfl,q d kvs H2 s3 gd hd2 hk⟩
theorem b3x{H:Hp}{r:Addr}{rw:Rw}(h:a0Q H r rw):(∃o g,E9 rw=some (o,g)/\H r=some (.tup [.str "give",.str o,.str g]))\/(¬R8 rw="give"/\E9 rw=none):=by
 cases rw with
 | give o g=>exact .inl ⟨o,g,rfl,h⟩
 | _=>exact .inr ⟨by simp only[R8];decide +kernel,rfl⟩
theorem b1z{H:Hp}{r:Addr}{rw:Rw}(h:a0Q H r rw):(∃m ps t,rw= .bring m ps/\H r=some (.tup [.str "bring",.str m,.ref t])/\a0Z H t ps)\/(¬R8 rw="bring"/\E2 rw=[]):=by
 cases rw with
 | bring m ps=>obtain⟨t,h1,h2⟩:=h;exact .inl ⟨m,ps,t,rfl,h1,h2⟩
 | _=>exact .inr ⟨by simp only[R8];decide +kernel,rfl⟩
noncomputable def a8a:Sp:=fun vs H Q _=>∃(a:Addr)(ps:List Pt),vs=[.ref a]/\O9 H a ps/\M7 ps/\D7 (I9 ps)/\∀(d:Addr)(kvs:List (List Key×V))(H':Hp),G8 H H'->H' d=some (.dT kvs)->Paired b5j kvs (Y9 (I9 ps))->Q (.ref d) H'
theorem a5R(T:Txt K mg):L2.Cl P w K mg base 2 "given_owns" ["parts"] a8a:=by
 have C_placed_rows:=a3K (P:=P) (w:=w) (base:=base) T
 refine Cl.of T.d_given_owns B8 (fun vs H Q E h=>?_) (fun _ _ _ _ _ _ us hl=>by obtain⟨a,rfl⟩:=a5N hl;rfl) (fun fa cdv A outer s H vs Q E hr h=>?_)
 ·obtain⟨a,ps,rfl,_⟩:=h
  rfl
 ·obtain⟨a,ps,rfl,hpf,hfit,hnet,q⟩:=h
  have hu:=B5 hr
  have hpl:=hnet.len
  refine⟨_,(G7 (J3 (i:=1) B8.nd rfl (Or.inl rfl) a2s)
   (G7 (Z7 AQ rfl (a0d (W4 C_placed_rows hr (by rfl) (G0 (pv 0) G6))) (D8 rfl (J8 (J5 (i:=2) B8.nd rfl (Or.inl rfl)) (J8 (J5 (i:=3) B8.nd rfl (Or.inl rfl)) (J8 (J5 (i:=4) B8.nd rfl (Or.inl rfl)) Z9))))
    (G9 (Y8 (R0 F3 (J2 U0 (pv 4) G2 (fun _ _=>rfl)) U5 (U4 _))
     (G9 (M0 hu (pv 1) (U6 (G0 (pv 2) (G0 (J2 U0 (pv 4) G2 (fun _ _=>rfl)) G6))) (J2 U0 (pv 4) G2 (fun _ _=>rfl)) rfl)) U9)))
   (G9 (R5 (pv 1))))),?_⟩
  intro d gd
  have s1:G8 H (upd H d (.dT [])):=(G8.refl H).new gd
  refine⟨_,rfl,a,ps,rfl,s1.partsF hpf,hfit,fun p vs H1 s2 hp hvs=>?_⟩
  have s12:=s1.trans s2
  have hd1:H1 d=some (.dT []):=s2 _ _ G1
  have hvl:vs.length=(I9 ps).length:=AF hvs
  refine⟨p,rfl,⟨_,SqT.of hp⟩,a0o (K:=K) (a:=p) (xs:=vs) (fun i σ H2=>∃(kvs:List (List Key×V))(v2 v3 v4:Option V),σ=[some (.ref a),some (.ref d),v2,v3,v4]/\G8 H H2/\H2 p=some (.tup vs)/\R1 H1 H2/\H2 d=some (.dT kvs)/\Paired b5j kvs (Y9 ((I9 ps).take i)))
   ⟨[],none,none,none,rfl,s12,hp,R1.refl H1,hd1,by rw[List.take_zero];exact .nil⟩ (fun i σ H2 _⟨_,_,_,_,_,_,h,_⟩=>SqT.of h) ?_ ?_⟩
  ·rintro i y σ H2 hy ⟨kvs,v2,v3,v4,rfl,s3,hp2,T2,hd2,hk⟩
   obtain⟨⟨n,j,rw⟩,hx,t,r,ey,ht,hra⟩:=Paired.get? hvs hy
   subst ey
   have hra2:=hra.mono T2
   have htk:Y9 ((I9 ps).take (i+1))=Y9 ((I9 ps).take i)++Y9 [(n,j,rw)]:=by
    rw[J7 hx,a7m]
   have hkl:kvs.length<=960:=by
    rw[AF hk]
    have h2:=b4l ((I9 ps).take i)
    rw[BD]at h2
    omega
   refine⟨t,_,rfl,SqT.of (T2 _ _ ht),rfl,_,_,rfl,_,_,rfl,_,_,rfl,rfl,?_⟩
   rcases b3x hra2 with⟨o,g,ho,hrt⟩ | ⟨hkd,ho⟩
   ·refine⟨_,rfl,r,_,_,_,rfl,rfl,SqT.of hrt,rfl,rfl,_,rfl,a0t ?_⟩
    refine⟨_,rfl,r,_,_,_,rfl,rfl,SqT.of hrt,rfl,_,rfl,_,rfl,_,rfl,r,_,_,_,rfl,rfl,SqT.of hrt,rfl,F2,fun e ge=>?_⟩
    have s6:G8 H2 (upd H2 e (.tup [.str n,.str g])):=(G8.refl H2).new ge
    have hd6:=s6 _ _ hd2
    have hg6:upd H2 e (.tup [.str n,.str g]) e=some (.tup ((W1 (n,g)).map kV)):=G1
    refine⟨d,_,rfl,a1L.t (k:=W1 (n,g)) hd6 hg6 (szK (by omega)),?_⟩
    have h3:Y9 [(n,j,rw)]=[((n,g),o)]:=by simp[Y9,ho]
    have hnew:W1 (n,g)∉kvs.map (·.1):=a7f (fun _ _ h=>h.1) hk (fun z=>by
     have h1:=a5E hnet.gk (b0B (I9 ps) (i+1))
     rw[htk,h3,List.map_append]at h1
     exact(AO.mp h1).2.2 _ z _ (AD.mpr rfl) rfl)
    rw[a2h hnew]
    have T6:=s6.tups.trans (R1.dT (kvs':=kvs++[(W1 (n,g),.str o)]) hd6)
    refine⟨kvs++[(W1 (n,g),.str o)],_,_,_,rfl,(s3.trans s6).put gd,T6 _ _ hp2,T2.trans T6,G1,?_⟩
    rw[htk,h3]
    exact Paired.snoc hk ⟨rfl,rfl⟩
   ·obtain⟨x1,rest,hrt⟩:=hra2.kind
    have z0:atI (V.str (R8 rw)::x1::rest) 0=some (.str (R8 rw)):=W9 (j:=0) rfl
    refine⟨_,rfl,r,_,_,_,rfl,rfl,SqT.of hrt,z0,rfl,_,rfl,Z4 hkd ?_⟩
    have h3:Y9 [(n,j,rw)]=[]:=by simp[Y9,ho]
    exact⟨kvs,_,_,_,rfl,s3,hp2,T2,hd2,by rw[htk,h3,List.append_nil];exact hk⟩
  ·rintro σ H2 ⟨kvs,v2,v3,v4,rfl,s3,hp2,T2,hd2,hk⟩
   rw[hvl,AY]at hk
   exact⟨_,rfl,q d kvs H2 s3 hd2 hk⟩
noncomputable def llG (G:List (Kk×Str)) (bs:List (Kk×Kk)):List (Kk×Kk):=bs.map fun x=>(x.1,(x.2.1,a5O G x.2))
theorem b3E(G:List (Kk×Str))(a b:List (Kk×Kk)):llG G (a++b)=llG G a++llG G b:=by unfold llG;rw[List.map_append]
theorem b2a(G:List (Kk×Str))(bs:List (Kk×Kk)):(llG G bs).map (·.1)=bs.map (·.1):=by unfold llG;rw[List.map_map];rfl
noncomputable def a4x (n m:Str) (prs:List (Str×Str)):List (Kk×Kk):=prs.map fun q=>((n,q.2),(m,q.1))
theorem b0q(n:Str)(j:Nat)(m:Str)(prs:List (Str×Str)):Z2 [(n,j,.bring m prs)]=a4x n m prs:=by
 unfold Z2 a4x E2
 simp
noncomputable def b3S:Sp:=fun vs H Q _=>∃(a:Addr)(ps:List Pt),vs=[.ref a]/\O9 H a ps/\M7 ps/\D7 (I9 ps)/\∀(d:Addr)(kvs:List (List Key×V))(H':Hp),G8 H H'->H d=none->H' d=some (.dT kvs)->Paired (a6W H') kvs (E7 (I9 ps))->Q (.ref d) H'
theorem b2E(T:Txt K mg):L2.Cl P w K mg base 3 "links" ["parts"] b3S:=by
 have C_placed_rows:=a3K (P:=P) (w:=w) (base:=base) T
 have C_given_owns:=a5R (P:=P) (w:=w) (base:=base) T
 refine Cl.of T.d_links a0u (fun vs H Q E h=>?_) (fun _ _ _ _ _ _ us hl=>by obtain⟨a,rfl⟩:=a5N hl;rfl) (fun fa cdv A outer s H vs Q E hr h=>?_)
 ·obtain⟨a,ps,rfl,_⟩:=h
  rfl
 ·obtain⟨a,ps,rfl,hpf,hfit,hnet,q⟩:=h
  have hu:=B5 hr
  have hpl:=hnet.len
  refine⟨_,(G7 (J3 (i:=1) a0u.nd rfl (Or.inl rfl) (W4 C_given_owns hr (by rfl) (G0 (pv 0) G6)))
   (G7 (J3 (i:=2) a0u.nd rfl (Or.inl rfl) a2s)
   (G7 (Z7 AQ rfl (a0d (W4 C_placed_rows hr (by rfl) (G0 (pv 0) G6))) (D8 rfl (J8 (J5 (i:=3) a0u.nd rfl (Or.inl rfl)) (J8 (J5 (i:=4) a0u.nd rfl (Or.inl rfl)) (J8 (J5 (i:=5) a0u.nd rfl (Or.inl rfl)) Z9))))
    (G9 (Y8 (R0 F3 (J2 U0 (pv 5) G2 (fun _ _=>rfl)) U5 (U4 _))
     (G9 (Z7 AQ rfl (a0d (J2 U0 (pv 5) G2 (fun _ _=>rfl))) (D8 rfl (J8 (J5 (i:=6) a0u.nd rfl (Or.inl rfl)) (J8 (J5 (i:=7) a0u.nd rfl (Or.inl rfl)) Z9)))
      (G9 (M0 hu (pv 2) (U6 (G0 (pv 3) (G0 (pv 7) G6))) (U6 (G0 (J2 U0 (pv 5) G2 (fun _ _=>rfl)) (G0 (E5 hu (pv 1) (U6 (G0 (J2 U0 (pv 5) G2 (fun _ _=>rfl)) (G0 (pv 6) G6))) (fun _ _=>rfl)) G6))) rfl)))) U9)))
   (G9 (R5 (pv 2)))))),?_⟩
  refine⟨_,rfl,a,ps,rfl,hpf,hfit,hnet,fun ow gkv H1 s1 how hg=>?_⟩
  intro d gd
  have s2:G8 H1 (upd H1 d (.dT [])):=(G8.refl H1).new gd
  refine⟨_,rfl,a,ps,rfl,(s1.trans s2).partsF hpf,hfit,fun p vs H3 s3 hp hvs=>?_⟩
  have s03:=(s1.trans s2).trans s3
  have gdH:H d=none:=s1.free gd
  have hd3:H3 d=some (.dT []):=s3 _ _ G1
  have how3:H3 ow=some (.dT gkv):=s3 _ _ (s2 _ _ how)
  have hod:ow≠d:=fun z=>by rw[z,gd]at how;cases how
  have hvl:vs.length=(I9 ps).length:=AF hvs
  have hG:=hnet.gk
  refine⟨p,rfl,⟨_,SqT.of hp⟩,a0o (K:=K) (a:=p) (xs:=vs) (fun i σ H2=>∃(kvs:List (List Key×V))(v3 v4 v5 v6 v7:Option V),σ=[some (.ref a),some (.ref ow),some (.ref d),v3,v4,v5,v6,v7]/\G8 H H2/\H2 p=some (.tup vs)/\R1 H3 H2/\H2 ow=some (.dT gkv)/\H2 d=some (.dT kvs)/\Paired (a6W H2) kvs (llG (Y9 (I9 ps)) (Z2 ((I9 ps).take i))))
   ⟨[],none,none,none,none,none,rfl,s03,hp,R1.refl H3,how3,hd3,by rw[List.take_zero];exact .nil⟩ (fun i σ H2 _⟨_,_,_,_,_,_,_,_,h,_⟩=>SqT.of h) ?_ ?_⟩
  ·rintro i y σ H2 hy ⟨kvs,v3,v4,v5,v6,v7,rfl,s4,hp2,T2,how2,hd2,hk⟩
   obtain⟨⟨n,jj,rw⟩,hx,t,r,ey,ht,hra⟩:=Paired.get? hvs hy
   subst ey
   have hra2:=hra.mono T2
   have hxm:=AG hx
   have htk:Z2 ((I9 ps).take (i+1))=Z2 ((I9 ps).take i)++Z2 [(n,jj,rw)]:=by
    rw[J7 hx,b0s]
   have hbl:(Z2 ((I9 ps).take i)).length<=5760:=by
    have h1:=a4I (pls:=(I9 ps).take i) fun x hx=>hnet.brs x (List.mem_of_mem_take hx)
    rw[BD]at h1
    omega
   refine⟨t,_,rfl,SqT.of (T2 _ _ ht),rfl,_,_,rfl,_,_,rfl,_,_,rfl,rfl,?_⟩
   rcases b1z hra2 with⟨m,prs,t',e,hrt,⟨vs',ht',hprs⟩,hp6⟩ | ⟨hkd,ho⟩
   ·subst e
    have hvl':vs'.length=prs.length:=AF hprs
    refine⟨_,rfl,r,_,_,_,rfl,rfl,SqT.of hrt,rfl,rfl,_,rfl,a0t ?_⟩
    have hnd:((Z2 ((I9 ps).take i)).map (·.1)++(a4x n m prs).map (·.1)).Nodup:=by
     have h1:=hnet.keys
     rw[b1m (I9 ps) (i+1),htk,b0q,List.map_append,List.map_append,<-List.append_assoc]at h1
     have h2:=(AO.mp h1).1
     exact(AO.mp h2).2.1
    refine⟨_,rfl,r,_,_,_,rfl,rfl,SqT.of hrt,rfl,t',rfl,⟨_,SqT.of ht'⟩,a0o (K:=K) (a:=t') (xs:=vs') (fun j σ H4=>∃(kvs:List (List Key×V))(v6 v7:Option V),σ=[some (.ref a),some (.ref ow),some (.ref d),some (.str n),some (.int (jj:Int)),some (.ref r),v6,v7]/\G8 H H4/\R1 H2 H4/\H4 ow=some (.dT gkv)/\H4 d=some (.dT kvs)/\Paired (a6W H4) kvs (llG (Y9 (I9 ps)) (Z2 ((I9 ps).take i)++a4x n m (prs.take j))))
     ⟨kvs,_,_,rfl,s4,R1.refl H2,how2,hd2,by rw[List.take_zero];show Paired _ kvs (llG _ (Z2 ((I9 ps).take i)++[]));rw[List.append_nil];exact hk⟩ (fun j σ H4 _⟨_,_,_,_,_,TT,_⟩=>SqT.of (TT _ _ ht')) ?_ ?_⟩
    ·rintro j y σ H4 hy4 ⟨kv4,w6,w7,rfl,s5,T4,how4,hd4,hk4⟩
     obtain⟨qq,hq,c,ec,hc,_,_⟩:=Paired.get? hprs hy4
     subst ec
     have hj:j < prs.length:=(List.getElem?_eq_some_iff.mp hq).1
     have hrt4:=T4 _ _ hrt
     have htk4:a4x n m (prs.take (j+1))=a4x n m (prs.take j)++[((n,qq.2),(m,qq.1))]:=by
      rw[J7 hq]
      unfold a4x
      rw[List.map_append]
      rfl
     have hkl:kv4.length<=6000:=by
      rw[AF hk4]
      unfold llG
      rw[List.length_map,List.length_append]
      have:(a4x n m (prs.take j)).length=j:=by unfold a4x;rw[List.length_map,BD];omega
      omega
     have hxb:((n,qq.2),(m,qq.1))∈Z2 (I9 ps):=by
      unfold Z2
      refine BL.mpr ⟨_,hxm,?_⟩
      exact AT.mpr ⟨(m,qq),AT.mpr ⟨qq,AG hq,rfl⟩,rfl⟩
     obtain⟨o',ho'⟩:=hnet.gv _ hxb
     have hgg:a5O (Y9 (I9 ps)) (m,qq.1)=o':=a4G hG ho'
     obtain⟨kv',⟨_,hv1⟩,hv2⟩:=a4Y (F:=b5j) (fun _ _ h=>h.1) hg hG ho'
     refine⟨c,_,rfl,SqT.of (T4 _ _ hc),rfl,_,_,rfl,_,_,rfl,rfl,?_⟩
     refine⟨_,rfl,r,_,_,_,rfl,rfl,SqT.of hrt4,rfl,_,rfl,_,rfl,r,_,_,_,rfl,rfl,SqT.of hrt4,rfl,_,rfl,F2,fun e ge=>?_⟩
     have s6:G8 H4 (upd H4 e (.tup [.str m,.str qq.1])):=(G8.refl H4).new ge
     have hget:D3 (upd H4 e (.tup [.str m,.str qq.1])) ow (.ref e) (some (.str o')):=by
      have h1:=D3.t (k:=W1 (m,qq.1)) (s6 _ _ how4) (show upd H4 e (.tup [.str m,.str qq.1]) e=some (.tup ((W1 (m,qq.1)).map kV))from G1)
      rw[hv2,hv1]at h1
      exact h1
     refine⟨ow,_,rfl,hget,F2,fun g gg=>?_⟩
     have s7:=s6.new (o:= .tup [.str m,.str o']) gg
     refine⟨_,rfl,_,rfl,_,rfl,F2,fun b gb=>?_⟩
     have s8:=s7.new (o:= .tup [.str n,.str qq.2]) gb
     have hd8:=s8 _ _ hd4
     have hb8:upd (upd (upd H4 e (.tup [.str m,.str qq.1])) g (.tup [.str m,.str o'])) b (.tup [.str n,.str qq.2]) b=some (.tup ((W1 (n,qq.2)).map kV)):=G1
     refine⟨d,_,rfl,a1L.t (k:=W1 (n,qq.2)) hd8 hb8 (szK (by omega)),?_⟩
     have hnew:W1 (n,qq.2)∉kv4.map (·.1):=a7f (F:=a6W H4) (fun _ _ h=>h.1) hk4 (fun z=>by
      rw[b2a,List.map_append]at z
      have hsub:((Z2 ((I9 ps).take i)).map (·.1)++(a4x n m (prs.take (j+1))).map (·.1)).Sublist ((Z2 ((I9 ps).take i)).map (·.1)++(a4x n m prs).map (·.1)):=by
       refine List.Sublist.append_left ?_ _
       unfold a4x
       exact((List.take_sublist _ _).map _).map _
      have h1:=hsub.nodup hnd
      rw[htk4,List.map_append,<-List.append_assoc]at h1
      exact(AO.mp h1).2.2 _ z _ (AD.mpr rfl) rfl)
     rw[a2h hnew]
     have TD:=R1.dT (kvs':=kv4++[(W1 (n,qq.2),.ref g)]) hd8
     have T8:=s8.tups.trans TD
     refine⟨kv4++[(W1 (n,qq.2),.ref g)],_,_,rfl,(s5.trans s8).put gdH,T4.trans T8,by rw[I0 hod];exact s8 _ _ how4,G1,?_⟩
     rw[htk4,<-List.append_assoc,b3E]
     refine Paired.snoc (Paired.mapP hk4 fun _ _ z=>z.mono T8) ⟨rfl,g,rfl,?_⟩
     show _=some (HO.tup [V.str m,V.str (a5O (Y9 (I9 ps)) (m,qq.1))])
     rw[hgg]
     exact TD _ _ (U3 G1 gb)
    ·rintro σ H4 ⟨kv4,w6,w7,rfl,s5,T4,how4,hd4,hk4⟩
     rw[hvl',AY]at hk4
     refine⟨kv4,_,_,_,_,_,rfl,s5,T4 _ _ hp2,T2.trans T4,how4,hd4,?_⟩
     rw[htk,b0q]
     exact hk4
   ·obtain⟨x1,rest,hrt⟩:=hra2.kind
    have z0:atI (V.str (R8 rw)::x1::rest) 0=some (.str (R8 rw)):=W9 (j:=0) rfl
    refine⟨_,rfl,r,_,_,_,rfl,rfl,SqT.of hrt,z0,rfl,_,rfl,Z4 hkd ?_⟩
    have h3:Z2 [(n,jj,rw)]=[]:=by unfold Z2;simp[ho]
    exact⟨kvs,_,_,_,_,_,rfl,s4,hp2,T2,how2,hd2,by rw[htk,h3,List.append_nil];exact hk⟩
  ·rintro σ H2 ⟨kvs,v3,v4,v5,v6,v7,rfl,s4,hp2,T2,how2,hd2,hk⟩
   rw[hvl,AY]at hk
   exact⟨_,rfl,q d kvs H2 s4 gdH hd2 hk⟩
structure FI(mls:List (Kk×(Str×Nat)))(ls:List (Kk×Kk))(H:Hp)(kvs:List (List Key×V)):Prop where
 nd:(kvs.map (·.1)).Nodup
 sub:∀k∈kvs.map (·.1),k∈(mls.map (·.1)++ls.map (·.1)).map W1
 val:∀x v,Y7 kvs (W1 x)=some v->∃t p,v= .ref t/\H t=some (.tup [.str p.1,.int ((p.2:Nat):Int)])/\Mk mls ls x p
 has:∀x∈mls.map (·.1),(Y7 kvs (W1 x)).isSome=true
theorem b1q{κ:Type}[DecidableEq κ]{kvs:List (κ×V)}{k:κ}{v:V}(h:(kvs.map (·.1)).Nodup):((O0 kvs k v).map (·.1)).Nodup/\∀x∈(O0 kvs k v).map (·.1),x∈kvs.map (·.1)\/x=k:=by
 by_cases hk:k∈kvs.map (·.1)
 ·have e:(O0 kvs k v).map (·.1)=kvs.map (·.1):=by
   unfold O0
   rw[if_pos]
   ·rw[List.map_map]
    refine List.map_congr_left fun x _=>?_
    show(if x.1=k then(x.1,v)else x).1=x.1
    split<;>rfl
   ·obtain⟨p,hp,e⟩:=AT.mp hk
    exact List.any_eq_true.mpr ⟨p,hp,decide_eq_true e⟩
  rw[e]
  exact⟨h,fun x hx=> .inl hx⟩
 ·rw[a2h hk,List.map_append]
  refine⟨AO.mpr ⟨h,by simp,fun a ha b hb z=>hk (by have e:b=k:=AD.mp hb;rw[<-e,<-z];exact ha)⟩,fun x hx=>?_⟩
  rcases AL.mp hx with z | z
  ·exact .inl z
  ·exact .inr (AD.mp z)
theorem FI.len{mls:List (Kk×(Str×Nat))}{ls:List (Kk×Kk)}{H:Hp}{kvs:List (List Key×V)}(h:FI mls ls H kvs):kvs.length<=mls.length+ls.length:=by
 have h1:=F5 _ _ h.nd h.sub
 rw[List.length_map,List.length_map,List.length_append,List.length_map,List.length_map]at h1
 exact h1
theorem FI.mono{mls:List (Kk×(Str×Nat))}{ls:List (Kk×Kk)}{H H':Hp}{kvs:List (List Key×V)}(h:FI mls ls H kvs)(s:R1 H H'):FI mls ls H' kvs:=⟨h.nd,h.sub,fun x v e=>by
 obtain⟨t,p,e1,e2,e3⟩:=h.val x v e
 exact⟨t,p,e1,s _ _ e2,e3⟩,h.has⟩
theorem FI.put{mls:List (Kk×(Str×Nat))}{ls:List (Kk×Kk)}{H:Hp}{kvs:List (List Key×V)}(h:FI mls ls H kvs){x:Kk}{t:Addr}{p:Str×Nat}(hx:x∈mls.map (·.1)++ls.map (·.1))(ht:H t=some (.tup [.str p.1,.int ((p.2:Nat):Int)]))(hm:Mk mls ls x p):FI mls ls H (O0 kvs (W1 x) (.ref t)):=by
 obtain⟨k1,k2⟩:=b1q (v:=V.ref t) (k:=W1 x) h.nd
 refine⟨k1,fun k hk=>?_,fun y v e=>?_,fun y hy=>?_⟩
 ·rcases k2 k hk with z | z
  ·exact h.sub k z
  ·rw[z];exact AN hx
 ·rw[O8]at e
  by_cases z:W1 y=W1 x
  ·rw[if_pos z]at e
   rw[a0J z]
   exact⟨t,p,(Option.some.inj e).symm,ht,hm⟩
  ·rw[if_neg z]at e
   exact h.val y v e
 ·rw[O8]
  by_cases z:W1 y=W1 x
  ·rw[if_pos z];rfl
  ·rw[if_neg z];exact h.has y hy
noncomputable def b1Q (H:Hp) (v:V) (k:Str×Str):Prop:=∃b,v= .ref b/\H b=some (.tup [.str k.1,.str k.2])
theorem b1Q.mono{H H':Hp}(s:R1 H H'){v:V}{k:Kk}(h:b1Q H v k):b1Q H' v k:=by
 obtain⟨b,e,h⟩:=h
 exact⟨b,e,s _ _ h⟩
noncomputable def muM (r:Kk->Nat) (i:Nat) (σ:L2.St) (H:Hp):Nat:=match σ[i]? with
 | some (some (V.ref b))=>match H b with
  | some (HO.tup [V.str n,V.str o])=>r (n,o)
  | _=>0
 | _=>0
noncomputable def b3m:Sp:=fun vs H Q _=>∃(a:Addr)(ps:List Pt),vs=[.ref a]/\O9 H a ps/\M7 ps/\D7 (I9 ps)/\∀(d:Addr)(kvs:List (List Key×V))(H':Hp),G8 H H'->H d=none->H' d=some (.dT kvs)->FI (U7 (I9 ps)) (E7 (I9 ps)) H' kvs->(∀x∈(E7 (I9 ps)).map (·.1),(Y7 kvs (W1 x)).isSome=true)->Q (.ref d) H'
theorem R1.frz{H:Hp}{l:Addr}{o:Obj}{u:HO}{kvs:List (List Key×V)}(h:H l=some (.dT kvs)):R1 H (upd H l (.frz o u)):=fun b zs q=>by
 rw[I0 (a7E q h (by intro z;cases z))]
 exact q
theorem b7a{pls:List Pl}{H:Hp}{kvs:List (List Key×V)}(hnet:D7 pls)(h:Paired (a4N H) kvs (U7 pls)):FI (U7 pls) (E7 pls) H kvs:=by
 have hk:=a6R (F:=a4N H) (fun _ _ h=>h.1) h
 refine⟨?_,fun k hm=>?_,fun x v e=>?_,fun x hx=>?_⟩
 ·rw[hk,BI,List.pairwise_map]
  have:=hnet.mkNodup
  rw[BI]at this
  exact this.imp fun hne z=>hne (a0J z)
 ·rw[hk]at hm
  rw[List.map_append]
  exact BF _ hm
 ·by_cases hx:x∈(U7 pls).map (·.1)
  ·obtain⟨y,hy,ey⟩:=AT.mp hx
   obtain⟨kv,⟨_,t,e1,e2⟩,e3⟩:=a4Y (F:=a4N H) (fun _ _ h=>h.1) h hnet.mkNodup hy
   rw[ey,e]at e3
   refine⟨t,y.2,(Option.some.inj e3).trans e1,e2,.base ?_⟩
   rw[<-ey]
   exact hy
  ·rw[a7N (F:=a4N H) (fun _ _ h=>h.1) h hx]at e
   cases e
 ·obtain⟨y,hy,ey⟩:=AT.mp hx
  obtain⟨kv,_,e3⟩:=a4Y (F:=a4N H) (fun _ _ h=>h.1) h hnet.mkNodup hy
  rw[<-ey,e3]
  rfl
theorem b1c(T:Txt K mg):L2.Cl P w K mg base 4 "makers" ["parts"] b3m:=by
 have C_made:=b0m (P:=P) (w:=w) (base:=base) T
 have C_links:=b2E (P:=P) (w:=w) (base:=base) T
 refine Cl.of T.d_makers M8 (fun vs H Q E h=>?_) (fun _ _ _ _ _ _ us hl=>by obtain⟨a,rfl⟩:=a5N hl;rfl) (fun fa cdv A outer s H vs Q E hr h=>?_)
 ·obtain⟨a,ps,rfl,_⟩:=h
  rfl
 ·obtain⟨a,ps,rfl,hpf,hfit,hnet,q⟩:=h
  have hu:=B5 hr
  have hpl:=hnet.len
  obtain⟨r,hrk⟩:=hnet.rk
  have hml:=a7p (I9 ps)
  have hll:(E7 (I9 ps)).length<=5760:=by
   have h1:=a4I hnet.brs
   unfold E7
   rw[List.length_map]
   omega
  have htgt:=fun{x:Kk×Kk}(hx:x∈E7 (I9 ps))=>hnet.tgt hx
  have hlkn:=hnet.lkNodup
  refine⟨_,(G7 (J3 (i:=1) M8.nd rfl (Or.inl rfl) (W4 C_made hr (by rfl) (G0 (pv 0) G6)))
   (G7 (J3 (i:=2) M8.nd rfl (Or.inl rfl) (W4 C_links hr (by rfl) (G0 (pv 0) G6)))
   (G7 (Z7 AQ rfl (b3c (pv 2)) (J5 (i:=3) M8.nd rfl (Or.inl rfl))
    (G7 (J3 (i:=4) M8.nd rfl (Or.inl rfl) (Y2 G6))
    (G7 (J3 (i:=5) M8.nd rfl (Or.inl rfl) (pv 3))
    (G7 (a2b AQ (a2U (a3P hu (pv 5) (pv 1)))
     (G7 (Y5 (B4 PySem.F.plainAttrs_list PySem.F.slot_list_append PySem.F.type_list_append Z8 (pv 4) (G0 (pv 5) G6)))
     (G9 (J3 (i:=5) M8.nd rfl (Or.inl rfl) (E5 hu (pv 2) (pv 5) (fun _ _=>rfl))))))
    (G9 (Z7 AQ rfl (a1a (pv 4)) (J5 (i:=6) M8.nd rfl (Or.inl rfl))
     (G9 (M0 hu (pv 1) (pv 6) (E5 hu (pv 1) (pv 5) (fun _ _=>rfl)) rfl))))))))
   (G9 (R5 (pv 1)))))),?_⟩
  refine⟨_,rfl,a,ps,rfl,hpf,hfit,hnet,fun f mkv H1 s1 gf hf1 hmk=>?_⟩
  refine⟨_,rfl,a,ps,rfl,s1.partsF hpf,hfit,hnet,fun on lkv H2 s2 gon hon hlk=>?_⟩
  have hfo:f≠on:=fun z=>by rw[z,gon]at hf1;cases hf1
  have gonH:H on=none:=s1.free gon
  have s02:=s1.trans s2
  have fi2:FI (U7 (I9 ps)) (E7 (I9 ps)) H2 mkv:=(b7a hnet hmk).mono s2.tups
  generalize U7 (I9 ps)=mls at*
  generalize E7 (I9 ps)=ls at*
  have hlkl:lkv.length=ls.length:=AF hlk
  refine⟨_,rfl,on,lkv,rfl,hon,fun ob vs hvs=>?_⟩
  have hvl:vs.length=lkv.length:=AF hvs
  have T3:R1 H2 (upd H2 on (.frz ob (.dT lkv))):=R1.frz hon
  have s3:G8 H (upd H2 on (.frz ob (.dT lkv))):=s02.put gonH
  have hf3:upd H2 on (.frz ob (.dT lkv)) f=some (.dT mkv):=by rw[I0 hfo];exact s2 _ _ hf1
  have hon3:upd H2 on (.frz ob (.dT lkv)) on=some (.frz ob (.dT lkv)):=G1
  have fi3:=fi2.mono T3
  have hlk3:Paired (a6W (upd H2 on (.frz ob (.dT lkv)))) lkv ls:=Paired.mapP hlk fun _ _ z=>z.mono T3
  have hvs3:Paired (a4n (upd H2 on (.frz ob (.dT lkv)))) vs lkv:=Paired.mapP hvs fun _ _⟨b,e,hb⟩=>⟨b,e,T3 _ _ hb⟩
  generalize upd H2 on (.frz ob (.dT lkv))=H3 at T3 s3 hf3 hon3 fi3 hlk3 hvs3⊢
  refine b3v (d:=on) (o:=ob) (u:= .dT lkv) (ks:=vs) (fun i σ H4=>∃(kvs:List (List Key×V))(v3 v4 v5 v6:Option V),σ=[some (.ref a),some (.ref f),some (.ref on),v3,v4,v5,v6]/\G8 H H4/\H4 on=some (.frz ob (.dT lkv))/\R1 H3 H4/\H4 f=some (.dT kvs)/\FI mls ls H4 kvs/\∀j x,j < i->ls[j]?=some x->(Y7 kvs (W1 x.1)).isSome=true)
   ⟨mkv,none,none,none,none,rfl,s3,hon3,R1.refl H3,hf3,fi3,fun j x hj=>by omega⟩ (fun i σ H4 _⟨_,_,_,_,_,_,_,h,_⟩=>h) ?_ ?_
  ·rintro i y σ H4 hy ⟨kvs,v3,v4,v5,v6,rfl,s4,hon4,T4,hf4,fi4,hdone⟩
   obtain⟨kv0,hkv0,b0',eb0,hb0⟩:=Paired.get? hvs3 hy
   subst eb0
   obtain⟨x0,hx0,hx0k,_⟩:=Paired.get? hlk3 hkv0
   have hx0m:x0∈ls:=AG hx0
   have hb04:H4 b0'=some (.tup [.str x0.1.1,.str x0.1.2]):=by
    have:=T4 _ _ hb0
    rw[hx0k]at this
    exact this
   refine⟨a0W,fun wy gwy=>?_⟩
   have s5:G8 H4 (upd H4 wy (.lst [])):=(G8.refl H4).new gwy
   have gwyH:H wy=none:=s4.free gwy
   have hfw:f≠wy:=fun z=>by rw[z,gwy]at hf4;cases hf4
   have how:on≠wy:=fun z=>by rw[z,gwy]at hon4;cases hon4
   refine⟨_,rfl,?_⟩
   apply a4K
   ·with_reducible_and_instances rfl
   refine a1V (fun σ H5=>∃(x:Kk)(b:Addr)(xs:List Kk)(ws:List V)(v3 v6:Option V),σ=[some (.ref a),some (.ref f),some (.ref on),v3,some (.ref wy),some (.ref b),v6]/\G8 H H5/\H5 on=some (.frz ob (.dT lkv))/\R1 H3 H5/\H5 f=some (.dT kvs)/\FI mls ls H5 kvs/\H5 b=some (.tup [.str x.1,.str x.2])/\(x∈mls.map (·.1)\/x∈ls.map (·.1))/\H5 wy=some (.lst ws)/\Paired (b1Q H5) ws xs/\(∀y∈xs,y∈ls.map (·.1)/\r x < r y/\∀p,Mk mls ls x p->Mk mls ls y p)/\xs.Nodup/\(x=x0.1\/x0.1∈xs)) (fun σ H5=>muM r 5 σ H5)
    ⟨x0.1,b0',[],[],_,_,rfl,s4.trans s5,s5 _ _ hon4,T4.trans s5.tups,s5 _ _ hf4,fi4.mono s5.tups,s5 _ _ hb04,.inr (AN (f:=(·.1)) hx0m),G1,.nil,fun y hy=>by simp at hy,by simp,.inl rfl⟩ ?_ ?_
   ·rintro σ H5 ⟨x,b,xs,ws,w3,w6,rfl,s6,hon5,T5,hf5,fi5,hb5,hxk,hwy5,hws,hxs,hxn,hst⟩
    refine⟨_,rfl,_,rfl,f,_,rfl,D3.t (k:=W1 x) hf5 hb5,_,rfl,?_⟩
    cases e:Y7 kvs (W1 x)with
    | none=>
     refine a0b ?_
     have hxl:x∈ls.map (·.1):=by
      rcases hxk with z | z
      ·have:=fi5.has x z
       rw[e]at this
       cases this
      ·exact z
     obtain⟨yx,hyx,eyx⟩:=AT.mp hxl
     obtain⟨kvx,⟨_,t',e1,e2⟩,e3⟩:=a4Y (F:=a6W H3) (fun _ _ h=>h.1) hlk3 hlkn hyx
     rw[eyx]at e3
     have hyx':(x,yx.2)∈ls:=by rw[<-eyx];exact hyx
     have hlt:r yx.2 < r x:=hrk _ hyx'
     have hwl:ws.length<=6720:=by
      rw[AF hws]
      have h1:=F5 xs (ls.map (·.1)) hxn fun y hy=>(hxs y hy).1
      rw[List.length_map]at h1
      omega
     refine⟨_,rfl,.inl ⟨rfl,_,SqL.of hwy5⟩,_,rfl,wy,_,_,rfl,rfl,hwy5,szK (by omega),?_⟩
     have T6:R1 H5 (upd H5 wy (.lst (ws++[.ref b]))):=R1.lst hwy5
     have hon6:upd H5 wy (.lst (ws++[.ref b])) on=some (.frz ob (.dT lkv)):=by rw[I0 how];exact hon5
     have hb6:=T6 _ _ hb5
     have hget:D3 (upd H5 wy (.lst (ws++[.ref b]))) on (.ref b) (some (.ref t')):= .inr ⟨lkv,W1 x,b,.inr ⟨ob,hon6⟩,rfl,hb6,by rw[e3,e1]⟩
     refine⟨_,rfl,_,rfl,on,_,rfl,hget,?_⟩
     have ht6:=T6 _ _ (T5 _ _ e2)
     refine⟨⟨yx.2,t',xs++[x],ws++[.ref b],_,_,rfl,s6.put gwyH,hon6,T5.trans T6,by rw[I0 hfw];exact hf5,fi5.mono T6,ht6,htgt hyx,G1,Paired.snoc (Paired.mapP hws fun _ _ z=>z.mono T6) ⟨b,rfl,hb6⟩,fun y hy=>?_,?_,?_⟩,?_⟩
     ·rcases AL.mp hy with z | z
      ·obtain⟨h1,h2,h3⟩:=hxs y z
       exact⟨h1,by omega,fun p hp=>h3 p (.step hyx' hp)⟩
      ·rw[AD.mp z]
       exact⟨hxl,hlt,fun p hp=> .step hyx' hp⟩
     ·refine AO.mpr ⟨hxn,by simp,fun y hy z hz w=>?_⟩
      rw[AD.mp hz]at w
      have:=(hxs y hy).2.1
      rw[w]at this
      omega
     ·rcases hst with z | z
      ·rw[<-z];exact .inr (AR _ AM)
      ·exact .inr (BF _ z)
     ·show muM r 5 [some (V.ref a),some (.ref f),some (.ref on),w3,some (.ref wy),some (.ref t'),w6] _ < muM r 5 [some (V.ref a),some (.ref f),some (.ref on),w3,some (.ref wy),some (.ref b),w6] H5
      have m1:muM r 5 [some (V.ref a),some (.ref f),some (.ref on),w3,some (.ref wy),some (.ref t'),w6] (upd H5 wy (.lst (ws++[.ref b])))=r yx.2:=by
       unfold muM
       simp only[List.getElem?_cons_succ,List.getElem?_cons_zero]
       rw[ht6]
      have m2:muM r 5 [some (V.ref a),some (.ref f),some (.ref on),w3,some (.ref wy),some (.ref b),w6] H5=r x:=by
       unfold muM
       simp only[List.getElem?_cons_succ,List.getElem?_cons_zero]
       rw[hb5]
      rw[m1,m2]
      exact hlt
    | some v=>
     refine B6 ?_
     obtain⟨t,p,ev,ht,hmk'⟩:=fi5.val x v e
     subst ev
     refine⟨_,rfl,wy,rfl,⟨_,SqL.of hwy5⟩,a1W (K:=K) (a:=wy) (xs:=ws) (fun j σ H6=>∃(kv:List (List Key×V))(v6:Option V),σ=[some (.ref a),some (.ref f),some (.ref on),w3,some (.ref wy),some (.ref b),v6]/\G8 H H6/\H6 on=some (.frz ob (.dT lkv))/\R1 H5 H6/\H6 f=some (.dT kv)/\H6 wy=some (.lst ws)/\FI mls ls H6 kv/\Y7 kv (W1 x)=some (.ref t)/\(∀y,(Y7 kvs (W1 y)).isSome=true->(Y7 kv (W1 y)).isSome=true)/\∀y∈xs.take j,(Y7 kv (W1 y)).isSome=true)
      ⟨kvs,_,rfl,s6,hon5,R1.refl H5,hf5,hwy5,fi5,e,fun y hy=>hy,fun y hy=>by simp at hy⟩ (fun j σ H6 _⟨_,_,_,_,_,_,_,h,_⟩=>SqL.of h) ?_ ?_⟩
     ·rintro j y σ H6 hy6 ⟨kv,u6,rfl,s7,hon6,T6,hf6,hwy6,fi6,hvx,hup,htk⟩
      obtain⟨z,hz,bz,ez,hbz⟩:=Paired.get? hws hy6
      subst ez
      have hzm:=AG hz
      obtain⟨hz1,_,hz3⟩:=hxs z hzm
      have hkl:=fi6.len
      have hget:D3 H6 f (.ref b) (some (.ref t)):=by
       have h1:=D3.t (k:=W1 x) hf6 (T6 _ _ hb5)
       rw[hvx]at h1
       exact h1
      refine⟨_,rfl,_,rfl,f,_,rfl,hget,_,rfl,_,rfl,f,_,rfl,a1L.t (k:=W1 z) hf6 (T6 _ _ hbz) (szK (by omega)),?_⟩
      have T7:=R1.dT (kvs':=O0 kv (W1 z) (.ref t)) hf6
      refine⟨O0 kv (W1 z) (.ref t),_,rfl,s7.put gf,by rw[I0 hfo.symm];exact hon6,T6.trans T7,G1,by rw[I0 hfw.symm];exact hwy6,(fi6.put (AR _ hz1) (T6 _ _ ht) (hz3 p hmk')).mono T7,?_,fun y hy=>?_,fun y hy=>?_⟩
      ·rw[O8]
       split
       ·rfl
       ·exact hvx
      ·rw[O8]
       split
       ·rfl
       ·exact hup y hy
      ·rw[J7 hz]at hy
       rw[O8]
       rcases AL.mp hy with w | w
       ·split
        ·rfl
        ·exact htk y w
       ·rw[AD.mp w,if_pos rfl]
        rfl
     ·rintro σ H6 ⟨kv,u6,rfl,s7,hon6,T6,hf6,hwy6,fi6,hvx,hup,htk⟩
      rw[AF hws,AY]at htk
      refine⟨kv,_,_,_,_,rfl,s7,hon6,T5.trans T6,hf6,fi6,fun j y hj hy'=>?_⟩
      by_cases hji:j=i
      ·subst hji
       rw[hx0]at hy'
       cases hy'
       rcases hst with z | z
       ·rw[<-z,hvx];rfl
       ·exact htk _ z
      ·exact hup _ (hdone j y (by omega) hy')
   ·rintro σ H5 Q1 Q2 hQ ⟨v,e,v2,e2,a2,o,e7,hg,c,e8,hq⟩
    exact⟨v,e,v2,e2,a2,o,e7,hg,c,e8,hQ _ _ hq⟩
  ·rintro σ H4 ⟨kvs,v3,v4,v5,v6,rfl,s4,hon4,T4,hf4,fi4,hdone⟩
   refine⟨_,rfl,q f kvs H4 s4 gf hf4 fi4 fun x hx=>?_⟩
   obtain⟨y,hy,ey⟩:=AT.mp hx
   obtain⟨j,hj⟩:=AV hy
   have hjl:=(List.getElem?_eq_some_iff.mp hj).1
   rw[<-ey]
   exact hdone j y (by omega) hj
noncomputable def nt (j:Nat):Str:=Str.ofString (toString (j:Int))
theorem b6a{i j:Nat}(hi:i < 100000)(hj:j < 100000)(h:nt i=nt j):i=j:=by
 have b:∀n:Nat,n < 100000->((n:Int)) < 10 ^ 60:=fun n hn=>Int.lt_of_lt_of_le (show(n:Int) < 100000 by omega) (by decide)
 obtain⟨h1,_⟩:=a3B (n:=(i:Int)) (by omega) (b i hi)
 obtain⟨h2,_⟩:=a3B (n:=(j:Int)) (by omega) (b j hj)
 have h3:(Nat.toDigits 10 (i:Int).toNat).map Char.toNat=(Nat.toDigits 10 (j:Int).toNat).map Char.toNat:=by
  rw[<-h1,<-h2]
  exact congrArg (fun x:Str=>x.cps.toList) h
 have h4:Nat.toDigits 10 (i:Int).toNat=Nat.toDigits 10 (j:Int).toNat:=by
  refine List.map_inj_right (fun a b e=>?_) |>.mp h3
  exact Char.toNat_inj.mp e
 have h5:=congrArg (fun l=>Nat.ofDigitChars 10 l 0) h4
 simp only[Nat.ofDigitChars_ten_toDigits,Int.toNat_natCast]at h5
 exact h5
theorem b6n(j:Nat)(hj:j < 100000):1<=(nt j).length/\(nt j).length<=60:=by
 obtain⟨h1,h2⟩:=a3B (n:=(j:Int)) (by omega) (Int.lt_of_lt_of_le (show(j:Int) < 100000 by omega) (by decide))
 have e:(nt j).length=(Nat.toDigits 10 (j:Int).toNat).length:=by
  have:=congrArg List.length h1
  rw[List.length_map,Array.length_toList]at this
  exact this
 rw[e]
 refine⟨?_,h2⟩
 have:Nat.toDigits 10 (j:Int).toNat≠[]:=Nat.toDigits_ne_nil
 exact List.length_pos_iff.mpr this
noncomputable def muN (σ:L2.St):Nat:=match σ[2]? with
 | some (some (V.int n))=>(6000 - n).toNat
 | _=>0
noncomputable def a8M:Sp:=fun vs H Q _=>∃(own:Str)(d:Addr)(kvs:List (Key×V)),vs=[.str own,.ref d]/\H d=some (.dK kvs)/\kvs.length<=5000/\own.length<=100/\∀k:Nat,2<=k->k<=5010->Y7 kvs (Sum.inr (own++nt k))=none->(∀j,2<=j->j < k->(Y7 kvs (Sum.inr (own++nt j))).isSome=true)->Q (.str (own++nt k)) H
theorem few{own:Str}{kvs:List (Key×V)}{n:Nat}(hn:n<=6000)(h:∀j,2<=j->j < n->(Y7 kvs (Sum.inr (own++nt j))).isSome=true):n<=kvs.length+2:=by
 have h1:=F5 ((List.range (n - 2)).map fun i=>(Sum.inr (own++nt (i+2)):Key)) (kvs.map (·.1)) ?_ ?_
 ·rw[List.length_map,List.length_map,List.length_range]at h1
  omega
 ·rw[BI,List.pairwise_map]
  refine List.Pairwise.imp_of_mem (fun{i j}hi hj hne z=>hne ?_) List.nodup_range
  have h1:=List.mem_range.mp hi
  have h2:=List.mem_range.mp hj
  have:=b6a (by omega) (by omega) (a1R (Sum.inr.inj z))
  omega
 ·intro x hx
  obtain⟨i,hi,rfl⟩:=AT.mp hx
  have h2:=List.mem_range.mp hi
  have h3:=h (i+2) (by omega) (by omega)
  cases e:Y7 kvs (Sum.inr (own++nt (i+2)))with
  | none=>rw[e]at h3;cases h3
  | some v=>exact a9T e
theorem a7H(T:Txt K mg):L2.Cl P w K mg base 1 "numbered" ["own","used"] a8M:=by
 refine Cl.of T.d_numbered a2r (fun vs H Q E h=>?_) (fun _ _ _ _ _ _ us hl=>by obtain⟨a,b,rfl⟩:=a1P hl;rfl) (fun fa cdv A outer s H vs Q E hr h=>?_)
 ·obtain⟨own,d,kvs,rfl,_⟩:=h
  rfl
 ·obtain⟨own,d,kvs,rfl,hd,hkl,hol,q⟩:=h
  have hu:=B5 hr
  refine⟨_,(G7 (J3 (i:=2) a2r.nd rfl (Or.inl rfl) G2)
   (G7 (a2b AQ (a2U (b5m hu (J1 M1 (pv 0) (W3 a1F (by rfl) T.n_str boot_str (G0 (pv 2) G6))) (pv 1)))
    (G9 (b5S (i:=2) a2r.nd rfl (Or.inl rfl) G2 b5D)))
   (G9 (R5 (J1 M1 (pv 0) (W3 a1F (by rfl) T.n_str boot_str (G0 (pv 2) G6))))))),?_⟩
  have hlog:∀n:Nat,n<=6000->((n:Int)).natAbs.log2 < 1920:=fun n hn=>by
   have h1:((n:Int)).natAbs=n:=Int.natAbs_natCast n
   rw[h1]
   by_cases hz:n=0
   ·subst hz;decide
   ·have:n < 2 ^ 13:=by omega
    have:=(Nat.log2_lt hz).mpr this
    omega
  have hsz:∀n:Nat,n<=6000->own.length+(nt n).length<=sizeLine:=fun n hn=>by
   have:=(b6n n (by omega)).2
   exact Nat.le_of_lt (J6 (by omega))
  refine a1V (fun σ H2=>∃n:Nat,σ=[some (.str own),some (.ref d),some (.int (n:Int))]/\H2=H/\2<=n/\n<=5010/\∀j,2<=j->j < n->(Y7 kvs (Sum.inr (own++nt j))).isSome=true) (fun σ _=>muN σ) ⟨2,rfl,rfl,by omega,by omega,fun j h1 h2=>by omega⟩ ?_ ?_
  ·rintro σ H2 ⟨n,rfl,rfl,hn2,hn5,hall⟩
   refine⟨_,rfl,_,rfl,_,rfl,hlog n (by omega),_,_,rfl,rfl,hsz n (by omega),_,rfl,d,_,rfl,D3.k (k:=Sum.inr (own++nt n)) hd,_,rfl,?_⟩
   cases e:Y7 kvs (Sum.inr (own++nt n))with
   | none=>
    refine B6 ?_
    refine⟨_,rfl,_,rfl,_,rfl,hlog n (by omega),_,_,rfl,rfl,hsz n (by omega),?_⟩
    exact q n hn2 hn5 e hall
   | some v=>
    refine a0b ?_
    have hall':∀j,2<=j->j < n+1->(Y7 kvs (Sum.inr (own++nt j))).isSome=true:=fun j h1 h2=>by
     by_cases hj:j=n
     ·subst hj;rw[e];rfl
     ·exact hall j h1 (by omega)
    have hf:=few (n:=n+1) (by omega) hall'
    refine⟨_,rfl,_,_,rfl,rfl,?_⟩
    refine⟨⟨n+1,?_,rfl,by omega,by omega,hall'⟩,?_⟩
    ·show [some (V.str own),some (.ref d),some (.int ((n:Int)+1))]=_
     rw[show((n:Int)+1)=((n+1:Nat):Int)by omega]
    ·show muN [some (V.str own),some (.ref d),some (.int ((n:Int)+1))] < muN [some (V.str own),some (.ref d),some (.int (n:Int))]
     simp only[muN,List.getElem?_cons_succ,List.getElem?_cons_zero]
     omega
  ·rintro σ H2 Q1 Q2 hQ ⟨v,e,v2,e2,i,e3,hl,a,b,e4,e5,hl2,v3,e6,a2,o,e7,hg,c,e8,hq⟩
   exact⟨v,e,v2,e2,i,e3,hl,a,b,e4,e5,hl2,v3,e6,a2,o,e7,hg,c,e8,hQ _ _ hq⟩
noncomputable abbrev Tr:=Str×Str×Str
noncomputable def Y1 (ts:List Tr):List Str:=ts.map (·.2.2)
noncomputable def b1M (mdl:List Str) (ts:List Tr):Prop:=∀(i:Nat)(t:Tr),ts[i]?=some t->(t.2.1∉Y1 (ts.take i)->t.2.2=t.2.1)/\(t.2.1∈Y1 (ts.take i)->∃k,2<=k/\k<=5010/\t.2.2=t.2.1++nt k/\t.2.2∉Y1 (ts.take i)/\t.2.2∉mdl/\∀j,2<=j->j < k->(t.2.1++nt j∈Y1 (ts.take i)\/t.2.1++nt j∈mdl))
theorem b1M.snoc{mdl:List Str}{ts:List Tr}{t:Tr}(h:b1M mdl ts)(h1:t.2.1∉Y1 ts->t.2.2=t.2.1)(h2:t.2.1∈Y1 ts->∃k,2<=k/\k<=5010/\t.2.2=t.2.1++nt k/\t.2.2∉Y1 ts/\t.2.2∉mdl/\∀j,2<=j->j < k->(t.2.1++nt j∈Y1 ts\/t.2.1++nt j∈mdl)):b1M mdl (ts++[t]):=fun i t' e=>by
 by_cases hi:i < ts.length
 ·rw[List.getElem?_append_left hi]at e
  rw[List.take_append_of_le_length (Nat.le_of_lt hi)]
  exact h i t' e
 ·rw[List.getElem?_append_right (by omega)]at e
  have h0:i - ts.length=0:=by
   have:=(List.getElem?_eq_some_iff.mp e).1
   simp only[List.length_singleton]at this
   omega
  rw[h0]at e
  simp only[List.getElem?_cons_zero,Option.some.injEq]at e
  subst e
  have hi':i=ts.length:=by omega
  subst hi'
  rw[List.take_left']
  ·exact⟨h1,h2⟩
  ·rfl
theorem b5b{H:Hp}:∀{vs:List V}{kvs:List (List Key×V)}{ks:List (Str×Str)},Paired (a4n H) vs kvs->kvs.map (·.1)=ks.map W1->Paired (b1Q H) vs ks
 | _,_,[],.nil,_=> .nil
 | _,_,_::_,.nil,h=>by simp at h
 | _,_,[],.cons _ _,h=>by simp at h
 | _,_,k::ks,.cons (a:=v) (b:=kv) ⟨b,e,hb⟩ hr,h=>by
  simp only[List.map_cons,List.cons.injEq]at h
  refine .cons ⟨b,e,?_⟩ (b5b hr h.2)
  rw[hb,h.1]
  rfl
noncomputable def b1W (H:Hp) (v:V) (t:Tr):Prop:=∃c,v= .ref c/\H c=some (.tup [.str t.1,.str t.2.1,.str t.2.2])
theorem b1W.mono{H H':Hp}(s:R1 H H'){v:V}{t:Tr}(h:b1W H v t):b1W H' v t:=by
 obtain⟨c,e,h⟩:=h
 exact⟨c,e,s _ _ h⟩
theorem a0l(pls:List Pl):D6 pls=(U7 pls).map (·.1):=by
 unfold D6 U7
 rw[List.map_filterMap]
 congr 1
 funext x
 cases ownOf x.2.2<;>rfl
theorem b0h{H:Hp}:∀{kvs:List (List Key×V)}{l:List (Kk×(Str×Nat))},Paired (a4N H) kvs l->kvs.map (·.1)=(l.map (·.1)).map W1
 | _,_,.nil=>rfl
 | _,_,.cons h t=>by rw[List.map_cons,List.map_cons,List.map_cons,b0h t,h.1]
noncomputable def b6A:Sp:=fun vs H Q _=>∃(a:Addr)(ps:List Pt),vs=[.ref a]/\O9 H a ps/\M7 ps/\D7 (I9 ps)/\(∀k∈D6 (I9 ps),k.2.length<=100)/\∀(p:Addr)(vs:List V)(ts:List Tr)(H':Hp),G8 H H'->H' p=some (.tup vs)->Paired (b1W H') vs ts->ts.map (fun t=>(t.1,t.2.1))=D6 (I9 ps)->b1M ((D6 (I9 ps)).map (·.2)) ts->Q (.ref p) H'
theorem a5w(kvs:List (Key×V))(k:Key)(v:V):(O0 kvs k v).length<=kvs.length+1:=by
 unfold O0
 split
 ·rw[List.length_map];omega
 ·rw[List.length_append];simp
theorem b6q(T:Txt K mg):L2.Cl P w K mg base 3 "new_names" ["parts"] b6A:=by
 have C_made:=b0m (P:=P) (w:=w) (base:=base) T
 have C_numbered:=a7H (P:=P) (w:=w) (base:=base) T
 refine Cl.of T.d_new_names O3 (fun vs H Q E h=>?_) (fun _ _ _ _ _ _ us hl=>by obtain⟨a,rfl⟩:=a5N hl;rfl) (fun fa cdv A outer s H vs Q E hr h=>?_)
 ·obtain⟨a,ps,rfl,_⟩:=h
  rfl
 ·obtain⟨a,ps,rfl,hpf,hfit,hnet,hlen,q⟩:=h
  have hnd:(D6 (I9 ps)).Nodup:=by rw[a0l];exact hnet.mkNodup
  have hu:=B5 hr
  refine⟨_,(G7 (J3 (i:=1) O3.nd rfl (Or.inl rfl) (W3 (a8E rfl) (by rfl) T.n_list boot_list (G0 (W4 C_made hr (by rfl) (G0 (pv 0) G6)) G6)))
   (G7 (J3 (i:=2) O3.nd rfl (Or.inl rfl) a3k)
   (G7 (Z7 AQ rfl (a1a (pv 1)) (D8 rfl (J8 (J5 (i:=3) O3.nd rfl (Or.inl rfl)) (J8 (J5 (i:=4) O3.nd rfl (Or.inl rfl)) Z9)))
    (G9 (M0 hu (pv 2) (pv 4) a3s rfl)))
   (G7 (J3 (i:=5) O3.nd rfl (Or.inl rfl) (Y2 G6))
   (G7 (Z7 AQ rfl (a1a (pv 1)) (D8 rfl (J8 (J5 (i:=3) O3.nd rfl (Or.inl rfl)) (J8 (J5 (i:=4) O3.nd rfl (Or.inl rfl)) Z9)))
    (G7 (J3 (i:=6) O3.nd rfl (Or.inl rfl) (b2q (a4g (E5 hu (pv 2) (pv 4) (fun _ _=>rfl))) (W4 C_numbered hr (by rfl) (G0 (pv 4) (G0 (pv 2) G6))) (pv 4)))
    (G7 (M0 hu (pv 2) (pv 6) a3s rfl)
    (G9 (Y5 (B4 PySem.F.plainAttrs_list PySem.F.slot_list_append PySem.F.type_list_append Z8 (pv 5) (G0 (U6 (G0 (pv 3) (G0 (pv 4) (G0 (pv 6) G6)))) G6)))))))
   (G9 (R5 (W3 Z3 (by rfl) T.n_tuple boot_tuple (G0 (pv 5) G6))))))))),?_⟩
  refine⟨_,rfl,a,ps,rfl,hpf,hfit,hnet,fun d kvs H1 s1 _ hd hmv=>?_⟩
  have hk:kvs.map (·.1)=(D6 (I9 ps)).map W1:=by rw[a0l];exact b0h hmv
  refine⟨d,kvs,rfl,.inl hd,fun l vs gl hvs=>?_⟩
  have how:=b5b hvs hk
  have hks:(D6 (I9 ps)).length<=960:=by
   have h0:(D6 (I9 ps)).length<=(I9 ps).length:=List.length_filterMap_le _ _
   have h1:=a1v hfit.rows
   have:=hfit.hi
   omega
  generalize D6 (I9 ps)=ks at how hks hlen q hnd
  have hvl:vs.length=ks.length:=AF how
  have s2:G8 H1 (upd H1 l (.lst vs)):=(G8.refl H1).new gl
  have hl2:upd H1 l (.lst vs) l=some (.lst vs):=G1
  have how2:Paired (b1Q (upd H1 l (.lst vs))) vs ks:=Paired.mapP how fun _ _⟨b,e,hb⟩=>⟨b,e,s2 _ _ hb⟩
  have s02:=s1.trans s2
  generalize upd H1 l (.lst vs)=H2 at s2 hl2 how2 s02⊢
  intro u gu
  have s3:G8 H2 (upd H2 u (.dK [])):=(G8.refl H2).new gu
  refine⟨_,rfl,l,rfl,⟨_,SqL.of (s3 _ _ hl2)⟩,a1W (K:=K) (a:=l) (xs:=vs) (fun i σ H3=>∃(kv:List (Key×V))(v3 v4:Option V),σ=[some (.ref a),some (.ref l),some (.ref u),v3,v4,none,none]/\G8 H2 H3/\H3 u=some (.dK kv)/\kv.length<=i/\∀x,Y7 kv (Sum.inr x)=if x∈(ks.take i).map (·.2)then some (.bl false)else none)
   ⟨[],none,none,rfl,s3,G1,by simp,fun x=>by simp[b2Y]⟩ (fun i σ H3 _⟨_,_,_,_,s4,_⟩=>SqL.of (s4 _ _ hl2)) ?_ ?_⟩
  ·rintro i y σ H3 hy ⟨kv,v3,v4,rfl,s4,hu4,hkl,hval⟩
   obtain⟨k,hki,b,ey,hb⟩:=Paired.get? how2 hy
   subst ey
   have hi:i < ks.length:=(List.getElem?_eq_some_iff.mp hki).1
   refine⟨b,_,rfl,SqT.of (s4 _ _ hb),rfl,_,_,rfl,_,_,rfl,rfl,?_⟩
   refine⟨_,rfl,_,rfl,u,_,rfl,a1L.k (k:=Sum.inr k.2) hu4 (J6 (by omega)),?_⟩
   refine⟨_,_,_,rfl,s4.put gu,G1,?_,fun x=>?_⟩
   ·have:=a5w kv (Sum.inr k.2) (.bl false)
    omega
   ·rw[O8,hval x,J7 hki,List.map_append]
    by_cases hx:x=k.2
    ·subst hx
     rw[if_pos rfl,if_pos (by simp)]
    ·rw[if_neg (fun z=>hx (Sum.inr.inj z))]
     by_cases hm:x∈(ks.take i).map (·.2)
     ·rw[if_pos hm,if_pos (BF _ hm)]
     ·rw[if_neg hm,if_neg]
      intro z
      rcases AL.mp z with z | z
      ·exact hm z
      ·exact hx (by simpa using z)
  ·rintro σ H3 ⟨kv,v3,v4,rfl,s4,hu4,hkl,hval⟩
   rw[hvl,AY]at hval
   refine⟨a0W,fun f gf=>?_⟩
   have s5:G8 H2 (upd H3 f (.lst [])):=s4.new gf
   have hfu:u≠f:=fun z=>by rw[z,gf]at hu4;cases hu4
   have gf2:H2 f=none:=s4.free gf
   refine⟨_,rfl,l,rfl,⟨_,SqL.of (s5 _ _ hl2)⟩,a1W (K:=K) (a:=l) (xs:=vs) (fun i σ H4=>∃(kv:List (Key×V))(ts:List Tr)(us:List V)(v3 v4 v6:Option V),σ=[some (.ref a),some (.ref l),some (.ref u),v3,v4,some (.ref f),v6]/\G8 H2 H4/\H4 u=some (.dK kv)/\kv.length<=ks.length+i/\(∀x,Y7 kv (Sum.inr x)=if x∈Y1 ts then some (.bl true)else if x∈ks.map (·.2)then some (.bl false)else none)/\H4 f=some (.lst us)/\Paired (b1W H4) us ts/\ts.map (fun t=>(t.1,t.2.1))=ks.take i/\b1M (ks.map (·.2)) ts)
    ⟨kv,[],[],_,_,none,rfl,s5,U3 hu4 gf,by omega,fun x=>by rw[hval x];simp[Y1],G1,.nil,rfl,fun i t e=>by simp at e⟩ (fun i σ H4 _⟨_,_,_,_,_,_,_,s6,_⟩=>SqL.of (s6 _ _ hl2)) ?_ ?_⟩
   ·rintro i y σ H4 hy ⟨kv4,ts,us,w3,w4,w6,rfl,s6,hu6,hkl6,hval6,hf6,hus,hts,hnn⟩
    obtain⟨k,hki,b,ey,hb⟩:=Paired.get? how2 hy
    subst ey
    have hi:i < ks.length:=(List.getElem?_eq_some_iff.mp hki).1
    have hkm:=AG hki
    have hkmd:k.2∈ks.map (·.2):=AN (f:=(·.2)) hkm
    have htl:ts.length=i:=by
     have:=congrArg List.length hts
     rw[List.length_map,BD]at this
     omega
    have hul:us.length=i:=by rw[AF hus,htl]
    refine⟨b,_,rfl,SqT.of (s6 _ _ hb),rfl,_,_,rfl,_,_,rfl,rfl,?_⟩
    have hget:=D3.k (k:=Sum.inr k.2) hu6
    rw[hval6 k.2]at hget
    by_cases hm:k.2∈Y1 ts
    ·rw[if_pos hm]at hget
     refine⟨_,rfl,_,rfl,u,_,rfl,hget,_,rfl,a0b ?_⟩
     refine⟨_,rfl,_,rfl,k.2,u,kv4,rfl,hu6,by omega,hlen k hkm,fun kk h2k h5k hnone hall=>?_⟩
     have c1:k.2∉Y1 ts->k.2++nt kk=k.2:=fun z=>absurd hm z
     have c2:k.2∈Y1 ts->∃k',2<=k'/\k'<=5010/\k.2++nt kk=k.2++nt k'/\k.2++nt kk∉Y1 ts/\k.2++nt kk∉ks.map (·.2)/\∀j,2<=j->j < k'->(k.2++nt j∈Y1 ts\/k.2++nt j∈ks.map (·.2)):=fun _=>by
      rw[hval6]at hnone
      refine⟨kk,h2k,h5k,rfl,fun z=>?_,fun z=>?_,fun j hj1 hj2=>?_⟩
      ·rw[if_pos z]at hnone;cases hnone
      ·by_cases y:k.2++nt kk∈Y1 ts
       ·rw[if_pos y]at hnone;cases hnone
       ·rw[if_neg y,if_pos z]at hnone;cases hnone
      ·have h3:=hall j hj1 hj2
       rw[hval6]at h3
       by_cases y:k.2++nt j∈Y1 ts
       ·exact .inl y
       ·rw[if_neg y]at h3
        by_cases z:k.2++nt j∈ks.map (·.2)
        ·exact .inr z
        ·rw[if_neg z]at h3;cases h3
     refine⟨_,rfl,_,rfl,u,_,rfl,a1L.k (k:=Sum.inr (k.2++nt kk)) hu6 ((by have:sizeLine=16777216:=sizeLine_eq;omega)),?_⟩
     have s7:G8 H2 (upd H4 u (.dK (O0 kv4 (Sum.inr (k.2++nt kk)) (.bl true)))):=s6.put gu
     have T7:R1 H4 (upd H4 u (.dK (O0 kv4 (Sum.inr (k.2++nt kk)) (.bl true)))):=R1.dK hu6
     have hf7:upd H4 u (.dK (O0 kv4 (Sum.inr (k.2++nt kk)) (.bl true))) f=some (.lst us):=by rw[I0 hfu.symm];exact hf6
     have hu7:upd H4 u (.dK (O0 kv4 (Sum.inr (k.2++nt kk)) (.bl true))) u=some (.dK (O0 kv4 (Sum.inr (k.2++nt kk)) (.bl true))):=G1
     generalize upd H4 u (.dK (O0 kv4 (Sum.inr (k.2++nt kk)) (.bl true)))=H7 at s7 T7 hf7 hu7⊢
     refine⟨_,rfl,.inl ⟨rfl,_,SqL.of hf7⟩,_,rfl,_,rfl,_,rfl,a0A,fun c gc=>?_⟩
     have s8:G8 H7 (upd H7 c (.tup [.str k.1,.str k.2,.str (k.2++nt kk)])):=(G8.refl H7).new gc
     refine⟨f,_,_,rfl,rfl,s8 _ _ hf7,J6 (by omega),?_⟩
     have T9:=s8.tups.trans (R1.lst (ys:=us++[.ref c]) (s8 _ _ hf7))
     have hcf:c≠f:=fun z=>by rw[z,hf7]at gc;cases gc
     refine⟨O0 kv4 (Sum.inr (k.2++nt kk)) (.bl true),ts++[(k.1,k.2,(k.2++nt kk))],us++[.ref c],_,_,_,rfl,(s7.trans s8).put gf2,by rw[I0 hfu];exact s8 _ _ hu7,?_,fun x=>?_,G1,Paired.snoc (Paired.mapP hus fun _ _ z=>z.mono (T7.trans T9)) ⟨c,rfl,by rw[I0 hcf,G1]⟩,?_,hnn.snoc c1 c2⟩
     ·have:=a5w kv4 (Sum.inr (k.2++nt kk)) (.bl true)
      omega
     ·rw[O8,hval6 x]
      have e:Y1 (ts++[(k.1,k.2,(k.2++nt kk))])=Y1 ts++[(k.2++nt kk)]:=by unfold Y1;rw[List.map_append];rfl
      rw[e]
      by_cases hx:x=(k.2++nt kk)
      ·rw[if_pos (by rw[hx]),if_pos (by rw[hx];simp)]
      ·rw[if_neg (fun z=>hx (Sum.inr.inj z))]
       by_cases hm2:x∈Y1 ts
       ·rw[if_pos hm2,if_pos (BF _ hm2)]
       ·rw[if_neg hm2,if_neg (c:=x∈Y1 ts++[(k.2++nt kk)])]
        intro z
        rcases AL.mp z with z | z
        ·exact hm2 z
        ·exact hx (AD.mp z)
     ·rw[List.map_append,hts,J7 hki]
      rfl
    ·rw[if_neg hm,if_pos hkmd]at hget
     refine⟨_,rfl,_,rfl,u,_,rfl,hget,_,rfl,B6 ?_⟩
     refine⟨_,rfl,?_⟩
     have c1:k.2∉Y1 ts->k.2=k.2:=fun _=>rfl
     have c2:k.2∈Y1 ts->∃k',2<=k'/\k'<=5010/\k.2=k.2++nt k'/\k.2∉Y1 ts/\k.2∉ks.map (·.2)/\∀j,2<=j->j < k'->(k.2++nt j∈Y1 ts\/k.2++nt j∈ks.map (·.2)):=fun z=>absurd z hm
     refine⟨_,rfl,_,rfl,u,_,rfl,a1L.k (k:=Sum.inr k.2) hu6 ((by have:sizeLine=16777216:=sizeLine_eq;omega)),?_⟩
     have s7:G8 H2 (upd H4 u (.dK (O0 kv4 (Sum.inr k.2) (.bl true)))):=s6.put gu
     have T7:R1 H4 (upd H4 u (.dK (O0 kv4 (Sum.inr k.2) (.bl true)))):=R1.dK hu6
     have hf7:upd H4 u (.dK (O0 kv4 (Sum.inr k.2) (.bl true))) f=some (.lst us):=by rw[I0 hfu.symm];exact hf6
     have hu7:upd H4 u (.dK (O0 kv4 (Sum.inr k.2) (.bl true))) u=some (.dK (O0 kv4 (Sum.inr k.2) (.bl true))):=G1
     generalize upd H4 u (.dK (O0 kv4 (Sum.inr k.2) (.bl true)))=H7 at s7 T7 hf7 hu7⊢
     refine⟨_,rfl,.inl ⟨rfl,_,SqL.of hf7⟩,_,rfl,_,rfl,_,rfl,a0A,fun c gc=>?_⟩
     have s8:G8 H7 (upd H7 c (.tup [.str k.1,.str k.2,.str k.2])):=(G8.refl H7).new gc
     refine⟨f,_,_,rfl,rfl,s8 _ _ hf7,J6 (by omega),?_⟩
     have T9:=s8.tups.trans (R1.lst (ys:=us++[.ref c]) (s8 _ _ hf7))
     have hcf:c≠f:=fun z=>by rw[z,hf7]at gc;cases gc
     refine⟨O0 kv4 (Sum.inr k.2) (.bl true),ts++[(k.1,k.2,k.2)],us++[.ref c],_,_,_,rfl,(s7.trans s8).put gf2,by rw[I0 hfu];exact s8 _ _ hu7,?_,fun x=>?_,G1,Paired.snoc (Paired.mapP hus fun _ _ z=>z.mono (T7.trans T9)) ⟨c,rfl,by rw[I0 hcf,G1]⟩,?_,hnn.snoc c1 c2⟩
     ·have:=a5w kv4 (Sum.inr k.2) (.bl true)
      omega
     ·rw[O8,hval6 x]
      have e:Y1 (ts++[(k.1,k.2,k.2)])=Y1 ts++[k.2]:=by unfold Y1;rw[List.map_append];rfl
      rw[e]
      by_cases hx:x=k.2
      ·rw[if_pos (by rw[hx]),if_pos (by rw[hx];simp)]
      ·rw[if_neg (fun z=>hx (Sum.inr.inj z))]
       by_cases hm2:x∈Y1 ts
       ·rw[if_pos hm2,if_pos (BF _ hm2)]
       ·rw[if_neg hm2,if_neg (c:=x∈Y1 ts++[k.2])]
        intro z
        rcases AL.mp z with z | z
        ·exact hm2 z
        ·exact hx (AD.mp z)
     ·rw[List.map_append,hts,J7 hki]
      rfl
   ·rintro σ H4 ⟨kv4,ts,us,w3,w4,w6,rfl,s6,hu6,hkl6,hval6,hf6,hus,hts,hnn⟩
    rw[hvl,AY]at hts
    refine⟨_,rfl,f,_,rfl,.inl ⟨SqL.of hf6,fun p gp=>?_⟩⟩
    have s7:G8 H4 (upd H4 p (.tup us)):=(G8.refl H4).new gp
    exact q p us ts _ ((s02.trans s6).trans s7) G1 (Paired.mapP hus fun _ _ z=>z.mono s7.tups) hts hnn
noncomputable def b4N:Pr->Option Str
 | .own _ n _=>some n
 | _=>none
theorem b4f{nms owns:List Str}{pr:Pr}{rw:Rw}(h:a4v nms owns pr rw):ownOf rw=b4N pr:=by
 cases pr with
 | own k n xs=>
  rcases h with⟨_,e⟩ | ⟨_,ts,e,_⟩
  ·rw[e];rfl
  ·rw[e];rfl
 | bring j ps xs=>obtain⟨nm,_,e⟩:=h;rw[e];rfl
 | give o g xs=>rw[show rw= .give o g from h];rfl
 | ask j xs=>obtain⟨nm,w,_,e,_⟩:=h;rw[e];rfl
 | sum k xs=>
  rcases h with⟨_,ts,e,_⟩ | ⟨_,ts,w,e,_⟩
  ·rw[e];rfl
  ·rw[e];rfl
theorem a7Z{nms owns:List Str}:∀{rows:List Pr}{rws:List Rw},Paired (a4v nms owns) rows rws->rws.filterMap ownOf=rows.filterMap b4N
 | _,_,.nil=>rfl
 | _,_,.cons (a:=p) (b:=r) h t=>by
  have ih:=a7Z t
  rw[AS,AS,b4f h,ih]
theorem a9Z:∀rows:List Pr,(rows.filterMap b4N).Sublist (rows.flatMap a1Z)
 | []=>by simp
 | p::r=>by
  have ih:=a9Z r
  rw[BC]
  cases p with
  | own k n xs=>
   show(n::r.filterMap b4N).Sublist ([n]++r.flatMap a1Z)
   exact ih.cons_cons n
  | bring j ps xs=>exact ih.trans (List.sublist_append_right _ _)
  | give o g xs=>exact ih
  | ask j xs=>exact ih
  | sum k xs=>exact ih
theorem a6O{b sh:Int}(hb:0<=b){n:Nat}(hn:n<=24):(W5 b sh n).Nodup:=by
 unfold W5
 rw[BI,List.pairwise_map]
 refine List.Pairwise.imp_of_mem (fun{i j}hi hj hne h=>hne ?_) List.nodup_range
 have h1:=List.mem_range.mp hi
 have h2:=List.mem_range.mp hj
 have:=a3Z hb (by omega) (by omega) (by omega) (by omega) h
 omega
theorem a7V(n:Str)(rs:List Rw):D6 (W6 n rs)=(rs.filterMap ownOf).map fun o=>(n,o):=by
 have:∀(rs:List Rw)(k:Nat),((rs.zipIdx k).map fun x=>((n,x.2,x.1):Pl)).filterMap (fun x=>(ownOf x.2.2).map fun o=>(x.1,o))=(rs.filterMap ownOf).map fun o=>(n,o):=by
  intro rs
  induction rs with
  | nil=>intro k;rfl
  | cons r t ih=>
   intro k
   rw[List.zipIdx_cons,List.map_cons,AS,AS,ih (k+1)]
   cases ownOf r with
   | none=>rfl
   | some o=>rfl
 exact this rs 0
theorem a9t(ps:List Pt):D6 (I9 ps)=ps.flatMap fun pt=>(pt.2.filterMap ownOf).map fun o=>(pt.1,o):=by
 induction ps with
 | nil=>rfl
 | cons pt r ih=>
  have e:I9 (pt::r)=W6 pt.1 pt.2++I9 r:=rfl
  rw[BC,<-ih,<-a7V,e]
  unfold D6
  rw[List.filterMap_append]
theorem a5o:∀{ps:List Pt},(ps.map (·.1)).Nodup->(∀pt∈ps,(pt.2.filterMap ownOf).Nodup)->(ps.flatMap fun pt=>(pt.2.filterMap ownOf).map fun o=>(pt.1,o)).Nodup
 | [],_,_=>by simp
 | pt::r,hn,ho=>by
  rw[List.map_cons,BN]at hn
  rw[BC]
  refine AO.mpr ⟨?_,a5o hn.2 fun p hp=>ho p (AK _ hp),fun x hx y hy z=>?_⟩
  ·have h1:=ho pt AM
   rw[BI]at h1⊢
   rw[List.pairwise_map]
   exact h1.imp fun hne z=>hne (Prod.mk.inj z).2
  ·obtain⟨o,_,e1⟩:=AT.mp hx
   obtain⟨p,hp,hy2⟩:=BL.mp hy
   obtain⟨o2,_,e2⟩:=AT.mp hy2
   rw[<-e1,<-e2]at z
   have:pt.1=p.1:=(Prod.mk.inj z).1
   exact hn.1 (by rw[this];exact AN (f:=(·.1)) hp)
theorem O7.keys{hs:List Pp}{b0 b1 b2:Int}{ps:List Pt}(d:O7 hs b0 b1 b2 ps):(D6 (I9 ps)).Nodup/\∀k∈D6 (I9 ps),k.2.length<=100:=by
 have part:∀pt∈ps,(pt.2.filterMap ownOf).Nodup/\∀o∈pt.2.filterMap ownOf,o.length<=100:=fun pt hpt=>by
  obtain⟨i,hi⟩:=AV hpt
  obtain⟨pp,_,ok,_,h2⟩:=d.at hi
  obtain⟨n,hn,hn23⟩:=ok.n
  rw[a7Z h2]
  have hsub:=a9Z pp.rows
  have hmn:(pp.rows.flatMap a1Z).Nodup:=ok.md.nodup_iff.mpr (by rw[hn];exact a6O d.r0.1 (by omega))
  refine⟨hsub.nodup hmn,fun o ho=>?_⟩
  have h3:=ok.md.mem_iff.mp (hsub.subset ho)
  rw[hn]at h3
  have h4:=(a3O d.r0.1 o h3).word.len
  omega
 rw[a9t]
 refine⟨a5o d.nodup fun pt hpt=>(part pt hpt).1,fun k hk=>?_⟩
 obtain⟨pt,hpt,h1⟩:=BL.mp hk
 obtain⟨o,ho,e⟩:=AT.mp h1
 rw[<-e]
 exact(part pt hpt).2 o ho
noncomputable def brL (rs:List Rw):List Str:=rs.flatMap fun r=>(E2 r).map (·.2.2)
noncomputable def a4h (rs:List Rw):List Str:=rs.filterMap ownOf
theorem a5V{nms owns:List Str}{pr:Pr}{rw:Rw}(h:a4v nms owns pr rw):(a4h [rw]++brL [rw])=a1Z pr/\(rw::[]).filterMap E9=([rw]).filterMap E9/\((E9 rw).map (·.2)).toList=a4j pr:=by
 cases pr with
 | own k n xs=>
  rcases h with⟨_,e⟩ | ⟨_,ts,e,_⟩<;>subst e<;>exact⟨rfl,rfl,rfl⟩
 | bring j ps xs=>
  obtain⟨nm,_,e⟩:=h
  subst e
  refine⟨?_,rfl,rfl⟩
  show []++(((ps.map fun q=>((nm,q):Str×Str×Str)).map (·.2.2))++[])=ps.map (·.2)
  rw[List.nil_append,List.append_nil,List.map_map]
  rfl
 | give o g xs=>rw[show rw= .give o g from h];exact⟨rfl,rfl,rfl⟩
 | ask j xs=>obtain⟨nm,w,_,e,_⟩:=h;subst e;exact⟨rfl,rfl,rfl⟩
 | sum k xs=>
  rcases h with⟨_,ts,e,_⟩ | ⟨_,ts,w,e,_⟩<;>subst e<;>exact⟨rfl,rfl,rfl⟩
theorem a3h{nms owns:List Str}:∀{rows:List Pr}{rws:List Rw},Paired (a4v nms owns) rows rws->(a4h rws++brL rws).Perm (rows.flatMap a1Z)
 | _,_,.nil=>List.Perm.refl _
 | _,_,.cons (a:=p) (b:=r) (l₁:=ps) (l₂:=rs) h t=>by
  have ih:=a3h t
  have h1:=(a5V h).1
  have e1:a4h (r::rs)=a4h [r]++a4h rs:=by unfold a4h;rw[<-List.filterMap_append];rfl
  have e2:brL (r::rs)=brL [r]++brL rs:=by unfold brL;rw[<-List.flatMap_append];rfl
  rw[BC,<-h1,e1,e2]
  refine List.Perm.trans ?_ (List.Perm.append_left _ ih)
  rw[List.append_assoc,List.append_assoc]
  refine List.Perm.append_left _ ?_
  exact List.perm_append_comm_assoc _ _ _
theorem a6v{nms owns:List Str}:∀{rows:List Pr}{rws:List Rw},Paired (a4v nms owns) rows rws->(rws.filterMap E9).map (·.2)=rows.flatMap a4j
 | _,_,.nil=>rfl
 | _,_,.cons (a:=p) (b:=r) h t=>by
  have ih:=a6v t
  have h1:=(a5V h).2.2
  rw[BC,<-ih,<-h1,AS]
  cases E9 r with
  | none=>rfl
  | some q=>rfl
theorem a0j{n:Str}{rs:List Rw}{x:Pl}:x∈W6 n rs↔x.1=n/\rs[x.2.1]?=some x.2.2:=by
 unfold W6
 rw[AT]
 constructor
 ·rintro⟨y,hy,e⟩
  have h1:=List.mem_zipIdx_iff_getElem?.mp hy
  rw[<-e]
  exact⟨rfl,h1⟩
 ·rintro⟨e1,e2⟩
  exact⟨(x.2.2,x.2.1),List.mem_zipIdx_iff_getElem?.mpr e2,by rw[<-e1]⟩
theorem a0n{ps:List Pt}{x:Pl}:x∈I9 ps↔∃rs,(x.1,rs)∈ps/\rs[x.2.1]?=some x.2.2:=by
 unfold I9
 rw[BL]
 constructor
 ·rintro⟨pt,h1,h2⟩
  obtain⟨e1,e2⟩:=a0j.mp h2
  exact⟨pt.2,by rw[e1];exact h1,e2⟩
 ·rintro⟨rs,h1,h2⟩
  exact⟨_,h1,a0j.mpr ⟨rfl,h2⟩⟩
theorem a1H{α:Type}(f:Rw->List α)(ps:List Pt):((I9 ps).flatMap fun x=>(f x.2.2).map fun a=>(x.1,a))=ps.flatMap fun pt=>(pt.2.flatMap f).map fun a=>(pt.1,a):=by
 induction ps with
 | nil=>rfl
 | cons pt r ih=>
  have e:I9 (pt::r)=W6 pt.1 pt.2++I9 r:=rfl
  rw[e,List.flatMap_append,ih,BC]
  congr 1
  have:∀(rs:List Rw)(k:Nat),(((rs.zipIdx k).map fun x=>((pt.1,x.2,x.1):Pl)).flatMap fun x=>(f x.2.2).map fun a=>(x.1,a))=(rs.flatMap f).map fun a=>(pt.1,a):=by
   intro rs
   induction rs with
   | nil=>intro k;rfl
   | cons r t ih=>intro k;rw[List.zipIdx_cons,List.map_cons,BC,BC,ih (k+1),List.map_append]
  exact this pt.2 0
theorem a1g{α:Type}{f:Pt->List α}:∀{ps:List Pt},(ps.map (·.1)).Nodup->(∀pt∈ps,(f pt).Nodup)->(ps.flatMap fun pt=>(f pt).map fun a=>(pt.1,a)).Nodup
 | [],_,_=>by simp
 | pt::r,hn,ho=>by
  rw[List.map_cons,BN]at hn
  rw[BC]
  refine AO.mpr ⟨?_,a1g hn.2 fun p hp=>ho p (AK _ hp),fun x hx y hy z=>?_⟩
  ·have h1:=ho pt AM
   rw[BI]at h1⊢
   rw[List.pairwise_map]
   exact h1.imp fun hne z=>hne (Prod.mk.inj z).2
  ·obtain⟨o,_,e1⟩:=AT.mp hx
   obtain⟨p,hp,hy2⟩:=BL.mp hy
   obtain⟨o2,_,e2⟩:=AT.mp hy2
   rw[<-e1,<-e2]at z
   have:pt.1=p.1:=(Prod.mk.inj z).1
   exact hn.1 (by rw[this];exact AN (f:=(·.1)) hp)
theorem a5G(ps:List Pt):(U7 (I9 ps)).map (·.1)=ps.flatMap fun pt=>(a4h pt.2).map fun a=>(pt.1,a):=by
 have h:=a1H (fun r=>(ownOf r).toList) ps
 have e1:∀rs:List Rw,rs.flatMap (fun r=>(ownOf r).toList)=a4h rs:=fun rs=>by
  unfold a4h
  induction rs with
  | nil=>rfl
  | cons r t ih=>
   rw[BC,AS,ih]
   cases ownOf r<;>rfl
 simp only[e1]at h
 rw[<-h]
 unfold U7
 induction I9 ps with
 | nil=>rfl
 | cons x t ih=>
  rw[AS,BC,<-ih]
  cases ownOf x.2.2<;>rfl
theorem a9K(ps:List Pt):(Z2 (I9 ps)).map (·.1)=ps.flatMap fun pt=>(brL pt.2).map fun a=>(pt.1,a):=by
 have h:=a1H (fun r=>(E2 r).map (·.2.2)) ps
 unfold brL
 rw[<-h]
 unfold Z2
 induction I9 ps with
 | nil=>rfl
 | cons x t ih=>
  rw[BC,BC,List.map_append,ih,List.map_map,List.map_map]
  rfl
theorem b5W(ps:List Pt):(Y9 (I9 ps)).map (·.1)=ps.flatMap fun pt=>((pt.2.filterMap E9).map (·.2)).map fun a=>(pt.1,a):=by
 have h:=a1H (fun r=>((E9 r).map (·.2)).toList) ps
 have e1:∀rs:List Rw,rs.flatMap (fun r=>((E9 r).map (·.2)).toList)=(rs.filterMap E9).map (·.2):=fun rs=>by
  induction rs with
  | nil=>rfl
  | cons r t ih=>
   rw[BC,AS,ih]
   cases E9 r<;>rfl
 simp only[e1]at h
 rw[<-h]
 unfold Y9
 induction I9 ps with
 | nil=>rfl
 | cons x t ih=>
  rw[AS,BC,<-ih]
  cases E9 x.2.2<;>rfl
theorem O7.net{hs:List Pp}{b0 b1 b2:Int}{ps:List Pt}(d:O7 hs b0 b1 b2 ps):D7 (I9 ps):=by
 have hnd:=d.nodup
 have hnm:=d.names
 have part:∀{i:Nat}{pt:Pt},ps[i]?=some pt->∃pp,hs[i]?=some pp/\b5t b0 b1 hs i pp/\pt.1=W8 b2 (i:Int)/\Paired (a4v (M4 b2 hs.length) pp.owns) pp.rows pt.2:=fun e=>d.at e
 have own:∀{i:Nat}{pt:Pt},ps[i]?=some pt->(a4h pt.2++brL pt.2).Nodup:=fun{i pt}e=>by
  obtain⟨pp,_,ok,_,hf⟩:=part e
  obtain⟨n,hn,hn23⟩:=ok.n
  exact((a3h hf).trans ok.md).nodup_iff.mpr (by rw[hn];exact a1n d.r0.1 (by omega))
 have idx:∀{i j:Nat}{n:Str}{rs rs':List Rw},ps[i]?=some (n,rs)->ps[j]?=some (n,rs')->i=j:=fun{i j n rs rs'}e1 e2=>by
  have h1:(ps.map (·.1))[i]?=some n:=by rw[List.getElem?_map,e1];rfl
  have h2:(ps.map (·.1))[j]?=some n:=by rw[List.getElem?_map,e2];rfl
  have hi:=(List.getElem?_eq_some_iff.mp h1).1
  exact(List.getElem?_inj hi hnd).mp (h1.trans h2.symm)
 have atNm:∀{j:Nat}{m:Str},(M4 b2 hs.length)[j]?=some m->∃rs,ps[j]?=some (m,rs):=fun{j m}e=>by
  rw[<-hnm,List.getElem?_map]at e
  cases e2:ps[j]? with
  | none=>rw[e2]at e;cases e
  | some pt=>rw[e2]at e;exact⟨pt.2,by rw[<-(Option.some.inj e)]⟩
 have brow:∀{x:Kk×Kk},x∈Z2 (I9 ps)->∃(i j:Nat)(pp:Pp)(prs:List (Str×Str))(xs:List Int)(q:Str×Str)(rs rs':List Rw),ps[i]?=some (x.1.1,rs)/\ps[j]?=some (x.2.1,rs')/\hs[i]?=some pp/\Pr.bring j prs xs∈pp.rows/\q∈prs/\q.2=x.1.2/\q.1=x.2.2/\a7O hs i (.bring j prs xs):=fun{x}hx=>by
  unfold Z2 at hx
  obtain⟨y,hy,h1⟩:=BL.mp hx
  obtain⟨mq,hmq,e⟩:=AT.mp h1
  obtain⟨rs,hrs,hrw⟩:=a0n.mp hy
  obtain⟨i,hi⟩:=AV hrs
  obtain⟨pp,hpp,ok,_,hf⟩:=part hi
  obtain⟨pr,hpr,hfr⟩:=Paired.get?' hf hrw
  have hprm:=AG hpr
  cases pr with
  | bring j prs xs=>
   obtain⟨nm,hnmj,erw⟩:=hfr
   rw[erw]at hmq
   obtain⟨q,hq,eq⟩:=AT.mp hmq
   obtain⟨rs',hj⟩:=atNm hnmj
   rw[<-e,<-eq]
   exact⟨i,j,pp,prs,xs,q,rs,rs',hi,hj,hpp,hprm,hq,rfl,rfl,ok.ok _ hprm⟩
  | own k n xs=>
   rcases hfr with⟨_,erw⟩ | ⟨_,ts,erw,_⟩<;>rw[erw]at hmq<;>simp[E2]at hmq
  | give o g xs=>rw[show y.2.2= .give o g from hfr]at hmq;simp[E2]at hmq
  | ask j xs=>obtain⟨nm,w,_,erw,_⟩:=hfr;rw[erw]at hmq;simp[E2]at hmq
  | sum k xs=>
   rcases hfr with⟨_,ts,erw,_⟩ | ⟨_,ts,w,erw,_⟩<;>rw[erw]at hmq<;>simp[E2]at hmq
 have giv:∀{j:Nat}{m g o:Str}{rs:List Rw},ps[j]?=some (m,rs)->Giv hs j g o->((m,g),o)∈Y9 (I9 ps):=fun{j m g o rs}e hg=>by
  obtain⟨pq,xs,ej,hm⟩:=hg
  obtain⟨pp,hpp,_,_,hf⟩:=part e
  rw[ej]at hpp
  cases hpp
  obtain⟨k,hk⟩:=AV hm
  obtain⟨rw,hrw,hfr⟩:=Paired.get? hf hk
  have erw:rw= .give o g:=hfr
  unfold Y9
  refine List.mem_filterMap.mpr ⟨(m,k,rw),a0n.mpr ⟨rs,AG e,hrw⟩,?_⟩
  rw[erw]
  rfl
 have hgk:((Y9 (I9 ps)).map (·.1)).Nodup:=by
  rw[b5W]
  refine a1g (f:=fun pt=>(pt.2.filterMap E9).map (·.2)) hnd fun pt hpt=>?_
  obtain⟨i,hi⟩:=AV hpt
  obtain⟨pp,_,ok,_,hf⟩:=part hi
  obtain⟨m,hm,hm23⟩:=ok.m
  rw[a6v hf]
  exact ok.gv.nodup_iff.mpr (by rw[hm];exact a1n d.r1.1 (by omega))
 refine⟨?_,hgk,fun x hx=>?_,fun y hy=>?_,?_,?_,fun x hx=>?_⟩
 ·rw[a5G,a9K]
  refine AO.mpr ⟨?_,?_,fun x hx y hy z=>?_⟩
  ·refine a1g (f:=fun pt=>a4h pt.2) hnd fun pt hpt=>?_
   obtain⟨i,hi⟩:=AV hpt
   exact(AO.mp (own hi)).1
  ·refine a1g (f:=fun pt=>brL pt.2) hnd fun pt hpt=>?_
   obtain⟨i,hi⟩:=AV hpt
   exact(AO.mp (own hi)).2.1
  ·subst z
   obtain⟨p1,hp1,h1⟩:=BL.mp hx
   obtain⟨o1,ho1,e1⟩:=AT.mp h1
   obtain⟨p2,hp2,h2⟩:=BL.mp hy
   obtain⟨o2,ho2,e2⟩:=AT.mp h2
   rw[<-e1]at e2
   obtain⟨i,hi⟩:=AV hp1
   obtain⟨j,hj⟩:=AV hp2
   have en:p2.1=p1.1:=(Prod.mk.inj e2).1
   have eo:o2=o1:=(Prod.mk.inj e2).2
   have hij:=idx (n:=p1.1) (rs:=p1.2) (rs':=p2.2) hi (by rw[hj,<-en])
   subst hij
   rw[hi]at hj
   cases hj
   exact(AO.mp (own hi)).2.2 _ ho1 _ ho2 eo.symm
 ·obtain⟨i,j,pp,prs,xs,q,rs,rs',hi,hj,hpp,hprm,hq,_,e2,hok⟩:=brow hx
  obtain⟨pq,hpq,hgm⟩:=hok.2.2.2.1 q hq
  obtain⟨o,ys,hg⟩:=b0j ((d.inv j pq hpq).gv.mem_iff.mpr hgm)
  refine⟨o,?_⟩
  have h1:=giv hj (⟨pq,ys,hpq,hg⟩:Giv hs j q.1 o)
  rw[e2]at h1
  exact h1
 ·unfold Y9 at hy
  obtain⟨z,hz,h1⟩:=List.mem_filterMap.mp hy
  obtain⟨rs,hrs,hrw⟩:=a0n.mp hz
  obtain⟨i,hi⟩:=AV hrs
  obtain⟨pp,hpp,ok,_,hf⟩:=part hi
  obtain⟨pr,hpr,hfr⟩:=Paired.get?' hf hrw
  have hprm:=AG hpr
  have hgo:∃o g xs,pr= .give o g xs/\y=((z.1,g),o):=by
   cases pr with
   | give o g xs=>
    rw[show z.2.2= .give o g from hfr]at h1
    exact⟨o,g,xs,rfl,(Option.some.inj h1).symm⟩
   | own k n xs=>
    rcases hfr with⟨_,erw⟩ | ⟨_,ts,erw,_⟩<;>rw[erw]at h1<;>cases h1
   | bring j prs xs=>obtain⟨nm,_,erw⟩:=hfr;rw[erw]at h1;cases h1
   | ask j xs=>obtain⟨nm,w,_,erw,_⟩:=hfr;rw[erw]at h1;cases h1
   | sum k xs=>
    rcases hfr with⟨_,ts,erw,_⟩ | ⟨_,ts,w,erw,_⟩<;>rw[erw]at h1<;>cases h1
  obtain⟨o,g,xs,ep,ey⟩:=hgo
  subst ep
  obtain⟨⟨pp',hpp',ho⟩,_⟩:=ok.ok _ hprm
  rw[hpp]at hpp'
  cases hpp'
  have h2:=(a3h hf).mem_iff.mpr (ok.md.mem_iff.mpr ho)
  rw[ey,a5G,a9K]
  rcases AL.mp h2 with w | w
  ·exact BF _ (BL.mpr ⟨_,hrs,AT.mpr ⟨o,w,rfl⟩⟩)
  ·exact AR _ (BL.mpr ⟨_,hrs,AT.mpr ⟨o,w,rfl⟩⟩)
 ·obtain⟨rk,B,_,hrk⟩:=d.rk
  refine⟨fun k=>rk ((ps.map (·.1)).findIdx fun n=>decide (n=k.1)) k.2,fun x hx=>?_⟩
  have fidx:∀{i:Nat}{n:Str}{rs:List Rw},ps[i]?=some (n,rs)->((ps.map (·.1)).findIdx fun m=>decide (m=n))=i:=fun{i n rs}e=>by
   have h1:(ps.map (·.1))[i]?=some n:=by rw[List.getElem?_map,e];rfl
   obtain⟨hi,h2⟩:=List.getElem?_eq_some_iff.mp h1
   have hlt:((ps.map (·.1)).findIdx fun m=>decide (m=n)) < (ps.map (·.1)).length:=List.findIdx_lt_length_of_exists ⟨n,AG h1,by simp⟩
   have h3:=List.findIdx_getElem (w:=hlt)
   have h4:(ps.map (·.1))[(ps.map (·.1)).findIdx fun m=>decide (m=n)]=n:=by simpa using h3
   have h5:ps[(ps.map (·.1)).findIdx fun m=>decide (m=n)]?=some (n,(ps[(ps.map (·.1)).findIdx fun m=>decide (m=n)]'(by rw[List.length_map]at hlt;exact hlt)).2):=by
    rw[AU (by rw[List.length_map]at hlt;exact hlt)]
    rw[List.getElem_map]at h4
    exact congrArg some (Prod.ext h4 rfl)
   exact idx h5 e
  unfold E7 at hx
  obtain⟨y,hy,e⟩:=AT.mp hx
  obtain⟨i,j,pp,prs,xs,q,rs,rs',hi,hj,hpp,hprm,hq,e1,e2,hok⟩:=brow hy
  obtain⟨o,hg,hlt⟩:=hrk i pp hpp j prs xs hprm q hq
  have h1:=giv hj hg
  rw[e2]at h1
  have h2:a5O (Y9 (I9 ps)) y.2=o:=a4G hgk h1
  rw[<-e]
  show rk ((ps.map (·.1)).findIdx fun n=>decide (n=y.2.1)) (a5O (Y9 (I9 ps)) y.2) < rk ((ps.map (·.1)).findIdx fun n=>decide (n=y.1.1)) y.1.2
  rw[fidx hi,fidx hj,h2,<-e1]
  exact hlt
 ·have h1:=a1v d.fit.rows
  have:=d.fit.hi
  omega
 ·obtain⟨rs,hrs,hrw⟩:=a0n.mp hx
  obtain⟨i,hi⟩:=AV hrs
  obtain⟨pp,hpp,ok,_,hf⟩:=part hi
  obtain⟨pr,hpr,hfr⟩:=Paired.get?' hf hrw
  have hprm:=AG hpr
  cases pr with
  | bring j prs xs=>
   obtain⟨nm,_,erw⟩:=hfr
   rw[erw]
   show(prs.map _).length<=6
   rw[List.length_map]
   exact(ok.ok _ hprm).2.2.1
  | own k n xs=>
   rcases hfr with⟨_,erw⟩ | ⟨_,ts,erw,_⟩<;>rw[erw]<;>simp[E2]
  | give o g xs=>rw[show x.2.2= .give o g from hfr];simp[E2]
  | ask j xs=>obtain⟨nm,w,_,erw,_⟩:=hfr;rw[erw];simp[E2]
  | sum k xs=>
   rcases hfr with⟨_,ts,erw,_⟩ | ⟨_,ts,w,erw,_⟩<;>rw[erw]<;>simp[E2]
noncomputable def kp (p:Str×Nat):List Key:=[Sum.inr p.1,Sum.inl (p.2:Int)]
theorem b2U{p q:Str×Nat}(h:kp p=kp q):p=q:=by
 unfold kp at h
 simp only[List.cons.injEq,Sum.inr.injEq,Sum.inl.injEq,and_true]at h
 obtain⟨a,b⟩:=p
 obtain⟨c,d⟩:=q
 simp only at h
 rw[h.1,Int.ofNat.inj h.2]
noncomputable def a2M (mls:List (Kk×(Str×Nat))) (ts:List Tr):List ((Str×Nat)×Str):=(mls.map (·.2)).zip (Y1 ts)
noncomputable def b5N (kv:List Key×V) (x:(Str×Nat)×Str):Prop:=kv.1=kp x.1/\kv.2= .str x.2
theorem a9Y:∀pls:List Pl,((U7 pls).map (·.2)).Sublist (pls.map fun x=>(x.1,x.2.1))
 | []=>by simp[U7]
 | x::r=>by
  have ih:=a9Y r
  have e:U7 (x::r)=U7 [x]++U7 r:=by rw[<-a6M];rfl
  rw[e,List.map_append,List.map_cons]
  cases ho:ownOf x.2.2 with
  | none=>
   have:U7 [x]=[]:=by simp[U7,ho]
   rw[this]
   exact ih.trans (List.sublist_cons_self _ _)
  | some o=>
   have:U7 [x]=[((x.1,o),(x.1,x.2.1))]:=by simp[U7,ho]
   rw[this]
   exact ih.cons_cons _
theorem a6X(n:Str)(rs:List Rw):((W6 n rs).map fun x=>(x.1,x.2.1)).Nodup:=by
 have e:(W6 n rs).map (fun x=>(x.1,x.2.1))=(List.range rs.length).map fun i=>(n,i):=by
  refine List.ext_getElem? fun i=>?_
  unfold W6
  rw[List.map_map,List.getElem?_map,List.getElem?_map,List.getElem?_zipIdx]
  by_cases h:i < rs.length
  ·rw[AU h,List.getElem?_range h]
   simp
  ·rw[List.getElem?_eq_none (by omega),List.getElem?_eq_none (by rw[List.length_range];omega)]
   rfl
 rw[e,BI,List.pairwise_map]
 exact(BI.mp List.nodup_range).imp fun hne z=>hne (Prod.mk.inj z).2
theorem a6m:∀{ps:List Pt},(ps.map (·.1)).Nodup->((I9 ps).map fun x=>(x.1,x.2.1)).Nodup
 | [],_=>by simp[I9]
 | pt::r,hn=>by
  rw[List.map_cons,BN]at hn
  have e:I9 (pt::r)=W6 pt.1 pt.2++I9 r:=rfl
  rw[e,List.map_append]
  refine AO.mpr ⟨a6X _ _,a6m hn.2,fun x hx y hy z=>?_⟩
  obtain⟨x',hx',e1⟩:=AT.mp hx
  obtain⟨y',hy',e2⟩:=AT.mp hy
  have h1:=(a0j.mp hx').1
  obtain⟨rs,h2,_⟩:=a0n.mp hy'
  rw[<-e1,<-e2]at z
  have h3:x'.1=y'.1:=(Prod.mk.inj z).1
  exact hn.1 (by rw[<-h1,h3];exact AN (f:=(·.1)) h2)
theorem a7d{ps:List Pt}(h:(ps.map (·.1)).Nodup):((U7 (I9 ps)).map (·.2)).Nodup:=(a9Y _).nodup (a6m h)
theorem b4q{mls:List (Kk×(Str×Nat))}{ts:List Tr}(h:ts.length=mls.length):(a2M mls ts).map (·.1)=mls.map (·.2):=by
 unfold a2M Y1
 rw[List.map_fst_zip]
 rw[List.length_map,List.length_map]
 omega
theorem b3j{mls:List (Kk×(Str×Nat))}{ts:List Tr}{i:Nat}{x:Kk×(Str×Nat)}{t:Tr}(h1:mls[i]?=some x)(h2:ts[i]?=some t):(a2M mls ts)[i]?=some (x.2,t.2.2):=by
 unfold a2M Y1
 rw[List.getElem?_zip_eq_some]
 exact⟨by rw[List.getElem?_map,h1];rfl,by rw[List.getElem?_map,h2];rfl⟩
theorem b2F:∀{nkv:List (List Key×V)}{nls:List ((Str×Nat)×Str)}{x:(Str×Nat)×Str},Paired b5N nkv nls->(nls.map (·.1)).Nodup->x∈nls->Y7 nkv (kp x.1)=some (.str x.2)
 | _,_,x,.nil,_,hx=>by simp at hx
 | _,_,x,.cons (a:=kv) (b:=y) (l₂:=r) ⟨e1,e2⟩ t,hn,hx=>by
  rw[List.map_cons,BN]at hn
  rcases List.mem_cons.mp hx with z | z
  ·subst z
   rw[E1 e1,e2]
  ·rw[O2 (fun w=>hn.1 (by rw[b2U (e1.symm.trans w)];exact AN (f:=(·.1)) z))]
   exact b2F t hn.2 z
theorem b5V{nkv:List (List Key×V)}{nls:List ((Str×Nat)×Str)}{p:Str×Nat}(h:Paired b5N nkv nls)(hp:p∉nls.map (·.1)):kp p∉nkv.map (·.1):=by
 intro z
 obtain⟨kv,hkv,e⟩:=AT.mp z
 obtain⟨i,hi⟩:=AV hkv
 obtain⟨x,hx,e1,_⟩:=Paired.get? h hi
 exact hp (AT.mpr ⟨x,AG hx,b2U (e1.symm.trans e)⟩)
theorem a8r{κ:Type}[DecidableEq κ]:∀{kvs:List (κ×V)}{i:Nat}{kv:κ×V},(kvs.map (·.1)).Nodup->kvs[i]?=some kv->Y7 kvs kv.1=some kv.2
 | [],i,kv,_,h=>by simp at h
 | x::r,i,kv,hn,h=>by
  rw[List.map_cons,BN]at hn
  cases i with
  | zero=>cases h;exact E1 rfl
  | succ i=>
   have h':r[i]?=some kv:=h
   rw[O2 (fun z=>hn.1 (by rw[z];exact AN (f:=(·.1)) (AG h')))]
   exact a8r hn.2 h'
theorem Mk.place{mls:List (Kk×(Str×Nat))}{ls:List (Kk×Kk)}{k:Kk}{p:Str×Nat}(h:Mk mls ls k p):∃k',(k',p)∈mls:=by
 induction h with
 | base h=>exact⟨_,h⟩
 | step _ _ ih=>exact ih
noncomputable def b4g (mls:List (Kk×(Str×Nat))) (ls:List (Kk×Kk)) (ts:List Tr) (fkv:List (List Key×V)):Prop:=∀x∈mls.map (·.1)++ls.map (·.1),∃p n,Mk mls ls x p/\(p,n)∈a2M mls ts/\Y7 fkv (W1 x)=some (.str n)
noncomputable def b2R:Sp:=fun vs H Q _=>∃(a:Addr)(ps:List Pt),vs=[.ref a]/\O9 H a ps/\M7 ps/\D7 (I9 ps)/\(∀k∈D6 (I9 ps),k.2.length<=100)/\∀(f:Addr)(fkv:List (List Key×V))(ts:List Tr)(H':Hp),G8 H H'->H' f=some (.dT fkv)->ts.map (fun t=>(t.1,t.2.1))=D6 (I9 ps)->b1M ((D6 (I9 ps)).map (·.2)) ts->b4g (U7 (I9 ps)) (E7 (I9 ps)) ts fkv->Q (.ref f) H'
theorem b1b(T:Txt K mg):L2.Cl P w K mg base 5 "makers_names" ["parts"] b2R:=by
 have C_makers:=b1c (P:=P) (w:=w) (base:=base) T
 have C_new_names:=b6q (P:=P) (w:=w) (base:=base) T
 refine Cl.of T.d_makers_names Y4 (fun vs H Q E h=>?_) (fun _ _ _ _ _ _ us hl=>by obtain⟨a,rfl⟩:=a5N hl;rfl) (fun fa cdv A outer s H vs Q E hr h=>?_)
 ·obtain⟨a,ps,rfl,_⟩:=h
  rfl
 ·obtain⟨a,ps,rfl,hpf,hfit,hnet,hklen,q⟩:=h
  have hu:=B5 hr
  have hpl:=hnet.len
  have hml:=a7p (I9 ps)
  have hll:(E7 (I9 ps)).length<=5760:=by
   have h1:=a4I hnet.brs
   unfold E7
   rw[List.length_map]
   omega
  have hknd:(D6 (I9 ps)).Nodup:=by rw[a0l];exact hnet.mkNodup
  have hpnd:=a7d hfit.nd
  refine⟨_,(G7 (J3 (i:=1) Y4.nd rfl (Or.inl rfl) (W4 C_makers hr (by rfl) (G0 (pv 0) G6)))
   (G7 (J3 (i:=2) Y4.nd rfl (Or.inl rfl) a2s)
   (G7 (Z7 AQ rfl (a0d (W4 C_new_names hr (by rfl) (G0 (pv 0) G6))) (D8 rfl (J8 (J5 (i:=3) Y4.nd rfl (Or.inl rfl)) (J8 (J5 (i:=4) Y4.nd rfl (Or.inl rfl)) (J8 (J5 (i:=5) Y4.nd rfl (Or.inl rfl)) Z9))))
    (G9 (M0 hu (pv 2) (E5 hu (pv 1) (U6 (G0 (pv 3) (G0 (pv 4) G6))) (fun _ _=>rfl)) (pv 5) rfl)))
   (G7 (J3 (i:=6) Y4.nd rfl (Or.inl rfl) a2s)
   (G7 (Z7 AQ rfl (b1l (pv 1)) (D8 rfl (J8 (J5 (i:=7) Y4.nd rfl (Or.inl rfl)) (J8 (J5 (i:=8) Y4.nd rfl (Or.inl rfl)) Z9)))
    (G9 (M0 hu (pv 6) (pv 7) (E5 hu (pv 2) (pv 8) (fun _ _=>rfl)) rfl)))
   (G9 (R5 (pv 6)))))))),?_⟩
  refine⟨_,rfl,a,ps,rfl,hpf,hfit,hnet,fun d pkv H1 s1 gd hd1 fi1 hall=>?_⟩
  intro n gn
  have s2:G8 H1 (upd H1 n (.dT [])):=(G8.refl H1).new gn
  refine⟨_,rfl,a,ps,rfl,(s1.trans s2).partsF hpf,hfit,hnet,hklen,fun p vs ts H3 s3 hp hvs hks hnn=>?_⟩
  have htl:ts.length=(U7 (I9 ps)).length:=by
   have:=congrArg List.length hks
   rw[List.length_map,a0l,List.length_map]at this
   exact this
  have hnf:=b4q htl
  have hnl:(a2M (U7 (I9 ps)) ts).length=ts.length:=by
   have:=congrArg List.length hnf
   rw[List.length_map,List.length_map]at this
   omega
  have hvl:vs.length=ts.length:=AF hvs
  have s13:=s2.trans s3
  refine⟨p,rfl,⟨_,SqT.of hp⟩,a0o (K:=K) (a:=p) (xs:=vs) (fun i σ H4=>∃(nkv:List (List Key×V))(v3 v4 v5:Option V),σ=[some (.ref a),some (.ref d),some (.ref n),v3,v4,v5,none,none,none]/\G8 H1 H4/\R1 H3 H4/\H4 n=some (.dT nkv)/\Paired b5N nkv ((a2M (U7 (I9 ps)) ts).take i))
   ⟨[],none,none,none,rfl,s13,R1.refl H3,s3 _ _ G1,by rw[List.take_zero];exact .nil⟩ (fun i σ H4 _⟨_,_,_,_,_,_,t4,_⟩=>SqT.of (t4 _ _ hp)) ?_ ?_⟩
  ·rintro i y σ H4 hy ⟨nkv,v3,v4,v5,rfl,s4,t4,hn4,hnv⟩
   obtain⟨t,ht,c,ey,hc⟩:=Paired.get? hvs hy
   subst ey
   have hi:i < ts.length:=(List.getElem?_eq_some_iff.mp ht).1
   obtain⟨x,hx⟩:∃x,(U7 (I9 ps))[i]?=some x:=⟨(U7 (I9 ps))[i]'(by omega),by simp[show i < (U7 (I9 ps)).length by omega]⟩
   have hxk:x.1=(t.1,t.2.1):=by
    have h1:=congrArg (fun l=>l[i]?) hks
    simp only[a0l,List.getElem?_map,ht,hx,Option.map_some,Option.some.injEq]at h1
    exact h1.symm
   have hxm:=AG hx
   have hn:=b3j hx ht
   have hnkl:nkv.length<=960:=by
    rw[AF hnv,BD]
    omega
   have hsome:=fi1.has x.1 (AN (f:=(·.1)) hxm)
   cases e:Y7 pkv (W1 x.1)with
   | none=>rw[e]at hsome;cases hsome
   | some v=>
    obtain⟨t',p',ev,ht',hmk⟩:=fi1.val _ v e
    subst ev
    have hpp:p'=x.2:=hnet.uniq hmk (.base hxm)
    subst hpp
    refine⟨c,_,rfl,SqT.of (t4 _ _ hc),rfl,_,_,rfl,_,_,rfl,_,_,rfl,rfl,?_⟩
    refine⟨_,rfl,_,rfl,_,rfl,_,rfl,_,rfl,F2,fun e' ge=>?_⟩
    have s5:G8 H4 (upd H4 e' (.tup [.str t.1,.str t.2.1])):=(G8.refl H4).new ge
    have hget:D3 (upd H4 e' (.tup [.str t.1,.str t.2.1])) d (.ref e') (some (.ref t')):=by
     have h1:=D3.t (k:=W1 (t.1,t.2.1)) (s5 _ _ (s4 _ _ hd1)) (show upd H4 e' (.tup [.str t.1,.str t.2.1]) e'=some (.tup ((W1 (t.1,t.2.1)).map kV))from G1)
     rw[<-hxk,e]at h1
     exact h1
    have hn5:=s5 _ _ hn4
    refine⟨d,_,rfl,hget,n,_,rfl,a1L.t (k:=kp x.2) hn5 (s5 _ _ (s4 _ _ ht')) (szK (by omega)),?_⟩
    have hnew:kp x.2∉nkv.map (·.1):=b5V hnv (fun z=>by
     have h1:((a2M (U7 (I9 ps)) ts).take (i+1)).map (·.1)=((U7 (I9 ps)).map (·.2)).take (i+1):=by rw[List.map_take,hnf]
     have h2:(((a2M (U7 (I9 ps)) ts).take (i+1)).map (·.1)).Nodup:=by
      rw[h1]
      exact(List.take_sublist _ _).nodup hpnd
     rw[J7 hn,List.map_append]at h2
     exact(AO.mp h2).2.2 _ z _ (AD.mpr rfl) rfl)
    rw[a2h hnew]
    have TD:=R1.dT (kvs':=nkv++[(kp x.2,.str t.2.2)]) hn5
    refine⟨nkv++[(kp x.2,.str t.2.2)],_,_,_,rfl,(s4.trans s5).put gn,t4.trans (s5.tups.trans TD),G1,?_⟩
    rw[J7 hn]
    exact Paired.snoc hnv ⟨rfl,rfl⟩
  ·rintro σ H4 ⟨nkv,v3,v4,v5,rfl,s4,t4,hn4,hnv⟩
   rw[hvl,<-hnl,AY]at hnv
   intro f gf
   have s5:G8 H4 (upd H4 f (.dT [])):=(G8.refl H4).new gf
   have hd5:=s5 _ _ (s4 _ _ hd1)
   have hdf:d≠f:=fun z=>by rw[<-z,s4 _ _ hd1]at gf;cases gf
   have hdn:d≠n:=fun z=>by rw[<-z,hd1]at gn;cases gn
   have hfn:f≠n:=fun z=>by rw[z,hn4]at gf;cases gf
   have gfH:H f=none:=(s1.trans s4).free gf
   have fi5:FI (U7 (I9 ps)) (E7 (I9 ps)) (upd H4 f (.dT [])) pkv:=fi1.mono (s4.trans s5).tups
   refine⟨_,rfl,d,pkv,rfl,hd5,fun ob prs hprs=>?_⟩
   have T6:R1 (upd H4 f (.dT [])) (upd (upd H4 f (.dT [])) d (.frz ob (.dT pkv))):=R1.frz hd5
   have s6:G8 H (upd (upd H4 f (.dT [])) d (.frz ob (.dT pkv))):=((s1.trans s4).trans s5).put gd
   have hd6:upd (upd H4 f (.dT [])) d (.frz ob (.dT pkv)) d=some (.frz ob (.dT pkv)):=G1
   have hn6:upd (upd H4 f (.dT [])) d (.frz ob (.dT pkv)) n=some (.dT nkv):=by rw[I0 hdn.symm];exact s5 _ _ hn4
   have hf6:upd (upd H4 f (.dT [])) d (.frz ob (.dT pkv)) f=some (.dT []):=by rw[I0 hdf.symm,G1]
   have fi6:=fi5.mono T6
   have hprs6:Paired (b3L (upd (upd H4 f (.dT [])) d (.frz ob (.dT pkv)))) prs pkv:=Paired.mapP hprs fun _ _⟨⟨b,e,hb⟩,e2⟩=>⟨⟨b,e,T6 _ _ hb⟩,e2⟩
   have hprl:prs.length=pkv.length:=AF hprs
   have hpkl:=fi6.len
   generalize upd (upd H4 f (.dT [])) d (.frz ob (.dT pkv))=H6 at s6 hd6 hn6 hf6 fi6 hprs6⊢
   refine a8O (d:=d) (o:=ob) (u:= .dT pkv) (ps:=prs) (fun i σ H7=>∃(fkv:List (List Key×V))(v7 v8:Option V),σ=[some (.ref a),some (.ref d),some (.ref n),v3,v4,v5,some (.ref f),v7,v8]/\G8 H H7/\R1 H6 H7/\H7 d=some (.frz ob (.dT pkv))/\H7 n=some (.dT nkv)/\H7 f=some (.dT fkv)/\fkv.length<=i/\∀j kv,j < i->pkv[j]?=some kv->∃x p nm,kv.1=W1 x/\Mk (U7 (I9 ps)) (E7 (I9 ps)) x p/\(p,nm)∈a2M (U7 (I9 ps)) ts/\Y7 fkv (W1 x)=some (.str nm))
    ⟨[],none,none,rfl,s6,R1.refl H6,hd6,hn6,hf6,by simp,fun j kv hj=>by omega⟩ (fun i σ H7 _⟨_,_,_,_,_,_,h,_⟩=>h) ?_ ?_
   ·rintro i kv' pa σ H7 hkv' ⟨fkv,v7,v8,rfl,s7,t7,hd7,hn7,hf7,hfl,hdone⟩ gpa
    obtain⟨kv,hkv,⟨b,eb,hb⟩,ev2⟩:=Paired.get? hprs6 hkv'
    have hi:i < pkv.length:=(List.getElem?_eq_some_iff.mp hkv).1
    have hsub:=fi6.sub kv.1 (AN (f:=(·.1)) (AG hkv))
    obtain⟨x,hxm,ex⟩:=AT.mp hsub
    have hval:=a8r fi6.nd hkv
    rw[<-ex]at hval hb
    obtain⟨t,p',ev,ht,hmk⟩:=fi6.val x _ hval
    obtain⟨k',hk'⟩:=hmk.place
    obtain⟨m,hm⟩:=AV hk'
    have hmt:m < ts.length:=by
     have:=(List.getElem?_eq_some_iff.mp hm).1
     omega
    have hnm:=AG (b3j hm (AU hmt))
    have hnval:=b2F hnv (by rw[hnf];exact hpnd) hnm
    generalize (ts[m]).2.2=nm at hnm hnval
    have s8:G8 H7 (upd H7 pa (.tup [kv'.1,kv'.2])):=(G8.refl H7).new gpa
    refine⟨pa,_,rfl,SqT.of G1,rfl,_,_,rfl,_,_,rfl,rfl,?_⟩
    rw[eb,ev2,ev]at s8⊢
    generalize upd H7 pa (.tup [V.ref b,V.ref t])=H8 at s8⊢
    have hget:D3 H8 n (.ref t) (some (.str nm)):=by
     have h1:=D3.t (k:=kp p') (s8 _ _ hn7) (s8 _ _ (t7 _ _ ht))
     rw[hnval]at h1
     exact h1
    have hf8:=s8 _ _ hf7
    refine⟨_,rfl,_,rfl,n,_,rfl,hget,_,rfl,_,rfl,f,_,rfl,a1L.t (k:=W1 x) hf8 (s8 _ _ (t7 _ _ hb)) (szK (by omega)),?_⟩
    have TD:=R1.dT (kvs':=O0 fkv (W1 x) (.str nm)) hf8
    refine⟨O0 fkv (W1 x) (.str nm),_,_,rfl,(s7.trans s8).put gfH,t7.trans (s8.tups.trans TD),by rw[I0 hdf];exact s8 _ _ hd7,by rw[I0 hfn.symm];exact s8 _ _ hn7,G1,?_,fun j kj hj hkj=>?_⟩
    ·have:=D5 fkv (W1 x) (.str nm)
     omega
    ·by_cases hji:j=i
     ·subst hji
      rw[hkv]at hkj
      cases hkj
      exact⟨x,p',nm,ex.symm,hmk,hnm,by rw[O8,if_pos rfl]⟩
     ·obtain⟨x2,p2,n2,h1,h2,h3,h4⟩:=hdone j kj (by omega) hkj
      by_cases hxx:W1 x2=W1 x
      ·rw[a0J hxx]at h1
       exact⟨x,p',nm,h1,hmk,hnm,by rw[O8,if_pos rfl]⟩
      ·exact⟨x2,p2,n2,h1,h2,h3,by rw[O8,if_neg hxx];exact h4⟩
   ·rintro σ H7 ⟨fkv,v7,v8,rfl,s7,t7,hd7,hn7,hf7,hfl,hdone⟩
    refine⟨_,rfl,q f fkv ts H7 s7 hf7 hks hnn fun x hx=>?_⟩
    have hsome:(Y7 pkv (W1 x)).isSome=true:=by
     rcases AL.mp hx with z | z
     ·exact fi1.has x z
     ·exact hall x z
    cases e:Y7 pkv (W1 x)with
    | none=>rw[e]at hsome;cases hsome
    | some v=>
     obtain⟨kv,hkv,ek⟩:=AT.mp (a9T e)
     obtain⟨j,hj⟩:=AV hkv
     have hjl:=(List.getElem?_eq_some_iff.mp hj).1
     obtain⟨x2,p2,n2,h1,h2,h3,h4⟩:=hdone j kv (by omega) hj
     have:x2=x:=a0J (h1.symm.trans ek)
     subst this
     exact⟨p2,n2,h2,h3,h4⟩
noncomputable def thN (N:Str->Str):Th->V
 | .num n=> .int n
 | .nam y=> .str (N y)
noncomputable def TmV (N:Str->Str) (H:Hp) (v:V) (d:Int×Th):Prop:=∃p,v= .ref p/\H p=some (.tup [.int d.1,thN N d.2])
noncomputable def a8J (N:Str->Str) (H:Hp) (t:Addr) (ts:List (Int×Th)):Prop:=∃vs,H t=some (.tup vs)/\Paired (TmV N H) vs ts
theorem TmV.mono{N:Str->Str}{H H':Hp}(s:R1 H H'){v:V}{d:Int×Th}(h:TmV N H v d):TmV N H' v d:=by
 obtain⟨p,e,h⟩:=h
 exact⟨p,e,s _ _ h⟩
theorem a8J.mono{N:Str->Str}{H H':Hp}(s:R1 H H'){t:Addr}{ts:List (Int×Th)}(h:a8J N H t ts):a8J N H' t ts:=by
 obtain⟨vs,h1,h2⟩:=h
 exact⟨vs,s _ _ h1,Paired.mapP h2 fun _ _ z=>z.mono s⟩
noncomputable def RV (N:Str->Str) (H:Hp) (r:Addr):Rw->Prop
 | .set o ts=>∃t,H r=some (.tup [.str "set",.str (N o),.ref t])/\a8J N H t ts
 | .take o=>H r=some (.tup [.str "take",.str (N o)])
 | .say ts w=>∃t,H r=some (.tup [.str "say",.ref t,a7P (w.map N)])/\a8J N H t ts
 | .need ts=>∃t,H r=some (.tup [.str "need",.ref t])/\a8J N H t ts
 | .ask p w=>H r=some (.tup [.str "ask",.str p,a7P (w.map N)])
 | _=>False
noncomputable def a5W (C:Str->Prop) (ts:List (Int×Th)):Prop:=∀d∈ts,∀y,d.2=Th.nam y->C y
noncomputable def a8t (C:Str->Prop) (w:Option Str):Prop:=∀y,w=some y->C y
noncomputable def a5H (C:Str->Prop):Rw->Prop
 | .set o ts=>C o/\a5W C ts
 | .take o=>C o
 | .say ts w=>a5W C ts/\a8t C w
 | .need ts=>a5W C ts
 | .ask _ w=>a8t C w
 | _=>False
theorem a5H.imp{C D:Str->Prop}(h:∀y,C y->D y){rw:Rw}(u:a5H C rw):a5H D rw:=by
 have hT:∀{ts},a5W C ts->a5W D ts:=fun z d hd y e=>h y (z d hd y e)
 have hO:∀{w},a8t C w->a8t D w:=fun z y e=>h y (z y e)
 cases rw with
 | set o ts=>exact⟨h _ u.1,hT u.2⟩
 | take o=>exact h _ u
 | say ts w=>exact⟨hT u.1,hO u.2⟩
 | need ts=>exact hT u
 | ask p w=>exact hO u
 | _=>exact u
noncomputable def b0Q (fkv:List (List Key×V)) (n:Str) (N:Str->Str) (y:Str):Prop:=Y7 fkv (W1 (n,y))=some (.str (N y))
noncomputable def b4U:Sp:=fun vs H Q _=>∃(n:Str)(th:Th)(f:Addr)(fkv:List (List Key×V))(N:Str->Str),vs=[.str n,thV th,.ref f]/\H f=some (.dT fkv)/\(∀y,th= .nam y->b0Q fkv n N y)/\∀H',G8 H H'->Q (thN N th) H'
theorem b2X(T:Txt K mg):L2.Cl P w K mg base 1 "renamed_thing" ["part","thing","news"] b4U:=by
 refine Cl.of T.d_renamed_thing a3S (fun vs H Q E h=>?_) (fun _ _ _ _ _ _ us hl=>by obtain⟨a,b,c,rfl⟩:=a7l hl;rfl) (fun fa cdv A outer s H vs Q E hr h=>?_)
 ·obtain⟨n,th,f,fkv,N,rfl,_⟩:=h
  rfl
 ·obtain⟨n,th,f,fkv,N,rfl,hf,hN,q⟩:=h
  have hu:=B5 hr
  refine⟨_,(G7 (Y8 (a4g (R4 a1b (by rfl) T.n_isinstance PyProof.Rows.boot_isinstance (G0 (pv 1) (G0 (a3u (v:= .ty "str") (by rfl) T.n_str boot_str rfl) G6))))
    (G9 (R5 (E5 hu (pv 2) (U6 (G0 (pv 0) (G0 (pv 1) G6))) (fun _ _=>rfl)))) U9)
   (G9 (R5 (pv 1)))),?_⟩
  cases th with
  | num k=>
   refine⟨_,rfl,_,_,_,_,rfl,.int k,a7z _,_,rfl,B6 ?_⟩
   exact⟨_,rfl,q H (G8.refl H)⟩
  | nam y=>
   refine⟨_,rfl,_,_,_,_,rfl,.str y,a5m _ _,_,rfl,a0b ?_⟩
   refine⟨_,rfl,_,rfl,_,rfl,F2,fun e ge=>?_⟩
   have s1:G8 H (upd H e (.tup [.str n,.str y])):=(G8.refl H).new ge
   have h1:=D3.t (k:=W1 (n,y)) (s1 _ _ hf) (show upd H e (.tup [.str n,.str y]) e=some (.tup ((W1 (n,y)).map kV))from G1)
   rw[hN y rfl]at h1
   exact⟨f,_,rfl,h1,q _ s1⟩
noncomputable def b4o:Sp:=fun vs H Q _=>∃(n:Str)(w:Option Str)(f:Addr)(fkv:List (List Key×V))(N:Str->Str),vs=[.str n,a7P w,.ref f]/\H f=some (.dT fkv)/\a8t (b0Q fkv n N) w/\∀H',G8 H H'->Q (a7P (w.map N)) H'
theorem b3r(T:Txt K mg):L2.Cl P w K mg base 1 "renamed_when" ["part","when","news"] b4o:=by
 refine Cl.of T.d_renamed_when a4u (fun vs H Q E h=>?_) (fun _ _ _ _ _ _ us hl=>by obtain⟨a,b,c,rfl⟩:=a7l hl;rfl) (fun fa cdv A outer s H vs Q E hr h=>?_)
 ·obtain⟨n,w,f,fkv,N,rfl,_⟩:=h
  rfl
 ·obtain⟨n,w,f,fkv,N,rfl,hf,hN,q⟩:=h
  have hu:=B5 hr
  refine⟨_,(G7 (Y8 (a2U (a3T (pv 1)))
    (G9 (R5 a4P)) U9)
   (G9 (R5 (E5 hu (pv 2) (U6 (G0 (pv 0) (G0 (pv 1) G6))) (fun _ _=>rfl))))),?_⟩
  cases w with
  | none=>
   refine⟨_,rfl,_,rfl,a0b ?_⟩
   exact q H (G8.refl H)
  | some y=>
   refine⟨_,rfl,_,rfl,B6 ?_⟩
   refine⟨_,rfl,_,rfl,_,rfl,F2,fun e ge=>?_⟩
   have s1:G8 H (upd H e (.tup [.str n,.str y])):=(G8.refl H).new ge
   have h1:=D3.t (k:=W1 (n,y)) (s1 _ _ hf) (show upd H e (.tup [.str n,.str y]) e=some (.tup ((W1 (n,y)).map kV))from G1)
   rw[hN y rfl]at h1
   exact⟨f,_,rfl,h1,q _ s1⟩
noncomputable def b5H:Sp:=fun vs H Q _=>∃(n:Str)(t:Addr)(ts:List (Int×Th))(f:Addr)(fkv:List (List Key×V))(N:Str->Str),vs=[.str n,.ref t,.ref f]/\a1c H t ts/\H f=some (.dT fkv)/\a5W (b0Q fkv n N) ts/\∀(t':Addr)(H':Hp),G8 H H'->a8J N H' t' ts->Q (.ref t') H'
theorem b3H(T:Txt K mg):L2.Cl P w K mg base 2 "renamed_sum" ["part","terms","news"] b5H:=by
 have C_renamed_thing:=b2X (P:=P) (w:=w) (base:=base) T
 refine Cl.of T.d_renamed_sum a4Q (fun vs H Q E h=>?_) (fun _ _ _ _ _ _ us hl=>by obtain⟨a,b,c,rfl⟩:=a7l hl;rfl) (fun fa cdv A outer s H vs Q E hr h=>?_)
 ·obtain⟨n,t,ts,f,fkv,N,rfl,_⟩:=h
  rfl
 ·obtain⟨n,t,ts,f,fkv,N,rfl,⟨⟨vs,ht,hts⟩,hlo,hhi⟩,hf,hN,q⟩:=h
  have hvl:vs.length=ts.length:=AF hts
  refine⟨_,(G9 (R5 (W3 Z3 (by rfl) T.n_tuple boot_tuple (G0 (a2G (M:=["sign","thing","part","news"]) (ρ:=[none,none,some 0,some 2]) (J0 a0q) ["part","terms","news"] ⟨rfl,by decide +kernel,by decide +kernel,by decide +kernel,rfl,by decide +kernel,by decide +kernel⟩ (a0d (pv 1)) (fun _ _ _ _ _ _=>(a3c (K:=K) (n:=2) rfl rfl (J8 (J5 (i:=0) (show(["sign","thing","part","news"]:List Str).Nodup by decide +kernel) rfl (Or.inl rfl)) (J8 (J5 (i:=1) (show(["sign","thing","part","news"]:List Str).Nodup by decide +kernel) rfl (Or.inl rfl)) Z9)))) (fun _ _ _ _ _ _=>a1y) (fun _ _ _ _ _ _=>(U6 (G0 (pv 0) (G0 (W4 C_renamed_thing hr (by rfl) (G0 (pv 2) (G0 (pv 1) (G0 (pv 3) G6)))) G6))))) G6)))),?_⟩
  refine⟨_,rfl,t,rfl,⟨_,SqT.of ht⟩,fun D hD=>?_⟩
  refine a3E (K:=K) (a:=t) (xs:=vs) (fun i σ H2=>∃(v0 v1:Option V)(us:List V),σ=[v0,v1,some (.str n),some (.ref f)]/\G8 H H2/\H2 D=some (.lst us)/\Paired (TmV N H2) us (ts.take i)) ⟨_,_,[],rfl,(G8.refl H).new hD,G1,by rw[List.take_zero];exact .nil⟩ (fun i σ2 H2⟨_,_,_,_,s2,_⟩=>SqT.of (s2 _ _ ht)) ?_ ?_
  ·rintro i x σ H2 hx ⟨v0,v1,us,rfl,s2,hD2,hus⟩
   obtain⟨d,hd,c,ex,hc,_⟩:=Paired.get? hts hx
   subst ex
   have hul:us.length<=6:=by rw[AF hus,BD];omega
   refine⟨c,_,rfl,SqT.of (s2 _ _ hc),rfl,_,_,rfl,_,_,rfl,rfl,?_⟩
   refine⟨_,rfl,_,rfl,_,rfl,_,rfl,n,d.2,f,fkv,N,rfl,s2 _ _ hf,fun y e=>hN d (AG hd) y e,fun H3 s3=>?_⟩
   refine⟨F2,fun e ge=>?_⟩
   have s4:G8 H2 (upd H3 e (.tup [.int d.1,thN N d.2])):=s3.new ge
   have hD4:=s4 _ _ hD2
   refine⟨us,hD4,J6 (by omega),_,_,us++[.ref e],rfl,(s2.trans s4).put hD,G1,?_⟩
   rw[J7 hd]
   have TL:=R1.lst (ys:=us++[.ref e]) hD4
   exact Paired.snoc (Paired.mapP hus fun _ _ z=>z.mono (s4.tups.trans TL)) ⟨e,rfl,TL _ _ G1⟩
  ·rintro σ H2 ⟨v0,v1,us,rfl,s2,hD2,hus⟩
   rw[hvl,AY]at hus
   refine⟨D,_,rfl,.inl ⟨SqL.of hD2,fun u gu=>?_⟩⟩
   exact q u _ (s2.new gu) ⟨us,G1,Paired.mapP hus fun _ _ z=>z.mono (R1.new gu)⟩
noncomputable def b5L:Sp:=fun vs H Q _=>∃(n:Str)(r:Addr)(rw:Rw)(f:Addr)(fkv:List (List Key×V))(N:Str->Str),vs=[.str n,.ref r,.ref f]/\a0Q H r rw/\H f=some (.dT fkv)/\a5H (b0Q fkv n N) rw/\∀(r':Addr)(H':Hp),G8 H H'->RV N H' r' rw->Q (.ref r') H'
theorem b4T(T:Txt K mg):L2.Cl P w K mg base 3 "renamed_row" ["part","row","news"] b5L:=by
 have C_renamed_sum:=b3H (P:=P) (w:=w) (base:=base) T
 have C_renamed_when:=b3r (P:=P) (w:=w) (base:=base) T
 refine Cl.of T.d_renamed_row a2l (fun vs H Q E h=>?_) (fun _ _ _ _ _ _ us hl=>by obtain⟨a,b,c,rfl⟩:=a7l hl;rfl) (fun fa cdv A outer s H vs Q E hr h=>?_)
 ·obtain⟨n,r,rw,f,fkv,N,rfl,_⟩:=h
  rfl
 ·obtain⟨n,r,rw,f,fkv,N,rfl,hra,hf,hN,q⟩:=h
  have hu:=B5 hr
  refine⟨_,(G7 (J3 (i:=3) a2l.nd rfl (Or.inl rfl) (J2 U0 (pv 1) G2 (fun _ _=>rfl)))
   (G7 (Y8 (R0 F3 (pv 3) U5 (U4 _))
    (G9 (R5 (U6 (G0 U5 (G0 (E5 hu (pv 2) (U6 (G0 (pv 0) (G0 (J2 U0 (pv 1) G2 (fun _ _=>rfl)) G6))) (fun _ _=>rfl)) (G0 (W4 C_renamed_sum hr (by rfl) (G0 (pv 0) (G0 (J2 U0 (pv 1) G2 (fun _ _=>rfl)) (G0 (pv 2) G6)))) G6)))))) U9)
   (G7 (Y8 (R0 F3 (pv 3) U5 (U4 _))
    (G9 (R5 (U6 (G0 U5 (G0 (E5 hu (pv 2) (U6 (G0 (pv 0) (G0 (J2 U0 (pv 1) G2 (fun _ _=>rfl)) G6))) (fun _ _=>rfl)) G6))))) U9)
   (G7 (Y8 (R0 F3 (pv 3) U5 (U4 _))
    (G9 (R5 (U6 (G0 U5 (G0 (W4 C_renamed_sum hr (by rfl) (G0 (pv 0) (G0 (J2 U0 (pv 1) G2 (fun _ _=>rfl)) (G0 (pv 2) G6)))) (G0 (W4 C_renamed_when hr (by rfl) (G0 (pv 0) (G0 (J2 U0 (pv 1) G2 (fun _ _=>rfl)) (G0 (pv 2) G6)))) G6)))))) U9)
   (G7 (Y8 (R0 F3 (pv 3) U5 (U4 _))
    (G9 (R5 (U6 (G0 U5 (G0 (W4 C_renamed_sum hr (by rfl) (G0 (pv 0) (G0 (J2 U0 (pv 1) G2 (fun _ _=>rfl)) (G0 (pv 2) G6)))) G6))))) U9)
   (G9 (R5 (U6 (G0 U5 (G0 (J2 U0 (pv 1) G2 (fun _ _=>rfl)) (G0 (W4 C_renamed_when hr (by rfl) (G0 (pv 0) (G0 (J2 U0 (pv 1) G2 (fun _ _=>rfl)) (G0 (pv 2) G6)))) G6))))))))))),?_⟩
  have get:∀{H2:Hp}{y:Str}{e:Addr},G8 H H2->H2 e=some (.tup [.str n,.str y])->b0Q fkv n N y->D3 H2 f (.ref e) (some (.str (N y))):=fun{H2 y e}s2 he hn=>by
   have h1:=D3.t (k:=W1 (n,y)) (s2 _ _ hf) he
   rw[hn]at h1
   exact h1
  cases rw with
  | set o ts=>
   obtain⟨t,hrt,hts⟩:=hra
   refine⟨_,rfl,r,_,_,_,rfl,rfl,SqT.of hrt,rfl,?_⟩
   refine⟨_,rfl,rfl,_,rfl,a0t ?_⟩
   refine⟨_,rfl,_,rfl,_,rfl,r,_,_,_,rfl,rfl,SqT.of hrt,rfl,F2,fun e ge=>?_⟩
   have s1:G8 H (upd H e (.tup [.str n,.str o])):=(G8.refl H).new ge
   refine⟨f,_,rfl,get s1 G1 hN.1,?_⟩
   refine⟨_,rfl,_,rfl,r,_,_,_,rfl,rfl,SqT.of (s1 _ _ hrt),rfl,_,rfl,?_⟩
   refine⟨n,t,ts,f,fkv,N,rfl,hts.mono s1.tups,s1 _ _ hf,hN.2,fun t' H2 s2 ht'=>?_⟩
   refine⟨a0A,fun r' gr=>?_⟩
   exact q r' _ ((s1.trans s2).new gr) ⟨t',G1,ht'.mono (R1.new gr)⟩
  | take o=>
   have hrt:H r=some (.tup [.str "take",.str o]):=hra
   refine⟨_,rfl,r,_,_,_,rfl,rfl,SqT.of hrt,rfl,?_⟩
   refine⟨_,rfl,rfl,_,rfl,Z4 (show¬("take":Str)="set" by decide +kernel) ?_⟩
   refine⟨_,rfl,rfl,_,rfl,a0t ?_⟩
   refine⟨_,rfl,_,rfl,_,rfl,r,_,_,_,rfl,rfl,SqT.of hrt,rfl,F2,fun e ge=>?_⟩
   have s1:G8 H (upd H e (.tup [.str n,.str o])):=(G8.refl H).new ge
   refine⟨f,_,rfl,get s1 G1 hN,?_⟩
   refine⟨F2,fun r' gr=>?_⟩
   exact q r' _ (s1.new gr) G1
  | say ts w=>
   obtain⟨t,hrt,hts⟩:=hra
   refine⟨_,rfl,r,_,_,_,rfl,rfl,SqT.of hrt,rfl,?_⟩
   refine⟨_,rfl,rfl,_,rfl,Z4 (show¬("say":Str)="set" by decide +kernel) ?_⟩
   refine⟨_,rfl,rfl,_,rfl,Z4 (show¬("say":Str)="take" by decide +kernel) ?_⟩
   refine⟨_,rfl,rfl,_,rfl,a0t ?_⟩
   refine⟨_,rfl,_,rfl,r,_,_,_,rfl,rfl,SqT.of hrt,rfl,_,rfl,?_⟩
   refine⟨n,t,ts,f,fkv,N,rfl,hts,hf,hN.1,fun t' H2 s2 ht'=>?_⟩
   refine⟨_,rfl,_,rfl,r,_,_,_,rfl,rfl,SqT.of (s2 _ _ hrt),rfl,_,rfl,?_⟩
   refine⟨n,w,f,fkv,N,rfl,s2 _ _ hf,hN.2,fun H3 s3=>?_⟩
   refine⟨a0A,fun r' gr=>?_⟩
   exact q r' _ ((s2.trans s3).new gr) ⟨t',G1,ht'.mono (s3.new gr).tups⟩
  | need ts=>
   obtain⟨t,hrt,hts⟩:=hra
   refine⟨_,rfl,r,_,_,_,rfl,rfl,SqT.of hrt,rfl,?_⟩
   refine⟨_,rfl,rfl,_,rfl,Z4 (show¬("need":Str)="set" by decide +kernel) ?_⟩
   refine⟨_,rfl,rfl,_,rfl,Z4 (show¬("need":Str)="take" by decide +kernel) ?_⟩
   refine⟨_,rfl,rfl,_,rfl,Z4 (show¬("need":Str)="say" by decide +kernel) ?_⟩
   refine⟨_,rfl,rfl,_,rfl,a0t ?_⟩
   refine⟨_,rfl,_,rfl,r,_,_,_,rfl,rfl,SqT.of hrt,rfl,_,rfl,?_⟩
   refine⟨n,t,ts,f,fkv,N,rfl,hts,hf,hN,fun t' H2 s2 ht'=>?_⟩
   refine⟨F2,fun r' gr=>?_⟩
   exact q r' _ (s2.new gr) ⟨t',G1,ht'.mono (R1.new gr)⟩
  | ask p w=>
   have hrt:H r=some (.tup [.str "ask",.str p,a7P w]):=hra
   refine⟨_,rfl,r,_,_,_,rfl,rfl,SqT.of hrt,rfl,?_⟩
   refine⟨_,rfl,rfl,_,rfl,Z4 (show¬("ask":Str)="set" by decide +kernel) ?_⟩
   refine⟨_,rfl,rfl,_,rfl,Z4 (show¬("ask":Str)="take" by decide +kernel) ?_⟩
   refine⟨_,rfl,rfl,_,rfl,Z4 (show¬("ask":Str)="say" by decide +kernel) ?_⟩
   refine⟨_,rfl,rfl,_,rfl,Z4 (show¬("ask":Str)="need" by decide +kernel) ?_⟩
   refine⟨_,rfl,r,_,_,_,rfl,rfl,SqT.of hrt,rfl,?_⟩
   refine⟨_,rfl,_,rfl,r,_,_,_,rfl,rfl,SqT.of hrt,rfl,_,rfl,?_⟩
   refine⟨n,w,f,fkv,N,rfl,hf,hN,fun H3 s3=>?_⟩
   refine⟨a0A,fun r' gr=>?_⟩
   exact q r' _ (s3.new gr) G1
  | _=>exact hN.elim
noncomputable def a8R (pls:List Pl):List Kk:=(U7 pls).map (·.1)++(E7 pls).map (·.1)
noncomputable def b2r:Option V->Str
 | some (.str s)=>s
 | _=>""
noncomputable def a0S (r:Rw):Bool:= !decide (R8 r="ask")
noncomputable def E8 (c:Bool) (r:Rw):Bool:=c || a0S r
theorem a8z{c:Bool}{r:Rw}(h:E8 c r=false):a0S r=false:=by
 unfold E8 at h
 cases c with
 | true=>cases h
 | false=>exact h
noncomputable def quiet (c:Str->Bool) (ps:List Pt):List Pt:=ps.map fun pt=>(pt.1,pt.2.filter (E8 (c pt.1)))
theorem a5q{r:Rw}(h:a0S r=false):ownOf r=none/\E9 r=none/\E2 r=[]:=by
 by_cases hk:R8 r="ask"
 ·cases r with
  | ask p w=>exact⟨rfl,rfl,rfl⟩
  | _=>simp only[R8]at hk;exact absurd hk (by decide +kernel)
 ·unfold a0S at h
  rw[AW hk]at h
  cases h
theorem a7D{α β:Type}{p:α->Bool}{f:α->Option β}(h:∀x,p x=false->f x=none):∀l:List α,(l.filter p).filterMap f=l.filterMap f
 | []=>rfl
 | x::r=>by
  have ih:=a7D h r
  cases e:p x with
  | true=>rw[BM e,AS,AS,ih]
  | false=>rw[BJ (by rw[e];decide),AS,h x e,ih]
theorem a6o{α β:Type}{p:α->Bool}{f:α->List β}(h:∀x,p x=false->f x=[]):∀l:List α,(l.filter p).flatMap f=l.flatMap f
 | []=>rfl
 | x::r=>by
  have ih:=a6o h r
  cases e:p x with
  | true=>rw[BM e,BC,BC,ih]
  | false=>rw[BJ (by rw[e];decide),BC,h x e,ih,List.nil_append]
theorem a2k(c:Str->Bool)(ps:List Pt):(quiet c ps).map (·.1)=ps.map (·.1):=by
 unfold quiet
 rw[List.map_map]
 rfl
theorem a7S{α:Type}{f:Rw->List α}(h:∀r,a0S r=false->f r=[])(c:Str->Bool)(ps:List Pt):((quiet c ps).flatMap fun pt=>(pt.2.flatMap f).map fun a=>(pt.1,a))=ps.flatMap fun pt=>(pt.2.flatMap f).map fun a=>(pt.1,a):=by
 unfold quiet
 rw[List.flatMap_map]
 congr 1
 funext pt
 show((pt.2.filter (E8 (c pt.1))).flatMap f).map _=_
 rw[a6o fun r hr=>h r (a8z hr)]
theorem b3A(pls:List Pl):Z2 pls=(pls.flatMap fun x=>(E2 x.2.2).map fun a=>(x.1,a)).map fun y=>((y.1,y.2.2.2),(y.2.1,y.2.2.1)):=by
 unfold Z2
 rw[List.map_flatMap]
 congr 1
 funext x
 rw[List.map_map]
 rfl
theorem a9D:∀pls:List Pl,Y9 pls=(pls.flatMap fun x=>((E9 x.2.2).toList).map fun a=>(x.1,a)).map fun y=>((y.1,y.2.2),y.2.1)
 | []=>rfl
 | x::r=>by
  have ih:=a9D r
  have e:Y9 (x::r)=Y9 [x]++Y9 r:=by rw[<-a7m];rfl
  rw[e,BC,List.map_append,<-ih]
  congr 1
  unfold Y9
  cases hg:E9 x.2.2 with
  | none=>simp[hg]
  | some q=>simp[hg]
theorem a2D(c:Str->Bool)(ps:List Pt):Z2 (I9 (quiet c ps))=Z2 (I9 ps):=by
 rw[b3A,b3A,a1H,a1H,a7S fun r h=>(a5q h).2.2]
theorem a2z(c:Str->Bool)(ps:List Pt):Y9 (I9 (quiet c ps))=Y9 (I9 ps):=by
 rw[a9D,a9D,a1H (fun r=>(E9 r).toList),a1H (fun r=>(E9 r).toList),a7S fun r h=>by rw[(a5q h).2.1];rfl]
theorem a2x(c:Str->Bool)(ps:List Pt):(U7 (I9 (quiet c ps))).map (·.1)=(U7 (I9 ps)).map (·.1):=by
 rw[a5G,a5G]
 unfold quiet
 rw[List.flatMap_map]
 congr 1
 funext pt
 show(a4h (pt.2.filter (E8 (c pt.1)))).map _=_
 unfold a4h
 rw[a7D fun r h=>(a5q (a8z h)).1]
theorem a6A(c:Str->Bool)(ps:List Pt):E7 (I9 (quiet c ps))=E7 (I9 ps):=by
 unfold E7
 rw[a2D,a2z]
theorem a9j(c:Str->Bool)(ps:List Pt):a8R (I9 (quiet c ps))=a8R (I9 ps):=by
 unfold a8R
 rw[a2x,a6A]
theorem a1u{c:Str->Bool}{ps:List Pt}{pt:Pt}(h:pt∈quiet c ps):∃rs,(pt.1,rs)∈ps/\pt.2=rs.filter (E8 (c pt.1)):=by
 unfold quiet at h
 obtain⟨q,hq,e⟩:=AT.mp h
 exact⟨q.2,by rw[<-e];exact hq,by rw[<-e]⟩
theorem a6a(c:Str->Bool):∀ps:List Pt,(I9 (quiet c ps)).length<=(I9 ps).length
 | []=>AH _
 | pt::r=>by
  have ih:=a6a c r
  have e1:I9 (quiet c (pt::r))=W6 pt.1 (pt.2.filter (E8 (c pt.1)))++I9 (quiet c r):=rfl
  have e2:I9 (pt::r)=W6 pt.1 pt.2++I9 r:=rfl
  rw[e1,e2,List.length_append,List.length_append,F8,F8]
  have:=List.length_filter_le (E8 (c pt.1)) pt.2
  omega
theorem a6d(c:Str->Bool){ps:List Pt}(n:D7 (I9 ps)):D7 (I9 (quiet c ps)):=by
 obtain⟨h1,h2,h3,h4,h5,h6,h7⟩:=n
 refine⟨by rw[a2x,a2D];exact h1,by rw[a2z];exact h2,by rw[a2D,a2z];exact h3,by rw[a2z,a2x,a2D];exact h4,by rw[a6A];exact h5,Nat.le_trans (a6a c ps) h6,fun x hx=>?_⟩
 obtain⟨rs,hrs,hrw⟩:=a0n.mp hx
 obtain⟨rs',hm,e⟩:=a1u hrs
 have e:rs=rs'.filter (E8 (c x.1)):=e
 have hr:x.2.2∈rs':=by
  have:=AG hrw
  rw[e]at this
  exact(List.mem_filter.mp this).1
 obtain⟨k,hk⟩:=AV hr
 exact h7 (x.1,k,x.2.2) (a0n.mpr ⟨rs',hm,hk⟩)
theorem a3V(c:Str->Bool){ps:List Pt}(f:M7 ps):M7 (quiet c ps):=by
 refine⟨by rw[a2k];exact f.nd,by unfold quiet;rw[List.length_map];exact f.hi,fun pt hpt=>?_⟩
 obtain⟨rs,hm,e⟩:=a1u hpt
 rw[e]
 exact Nat.le_trans (List.length_filter_le _ _) (f.rows _ hm)
noncomputable def a0x (r:Rw):Bool:=match r with
 | .set _ _=>true
 | .take _=>true
 | .say _ _=>true
 | .need _=>true
 | _=>false
noncomputable def a3e:Rw->Option Str
 | .bring m _=>some m
 | _=>none
noncomputable def lay (ps:List Pt):Nat->List Pl->List Str->List Pl->List Pl
 | 0,_,_,o=>o
 | _+1,[],_,o=>o
 | k+1,x::t,b,o=>
  if a0x x.2.2=true then lay ps k t b (o++[x])
  else match a3e x.2.2 with
   | some m=>if m∈b then lay ps k t b o else lay ps k (W6 m (R9 ps m)++t) (b++[m]) o
   | none=>lay ps k t b o
noncomputable def a2J (ps:List Pt) (b:List Str):Nat:=((ps.filter fun pt=>!decide (pt.1∈b)).map fun pt=>pt.2.length).sum
theorem b0k:∀(ps:List Pt)(b:List Str)(m:Str),a2J ps (b++[m])<=a2J ps b
 | [],b,m=>AH _
 | pt::r,b,m=>by
  have ih:=b0k r b m
  unfold a2J at ih⊢
  by_cases h1:pt.1∈b
  ·rw[BJ (by simp[h1]),BJ (by simp[h1])]
   exact ih
  ·rw[BM (a:=pt) (l:=r) (p:=fun pt=>!decide (pt.1∈b)) (by simp[h1]),List.map_cons,List.sum_cons]
   by_cases h2:pt.1=m
   ·rw[BJ (by simp[h2])]
    omega
   ·rw[BM (by simp[h1,h2]),List.map_cons,List.sum_cons]
    omega
theorem a4Z:∀{ps:List Pt}{b:List Str}{m:Str}{rs:List Rw},(m,rs)∈ps->m∉b->a2J ps (b++[m])+rs.length<=a2J ps b
 | [],b,m,rs,h,_=>by simp at h
 | pt::r,b,m,rs,h,hb=>by
  unfold a2J
  rcases List.mem_cons.mp h with e | e
  ·have e1:pt.1=m:=by rw[<-e]
   have e2:pt.2=rs:=by rw[<-e]
   have:=b0k r b m
   unfold a2J at this
   rw[BJ (by simp[e1]),BM (a:=pt) (l:=r) (p:=fun pt=>!decide (pt.1∈b)) (by simp[e1,hb]),List.map_cons,List.sum_cons,e2]
   omega
  ·have ih:=a4Z e hb
   unfold a2J at ih
   by_cases h1:pt.1∈b
   ·rw[BJ (by simp[h1]),BJ (by simp[h1])]
    exact ih
   ·rw[BM (a:=pt) (l:=r) (p:=fun pt=>!decide (pt.1∈b)) (by simp[h1]),List.map_cons,List.sum_cons]
    by_cases h2:pt.1=m
    ·rw[BJ (by simp[h2])]
     omega
    ·rw[BM (by simp[h1,h2]),List.map_cons,List.sum_cons]
     omega
theorem b1s{K:W.Frag}{a:Addr}{xs:List V}{g:TG}{tt:TT}{te:TE}{Q:Hp->Prop}{σ:L2.St}{H:Hp}{D:Addr}(Pv:Nat->L2.St->Hp->Prop)(h0:Pv 0 σ (upd H D (.lst [])))
  (hl:∀i σ2 H2,Pv i σ2 H2->SqT K H2 a xs)
  (hs:∀i x p σ2 H2,xs[i]?=some x->Pv i σ2 H2->H2 p=none->g (.ref p) σ2 (upd H2 p (.tup [.int (i:Int),x])) fun σ4 H4=>tt σ4 H4 fun b H5=>
   if b=true then te σ4 H5 fun y H6=>∃ys,H6 D=some (.lst ys)/\ys.length < sizeLine/\Pv (i+1) σ4 (upd H6 D (.lst (ys++[y])))else Pv (i+1) σ4 H5)
  (hd:∀σ2 H2,Pv xs.length σ2 H2->Q H2):
  ∃W:Nat->Nat->L2.St->Hp->Prop,(∃m,W 0 m σ (upd H D (.lst [])))/\∀i m σ2 H2,W i m σ2 H2->
   ((Ite K a).stop i H2/\Q H2)\/((Ite K a).go i H2/\∃N:L2.St->Hp->Prop,(∀σ' H',N σ' H'->∃m',m' < m/\W (i+1) m' σ' H')/\∀x H3,(Ite K a).yld i H2 x H3->g x σ2 H3 fun σ4 H4=>tt σ4 H4 fun b H5=>
    if b=true then te σ4 H5 fun y H6=>∃ys,H6 D=some (.lst ys)/\ys.length < sizeLine/\N σ4 (upd H6 D (.lst (ys++[y])))else N σ4 H5):=by
 refine a3A xs.length Pv h0 (fun i σ2 H2 hi p=>?_) fun σ2 H2 p=>⟨⟨xs,hl _ _ _ p,rfl⟩,hd _ _ p⟩
 have e:=AU hi
 refine⟨⟨xs,_,hl _ _ _ p,e⟩,fun x H3 hy=>?_⟩
 obtain⟨q,v,hv,hq,rfl,rfl⟩:=hy
 exact hs i v q σ2 H2 (hv xs (hl _ _ _ p)) p hq
noncomputable def b7T:Sp:=fun vs H Q _=>∃(n:Str)(u:Addr)(ws:List V)(rs:List Rw),vs=[.str n,.ref u]/\H u=some (.tup ws)/\a0e H ws rs/\rs.length<=40/\∀(l:Addr)(us:List V)(H':Hp),G8 H H'->H l=none->H' l=some (.lst us.reverse)->Paired (a1E H') us (W6 n rs)->Q (.ref l) H'
theorem b6D(T:Txt K mg):L2.Cl P w K mg base 1 "last_first" ["part","rows"] b7T:=by
 refine Cl.of T.d_last_first a2L (fun vs H Q E h=>?_) (fun _ _ _ _ _ _ us hl=>by obtain⟨a,b,rfl⟩:=a1P hl;rfl) (fun fa cdv A outer s H vs Q E hr h=>?_)
 ·obtain⟨n,u,ws,rs,rfl,_⟩:=h
  rfl
 ·obtain⟨n,u,ws,rs,rfl,hu',hrs,h40,q⟩:=h
  have hwl:ws.length=rs.length:=AF hrs
  refine⟨_,(G7 (a7v (j:=2) (M:=["number","row","part"]) (ρ:=[none,none,some 0]) (J0 a0H) ["part","rows","steps"] ⟨rfl,by decide +kernel,by decide +kernel,by decide +kernel,rfl,by decide +kernel,by decide +kernel⟩ a2L.nd rfl (Or.inl rfl) (a5v (by rfl) T.n_enumerate (G0 (pv 1) G6)) (fun _ _ _ _ _ _=>(a3c (K:=K) (n:=2) rfl rfl (J8 (J5 (i:=0) (show(["number","row","part"]:List Str).Nodup by decide +kernel) rfl (Or.inl rfl)) (J8 (J5 (i:=1) (show(["number","row","part"]:List Str).Nodup by decide +kernel) rfl (Or.inl rfl)) Z9)))) (fun _ _ _ _ _ _=>a1y) (fun _ _ _ _ _ _=>(U6 (G0 (pv 2) (G0 (pv 0) (G0 (pv 1) G6))))))
   (G9 (R5 (b2t rfl (pv 2) (by rfl) T.n_list (by rfl) T.n_reversed)))),?_⟩
  refine⟨_,rfl,u,rfl,⟨_,SqT.of hu'⟩,fun D hD=>?_⟩
  refine b1s (K:=K) (a:=u) (xs:=ws) (fun i σ H2=>∃(v0 v1:Option V)(us:List V),σ=[v0,v1,some (.str n)]/\G8 H H2/\H2 D=some (.lst us)/\Paired (a1E H2) us (W6 n (rs.take i))) ⟨_,_,[],rfl,(G8.refl H).new hD,G1,by rw[List.take_zero];exact .nil⟩ (fun i σ2 H2⟨_,_,_,_,s2,_⟩=>SqT.of (s2 _ _ hu')) ?_ ?_
  ·rintro i x p σ H2 hx ⟨v0,v1,us,rfl,s2,hD2,hus⟩ hp
   obtain⟨rw,hrw,r,er,hra⟩:=Paired.get? hrs hx
   subst er
   have hi:=(List.getElem?_eq_some_iff.mp hrw).1
   have hul:us.length<=40:=by rw[AF hus,F8,BD];omega
   have s3:G8 H2 (upd H2 p (.tup [.int (i:Int),.ref r])):=(G8.refl H2).new hp
   refine⟨p,_,rfl,SqT.of G1,rfl,_,_,rfl,_,_,rfl,rfl,?_⟩
   refine⟨_,rfl,_,rfl,_,rfl,a0A,fun e ge=>?_⟩
   have s4:G8 H2 (upd (upd H2 p (.tup [.int (i:Int),.ref r])) e (.tup [.str n,.int (i:Int),.ref r])):=s3.new ge
   have hD4:=s4 _ _ hD2
   have TL:=R1.lst (ys:=us++[.ref e]) hD4
   refine⟨us,hD4,J6 (by omega),_,_,us++[.ref e],rfl,(s2.trans s4).put hD,G1,?_⟩
   rw[J7 hrw,a4m]
   refine Paired.snoc (Paired.mapP hus fun _ _ z=>z.mono (s4.tups.trans TL)) ⟨e,r,rfl,?_,hra.mono ((s2.trans s4).tups.trans TL)⟩
   rw[BD,Nat.min_eq_left (by omega)]
   exact TL _ _ G1
  ·rintro σ H2 ⟨v0,v1,us,rfl,s2,hD2,hus⟩
   rw[hwl,AY]at hus
   refine⟨_,rfl,D,_,rfl,SqL.of hD2,fun l gl=>?_⟩
   exact q l us _ (s2.new gl) (s2.free gl) G1 (Paired.mapP hus fun _ _ z=>z.mono (R1.new gl))
noncomputable def a7i (kvs:List (Key×V)):List Str:=kvs.filterMap fun kv=>match kv.1 with
 | Sum.inr x=>some x
 | _=>none
theorem a8m(l:List Str):a7i (E3 l)=l:=by
 unfold a7i E3
 induction l with
 | nil=>rfl
 | cons x r ih=>rw[List.map_cons,AS,ih]
noncomputable def muX (ps:List Pt) (bg wt:Addr) (H:Hp):Nat:=match H bg,H wt with
 | some (.dK kvs),some (.lst ws)=>ws.length+a2J ps (a7i kvs)
 | _,_=>0
theorem a6J{ps:List Pt}{bg wt:Addr}{H:Hp}{b:List Str}{ws:List V}(h1:H bg=some (.dK (E3 b)))(h2:H wt=some (.lst ws)):muX ps bg wt H=ws.length+a2J ps b:=by
 unfold muX
 rw[h1,h2]
 show ws.length+a2J ps (a7i (E3 b))=_
 rw[a8m]
theorem inW(rw:Rw):inV (.str (R8 rw)) [.str "set",.str "take",.str "say",.str "need"]=a0x rw:=by
 cases rw<;>(simp only[R8,a0x];decide +kernel)
theorem b2n(ps:List Pt):a2J ps []=(I9 ps).length:=by
 induction ps with
 | nil=>rfl
 | cons pt r ih=>
  have e:I9 (pt::r)=W6 pt.1 pt.2++I9 r:=rfl
  rw[e,List.length_append,F8,<-ih]
  unfold a2J
  rw[BM (by simp),List.map_cons,List.sum_cons]
theorem a9H{ps:List Pt}(f:M7 ps){n:Str}{rs:List Rw}(h:(n,rs)∈ps):(W6 n rs).length+a2J ps [n]<=960:=by
 have h1:=a4Z h (b:=[]) (by simp)
 rw[b2n,List.nil_append]at h1
 have h2:=a1v f.rows
 have:=f.hi
 rw[F8]
 omega
theorem a5P{rw:Rw}(h:¬R8 rw="bring"):a3e rw=none:=by
 cases rw with
 | bring m prs=>exact absurd rfl h
 | _=>rfl
theorem a9r{rw:Rw}{m:Str}{prs:List (Str×Str)}(e:rw= .bring m prs){rs:List Rw}(h:rw∈rs):m∈F4 "bring" rs:=(M6 "bring" m rs).mpr ⟨rw,h,by rw[e];simp[U2]⟩
noncomputable def b5A:Sp:=fun vs H Q _=>∃(a:Addr)(ps:List Pt)(n:Str),vs=[.ref a,.str n]/\O9 H a ps/\M7 ps/\a0g ps/\n∈ps.map (·.1)/\∀(wk:Addr)(us:List V)(H':Hp),G8 H H'->H' wk=some (.lst us)->Paired (a1E H') us (lay ps 960 (W6 n (R9 ps n)) [n] [])->Q (.ref wk) H'
theorem b3V(T:Txt K mg):L2.Cl P w K mg base 2 "work_in_order" ["parts","root"] b5A:=by
 have C_last_first:=b6D (P:=P) (w:=w) (base:=base) T
 refine Cl.of T.d_work_in_order Z5 (fun vs H Q E h=>?_) (fun _ _ _ _ _ _ us hl=>by obtain⟨a,b,rfl⟩:=a1P hl;rfl) (fun fa cdv A outer s H vs Q E hr h=>?_)
 ·obtain⟨a,ps,n,rfl,_⟩:=h
  rfl
 ·obtain⟨a,ps,root,rfl,hpf,hfit,hcl,hroot,q⟩:=h
  have hu:=B5 hr
  have hhi:=hfit.hi
  obtain⟨o,vs,ha,ho,hps⟩:=id hpf
  refine⟨_,(G7 (J3 (i:=2) Z5.nd rfl (Or.inl rfl) (W3 (a2Q rfl) (by rfl) T.n_dict boot_dict (G0 (pv 0) G6)))
   (G7 (J3 (i:=3) Z5.nd rfl (Or.inl rfl) (b3Y (b3a (pv 1) a3s b4O) rfl rfl (List.cons_ne_nil _ _) (by show 1<=15;decide)))
   (G7 (J3 (i:=4) Z5.nd rfl (Or.inl rfl) (W4 C_last_first hr (by rfl) (G0 (pv 1) (G0 (E5 hu (pv 2) (pv 1) (fun _ _=>rfl)) G6))))
   (G7 (J3 (i:=5) Z5.nd rfl (Or.inl rfl) (Y2 G6))
   (G7 (a2b AQ (a7L (pv 4) (fun _=>rfl))
    (G7 (J3 (i:=6) Z5.nd rfl (Or.inl rfl) (a9o PySem.F.plainAttrs_list PySem.F.slot_list_pop PySem.F.type_list_pop a9n (pv 4)))
    (G7 (J3 (i:=7) Z5.nd rfl (Or.inl rfl) (J2 U0 (pv 6) G2 (fun _ _=>rfl)))
    (G9 (Y8 (R0 a6F (J2 U0 (pv 7) G2 (fun _ _=>rfl)) (U6 (G0 U5 (G0 U5 (G0 U5 (G0 U5 G6))))) (by with_unfolding_all rfl))
     (G9 (Y5 (B4 PySem.F.plainAttrs_list PySem.F.slot_list_append PySem.F.type_list_append Z8 (pv 5) (G0 (pv 6) G6)))) (G9 (Y8 (PW.pt (a1D (R0 F3 (J2 U0 (pv 7) G2 (fun _ _=>rfl)) U5 (U4 _)) (a0E (a2U (a3P hu (J2 U0 (pv 7) G2 (fun _ _=>rfl)) (pv 3))))))
      (G7 (M0 hu (pv 3) (J2 U0 (pv 7) G2 (fun _ _=>rfl)) a3s rfl)
      (G9 (Y5 (B4 PySem.F.plainAttrs_list PySem.F.slot_list_extend PySem.F.type_list_extend a6g (pv 4) (G0 (W4 C_last_first hr (by rfl) (G0 (J2 U0 (pv 7) G2 (fun _ _=>rfl)) (G0 (E5 hu (pv 2) (J2 U0 (pv 7) G2 (fun _ _=>rfl)) (fun _ _=>rfl)) G6))) G6))))) U9)))))))
   (G9 (R5 (pv 5)))))))),?_⟩
  obtain⟨qs,g1,g2,g3⟩:=a1f (K:=K) hps
  have hql:qs.length=ps.length:=by
   have:=congrArg List.length g2
   simpa using this
  refine⟨_,rfl,a,o,vs,qs,rfl,ha,ho,g1,(by omega),fun rd grd=>?_⟩
  have s1:G8 H (upd H rd (.dK (M5 qs []))):=(G8.refl H).new grd
  have hrd1:upd H rd (.dK (M5 qs [])) rd=some (.dK (M5 qs [])):=G1
  have hget:∀{H2:Hp}{m:Str}{rs:List Rw},H2 rd=some (.dK (M5 qs []))->(m,rs)∈ps->∃u ws,D3 H2 rd (.str m) (some (.ref u))/\H u=some (.tup ws)/\a0e H ws rs:=fun{H2 m rs}h hm=>by
   obtain⟨u,ws,k1,k2,k3⟩:=g3 m rs hm
   have hg:=D3.k (k:=Sum.inr m) h
   rw[a2w qs [] m (.ref u) (by rw[g2];exact hfit.nd) (.inl k1)]at hg
   exact⟨u,ws,hg,k2,k3⟩
  generalize upd H rd (.dK (M5 qs []))=H1 at s1 hrd1⊢
  intro bg gbg
  refine⟨_,rfl,?_⟩
  refine⟨G1,[(Sum.inr root,.bl true)],rfl,(by show 1<=15;decide),?_⟩
  have s2:G8 H1 (upd (upd H1 bg (.dK [])) bg (.dK (a2j [] [(Sum.inr root,.bl true)]))):=((G8.refl H1).new gbg).put gbg
  have hbg2:upd (upd H1 bg (.dK [])) bg (.dK (a2j [] [(Sum.inr root,.bl true)])) bg=some (.dK (E3 [root])):=G1
  generalize upd (upd H1 bg (.dK [])) bg (.dK (a2j [] [(Sum.inr root,.bl true)]))=H2 at s2 hbg2⊢
  obtain⟨rs0,hm0⟩:=a0I hroot
  have hrd2:=s2 _ _ hrd1
  obtain⟨u0,ws0,hd0,hu0,hr0⟩:=hget hrd2 hm0
  have s02:=s1.trans s2
  refine⟨_,rfl,_,rfl,_,rfl,rd,_,rfl,hd0,?_⟩
  refine⟨root,u0,ws0,rs0,rfl,s02 _ _ hu0,hr0.mono s02.tups,hfit.rows _ hm0,fun wt us0 H3 s3 gwt hwt3 hus0=>?_⟩
  have hrd3:=s3 _ _ hrd2
  have hbg3:=s3 _ _ hbg2
  have gbgH:H bg=none:=s1.free gbg
  have gwtH:H wt=none:=s02.free gwt
  have hbw:bg≠wt:=fun z=>by rw[<-z,hbg2]at gwt;cases gwt
  have hrw:rd≠wt:=fun z=>by rw[<-z,hrd2]at gwt;cases gwt
  have hrb:rd≠bg:=fun z=>by rw[<-z,hrd1]at gbg;cases gbg
  refine⟨a0W,fun wk gwk=>?_⟩
  have s4:G8 H3 (upd H3 wk (.lst [])):=(G8.refl H3).new gwk
  have s03:=s02.trans s3
  have gwkH:H wk=none:=s03.free gwk
  have hwkb:bg≠wk:=fun z=>by rw[<-z,hbg3]at gwk;cases gwk
  have hwkr:rd≠wk:=fun z=>by rw[<-z,hrd3]at gwk;cases gwk
  have hwkt:wt≠wk:=fun z=>by rw[<-z,hwt3]at gwk;cases gwk
  apply a4K
  ·with_reducible_and_instances rfl
  have hro:R9 ps root=rs0:=E4 hfit.nd hm0
  refine a1V (fun σ H4=>∃(todo:List Pl)(b:List Str)(oo:List Pl)(us os:List V)(k:Nat)(v6 v7:Option V),σ=[some (.ref a),some (.str root),some (.ref rd),some (.ref bg),some (.ref wt),some (.ref wk),v6,v7]/\G8 H H4/\H4 rd=some (.dK (M5 qs []))/\H4 bg=some (.dK (E3 b))/\H4 wt=some (.lst us.reverse)/\Paired (a1E H4) us todo/\H4 wk=some (.lst os)/\Paired (a1E H4) os oo/\lay ps k todo b oo=lay ps 960 (W6 root (R9 ps root)) [root] []/\todo.length+a2J ps b<=k/\oo.length+k<=960/\b.Nodup/\(∀x∈b,x∈ps.map (·.1))/\∀x∈todo,∃rs,(x.1,rs)∈ps/\x.2.2∈rs) (fun σ H4=>muX ps bg wt H4)
   ⟨W6 root rs0,[root],[],us0,[],960,_,_,rfl,s03.trans s4,s4 _ _ hrd3,s4 _ _ hbg3,s4 _ _ hwt3,Paired.mapP hus0 fun _ _ z=>z.mono s4.tups,G1,.nil,by rw[hro],a9H hfit hm0,by simp,by simp,fun x hx=>by rw[AD.mp hx];exact hroot,fun x hx=>?_⟩ ?_ ?_
  ·obtain⟨e1,e2⟩:=a0j.mp hx
   exact⟨rs0,by rw[e1];exact hm0,AG e2⟩
  ·rintro σ H4 ⟨todo,b,oo,us,os,k,v6,v7,rfl,s5,hrd5,hbg5,hwt5,hus,hwk5,hos,hlay,hfu,hok,hnd,hbn,htd⟩
   refine⟨_,rfl,_,.inl ⟨_,SqL.of hwt5,rfl⟩,?_⟩
   have hbl:=F5 b _ hnd hbn
   rw[List.length_map]at hbl
   cases hus with
   | nil=>
    refine B6 ?_
    refine⟨_,rfl,q wk os H4 s5 hwk5 ?_⟩
    rw[<-hlay]
    cases k with
    | zero=>exact hos
    | succ k=>exact hos
   | @cons v x us' t hv hus'=>
    obtain⟨c,r,ev,hc,hra⟩:=hv
    subst ev
    rw[show(!((V.ref c::us').reverse).isEmpty)=true by simp]
    refine a0b ?_
    have hlast:((V.ref c::us').reverse)[((V.ref c::us').reverse).length - 1]?=some (.ref c):=by simp
    refine⟨_,rfl,.inl ⟨rfl,_,SqL.of hwt5⟩,wt,_,_,rfl,rfl,hwt5,hlast,?_⟩
    rw[show((V.ref c::us').reverse).dropLast=us'.reverse by simp]
    have hmu:=a6J (ps:=ps) hbg5 hwt5
    rw[BS,List.length_cons]at hmu
    have TW:=R1.lst (ys:=us'.reverse) hwt5
    have s6:G8 H (upd H4 wt (.lst us'.reverse)):=s5.put gwtH
    have hrd6:upd H4 wt (.lst us'.reverse) rd=some (.dK (M5 qs [])):=by rw[I0 hrw];exact hrd5
    have hbg6:upd H4 wt (.lst us'.reverse) bg=some (.dK (E3 b)):=by rw[I0 hbw];exact hbg5
    have hwk6:upd H4 wt (.lst us'.reverse) wk=some (.lst os):=by rw[I0 hwkt.symm];exact hwk5
    have hwt6:upd H4 wt (.lst us'.reverse) wt=some (.lst us'.reverse):=G1
    have hc6:=TW _ _ hc
    have hra6:=hra.mono TW
    have hus6:Paired (a1E (upd H4 wt (.lst us'.reverse))) us' t:=Paired.mapP hus' fun _ _ z=>z.mono TW
    have hos6:Paired (a1E (upd H4 wt (.lst us'.reverse))) os oo:=Paired.mapP hos fun _ _ z=>z.mono TW
    generalize upd H4 wt (.lst us'.reverse)=H6 at s6 hrd6 hbg6 hwk6 hwt6 hc6 hra6 hus6 hos6⊢
    refine⟨_,rfl,c,_,_,_,rfl,rfl,SqT.of hc6,rfl,?_⟩
    obtain⟨x1,rs1,hrt⟩:=hra6.kind
    have z0:atI (V.str (R8 x.2.2)::x1::rs1) 0=some (.str (R8 x.2.2)):=W9 (j:=0) rfl
    obtain⟨k,rfl⟩:∃k',k=k'+1:=⟨k - 1,by rw[List.length_cons]at hfu;omega⟩
    rw[List.length_cons]at hfu
    have htl:us'.length=t.length:=AF hus'
    have hol:os.length=oo.length:=AF hos
    have htd':∀y∈t,∃rs,(y.1,rs)∈ps/\y.2.2∈rs:=fun y hy=>htd y (AK _ hy)
    refine⟨_,rfl,r,_,_,_,rfl,rfl,SqT.of hrt,z0,(by show 4<=sizeLine;decide),fun c4 gc4=>?_⟩
    have s7:G8 H6 (upd H6 c4 (.tup [.str "set",.str "take",.str "say",.str "need"])):=(G8.refl H6).new gc4
    refine⟨c4,_,rfl,.inr (SqT.of G1),rfl,rfl,_,rfl,?_⟩
    rw[if_neg (by decide),inW]
    generalize upd H6 c4 (.tup [.str "set",.str "take",.str "say",.str "need"])=H7 at s7⊢
    have s67:=s6.trans s7
    have hrd7:=s7 _ _ hrd6
    have hbg7:=s7 _ _ hbg6
    have hwk7:=s7 _ _ hwk6
    have hwt7:=s7 _ _ hwt6
    have hus7:Paired (a1E H7) us' t:=Paired.mapP hus6 fun _ _ z=>z.mono s7.tups
    have hos7:Paired (a1E H7) os oo:=Paired.mapP hos6 fun _ _ z=>z.mono s7.tups
    by_cases hw:a0x x.2.2=true
    ·rw[hw]
     refine a0b ?_
     refine⟨_,rfl,.inl ⟨rfl,_,SqL.of hwk7⟩,_,rfl,wk,_,_,rfl,rfl,hwk7,J6 (by omega),?_⟩
     have TK:=R1.lst (ys:=os++[.ref c]) hwk7
     have hbg8:upd H7 wk (.lst (os++[.ref c])) bg=some (.dK (E3 b)):=by rw[I0 hwkb];exact hbg7
     have hwt8:upd H7 wk (.lst (os++[.ref c])) wt=some (.lst us'.reverse):=by rw[I0 hwkt];exact hwt7
     refine⟨⟨t,b,oo++[x],us',os++[.ref c],k,_,_,rfl,s67.put gwkH,by rw[I0 hwkr];exact hrd7,hbg8,hwt8,Paired.mapP hus7 fun _ _ z=>z.mono TK,G1,Paired.snoc (Paired.mapP hos7 fun _ _ z=>z.mono TK) ⟨c,r,rfl,TK _ _ (s7 _ _ hc6),hra6.mono (s7.tups.trans TK)⟩,?_,by omega,by rw[List.length_append,List.length_singleton];omega,hnd,hbn,htd'⟩,?_⟩
     ·rw[<-hlay]
      show _=lay ps (k+1) (x::t) b oo
      rw[lay,if_pos hw]
     ·show muX ps bg wt _ < muX ps bg wt H4
      rw[a6J hbg8 hwt8,hmu,BS]
      omega
    ·have hw':a0x x.2.2=false:=by simpa using hw
     rw[hw']
     refine B6 ?_
     have same:lay ps (k+1) (x::t) b oo=lay ps k t b oo->(∃(todo:List Pl)(b:List Str)(oo:List Pl)(us os:List V)(k:Nat)(v6 v7:Option V),[some (V.ref a),some (.str root),some (.ref rd),some (.ref bg),some (.ref wt),some (.ref wk),some (.ref c),some (.ref r)]=[some (.ref a),some (.str root),some (.ref rd),some (.ref bg),some (.ref wt),some (.ref wk),v6,v7]/\G8 H H7/\H7 rd=some (.dK (M5 qs []))/\H7 bg=some (.dK (E3 b))/\H7 wt=some (.lst us.reverse)/\Paired (a1E H7) us todo/\H7 wk=some (.lst os)/\Paired (a1E H7) os oo/\lay ps k todo b oo=lay ps 960 (W6 root (R9 ps root)) [root] []/\todo.length+a2J ps b<=k/\oo.length+k<=960/\b.Nodup/\(∀x∈b,x∈ps.map (·.1))/\∀x∈todo,∃rs,(x.1,rs)∈ps/\x.2.2∈rs)/\muX ps bg wt H7 < muX ps bg wt H4:=fun e=>by
      refine⟨⟨t,b,oo,us',os,k,_,_,rfl,s67,hrd7,hbg7,hwt7,hus7,hwk7,hos7,by rw[<-e];exact hlay,by omega,by omega,hnd,hbn,htd'⟩,?_⟩
      rw[a6J hbg7 hwt7,hmu,BS]
      omega
     by_cases hkb:R8 x.2.2="bring"
     ·obtain⟨m,prs,em⟩:∃m prs,x.2.2= .bring m prs:=by
       cases e:x.2.2 with
       | bring m prs=>exact⟨m,prs,rfl⟩
       | _=>rw[e]at hkb;simp only[R8]at hkb;exact absurd hkb (by decide +kernel)
      rw[em]at hra6
      obtain⟨t',hrt',_⟩:=hra6
      have hrt7:=s7 _ _ hrt'
      refine⟨_,rfl,r,_,_,_,rfl,rfl,SqT.of hrt7,rfl,rfl,_,rfl,a0t ?_⟩
      refine⟨_,rfl,r,_,_,_,rfl,rfl,SqT.of hrt7,rfl,_,rfl,bg,_,rfl,D3.k (k:=Sum.inr m) hbg7,?_⟩
      refine⟨_,rfl,?_⟩
      rw[a6j]
      by_cases hmb:m∈b
      ·rw[decide_eq_true hmb]
       refine B6 ?_
       refine same ?_
       rw[lay,if_neg hw,em]
       show(if m∈b then _ else _)=_
       rw[if_pos hmb]
      ·rw[AW hmb]
       refine a0b ?_
       obtain⟨rsx,hxm,hxr⟩:=htd x AM
       have hmN:m∈ps.map (·.1):=by
        refine hcl x.1 (AN (f:=(·.1)) hxm) m ?_
        unfold k1
        rw[E4 hfit.nd hxm]
        exact a9r em hxr
       obtain⟨rm,hmm⟩:=a0I hmN
       have hadd:a0y b m=b++[m]:=by unfold a0y;rw[if_neg hmb]
       have hlen:=a4Z hmm hmb
       refine⟨_,rfl,_,rfl,r,_,_,_,rfl,rfl,SqT.of hrt7,rfl,bg,_,rfl,a1L.k (k:=Sum.inr m) hbg7 (J6 (by rw[a3j];omega)),?_⟩
       rw[a5b,hadd]
       have TB:R1 H7 (upd H7 bg (.dK (E3 (b++[m])))):=R1.dK hbg7
       have s8:G8 H (upd H7 bg (.dK (E3 (b++[m])))):=s67.put gbgH
       have hbg8:upd H7 bg (.dK (E3 (b++[m]))) bg=some (.dK (E3 (b++[m]))):=G1
       have hrd8:upd H7 bg (.dK (E3 (b++[m]))) rd=some (.dK (M5 qs [])):=by rw[I0 hrb];exact hrd7
       have hwt8:upd H7 bg (.dK (E3 (b++[m]))) wt=some (.lst us'.reverse):=by rw[I0 hbw.symm];exact hwt7
       have hwk8:upd H7 bg (.dK (E3 (b++[m]))) wk=some (.lst os):=by rw[I0 hwkb.symm];exact hwk7
       have hus8:Paired (a1E (upd H7 bg (.dK (E3 (b++[m]))))) us' t:=Paired.mapP hus7 fun _ _ z=>z.mono TB
       have hos8:Paired (a1E (upd H7 bg (.dK (E3 (b++[m]))))) os oo:=Paired.mapP hos7 fun _ _ z=>z.mono TB
       have hrt8:=TB _ _ hrt7
       generalize upd H7 bg (.dK (E3 (b++[m])))=H8 at TB s8 hbg8 hrd8 hwt8 hwk8 hus8 hos8 hrt8⊢
       obtain⟨um,wm,hdm,hum,hrm⟩:=hget hrd8 hmm
       have hr40:=hfit.rows _ hmm
       refine⟨_,rfl,.inl ⟨rfl,_,SqL.of hwt8⟩,_,rfl,r,_,_,_,rfl,rfl,SqT.of hrt8,rfl,_,rfl,_,rfl,r,_,_,_,rfl,rfl,SqT.of hrt8,rfl,rd,_,rfl,hdm,?_⟩
       refine⟨m,um,wm,rm,rfl,s8 _ _ hum,hrm.mono s8.tups,hr40,fun l us2 H9 s9 gl hl9 hus2=>?_⟩
       have hwt9:=s9 _ _ hwt8
       have hul2:us2.length=rm.length:=by rw[AF hus2,F8]
       refine⟨wt,l,_,_,rfl,rfl,hwt9,hl9,Nat.le_of_lt (szK (by rw[BS,BS];omega)),?_⟩
       rw[<-List.reverse_append]
       have TE':=R1.lst (ys:=(us2++us').reverse) hwt9
       have hbg10:upd H9 wt (.lst (us2++us').reverse) bg=some (.dK (E3 (b++[m]))):=by rw[I0 hbw];exact s9 _ _ hbg8
       have hwt10:upd H9 wt (.lst (us2++us').reverse) wt=some (.lst (us2++us').reverse):=G1
       refine⟨⟨W6 m rm++t,b++[m],oo,us2++us',os,k,_,_,rfl,(s8.trans s9).put gwtH,by rw[I0 hrw];exact s9 _ _ hrd8,hbg10,hwt10,a2W (Paired.mapP hus2 fun _ _ z=>z.mono TE') (Paired.mapP hus8 fun _ _ z=>z.mono (s9.tups.trans TE')),by rw[I0 hwkt.symm];exact s9 _ _ hwk8,Paired.mapP hos8 fun _ _ z=>z.mono (s9.tups.trans TE'),?_,?_,by omega,?_,fun y hy=>?_,fun y hy=>?_⟩,?_⟩
       ·rw[<-hlay]
        show _=lay ps (k+1) (x::t) b oo
        rw[lay,if_neg hw,em]
        show _=(if m∈b then _ else _)
        rw[if_neg hmb,E4 hfit.nd hmm]
       ·rw[List.length_append,F8]
        omega
       ·exact AO.mpr ⟨hnd,by simp,fun y hy z hz w=>hmb (by rw[<-AD.mp hz,<-w];exact hy)⟩
       ·rcases AL.mp hy with z | z
        ·exact hbn y z
        ·rw[AD.mp z];exact hmN
       ·rcases AL.mp hy with z | z
        ·obtain⟨e1,e2⟩:=a0j.mp z
         exact⟨rm,by rw[e1];exact hmm,AG e2⟩
        ·exact htd' y z
       ·show muX ps bg wt _ < muX ps bg wt H4
        rw[a6J hbg10 hwt10,hmu,BS,List.length_append]
        omega
     ·refine⟨_,rfl,r,_,_,_,rfl,rfl,SqT.of (s7 _ _ hrt),z0,rfl,_,rfl,Z4 hkb ?_⟩
      refine B6 ?_
      refine same ?_
      rw[lay,if_neg hw,a5P hkb]
  ·rintro σ H4 Q1 Q2 hQ ⟨v,e,b,hb,hq⟩
   exact⟨v,e,b,hb,hQ _ _ hq⟩
theorem Dfs.inside{k:Str->List Str}{N:List Str}(hk:∀n∈N,∀m∈k n,m∈N){V l R:List Str}(h:Dfs k V l R):(∀x∈V,x∈N)->(∀x∈l,x∈N)->∀x∈R,x∈N:=by
 induction h with
 | nil=>exact fun hV _ x hx=>hV x hx
 | old _ _ ih=>exact fun hV hl=>ih hV fun x hx=>hl x (AK _ hx)
 | new _ _ ih=>
  intro hV hl
  have hn:=hl _ AM
  refine ih (fun x hx=>?_) fun x hx=>?_
  ·rcases AL.mp hx with z | z
   ·exact hV x z
   ·rw[AD.mp z];exact hn
  ·rcases AL.mp hx with z | z
   ·exact hk _ hn x z
   ·exact hl x (AK _ z)
theorem a6C{ps:List Pt}{m:Str}{r:Rw}(h:r∈R9 ps m):(m,R9 ps m)∈ps:=by
 unfold R9 at h⊢
 cases e:ps.find? fun p=>decide (p.1=m)with
 | none=>rw[e]at h;simp at h
 | some pt=>
  have h1:=List.mem_of_find?_eq_some e
  have h2:pt.1=m:=of_decide_eq_true (List.find?_some (p:=fun p:Pt=>decide (p.1=m)) e)
  show(m,pt.2)∈ps
  rw[<-h2]
  exact h1
theorem a3t{ps:List Pt}{C:Pl->Prop}(hC:∀m,∀x∈W6 m (R9 ps m),C x):∀(k:Nat)(todo:List Pl)(b:List Str)(o:List Pl),(∀x∈todo,C x)->(∀x∈o,C x/\a0x x.2.2=true)->∀x∈lay ps k todo b o,C x/\a0x x.2.2=true
 | 0,todo,b,o,_,ho=>ho
 | _+1,[],b,o,_,ho=>ho
 | k+1,y::t,b,o,ht,ho=>by
  have ht':∀x∈t,C x:=fun x hx=>ht x (AK _ hx)
  rw[lay]
  by_cases hw:a0x y.2.2=true
  ·rw[if_pos hw]
   refine a3t hC k t b _ ht' fun x hx=>?_
   rcases AL.mp hx with z | z
   ·exact ho x z
   ·rw[AD.mp z];exact⟨ht y AM,hw⟩
  ·rw[if_neg hw]
   cases a3e y.2.2 with
   | none=>exact a3t hC k t b o ht' ho
   | some m=>
    show∀x∈(if m∈b then lay ps k t b o else lay ps k (W6 m (R9 ps m)++t) (b++[m]) o),_
    by_cases hm:m∈b
    ·rw[if_pos hm];exact a3t hC k t b o ht' ho
    ·rw[if_neg hm]
     refine a3t hC k _ _ o (fun x hx=>?_) ho
     rcases AL.mp hx with z | z
     ·exact hC m x z
     ·exact ht' x z
theorem a3q{ps:List Pt}:∀(k:Nat)(todo:List Pl)(b:List Str)(o:List Pl),(lay ps k todo b o).length<=o.length+k
 | 0,todo,b,o=>AH _
 | _+1,[],b,o=>Nat.le_add_right _ _
 | k+1,y::t,b,o=>by
  rw[lay]
  by_cases hw:a0x y.2.2=true
  ·rw[if_pos hw]
   have:=a3q (ps:=ps) k t b (o++[y])
   rw[List.length_append,List.length_singleton]at this
   omega
  ·rw[if_neg hw]
   cases a3e y.2.2 with
   | none=>
    have:=a3q (ps:=ps) k t b o
    exact Nat.le_trans this (by omega)
   | some m=>
    show(if m∈b then lay ps k t b o else lay ps k (W6 m (R9 ps m)++t) (b++[m]) o).length<=_
    by_cases hm:m∈b
    ·rw[if_pos hm]
     have:=a3q (ps:=ps) k t b o
     omega
    ·rw[if_neg hm]
     have:=a3q (ps:=ps) k (W6 m (R9 ps m)++t) (b++[m]) o
     omega
noncomputable def b2z (ps:List Pt) (x:Pl):Prop:=∃rs,(x.1,rs)∈ps/\rs[x.2.1]?=some x.2.2
theorem b5B{ps:List Pt}{k:Nat}{n:Str}:∀x∈lay ps k (W6 n (R9 ps n)) [n] [],b2z ps x/\a0x x.2.2=true:=by
 have hC:∀m,∀x∈W6 m (R9 ps m),b2z ps x:=fun m x hx=>by
  obtain⟨e1,e2⟩:=a0j.mp hx
  exact⟨R9 ps m,by rw[e1];exact a6C (AG e2),e2⟩
 exact a3t hC k _ _ _ (hC n) fun x hx=>by simp at hx
theorem a8p{K:W.Frag}{a:Addr}{xs:List V}{g:TG}{tt:TT}{te:TE}{Q:Hp->Prop}{σ:L2.St}{H:Hp}{D:Addr}(Pv:Nat->L2.St->Hp->Prop)(h0:Pv 0 σ (upd H D (.lst [])))
  (hl:∀i σ2 H2,Pv i σ2 H2->SqL K H2 a xs)
  (hs:∀i x σ2 H2,xs[i]?=some x->Pv i σ2 H2->g x σ2 H2 fun σ4 H4=>tt σ4 H4 fun b H5=>
   if b=true then te σ4 H5 fun y H6=>∃ys,H6 D=some (.lst ys)/\ys.length < sizeLine/\Pv (i+1) σ4 (upd H6 D (.lst (ys++[y])))else Pv (i+1) σ4 H5)
  (hd:∀σ2 H2,Pv xs.length σ2 H2->Q H2):
  ∃W:Nat->Nat->L2.St->Hp->Prop,(∃m,W 0 m σ (upd H D (.lst [])))/\∀i m σ2 H2,W i m σ2 H2->
   ((Itl K a).stop i H2/\Q H2)\/((Itl K a).go i H2/\∃N:L2.St->Hp->Prop,(∀σ' H',N σ' H'->∃m',m' < m/\W (i+1) m' σ' H')/\∀x H3,(Itl K a).yld i H2 x H3->g x σ2 H3 fun σ4 H4=>tt σ4 H4 fun b H5=>
    if b=true then te σ4 H5 fun y H6=>∃ys,H6 D=some (.lst ys)/\ys.length < sizeLine/\N σ4 (upd H6 D (.lst (ys++[y])))else N σ4 H5):=by
 refine a3A xs.length Pv h0 (fun i σ2 H2 hi p=>?_) fun σ2 H2 p=>⟨⟨xs,hl _ _ _ p,AH _⟩,hd _ _ p⟩
 have e:=AU hi
 refine⟨⟨xs,_,hl _ _ _ p,e⟩,fun x H3 hy=>?_⟩
 obtain⟨rfl,hx⟩:=hy
 exact hs i x σ2 H3 (hx xs (hl _ _ _ p)) p
noncomputable def a4H (ps:List Pt):Prop:=∀x,b2z ps x->a0x x.2.2=true->a5H (fun y=>(x.1,y)∈a8R (I9 ps)) x.2.2
theorem a7C{r:Rw}(h:a0x r=true):¬R8 r="bring"/\¬R8 r="give":=by
 cases r with
 | set o ts=>simp only[R8];exact⟨by decide +kernel,by decide +kernel⟩
 | take o=>simp only[R8];exact⟨by decide +kernel,by decide +kernel⟩
 | say ts w=>simp only[R8];exact⟨by decide +kernel,by decide +kernel⟩
 | need ts=>simp only[R8];exact⟨by decide +kernel,by decide +kernel⟩
 | _=>cases h
noncomputable def b7O (K:W.Frag) (te:TE) (tl th tk:TO):TE:=fun σ H Q=>te σ H fun x H1=>tl σ H1 fun _ H2=>th σ H2 fun _ H3=>tk σ H3 fun k H4=>∃a xs i,x= .ref a/\(∀H5,G8 H4 H5->SqT K H5 a xs)/\k=some i/\0 < i/\∀p ys H5,G8 H4 H5->(∀H6,G8 H5 H6->SqT K H6 p ys)->(∀y∈ys,y∈xs)->Q (.ref p) H5
theorem a9d{X:Cx}{e:Expr}{te:TE}{lo hi:Option Expr}{st:Expr}{tl th tk:TO}{pos p2:Pos}(he:PE X e te)(hl:PO X lo tl)(hu:PO X hi th)(hk:PO X (some st) tk):PE X (.Subscript e (.Slice lo hi (some st) p2) pos) (b7O X.K te tl th tk):=by
 unfold PE PO at*
 intro pins s σ H Q I h
 refine Subscript_ (thn (he pins s σ H _ I h) fun v s1⟨x,H1,I1,r1,q1⟩=>?_)
 refine wpAny_Slice (thn (hl pins s1 σ H1 _ I1 q1) fun vl s2⟨l,H2,I2,pl,q2⟩=>thn (hu pins s2 σ H2 _ I2 q2) fun vu s3⟨u,H3,I3,pu,q3⟩=>thn (hk pins s3 σ H3 _ I3 q3) fun vk s4⟨k,H4,I4,pk,a,xs,i,ex,hxa,ek,h0,q⟩=>?_)
 subst ex ek
 have hx:=hxa H4 (G8.refl H4)
 obtain rfl:v=Value.ref a:=r1
 have I5:Inv X pins σ H4 {s4 with heap:=s4.heap.push {cls:= .type "slice",data:= .fields #[vl,vu,vk]}}:=I4.kept (t':=s4.toks) fun b ob q=>AC _ q
 obtain⟨its,r,ht,hz⟩:=I5.tuple hx
 have hlen:=r.length
 have hsz:its.toArray.size=its.length:=List.size_toArray ..
 show wpAny (model X.prog X.w) X.A (subscriptTail e (.Slice lo hi (some st) p2) (.ref a) (.ref s4.heap.objs.size)) (EP X pins σ Q) X.xe {s4 with heap:=s4.heap.push {cls:= .type "slice",data:= .fields #[vl,vu,vk]}}
 refine tail_any (ops:=[.ref a,.ref s4.heap.objs.size]) ht.typeIs PyProof.Rows.slot_tuple_getitem.lookup ?_ (by with_unfolding_all rfl)
 refine a2O ht (Heap.IsSliceOf.new ..) pl pu pk h0 (by omega) ⟨.ref a,H4,I5,rfl,q a xs H4 (G8.refl H4) hxa fun y hy=>hy⟩ fun js hjs=>?_
 obtain⟨ys,h1,h2⟩:=a6y r js
 have e:(js.filterMap fun j=>its.toArray[j]?)=js.filterMap fun j=>its[j]?:=by simp
 rw[e]
 have hyl:ys.length<=xs.length:=by
  have h3:=List.length_filterMap_le (fun j=>xs[j]?) js
  rw[<-h2]at h3
  omega
 refine⟨.ref _,_,I5.laid (t':=s4.toks) (o:= .tup ys) (fun b ob q=>AC _ q) (AH _) ⟨Nat.le_trans hyl hz,_,h1,IsTup.new _ _⟩,rfl,q _ ys _ ((G8.refl H4).new (I5.hok.fresh (AH _))) (fun H6 s6=>SqT.of (s6 _ _ G1)) fun y hy=>?_⟩
 rw[h2]at hy
 obtain⟨j,_,hj⟩:=List.mem_filterMap.mp hy
 exact AG hj
theorem b1U{nms owns:List Str}{pr:Pr}{rw:Rw}(f:a4v nms owns pr rw)(hm:∀y∈a1Z pr,y∈owns):a5H (fun y=>y∈owns) rw\/R8 rw="bring" \/R8 rw="give":=by
 cases pr with
 | own k n xs=>
  rcases f with⟨_,e⟩ | ⟨_,ts,e,_,h⟩
  ·subst e;exact .inl (hm n (by simp[a1Z]))
  ·subst e;exact .inl ⟨hm n (by simp[a1Z]),fun d hd y e=>h d hd y e⟩
 | bring j ps xs=>obtain⟨nm,_,e⟩:=f;subst e;exact .inr (.inl rfl)
 | give o g xs=>rw[show rw= .give o g from f];exact .inr (.inr rfl)
 | ask j xs=>obtain⟨nm,w,_,e,h⟩:=f;subst e;exact .inl fun y e=>h y e
 | sum k xs=>
  rcases f with⟨_,ts,e,_,h⟩ | ⟨_,ts,w,e,_,h,h2⟩
  ·subst e;exact .inl fun d hd y e=>h d hd y e
  ·subst e;exact .inl ⟨fun d hd y e=>h d hd y e,fun y e=>h2 y e⟩
theorem O7.uses{hs:List Pp}{b0 b1 b2:Int}{ps:List Pt}(d:O7 hs b0 b1 b2 ps){pt:Pt}(hpt:pt∈ps){rw:Rw}(hrw:rw∈pt.2):a5H (fun y=>(pt.1,y)∈a8R (I9 ps)) rw\/R8 rw="bring" \/R8 rw="give":=by
 obtain⟨i,hi⟩:=AV hpt
 obtain⟨pp,hpp,ok,_,hf⟩:=d.at hi
 obtain⟨j,hj⟩:=AV hrw
 obtain⟨pr,hpr,hfr⟩:=Paired.get?' hf hj
 have hprm:=AG hpr
 rcases b1U hfr (fun y hy=>ok.md.mem_iff.mp (BL.mpr ⟨pr,hprm,hy⟩))with h | h
 ·refine .inl (h.imp fun y hy=>?_)
  have h2:=(a3h hf).mem_iff.mpr (ok.md.mem_iff.mpr hy)
  unfold a8R
  rw[a3i,a5G,a9K]
  rcases AL.mp h2 with w | w
  ·exact BF _ (BL.mpr ⟨_,hpt,AT.mpr ⟨y,w,rfl⟩⟩)
  ·exact AR _ (BL.mpr ⟨_,hpt,AT.mpr ⟨y,w,rfl⟩⟩)
 ·exact .inr h
theorem a5L{osc:Scope}{N:List Str}{sc:Scope}{M:List Str}{ρ:List (Option Nat)}(kind:sc.kind= .function)(only:∀y∈sc.names,y.2≠ .cell/\y.2≠ .free)(own:∀y∈sc.names,y.2= .local->sc.names.lookup y.1=some .local)(len:ρ.length=M.length)(ren:∀o∈ρ,o=none)(nd:M.Nodup):a2y osc N sc M ρ where
 kind:=kind
 nocell:=fun y hy=>(only y hy).1
 own:=own
 fre:=fun y hy h=>absurd h (only y hy).2
 len:=len
 ren:=fun p hp=>by
  have h1:=ren p.1 (List.of_mem_zip hp).1
  rw[h1]
 nd:=nd
theorem b4K{X:Cx}{K:W.Frag}(h:X.K=K){tg l:Expr}{tl:TE}(hl:PE X l tl):PI X tg l (b6w K tl):=h▸a0d hl
noncomputable def a1S (rs:List Rw):Option Nat:=rs.findIdx? fun r=>decide (R8 r="ask")
noncomputable def F1 (ps:List Pt):List Str->Option (Str×Nat)
 | []=>none
 | n::r=>match a1S (R9 ps n)with
  | some k=>some (n,k)
  | none=>F1 ps r
theorem a5z{rs:List Rw}(h:∀r∈rs,¬R8 r="ask"):a1S rs=none:=by
 unfold a1S
 rw[List.findIdx?_eq_none_iff]
 exact fun r hr=>AW (h r hr)
theorem a5p:∀{rs:List Rw}{j:Nat}{r:Rw},rs[j]?=some r->R8 r="ask" ->(∀x∈rs.take j,¬R8 x="ask")->a1S rs=some j
 | [],j,r,h,_,_=>by simp at h
 | x::t,0,r,h,hk,_=>by
  simp only[List.getElem?_cons_zero,Option.some.injEq]at h
  unfold a1S
  rw[List.findIdx?_cons,h,decide_eq_true hk]
  rfl
 | x::t,j+1,r,h,hk,hn=>by
  have ih:=a5p (rs:=t) (j:=j) (r:=r) (by simpa using h) hk fun y hy=>hn y (by rw[List.take_succ_cons];exact AK _ hy)
  have h0:=hn x (by rw[List.take_succ_cons];exact AM)
  unfold a1S at ih⊢
  rw[List.findIdx?_cons,AW h0,ih]
  rfl
theorem a1B{ps:List Pt}:∀{R:List Str},(∀m∈R,a1S (R9 ps m)=none)->F1 ps R=none:=by
 intro R
 induction R with
 | nil=>intro _;rfl
 | cons n r ih=>
  intro h
  have e:F1 ps (n::r)=(match a1S (R9 ps n) with | some k=>some (n,k) | none=>F1 ps r):=rfl
  rw[e,h n (List.mem_cons_self)]
  exact ih fun m hm=>h m (List.mem_cons_of_mem _ hm)
theorem a2X{ps:List Pt}:∀{R:List Str}{i:Nat}{n:Str}{j:Nat},R[i]?=some n->(∀m∈R.take i,a1S (R9 ps m)=none)->a1S (R9 ps n)=some j->F1 ps R=some (n,j):=by
 intro R
 induction R with
 | nil=>intro i n j h _ _;simp at h
 | cons x t ih=>
  intro i n j h hn hj
  have e:F1 ps (x::t)=(match a1S (R9 ps x) with | some k=>some (x,k) | none=>F1 ps t):=rfl
  cases i with
  | zero=>
   simp only[List.getElem?_cons_zero,Option.some.injEq]at h
   rw[e,h,hj]
  | succ i=>
   rw[e,hn x (by rw[List.take_succ_cons];exact List.mem_cons_self)]
   exact ih (i:=i) (by simpa using h) (fun m hm=>hn m (by rw[List.take_succ_cons];exact List.mem_cons_of_mem _ hm)) hj
theorem b1V{A:Adr}(hX:b1E K mg A):XDl P w K mg base 1 A.Asks "part" "row" ["self","part","row"]:=by
 refine XDl.of hX.x_Asks a1O rfl (fun _ _ _ _ _ _ us hl=>by obtain⟨a,b,c,rfl⟩:=a7l hl;rfl) (fun f' cdv A0 outer s H vs Q E xi hr h=>?_)
 obtain⟨e,v,w',rfl,he,q⟩:=h
 refine⟨_,(G7 (b2N (by rfl) hX.m_BundleError hX.b_BundleError (G0 (pv 0) (G0 (pv 1) (G0 (pv 2) G6))))
   (G7 (b4e (pv 0) (pv 1) rfl)
   (G9 (b3W (pv 0) (pv 2) rfl)))),?_⟩
 refine⟨_,rfl,_,rfl,_,rfl,e,A.Asks,f',v,w',rfl,he,xi,?_⟩
 refine⟨_,rfl,_,rfl,e,A.Asks,rfl,he,hX.k_Asks,hX.f_Asks_part,fun dx hdx=>?_⟩
 have ne:dx≠e:=fun z=>by rw[z,he]at hdx;cases hdx
 refine⟨_,rfl,_,rfl,e,A.Asks,dx,[("part",v)],rfl,G1,by rw[I0 ne,G1],hX.k_Asks,hX.f_Asks_row,rfl,(by show 1<=3;decide),?_⟩
 have eq:upd (upd (upd H dx (.xd [("part",v)])) e (ExN e A.Asks (some dx))) dx (.xd ([(("part":Str),v)]++[(("row":Str),w')]))=upd (upd H dx (.xd [("part",v),("row",w')])) e (ExN e A.Asks (some dx)):=by
  funext b
  by_cases z1:b=dx
  ·rw[z1,G1,I0 ne,G1]
   rfl
  ·rw[I0 z1]
   by_cases z2:b=e
   ·rw[z2,G1,G1]
   ·rw[I0 z2,I0 z2,I0 z1,I0 z1]
 show Q .non _
 rw[eq]
 exact q dx hdx
noncomputable def FA (A:Adr) (ps:List Pt) (R:List Str) (H:Hp) (Qn:Hp->Prop) (E:XK):Prop:=(F1 ps R=none->∀H',G8 H H'->Qn H')/\∀p k,F1 ps R=some (p,k)->∀(dx:Addr)(H':Hp),G8 H H'->H' dx=some (.xd [("part",.str p),("row",.int (k:Int))])->E (.ref A.Asks) (some dx) H'
noncomputable def b1F (A:Adr):Sp:=fun vs H Q E=>∃(a:Addr)(ps:List Pt)(n:Str),vs=[.ref a,.str n]/\O9 H a ps/\M7 ps/\a0g ps/\n∈ps.map (·.1)/\∀R,Dfs (k1 ps) [] [n] R->FA A ps R H (Q .non) E
theorem b1d(T:Txt K mg){A:Adr}(hX:b1E K mg A):L2.ClE P w K mg base 4 "refuse_asks" ["parts","root"] (b1F A):=by
 have C_order:=b2G (P:=P) (w:=w) (base:=base) T
 have X_Asks:=b1V (P:=P) (w:=w) (base:=base) hX
 refine ClE.of T.d_refuse_asks B1 (fun vs H Q E h=>?_) (fun _ _ _ _ _ _ us hl=>by obtain⟨a,b,rfl⟩:=a1P hl;rfl) (fun fa cdv A0 outer s H vs Q E hr h=>?_)
 ·obtain⟨a,ps,n,rfl,_⟩:=h
  rfl
 ·obtain⟨a,ps,root,rfl,hpf,hfit,hcl,hroot,q⟩:=h
  have hu:=B5 hr
  have hhi:=hfit.hi
  obtain⟨o,vs,ha,ho,hps⟩:=id hpf
  refine⟨_,(G7 (J3 (i:=2) B1.nd rfl (Or.inl rfl) (W3 (a2Q rfl) (by rfl) T.n_dict boot_dict (G0 (pv 0) G6)))
   (G9 (Z7 a9O rfl (a0d (W4 C_order hr (by rfl) (G0 (pv 0) (G0 (pv 1) G6)))) (J5 (i:=3) B1.nd rfl (Or.inl rfl))
    (G9 (Z7 a9O rfl (a5v (by rfl) T.n_enumerate (G0 (E5 hu (pv 2) (pv 3) (fun _ _=>rfl)) G6)) (D8 rfl (J8 (J5 (i:=4) B1.nd rfl (Or.inl rfl)) (J8 (J5 (i:=5) B1.nd rfl (Or.inl rfl)) Z9)))
     (G9 (Y8 (R0 F3 (J2 U0 (pv 5) G2 (fun _ _=>rfl)) U5 (U4 _))
      (G9 (b0G X_Asks hr (by rfl) hX.m_Asks hX.k_Asks (G0 (pv 3) (G0 (pv 4) G6)))) U9))))))),?_⟩
  obtain⟨qs,g1,g2,g3⟩:=a1f (K:=K) hps
  have hql:qs.length=ps.length:=by
   have:=congrArg List.length g2
   simpa using this
  refine⟨_,rfl,a,o,vs,qs,rfl,ha,ho,g1,(by omega),fun rd grd=>?_⟩
  have s1:G8 H (upd H rd (.dK (M5 qs []))):=(G8.refl H).new grd
  have hrd1:upd H rd (.dK (M5 qs [])) rd=some (.dK (M5 qs [])):=G1
  generalize upd H rd (.dK (M5 qs []))=H1 at s1 hrd1⊢
  refine⟨_,rfl,_,rfl,a,ps,root,rfl,s1.partsF hpf,hfit,hcl,hroot,fun p R H2 s2 hp hD=>?_⟩
  have hR:=hD.inside hcl (fun x hx=>by simp at hx) (fun x hx=>by rw[AD.mp hx];exact hroot)
  have qq:=q R hD
  have s12:=s1.trans s2
  have hrd2:=s2 _ _ hrd1
  refine⟨p,rfl,⟨_,SqT.of hp⟩,a0o (K:=K) (a:=p) (xs:=R.map V.str) (fun i σ H3=>∃(v3 v4 v5:Option V),σ=[some (.ref a),some (.str root),some (.ref rd),v3,v4,v5]/\G8 H2 H3/\∀m∈R.take i,a1S (R9 ps m)=none)
   ⟨_,_,_,rfl,G8.refl H2,fun m hm=>by simp at hm⟩ (fun i σ H3 _⟨_,_,_,_,s3,_⟩=>SqT.of (s3 _ _ hp)) ?_ ?_⟩
  ·rintro i y σ H3 hy ⟨v3,v4,v5,rfl,s3,hno⟩
   rw[List.getElem?_map]at hy
   cases hn:R[i]? with
   | none=>rw[hn]at hy;cases hy
   | some n=>
    rw[hn]at hy
    cases hy
    obtain⟨rs,hm⟩:=a0I (hR n (AG hn))
    have hro:R9 ps n=rs:=E4 hfit.nd hm
    obtain⟨u,ws,k1',k2',k3'⟩:=g3 n rs hm
    have hwl:ws.length=rs.length:=AF k3'
    have hg:=D3.k (k:=Sum.inr n) (s3 _ _ hrd2)
    rw[a2w qs [] n (.ref u) (by rw[g2];exact hfit.nd) (.inl k1')]at hg
    have s13:=s12.trans s3
    show a0s 3 _ _ _ _
    refine⟨_,rfl,_,rfl,rd,_,rfl,hg,?_⟩
    refine⟨u,rfl,⟨_,SqT.of (s13 _ _ k2')⟩,a7F (K:=K) (a:=u) (xs:=ws) (fun j σ H4=>∃(v4 v5:Option V),σ=[some (.ref a),some (.str root),some (.ref rd),some (.str n),v4,v5]/\G8 H3 H4/\∀r∈rs.take j,¬R8 r="ask")
     ⟨_,_,rfl,G8.refl H3,fun r hr=>by simp at hr⟩ (fun j σ H4 _⟨_,_,_,s4,_⟩=>SqT.of ((s13.trans s4) _ _ k2')) ?_ ?_⟩
    ·rintro j z pp σ H4 hz ⟨w4,w5,rfl,s4,hnj⟩ hpp
     obtain⟨rr,hrw,r,er,hra⟩:=Paired.get? k3' hz
     subst er
     have s5:G8 H4 (upd H4 pp (.tup [.int (j:Int),.ref r])):=(G8.refl H4).new hpp
     obtain⟨x1,rs1,hrt⟩:=(hra.mono ((s13.trans s4).trans s5).tups).kind
     have z0:atI (V.str (R8 rr)::x1::rs1) 0=some (.str (R8 rr)):=W9 (j:=0) rfl
     refine⟨pp,_,rfl,SqT.of G1,rfl,_,_,rfl,_,_,rfl,rfl,?_⟩
     by_cases hk:R8 rr="ask"
     ·rw[hk]at hrt z0
      refine⟨_,rfl,r,_,_,_,rfl,rfl,SqT.of hrt,z0,rfl,_,rfl,a0t ?_⟩
      refine⟨_,rfl,_,rfl,_,_,rfl,fun dx gdx=>?_⟩
      refine qq.2 n j (a2X hn hno (by rw[hro];exact a5p hrw hk hnj)) dx _ (((s13.trans s4).trans s5).new gdx) G1
     ·refine⟨_,rfl,r,_,_,_,rfl,rfl,SqT.of hrt,z0,rfl,_,rfl,Z4 hk ?_⟩
      refine⟨_,_,rfl,s4.trans s5,fun x hx=>?_⟩
      rw[J7 hrw]at hx
      rcases AL.mp hx with z | z
      ·exact hnj x z
      ·rw[AD.mp z];exact hk
    ·rintro σ H4 ⟨w4,w5,rfl,s4,hnj⟩
     rw[hwl,AY]at hnj
     refine⟨_,_,_,rfl,s3.trans s4,fun m hm'=>?_⟩
     rw[J7 hn]at hm'
     rcases AL.mp hm' with z | z
     ·exact hno m z
     ·rw[AD.mp z,hro];exact a5z hnj
  ·rintro σ H3 ⟨v3,v4,v5,rfl,s3,hno⟩
   rw[List.length_map,AY]at hno
   exact qq.1 (a1B hno) H3 (s12.trans s3)
noncomputable def b3J (A:Adr):Sp:=fun vs H Q E=>∃(a:Addr)(ps:List Pt)(n:Str),vs=[.ref a,.str n]/\O9 H a ps/\M7 ps/\D7 (I9 ps)/\(∀k∈D6 (I9 ps),k.2.length<=100)/\a0g ps/\n∈ps.map (·.1)/\a4H ps/\∀R,Dfs (k1 ps) [] [n] R->FA A ps R H (fun H'=>∀v,Q v H') E
theorem b4s(T:Txt K mg){A:Adr}(hX:b1E K mg A):L2.ClE P w K mg base 6 "flat" ["parts","root"] (b3J A):=by
 have C_refuse_asks:=b1d (P:=P) (w:=w) (base:=base) T hX
 have C_makers_names:=b1b (P:=P) (w:=w) (base:=base) T
 have C_work_in_order:=b3V (P:=P) (w:=w) (base:=base) T
 have C_renamed_row:=b4T (P:=P) (w:=w) (base:=base) T
 refine ClE.of T.d_flat a3g (fun vs H Q E h=>?_) (fun _ _ _ _ _ _ us hl=>by obtain⟨a,b,rfl⟩:=a1P hl;rfl) (fun fa cdv A0 outer s H vs Q E hr h=>?_)
 ·obtain⟨a,ps,n,rfl,_⟩:=h
  rfl
 ·obtain⟨a,ps,n,rfl,hpf,hfit,hnet,hklen,hcl,hn,hU,q⟩:=h
  refine⟨_,(G7 (Y5 (b5z C_refuse_asks b6U hr (by rfl) (G0 (pv 0) (G0 (pv 1) G6))))
   (G7 (J3 (i:=2) a3g.nd rfl (Or.inr rfl) (W4 C_makers_names hr (by rfl) (G0 (pv 0) G6)))
   (G7 (J3 (i:=3) a3g.nd rfl (Or.inl rfl) (W4 C_work_in_order hr (by rfl) (G0 (pv 0) (G0 (pv 1) G6))))
   (G7 (a7v (j:=4) (M:=["part","number","row","news"]) (ρ:=[none,none,none,some 2]) (J0 a5A) ["parts","root","news","work","rows","origins"] ⟨rfl,by decide +kernel,by decide +kernel,by decide +kernel,rfl,by decide +kernel,by decide +kernel⟩ a3g.nd rfl (Or.inl rfl) (a1a (pv 3)) (fun _ _ _ _ _ _=>(a3c (K:=K) (n:=3) rfl rfl (J8 (J5 (i:=0) (show(["part","number","row","news"]:List Str).Nodup by decide +kernel) rfl (Or.inl rfl)) (J8 (J5 (i:=1) (show(["part","number","row","news"]:List Str).Nodup by decide +kernel) rfl (Or.inl rfl)) (J8 (J5 (i:=2) (show(["part","number","row","news"]:List Str).Nodup by decide +kernel) rfl (Or.inl rfl)) Z9))))) (fun _ _ _ _ _ _=>a1y) (fun _ _ _ _ _ _=>(W4 C_renamed_row hr (by rfl) (G0 (pv 0) (G0 (pv 2) (G0 (pv 3) G6))))))
   (G7 (a7v (j:=5) (M:=["part","number","row"]) (ρ:=[none,none,none]) (J0 a5A) ["parts","root","news","work","rows","origins"] ⟨rfl,by decide +kernel,by decide +kernel,by decide +kernel,rfl,by decide +kernel,by decide +kernel⟩ a3g.nd rfl (Or.inl rfl) (a1a (pv 3)) (fun _ _ _ _ _ _=>(a3c (K:=K) (n:=3) rfl rfl (J8 (J5 (i:=0) (show(["part","number","row"]:List Str).Nodup by decide +kernel) rfl (Or.inl rfl)) (J8 (J5 (i:=1) (show(["part","number","row"]:List Str).Nodup by decide +kernel) rfl (Or.inl rfl)) (J8 (J5 (i:=2) (show(["part","number","row"]:List Str).Nodup by decide +kernel) rfl (Or.inl rfl)) Z9))))) (fun _ _ _ _ _ _=>a1y) (fun _ _ _ _ _ _=>(U6 (G0 (pv 0) (G0 (pv 1) G6)))))
   (G9 (R5 (U6 (G0 (W3 Z3 (by rfl) T.n_tuple boot_tuple (G0 (pv 4) G6)) (G0 (W3 Z3 (by rfl) T.n_tuple boot_tuple (G0 (pv 5) G6)) G6)))))))))),?_⟩
  refine⟨_,rfl,_,rfl,a,ps,n,rfl,hpf,hfit,hcl,hn,fun R hD=>⟨fun hfn H1 s1=>?_,(q R hD).2⟩⟩
  have qn:=(q R hD).1 hfn
  refine⟨_,rfl,a,ps,rfl,s1.partsF hpf,hfit,hnet,hklen,fun f fkv ts H2 s2 hf hks hnn hnam=>?_⟩
  have s12:=s1.trans s2
  refine⟨_,rfl,_,rfl,a,ps,n,rfl,s12.partsF hpf,hfit,hcl,hn,fun wk us H3 s3 hwk hus=>?_⟩
  have hin:=b5B (ps:=ps) (k:=960) (n:=n)
  have hlen:=a3q (ps:=ps) 960 (W6 n (R9 ps n)) [n] []
  generalize lay ps 960 (W6 n (R9 ps n)) [n] []=L at hus hin hlen
  have hul:us.length=L.length:=AF hus
  simp only[List.length_nil,Nat.zero_add]at hlen
  have s13:=s12.trans s3
  have hf3:=s3 _ _ hf
  have hNN:∀m y,(m,y)∈a8R (I9 ps)->b0Q fkv m (fun y=>b2r (Y7 fkv (W1 (m,y)))) y:=fun m y hy=>by
   obtain⟨p,nm,h1,h2,h3⟩:=hnam _ hy
   show Y7 fkv (W1 (m,y))=some (.str (b2r (Y7 fkv (W1 (m,y)))))
   rw[h3]
   rfl
  refine⟨_,rfl,wk,rfl,⟨_,SqL.of hwk⟩,fun D hD=>?_⟩
  refine a8p (K:=K) (a:=wk) (xs:=us) (fun i σ H4=>∃(v0 v1 v2:Option V)(rv:List V),σ=[v0,v1,v2,some (.ref f)]/\G8 H3 H4/\H4 D=some (.lst rv)/\rv.length=i) ⟨_,_,_,[],rfl,(G8.refl H3).new hD,G1,rfl⟩ (fun i σ2 H4⟨_,_,_,_,_,s4,_⟩=>SqL.of (s4 _ _ hwk)) ?_ ?_
  ·rintro i x σ H4 hx ⟨v0,v1,v2,rv,rfl,s4,hD4,hrv⟩
   obtain⟨y,hy,c,r,ex,hc,hra⟩:=Paired.get? hus hx
   subst ex
   have hi:=(List.getElem?_eq_some_iff.mp hy).1
   obtain⟨hyin,hyw⟩:=hin y (AG hy)
   refine⟨c,_,rfl,SqT.of (s4 _ _ hc),rfl,_,_,rfl,_,_,rfl,_,_,rfl,rfl,?_⟩
   refine⟨_,rfl,_,rfl,_,rfl,y.1,r,y.2.2,f,fkv,fun z=>b2r (Y7 fkv (W1 (y.1,z))),rfl,hra.mono s4.tups,s4 _ _ hf3,(hU y hyin hyw).imp fun z hz=>hNN y.1 z hz,fun r' H5 s5 hrv'=>?_⟩
   have hD5:=s5 _ _ hD4
   exact⟨rv,hD5,J6 (by omega),_,_,_,rv++[.ref r'],rfl,(s4.trans s5).put hD,G1,by rw[List.length_append,hrv];rfl⟩
  ·rintro σ H4 ⟨v0,v1,v2,rv,rfl,s4,hD4,hrv⟩
   refine⟨_,rfl,wk,rfl,⟨_,SqL.of (s4 _ _ hwk)⟩,fun D2 hD2=>?_⟩
   refine a8p (K:=K) (a:=wk) (xs:=us) (fun i σ H5=>∃(v0 v1 v2:Option V)(ov:List V),σ=[v0,v1,v2]/\G8 H4 H5/\H5 D2=some (.lst ov)/\ov.length=i) ⟨_,_,_,[],rfl,(G8.refl H4).new hD2,G1,rfl⟩ (fun i σ2 H5⟨_,_,_,_,_,s5,_⟩=>SqL.of ((s4.trans s5) _ _ hwk)) ?_ ?_
   ·rintro i x σ H5 hx ⟨v0,v1,v2,ov,rfl,s5,hD5,hov⟩
    obtain⟨y,hy,c,r,ex,hc,hra⟩:=Paired.get? hus hx
    subst ex
    have hi:=(List.getElem?_eq_some_iff.mp hy).1
    refine⟨c,_,rfl,SqT.of ((s4.trans s5) _ _ hc),rfl,_,_,rfl,_,_,rfl,_,_,rfl,rfl,?_⟩
    refine⟨_,rfl,_,rfl,F2,fun e ge=>?_⟩
    have s6:G8 H5 (upd H5 e (.tup [.str y.1,.int (y.2.1:Int)])):=(G8.refl H5).new ge
    exact⟨ov,s6 _ _ hD5,J6 (by omega),_,_,_,ov++[.ref e],rfl,(s5.trans s6).put hD2,G1,by rw[List.length_append,hov];rfl⟩
   ·rintro σ H5 ⟨v0,v1,v2,ov,rfl,s5,hD5,hov⟩
    refine⟨_,rfl,D,_,rfl,.inl ⟨SqL.of (s5 _ _ hD4),fun rt grt=>?_⟩⟩
    have s6:G8 H5 (upd H5 rt (.tup rv)):=(G8.refl H5).new grt
    refine⟨_,rfl,D2,_,rfl,.inl ⟨SqL.of (s6 _ _ hD5),fun ot got=>?_⟩⟩
    have s7:=s6.new (o:= .tup ov) got
    refine⟨F2,fun t gt=>?_⟩
    exact qn _ (s13.trans (s4.trans (s5.trans (s7.new gt)))) _
theorem a1o{X:Cx}{K:W.Frag}(h:X.K=K):a0R X (.builtin "isinstance") (fun xs H Q=>∃a C dd c b,xs=[.ref a,c]/\H a=some (ExO a C dd)/\a4e H dd/\XK1 K C/\ExC K H (.ref C) c b/\Q (.bl b) H):=h▸a7c
theorem a8y{X:Cx}{K:W.Frag}(h:X.K=K){e:Expr}{ta:TE}{f:Str}{pos:Pos}(he:PE X e ta)(hb:attributeBase e f X.env (eval e X.env)=eval e X.env):PE X (.Attribute e f pos) (b5h K ta f):=h▸b4J he hb
noncomputable def b1y:Sp:=fun vs H Q _=>∃(a:Addr)(ps:List Pt)(n:Str),vs=[.ref a,.str n]/\O9 H a ps/\M7 ps/\D7 (I9 ps)/\(∀k∈D6 (I9 ps),k.2.length<=100)/\a0g ps/\n∈ps.map (·.1)/\a4H ps/\∀R,Dfs (k1 ps) [] [n] R->(F1 ps R=none->∀H',G8 H H'->Q .non H')/\∀p k,F1 ps R=some (p,k)->∀(t:Addr)(H':Hp),G8 H H'->H' t=some (.tup [.str p,.int (k:Int),.bl true])->Q (.ref t) H'
theorem a5j(T:Txt K mg){A:Adr}(hX:b1E K mg A):L2.Cl P w K mg base 7 "_law_refused" ["_law_parts_here","_law_root"] b1y:=by
 have C_flat:=b4s (P:=P) (w:=w) (base:=base) T hX
 refine Cl.of T.d_law_refused D9 (fun vs H Q E h=>?_) (fun _ _ _ _ _ _ us hl=>by obtain⟨a,b,rfl⟩:=a1P hl;rfl) (fun fa cdv A0 outer s H vs Q E hr h=>?_)
 ·obtain⟨a,ps,n,rfl,_⟩:=h
  rfl
 ·obtain⟨a,ps,n,rfl,hpf,hfit,hnet,hklen,hcl,hn,hU,q⟩:=h
  refine⟨_,(G7 (J3 (i:=2) D9.nd rfl (Or.inl rfl) a4P)
   (G7 (b3p (i:=3) D9.nd rfl rfl (by rfl) hX.m_Asks hX.k_Asks (b3P C_flat hr (by rfl) (G0 (pv 0) (G0 (pv 1) G6)))
    (fun a=>(G7 (J3 (i:=4) D9.nd rfl (Or.inl rfl) (R4 (a1o (K:=K) rfl) (by rfl) T.n_isinstance PyProof.Rows.boot_isinstance (G0 (pv 3) (G0 (U6 (G0 (a0p (v:= .ref A.Endless) (by rfl) hX.m_Endless rfl) (G0 (a0p (v:= .ref A.NoMap) (by rfl) hX.m_NoMap rfl) (G0 (a0p (v:= .ref A.NoName) (by rfl) hX.m_NoName rfl) (G0 (a0p (v:= .ref A.NoPart) (by rfl) hX.m_NoPart rfl) (G0 (a0p (v:= .ref A.NoPlace) (by rfl) hX.m_NoPlace rfl) (G0 (a0p (v:= .ref A.NoRow) (by rfl) hX.m_NoRow rfl) (G0 (a0p (v:= .ref A.NotGiven) (by rfl) hX.m_NotGiven rfl) (G0 (a0p (v:= .ref A.TooMany) (by rfl) hX.m_TooMany rfl) (G0 (a0p (v:= .ref A.Twice) (by rfl) hX.m_Twice rfl) G6)))))))))) G6))))
    (G9 (J3 (i:=2) D9.nd rfl (Or.inl rfl) (U6 (G0 (a8y (K:=K) rfl (pv 3) (by rfl)) (G0 (a8y (K:=K) rfl (pv 3) (by rfl)) (G0 (a5F (b5l (pv 4)) (a5F (R4 (a1o (K:=K) rfl) (by rfl) T.n_isinstance PyProof.Rows.boot_isinstance (G0 (pv 3) (G0 (a0p (v:= .ref A.BundleError) (by rfl) hX.m_BundleError rfl) G6))) (a7e (R4 (a1o (K:=K) rfl) (by rfl) T.n_isinstance PyProof.Rows.boot_isinstance (G0 (pv 3) (G0 (a3u (v:= .ty "ValueError") (by rfl) T.n_ValueError a4A rfl) G6)))))) G6)))))))))
   (G9 (R5 (pv 2))))),?_⟩
  refine⟨_,rfl,_,rfl,a,ps,n,rfl,hpf,hfit,hnet,hklen,hcl,hn,hU,fun R hD=>⟨fun hfn H1 s1 v=>?_,fun p k hfs dx H1 s1 hdx=>⟨A.Asks,rfl,hX.s_Asks,fun e ne=>?_⟩⟩⟩
  ·exact⟨_,rfl,(q R hD).1 hfn H1 s1⟩
  ·have s2:G8 H1 (upd H1 e (ExO e A.Asks (some dx))):=(G8.refl H1).new ne
   have he:upd H1 e (ExO e A.Asks (some dx)) e=some (ExO e A.Asks (some dx)):=G1
   have hdx2:=s2 _ _ hdx
   refine⟨_,rfl,(by show 9<=sizeLine;decide),fun tp gtp=>⟨e,A.Asks,some dx,_,false,rfl,U3 he gtp,⟨_,U3 hdx2 gtp⟩,hX.k_Asks,.tup (Bs:=[A.Endless,A.NoMap,A.NoName,A.NoPart,A.NoPlace,A.NoRow,A.NotGiven,A.TooMany,A.Twice]) G1 hX.i_oth,?_⟩⟩
   have s3:=s2.new (o:= .tup [.ref A.Endless,.ref A.NoMap,.ref A.NoName,.ref A.NoPart,.ref A.NoPlace,.ref A.NoRow,.ref A.NotGiven,.ref A.TooMany,.ref A.Twice]) gtp
   have he3:=U3 (o:= .tup [.ref A.Endless,.ref A.NoMap,.ref A.NoName,.ref A.NoPart,.ref A.NoPlace,.ref A.NoRow,.ref A.NotGiven,.ref A.TooMany,.ref A.Twice]) he gtp
   have hdx3:=U3 (o:= .tup [.ref A.Endless,.ref A.NoMap,.ref A.NoName,.ref A.NoPart,.ref A.NoPlace,.ref A.NoRow,.ref A.NotGiven,.ref A.TooMany,.ref A.Twice]) hdx2 gtp
   refine⟨_,rfl,e,A.Asks,dx,_,_,rfl,he3,hdx3,hX.k_Asks,hX.f_Asks_part,rfl,?_⟩
   refine⟨_,rfl,e,A.Asks,dx,_,_,rfl,he3,hdx3,hX.k_Asks,hX.f_Asks_row,rfl,?_⟩
   refine⟨_,rfl,_,rfl,_,rfl,a0b ?_⟩
   refine⟨_,rfl,e,A.Asks,some dx,_,true,rfl,he3,⟨_,hdx3⟩,hX.k_Asks,.one hX.i_bun,_,rfl,a0b ?_⟩
   refine⟨_,rfl,e,A.Asks,some dx,_,true,rfl,he3,⟨_,hdx3⟩,hX.k_Asks,.ty hX.i_val,a0A,fun t gt=>?_⟩
   exact⟨_,rfl,(q R hD).2 p k hfs t _ (s1.trans (s3.new gt)) G1⟩
theorem a4p{c d:Str->Bool}:∀{ps:List Pt},(∀n∈ps.map (·.1),c n=d n)->quiet c ps=quiet d ps
 | [],_=>rfl
 | pt::r,h=>by
  have ih:=a4p (c:=c) (d:=d) (ps:=r) fun n hn=>h n (AK _ hn)
  show(pt.1,pt.2.filter (E8 (c pt.1)))::quiet c r=(pt.1,pt.2.filter (E8 (d pt.1)))::quiet d r
  rw[ih,h pt.1 AM]
theorem a5t(c:Str->Bool)(ps:List Pt)(pt:Pt):quiet c (ps++[pt])=quiet c ps++[(pt.1,pt.2.filter (E8 (c pt.1)))]:=by
 unfold quiet
 rw[List.map_append]
 rfl
theorem a2S(c:Str->Bool)(ps:List Pt):(quiet c ps).length=ps.length:=by
 unfold quiet
 rw[List.length_map]
theorem b0K(rs:List Rw):rs.filter (E8 true)=rs:=List.filter_eq_self.mpr fun _ _=>rfl
theorem a9q(rs:List Rw):rs.filter (E8 false)=rs.filter a0S:=rfl
theorem a7y(c:Str->Bool)(ps:List Pt):quiet (fun _=>false) (quiet c ps)=quiet (fun _=>false) ps:=by
 unfold quiet
 rw[List.map_map]
 congr 1
 funext pt
 show(pt.1,(pt.2.filter (E8 (c pt.1))).filter (E8 false))=_
 rw[a9q,List.filter_filter]
 congr 2
 funext r
 show(a0S r && (c pt.1 || a0S r))=(false || a0S r)
 cases a0S r<;>simp
theorem a8w{ps:List Pt}{i:Nat}{pt:Pt}(hnd:(ps.map (·.1)).Nodup)(hpt:ps[i]?=some pt):pt.1∉(ps.take i).map (·.1):=fun z=>by
 have hi:=(List.getElem?_eq_some_iff.mp hpt).1
 rw[<-List.take_append_drop i ps,List.map_append]at hnd
 have hd:pt∈ps.drop i:=by
  rw[List.drop_eq_getElem_cons hi]
  rw[AU hi]at hpt
  rw[<-Option.some.inj hpt]
  exact AM
 exact(AO.mp hnd).2.2 pt.1 z pt.1 (AN (f:=(·.1)) hd) rfl
theorem a7K(r:Rw):decide (V.str (R8 r)=V.str "ask")= !a0S r:=by
 unfold a0S
 by_cases h:R8 r="ask"
 ·rw[h];rfl
 ·rw[AW h,AW (fun z=>h (V.str.inj z))];rfl
noncomputable def b5I:Sp:=fun vs H Q _=>∃(a:Addr)(ps:List Pt)(st:Int),vs=[.ref a,.int st]/\O9 H a ps/\M7 ps/\0 < st/\∀(c:Str->Bool)(x:Addr)(H':Hp),G8 H H'->O9 H' x (quiet c ps)->Q (.ref x) H'
theorem b3X(T:Txt K mg):L2.Cl P w K mg base 1 "_law_some_asks" ["_law_parts_here","_law_step"] b5I:=by
 refine Cl.of T.d_law_some_asks O6 (fun vs H Q E h=>?_) (fun _ _ _ _ _ _ us hl=>by obtain⟨a,b,rfl⟩:=a1P hl;rfl) (fun fa cdv A outer s H vs Q E hr h=>?_)
 ·obtain⟨a,ps,st,rfl,_⟩:=h
  rfl
 ·obtain⟨a,ps,st,rfl,hpf,hfit,hst,q⟩:=h
  have hhi:=hfit.hi
  obtain⟨o,vs,ha,ho,hps⟩:=id hpf
  have sqa:∀{H2:Hp},G8 H H2->SqT K H2 a vs:=fun s2=> .inl (.inr ⟨o,s2 _ _ ha⟩)
  have hvl:vs.length=ps.length:=AF hps
  refine⟨_,(G7 (J3 (i:=2) O6.nd rfl (Or.inl rfl) (Y2 G6))
   (G7 (Z7 AQ rfl (a0k (by rfl) T.n_range (G0 (R4 J9 (by rfl) T.n_len PySem.boot_len (G0 (pv 0) G6)) G6)) (J5 (i:=3) O6.nd rfl (Or.inl rfl))
    (G7 (a9b (J2 U0 (pv 0) (pv 3) (fun _ _=>rfl)) (D8 rfl (J8 (J5 (i:=4) O6.nd rfl (Or.inl rfl)) (J8 (J5 (i:=5) O6.nd rfl (Or.inl rfl)) Z9))))
    (G7 (Y8 (R0 a5r (J1 U1 (pv 3) (pv 1)) G2 (U4 _))
     (G9 (J3 (i:=5) O6.nd rfl (Or.inl rfl) (W3 Z3 (by rfl) T.n_tuple boot_tuple (G0 (a2G (M:=["_law_row_here"]) (ρ:=[none]) (J0 B9) ["_law_parts_here","_law_step","_law_some","_law_k","_law_name_here","_law_rows"] ⟨rfl,by decide +kernel,by decide +kernel,by decide +kernel,rfl,by decide +kernel,by decide +kernel⟩ (a0d (pv 5)) (fun _ _ _ _ _ _=>(J5 (i:=0) (show(["_law_row_here"]:List Str).Nodup by decide +kernel) rfl (Or.inl rfl))) (fun _ _ _ _ _ _=>(b0p (R0 b5c (J2 (b0g (K:=K) rfl) (pv 0) G2 (fun _ _=>rfl)) U5 (U4 _)))) (fun _ _ _ _ _ _=>(pv 0))) G6)))) U9)
    (G9 (Y5 (B4 PySem.F.plainAttrs_list PySem.F.slot_list_append PySem.F.type_list_append Z8 (pv 2) (G0 (U6 (G0 (pv 4) (G0 (pv 5) G6))) G6)))))))
   (G9 (R5 (W3 a0O (by rfl) T.n_tuple boot_tuple (G0 (pv 2) G6)))))),?_⟩
  refine⟨a0W,fun L gL=>?_⟩
  have sL:G8 H (upd H L (.lst [])):=(G8.refl H).new gL
  refine⟨_,rfl,a,_,rfl,.inr (sqa sL),_,rfl,(by omega),(by omega),M9 (fun i σ H2=>∃(c:Str->Bool)(us:List V)(v3 v4 v5:Option V),σ=[some (.ref a),some (.int st),some (.ref L),v3,v4,v5]/\G8 H H2/\H2 L=some (.lst us)/\Paired (a1G H2) us (quiet c (ps.take i)))
   ⟨fun _=>true,[],none,none,none,rfl,sL,G1,by rw[List.take_zero];exact .nil⟩ ?_ ?_⟩
  ·rintro i σ H2 hi ⟨c,us,v3,v4,v5,rfl,s2,hL2,hus⟩
   rw[Int.zero_add]
   have hi':i < vs.length:=by omega
   obtain⟨x,hx⟩:∃x,vs[i]?=some x:=⟨vs[i],by simp[hi']⟩
   obtain⟨pt,hpt,t,u,ws,ex,ht,hu',hrs⟩:=Paired.get? hps hx
   subst ex
   have hwl:ws.length=pt.2.length:=AF hrs
   have hr40:=hfit.rows _ (AG hpt)
   have hul:us.length<=24:=by
    rw[AF hus,a2S,BD]
    omega
   have hnt:=a8w hfit.nd hpt
   have step:∀(b:Bool),quiet c (ps.take i)++[(pt.1,pt.2.filter (E8 b))]=quiet (fun n=>if n=pt.1 then b else c n) (ps.take (i+1)):=fun b=>by
    rw[J7 hpt,a5t,if_pos rfl]
    rw[a4p (c:=c) (d:=fun n=>if n=pt.1 then b else c n) fun n hn=>by
     show c n=if n=pt.1 then b else c n
     rw[if_neg (fun z:n=pt.1=>hnt (z▸hn))]]
   have last:∀(b:Bool)(p:Addr)(zs:List V)(H3:Hp),G8 H2 H3->H3 p=some (.tup zs)->a0e H3 zs (pt.2.filter (E8 b))->∀(e:Addr),H3 e=none->∃(c:Str->Bool)(us':List V)(v3 v4 v5:Option V),[some (.ref a),some (.int st),some (.ref L),some (V.int (i:Int)),some (.str pt.1),some (.ref p)]=[some (.ref a),some (.int st),some (.ref L),v3,v4,v5]/\G8 H (upd (upd H3 e (.tup [.str pt.1,.ref p])) L (.lst (us++[.ref e])))/\upd (upd H3 e (.tup [.str pt.1,.ref p])) L (.lst (us++[.ref e])) L=some (.lst us')/\Paired (a1G (upd (upd H3 e (.tup [.str pt.1,.ref p])) L (.lst (us++[.ref e])))) us' (quiet c (ps.take (i+1))):=fun b p zs H3 s3 hp hzs e ge=>by
    have s4:G8 H2 (upd H3 e (.tup [.str pt.1,.ref p])):=s3.new ge
    have TL:=R1.lst (ys:=us++[.ref e]) (s4 _ _ hL2)
    refine⟨fun n=>if n=pt.1 then b else c n,us++[.ref e],_,_,_,rfl,(s2.trans s4).put gL,G1,?_⟩
    rw[<-step b]
    exact Paired.snoc (Paired.mapP hus fun _ _ z=>z.mono (s4.tups.trans TL)) ⟨e,p,zs,rfl,TL _ _ G1,TL _ _ (U3 hp ge),hzs.mono ((R1.new ge).trans TL)⟩
   refine⟨_,rfl,_,rfl,a,_,_,_,rfl,rfl,sqa s2,W9 hx,t,_,rfl,SqT.of (s2 _ _ ht),rfl,_,_,rfl,_,_,rfl,rfl,?_⟩
   refine⟨_,rfl,_,rfl,_,_,rfl,rfl,hst,_,_,rfl,rfl,_,rfl,?_⟩
   by_cases hm:(i:Int) % st > 0
   ·rw[decide_eq_true hm]
    refine a0b ?_
    refine⟨_,rfl,u,rfl,⟨_,SqT.of (s2 _ _ hu')⟩,fun D2 hD2'=>?_⟩
    refine a3E (K:=K) (a:=u) (xs:=ws) (fun j σ H3=>∃(v0:Option V)(zs:List V),σ=[v0]/\G8 H2 H3/\H3 D2=some (.lst zs)/\a0e H3 zs ((pt.2.take j).filter (E8 false))) ⟨_,[],rfl,(G8.refl H2).new hD2',G1,by rw[List.take_zero];exact .nil⟩ (fun i σ2 H3⟨_,_,_,s3,_⟩=>SqT.of ((s2.trans s3) _ _ hu')) ?_ ?_
    ·rintro j y σ H3 hy ⟨w0,zs,rfl,s3,hD3,hzs⟩
     obtain⟨rw,hrw,r,er,hra⟩:=Paired.get? hrs hy
     subst er
     have hj:=(List.getElem?_eq_some_iff.mp hrw).1
     have hra3:=hra.mono (s2.trans s3).tups
     obtain⟨x1,rs1,hrt⟩:=hra3.kind
     have z0:atI (V.str (R8 rw)::x1::rs1) 0=some (.str (R8 rw)):=W9 (j:=0) rfl
     have hzl:zs.length<=40:=by
      rw[AF hzs]
      refine Nat.le_trans (List.length_filter_le _ _) ?_
      rw[BD]
      omega
     refine⟨_,rfl,r,_,_,_,rfl,rfl,SqT.of hrt,z0,rfl,?_⟩
     rw[a7K]
     cases hk:a0S rw with
     | false=>
      refine⟨_,rfl,B6 ?_⟩
      refine⟨_,zs,rfl,s3,hD3,?_⟩
      rw[J7 hrw,List.filter_append,BJ (by unfold E8;rw[hk];decide),List.filter_nil,List.append_nil]
      exact hzs
     | true=>
      refine⟨_,rfl,a0b ?_⟩
      have TL:=R1.lst (ys:=zs++[.ref r]) hD3
      refine⟨_,rfl,zs,hD3,J6 (by omega),_,zs++[.ref r],rfl,s3.put hD2',G1,?_⟩
      rw[J7 hrw,List.filter_append,BM (by unfold E8;rw[hk];rfl),List.filter_nil]
      exact Paired.snoc (hzs.mono TL) ⟨r,rfl,hra3.mono TL⟩
    ·rintro σ H3 ⟨w0,zs,rfl,s3,hD3,hzs⟩
     rw[hwl,AY]at hzs
     refine⟨D2,_,rfl,.inl ⟨SqL.of hD3,fun p gp=>?_⟩⟩
     have s4:G8 H2 (upd H3 p (.tup zs)):=s3.new gp
     refine⟨_,rfl,.inl ⟨rfl,_,SqL.of (s4 _ _ hL2)⟩,_,rfl,_,rfl,F2,fun e ge=>?_⟩
     refine⟨L,_,_,rfl,rfl,(s4.new ge) _ _ hL2,J6 (by omega),?_⟩
     exact last false p zs _ s4 G1 (hzs.mono (R1.new gp)) e ge
   ·rw[AW hm]
    refine B6 ?_
    refine⟨_,rfl,.inl ⟨rfl,_,SqL.of hL2⟩,_,rfl,_,rfl,F2,fun e ge=>?_⟩
    refine⟨L,_,_,rfl,rfl,((G8.refl H2).new ge) _ _ hL2,J6 (by omega),?_⟩
    exact last true u ws _ (G8.refl H2) (s2 _ _ hu') (by rw[b0K];exact hrs.mono s2.tups) e ge
  ·rintro σ H2 ⟨c,us,v3,v4,v5,rfl,s2,hL2,hus⟩
   rw[hvl,Int.toNat_natCast,AY]at hus
   refine⟨_,rfl,L,_,rfl,SqL.of hL2,fun x o' hx ho'=>?_⟩
   have s3:G8 H2 (upd H2 x (.frz o' (.tup us))):=(G8.refl H2).new hx
   exact q c x _ (s2.trans s3) ⟨o',us,G1,ho',Paired.mapP hus fun _ _ z=>z.mono s3.tups⟩
noncomputable def b6t:Sp:=fun vs H Q _=>∃(a:Addr)(ps:List Pt)(n:Str),vs=[.ref a,.str n]/\O9 H a ps/\M7 ps/\a0g ps/\n∈ps.map (·.1)/\∀R,Dfs (k2 ps) [n] (k2 ps n) R->(F1 ps R=none->∀H',G8 H H'->Q .non H')/\∀p k,F1 ps R=some (p,k)->∀(t:Addr)(H':Hp),G8 H H'->H' t=some (.tup [.str p,.int (k:Int)])->Q (.ref t) H'
theorem Dfs.in2{ps:List Pt}(hcl:a0g ps):∀n∈ps.map (·.1),∀m∈k2 ps n,m∈ps.map (·.1):=fun n hn m hm=>by
 refine hcl n hn m ?_
 unfold k1
 obtain⟨r,hr,e⟩:=List.mem_filterMap.mp hm
 exact(M6 "bring" m _).mpr ⟨r,hr,e⟩
theorem b5P(T:Txt K mg):L2.Cl P w K mg base 2 "_law_due" ["_law_parts_here","_law_root"] b6t:=by
 have C_law_begun_by:=a7W (P:=P) (w:=w) (base:=base) T
 refine Cl.of T.d_law_due a0m (fun vs H Q E h=>?_) (fun _ _ _ _ _ _ us hl=>by obtain⟨a,b,rfl⟩:=a1P hl;rfl) (fun fa cdv A outer s H vs Q E hr h=>?_)
 ·obtain⟨a,ps,n,rfl,_⟩:=h
  rfl
 ·obtain⟨a,ps,root,rfl,hpf,hfit,hcl,hroot,q⟩:=h
  have hu:=B5 hr
  have hhi:=hfit.hi
  obtain⟨o,vs,ha,ho,hps⟩:=id hpf
  have sqa:∀{H2:Hp},G8 H H2->SqT K H2 a vs:=fun s2=> .inl (.inr ⟨o,s2 _ _ ha⟩)
  have hvl:vs.length=ps.length:=AF hps
  refine⟨_,(G7 (J3 (i:=2) a0m.nd rfl (Or.inl rfl) a3k)
   (G7 (Z7 AQ rfl (a0d (pv 0)) (D8 rfl (J8 (J5 (i:=3) a0m.nd rfl (Or.inl rfl)) (J8 (J5 (i:=4) a0m.nd rfl (Or.inl rfl)) Z9)))
    (G9 (M0 hu (pv 2) (pv 3) (pv 4) rfl)))
   (G7 (Z7 AQ rfl (a1a (W4 C_law_begun_by hr (by rfl) (G0 (pv 2) (G0 (pv 1) G6)))) (J5 (i:=3) a0m.nd rfl (Or.inl rfl))
    (G9 (Z7 AQ rfl (a0k (by rfl) T.n_range (G0 (R4 J9 (by rfl) T.n_len PySem.boot_len (G0 (E5 hu (pv 2) (pv 3) (fun _ _=>rfl)) G6)) G6)) (J5 (i:=5) a0m.nd rfl (Or.inl rfl))
     (G9 (Y8 (R0 F3 (J2 U0 (J2 U0 (E5 hu (pv 2) (pv 3) (fun _ _=>rfl)) (pv 5) (fun _ _=>rfl)) G2 (fun _ _=>rfl)) U5 (U4 _))
      (G9 (R5 (U6 (G0 (pv 3) (G0 (pv 5) G6))))) U9)))))
   (G9 (R5 a4P))))),?_⟩
  intro rd grd
  refine⟨_,rfl,a,rfl,⟨_,sqa ((G8.refl H).new grd)⟩,a0o (K:=K) (a:=a) (xs:=vs) (fun i σ H2=>∃(kvs:List (Key×V))(v3 v4:Option V),σ=[some (.ref a),some (.str root),some (.ref rd),v3,v4,none]/\G8 H H2/\H2 rd=some (.dK kvs)/\kvs.length<=i/\∀pt∈ps.take i,∃u ws,Y7 kvs (Sum.inr pt.1)=some (.ref u)/\H u=some (.tup ws)/\a0e H ws pt.2)
   ⟨[],none,none,rfl,(G8.refl H).new grd,G1,by simp,fun pt hpt=>by simp at hpt⟩ (fun i σ H2 _⟨_,_,_,_,s2,_⟩=>sqa s2) ?_ ?_⟩
  ·rintro i y σ H2 hy ⟨kvs,v3,v4,rfl,s2,hrd,hkl,hval⟩
   obtain⟨pt,hpt,t,u,ws,ey,ht,hu',hrs⟩:=Paired.get? hps hy
   subst ey
   have hi:=(List.getElem?_eq_some_iff.mp hpt).1
   refine⟨t,_,rfl,SqT.of (s2 _ _ ht),rfl,_,_,rfl,_,_,rfl,rfl,?_⟩
   refine⟨_,rfl,_,rfl,_,rfl,rd,_,rfl,a1L.k (k:=Sum.inr pt.1) hrd (J6 (by omega)),?_⟩
   have hkl':=D5 kvs (Sum.inr pt.1) (.ref u)
   refine⟨_,_,_,rfl,s2.put grd,G1,by omega,fun p hp=>?_⟩
   rw[J7 hpt]at hp
   rcases AL.mp hp with z | z
   ·obtain⟨u',ws',h1,h2,h3⟩:=hval p z
    refine⟨u',ws',?_,h2,h3⟩
    rw[O8,if_neg fun w=>a8w hfit.nd hpt (by rw[<-Sum.inr.inj w];exact AN (f:=(·.1)) z)]
    exact h1
   ·rw[AD.mp z]
    exact⟨u,ws,by rw[O8,if_pos rfl],hu',hrs⟩
  ·rintro σ H2 ⟨kvs,v3,v4,rfl,s2,hrd,hkl,hval⟩
   rw[hvl,AY]at hval
   refine⟨_,rfl,_,rfl,rd,root,kvs,ps,rfl,hrd,hfit,hcl,fun n rs hm=>?_,hroot,fun b R H3 s3 hb hD=>?_⟩
   ·obtain⟨u,ws,h1,h2,h3⟩:=hval _ hm
    exact⟨u,ws,h1,s2 _ _ h2,h3.mono s2.tups⟩
   have hR:=hD.inside (Dfs.in2 hcl) (fun x hx=>by rw[AD.mp hx];exact hroot) (Dfs.in2 hcl root hroot)
   have qq:=q R hD
   have s23:=s2.trans s3
   have hrd3:=s3 _ _ hrd
   refine⟨b,rfl,⟨_,SqL.of hb⟩,a1W (K:=K) (a:=b) (xs:=R.map V.str) (fun i σ H4=>∃(v3 v4 v5:Option V),σ=[some (.ref a),some (.str root),some (.ref rd),v3,v4,v5]/\G8 H3 H4/\∀m∈R.take i,a1S (R9 ps m)=none)
    ⟨_,_,_,rfl,G8.refl H3,fun m hm=>by simp at hm⟩ (fun i σ H4 _⟨_,_,_,_,s4,_⟩=>SqL.of (s4 _ _ hb)) ?_ ?_⟩
   ·rintro i y σ H4 hy ⟨w3,w4,w5,rfl,s4,hno⟩
    rw[List.getElem?_map]at hy
    cases hn:R[i]? with
    | none=>rw[hn]at hy;cases hy
    | some n=>
     rw[hn]at hy
     cases hy
     obtain⟨rs,hm⟩:=a0I (hR n (AG hn))
     have hro:R9 ps n=rs:=E4 hfit.nd hm
     obtain⟨u,ws,h1,h2,h3⟩:=hval _ hm
     have hwl:ws.length=rs.length:=AF h3
     have hr40:rs.length<=40:=hfit.rows _ hm
     have s24:=s23.trans s4
     have hdg:∀{H9:Hp},H9 rd=some (.dK kvs)->D3 H9 rd (.str n) (some (.ref u)):=fun h9=>by
      have:=D3.k (k:=Sum.inr n) h9
      rw[show Y7 kvs (Sum.inr n)=some (.ref u)from h1]at this
      exact this
     show a0s 3 _ _ _ _
     refine⟨_,rfl,_,rfl,rd,_,rfl,hdg (s4 _ _ hrd3),u,_,rfl,.inr (SqT.of (s24 _ _ h2)),_,rfl,(by omega),(by omega),M9 (fun j σ H5=>∃(v5:Option V),σ=[some (.ref a),some (.str root),some (.ref rd),some (.str n),w4,v5]/\G8 H4 H5/\∀r∈rs.take j,¬R8 r="ask")
      ⟨_,rfl,G8.refl H4,fun r hr=>by simp at hr⟩ ?_ ?_⟩
     ·rintro j σ H5 hj ⟨u5,rfl,s5,hnj⟩
      rw[Int.zero_add]
      have hj':j < rs.length:=by omega
      obtain⟨rr,hrw⟩:∃rr,rs[j]?=some rr:=⟨rs[j],by simp[hj']⟩
      obtain⟨v,hv,r,er,hra⟩:=Paired.get?' h3 hrw
      subst er
      have s25:=s24.trans s5
      obtain⟨x1,rs1,hrt⟩:=(hra.mono s25.tups).kind
      have z0:atI (V.str (R8 rr)::x1::rs1) 0=some (.str (R8 rr)):=W9 (j:=0) rfl
      have hd5:=hdg (s5 _ _ (s4 _ _ hrd3))
      by_cases hk:R8 rr="ask"
      ·rw[hk]at hrt z0
       refine⟨_,rfl,_,rfl,rd,_,rfl,hd5,_,rfl,u,_,_,_,rfl,rfl,SqT.of (s25 _ _ h2),W9 hv,r,_,_,_,rfl,rfl,SqT.of hrt,z0,rfl,_,rfl,a0t ?_⟩
       refine⟨_,rfl,_,rfl,F2,fun t gt=>?_⟩
       exact qq.2 n j (a2X hn hno (by rw[hro];exact a5p hrw hk hnj)) t _ (s25.new gt) G1
      ·refine⟨_,rfl,_,rfl,rd,_,rfl,hd5,_,rfl,u,_,_,_,rfl,rfl,SqT.of (s25 _ _ h2),W9 hv,r,_,_,_,rfl,rfl,SqT.of hrt,z0,rfl,_,rfl,Z4 hk ?_⟩
       refine⟨_,rfl,s5,fun x hx=>?_⟩
       rw[J7 hrw]at hx
       rcases AL.mp hx with z | z
       ·exact hnj x z
       ·rw[AD.mp z];exact hk
     ·rintro σ H5 ⟨u5,rfl,s5,hnj⟩
      rw[hwl,Int.toNat_natCast,AY]at hnj
      refine⟨_,_,_,rfl,s4.trans s5,fun m hm'=>?_⟩
      rw[J7 hn]at hm'
      rcases AL.mp hm' with z | z
      ·exact hno m z
      ·rw[AD.mp z,hro];exact a5z hnj
   ·rintro σ H4 ⟨w3,w4,w5,rfl,s4,hno⟩
    rw[List.length_map,AY]at hno
    exact qq.1 (a1B hno) H4 (s23.trans s4)
theorem a4T{ps:List Pt}{n:Str}{R R':List Str}(h2:Dfs (k2 ps) [n] (k2 ps n) R)(h1:Dfs (k1 ps) [] [n] R'):R'=R:=by
 have h:=Dfs.sim (k12 ps) h1 (.both .nil)
 cases h with
 | old hm _=>simp at hm
 | new _ h3=>
  rw[List.append_nil]at h3
  exact h3.det h2
noncomputable def b4I:Sp:=fun vs H Q _=>∃(a:Addr)(ps:List Pt)(n:Str),vs=[.ref a,.str n]/\O9 H a ps/\M7 ps/\D7 (I9 ps)/\(∀k∈D6 (I9 ps),k.2.length<=100)/\a0g ps/\n∈ps.map (·.1)/\a4H ps/\∀H',G8 H H'->Q (.bl true) H'
theorem b2J(T:Txt K mg){A:Adr}(hX:b1E K mg A):L2.Cl P w K mg base 8 "_law_right" ["_law_parts_here","_law_root"] b4I:=by
 have C_law_due:=b5P (P:=P) (w:=w) (base:=base) T
 have C_law_refused:=a5j (P:=P) (w:=w) (base:=base) T hX
 refine Cl.of T.d_law_right a1K (fun vs H Q E h=>?_) (fun _ _ _ _ _ _ us hl=>by obtain⟨a,b,rfl⟩:=a1P hl;rfl) (fun fa cdv A0 outer s H vs Q E hr h=>?_)
 ·obtain⟨a,ps,n,rfl,_⟩:=h
  rfl
 ·obtain⟨a,ps,n,rfl,hpf,hfit,hnet,hklen,hcl,hn,hU,q⟩:=h
  have hu:=B5 hr
  refine⟨_,(G7 (J3 (i:=2) a1K.nd rfl (Or.inl rfl) (W4 C_law_due hr (by rfl) (G0 (pv 0) (G0 (pv 1) G6))))
   (G7 (J3 (i:=3) a1K.nd rfl (Or.inl rfl) (W4 C_law_refused hr (by rfl) (G0 (pv 0) (G0 (pv 1) G6))))
   (G7 (Y8 (PW.pt (a9W (a2U (a3T (pv 2))) (a9a (a2U (a3T (pv 3))))))
    (G9 (R5 (a5F (a9I (a3T (pv 2))) (a7e (a9I (a3T (pv 3))))))) U9)
   (G7 (Y8 (PW.pt (a9W (a9l (a4g (R4 a1b (by rfl) T.n_isinstance PyProof.Rows.boot_isinstance (G0 (J2 U0 (pv 3) G2 (fun _ _=>rfl)) (G0 (a3u (v:= .ty "str") (by rfl) T.n_str boot_str rfl) G6))))) (a9W (a9l (a4g (R4 a1b (by rfl) T.n_isinstance PyProof.Rows.boot_isinstance (G0 (J2 U0 (pv 3) G2 (fun _ _=>rfl)) (G0 (a3u (v:= .ty "int") (by rfl) T.n_int boot_int rfl) G6))))) (a9a (a4g (R4 a1b (by rfl) T.n_isinstance PyProof.Rows.boot_isinstance (G0 (J2 U0 (pv 3) G2 (fun _ _=>rfl)) (G0 (a3u (v:= .ty "bool") (by rfl) T.n_bool boot_bool rfl) G6))))))))
    (G9 (R5 a3s)) U9)
   (G9 (R5 (a5F (b0l (b6h 0 hu) (b2h b4p (pv 3) a9M (a7j G2)) (pv 2) (U4 _)) (a7e (b0l b6i (J2 U0 (pv 3) G2 (fun _ _=>rfl)) a3s (U4 _)))))))))),?_⟩
  refine⟨_,rfl,_,rfl,a,ps,n,rfl,hpf,hfit,hcl,hn,fun R hD=>⟨fun hfn H1 s1=>?_,fun p k hfs t H1 s1 ht=>?_⟩⟩
  ·refine⟨_,rfl,_,rfl,a,ps,n,rfl,s1.partsF hpf,hfit,hnet,hklen,hcl,hn,hU,fun R' hD'=>⟨fun _ H2 s2=>?_,fun p k e=>?_⟩⟩
   ·refine⟨_,rfl,_,rfl,a0b ?_⟩
    refine⟨_,rfl,_,rfl,a0b ?_⟩
    exact⟨_,rfl,q H2 (s1.trans s2)⟩
   ·rw[a4T hD hD',hfn]at e
    cases e
  ·refine⟨_,rfl,_,rfl,a,ps,n,rfl,s1.partsF hpf,hfit,hnet,hklen,hcl,hn,hU,fun R' hD'=>⟨fun e=>?_,fun p' k' e t2 H2 s2 ht2=>?_⟩⟩
   ·rw[a4T hD hD',hfs]at e
    cases e
   ·rw[a4T hD hD',hfs]at e
    cases e
    have ht':=s2 _ _ ht
    refine⟨_,rfl,_,rfl,B6 ?_⟩
    refine⟨_,rfl,_,rfl,B6 ?_⟩
    refine⟨_,rfl,t2,_,_,_,rfl,rfl,SqT.of ht2,rfl,_,_,_,_,rfl,.str _,a5m _ _,_,rfl,B6 ?_⟩
    refine⟨_,rfl,t2,_,_,_,rfl,rfl,SqT.of ht2,rfl,_,_,_,_,rfl,.int _,a5m _ _,_,rfl,B6 ?_⟩
    refine⟨_,rfl,t2,_,_,_,rfl,rfl,SqT.of ht2,rfl,_,_,_,_,rfl,.int _,a7t _,_,rfl,B6 ?_⟩
    refine⟨_,rfl,_,rfl,t2,_,rfl,SqT.of ht2,.inr ⟨fun z=>absurd z.2 (show¬HT.sIx 3 3 (some 2)=3 by decide),fun t3 g3=>?_⟩⟩
    have s3:G8 H2 (upd H2 t3 (.tup [.str p,.int (k:Int)])):=(G8.refl H2).new g3
    refine⟨_,rfl,t3,t,_,_,rfl,rfl,SqT.of G1,SqT.of (s3 _ _ ht'),.cons ⟨rfl,rfl⟩ (.cons ⟨rfl,rfl⟩ .nil),_,rfl,a0b ?_⟩
    exact⟨_,rfl,t2,_,_,_,rfl,rfl,SqT.of (s3 _ _ ht2),rfl,_,_,rfl,rfl,q _ (s1.trans (s2.trans s3))⟩
theorem b1N{c:Str->Bool}{ps:List Pt}{pt:Pt}(h:pt∈quiet c ps){r:Rw}(hr:r∈pt.2):∃rs,(pt.1,rs)∈ps/\r∈rs:=by
 obtain⟨rs,hm,e⟩:=a1u h
 rw[e]at hr
 exact⟨rs,hm,(List.mem_filter.mp hr).1⟩
theorem O7.usesQ(c:Str->Bool){hs:List Pp}{b0 b1 b2:Int}{ps:List Pt}(d:O7 hs b0 b1 b2 ps):a4H (quiet c ps):=fun x hx hw=>by
 obtain⟨rs,h1,h2⟩:=hx
 obtain⟨rs',hm,hr'⟩:=b1N h1 (AG h2)
 rw[a9j]
 rcases d.uses hm hr' with h | h | h
 ·exact h
 ·exact absurd h (a7C hw).1
 ·exact absurd h (a7C hw).2
theorem O7.closedQ(c:Str->Bool){hs:List Pp}{b0 b1 b2:Int}{ps:List Pt}(d:O7 hs b0 b1 b2 ps):a0g (quiet c ps):=fun n hn m hm=>by
 have hf:=d.fit
 obtain⟨rs,hrs⟩:=a0I hn
 obtain⟨rs',hm',e⟩:=a1u hrs
 rw[a2k]at hn⊢
 refine d.closedB n hn m ?_
 unfold k1 at hm⊢
 rw[E4 (a3V c hf).nd hrs,show rs=rs'.filter (E8 (c n))from e]at hm
 rw[E4 hf.nd hm']
 obtain⟨rw,h1,h2⟩:=(M6 "bring" m _).mp hm
 exact(M6 "bring" m _).mpr ⟨rw,(List.mem_filter.mp h1).1,h2⟩
theorem a9x(ps:List Pt)(R:List Str):F1 (quiet (fun _=>false) ps) R=none:=by
 refine a1B fun m _=>a5z fun r hr z=>?_
 obtain⟨rs',hm',e⟩:=a1u (a6C hr)
 have hr':r∈rs'.filter (E8 false):=by
  rw[show R9 (quiet (fun _=>false) ps) m=rs'.filter (E8 false)from e]at hr
  exact hr
 have:=(List.mem_filter.mp hr').2
 unfold E8 a0S at this
 rw[decide_eq_true z]at this
 cases this
theorem b7B(c:Int):∃st:Int,atI [V.int 1,V.int 2,V.int 3,V.int 4] (c % 4)=some (.int st)/\0 < st:=by
 have h:c % 4=0\/c % 4=1\/c % 4=2\/c % 4=3:=by omega
 rcases h with h | h | h | h<;>rw[h]
 ·exact⟨1,rfl,by decide⟩
 ·exact⟨2,rfl,by decide⟩
 ·exact⟨3,rfl,by decide⟩
 ·exact⟨4,rfl,by decide⟩
theorem b6p{f:Addr}{fd:FuncData}(F:Fun K "law" "law" a7M f fd)(T:Txt K mg):a4C P w K mg base CX0 9 f fd ["_law_script"] (a9X K):=by
 obtain⟨A,hX⟩:=T.xs
 have C_law_cell_at:=a3C (P:=P) (w:=w) (base:=base) T
 have C_law_parts:=b2y (P:=P) (w:=w) (base:=base) T
 have C_law_some_asks:=b3X (P:=P) (w:=w) (base:=base) T
 have C_law_refused:=a5j (P:=P) (w:=w) (base:=base) T hX
 have C_law_right:=b2J (P:=P) (w:=w) (base:=base) T hX
 refine F.ok a1U (fun vs H Q E h=>?_) (fun cdv A0 outer s H vs Q E hr h=>?_)
 ·obtain⟨a,ns,rfl,_⟩:=h
  rfl
 ·obtain⟨a,ns,rfl,hS,hlen,q⟩:=h
  have hu:=B5 hr
  refine⟨_,(G7 (J3 (i:=1) a1U.nd rfl (Or.inl rfl) (W4 C_law_cell_at hr (by rfl) (G0 (pv 0) (G0 G2 G6))))
   (G7 (J3 (i:=2) a1U.nd rfl (Or.inl rfl) (W4 C_law_some_asks hr (by rfl) (G0 (W4 C_law_parts hr (by rfl) (G0 (pv 0) G6)) (G0 (J2 J4 (Y2 (G0 G2 (G0 G2 (G0 G2 (G0 G2 G6))))) (J1 U1 (pv 1) G2) (fun _ _=>rfl)) G6))))
   (G7 (J3 (i:=3) a1U.nd rfl (Or.inl rfl) (J1 Z6 G2 (J1 W7 (R4 J9 (by rfl) T.n_len PySem.boot_len (G0 (pv 2) G6)) G2)))
   (G7 (Z7 AQ rfl (a0d (a9d (pv 2) (a7j (J1 U1 (J1 W7 (pv 1) G2) (pv 3))) a9M (a7j (pv 3)))) (D8 rfl (J8 (J5 (i:=4) a1U.nd rfl (Or.inl rfl)) (J8 (J5 (i:=5) a1U.nd rfl (Or.inl rfl)) Z9)))
    (G9 (Y8 (a9l (a4g (W4 C_law_right hr (by rfl) (G0 (pv 2) (G0 (pv 4) G6)))))
     (G9 (R5 a3s)) U9)))
   (G7 (J3 (i:=6) a1U.nd rfl (Or.inl rfl) (J2 U0 (J2 U0 (pv 2) (J1 U1 (J1 W7 (pv 1) G2) (R4 J9 (by rfl) T.n_len PySem.boot_len (G0 (pv 2) G6))) (fun _ _=>rfl)) G2 (fun _ _=>rfl)))
   (G7 (J3 (i:=7) a1U.nd rfl (Or.inl rfl) (W3 a0O (by rfl) T.n_tuple boot_tuple (G0 (a2G (M:=["_law_name_here","_law_rows"]) (ρ:=[none,none]) (J0 a7M) ["_law_script","_law_first","_law_parts_here","_law_step","_law_name_here","_law_rows","_law_root","_law_bare"] ⟨rfl,by decide +kernel,by decide +kernel,by decide +kernel,rfl,by decide +kernel,by decide +kernel⟩ (a0d (pv 2)) (fun _ _ _ _ _ _=>(a3c (K:=K) (n:=2) rfl rfl (J8 (J5 (i:=0) (show(["_law_name_here","_law_rows"]:List Str).Nodup by decide +kernel) rfl (Or.inl rfl)) (J8 (J5 (i:=1) (show(["_law_name_here","_law_rows"]:List Str).Nodup by decide +kernel) rfl (Or.inl rfl)) Z9)))) (fun _ _ _ _ _ _=>a1y) (fun _ _ _ _ _ _=>(U6 (G0 (pv 0) (G0 (W3 (a5d (K:=K) rfl) (by rfl) T.n_tuple boot_tuple (G0 (a2G (M:=["_law_row_here"]) (ρ:=[none]) _ ["_law_name_here","_law_rows"] (a5L rfl (by decide +kernel) (by decide +kernel) rfl (by decide +kernel) (by decide +kernel)) (b4K (K:=K) rfl (pv 1)) (fun _ _ _ _ _ _=>(J5 (i:=0) (show(["_law_row_here"]:List Str).Nodup by decide +kernel) rfl (Or.inl rfl))) (fun _ _ _ _ _ _=>(b0p (R0 b5c (J2 (b0g (K:=K) rfl) (pv 0) G2 (fun _ _=>rfl)) U5 (U4 _)))) (fun _ _ _ _ _ _=>(pv 0))) G6)) G6))))) G6)))
   (G9 (R5 (a5F (a9I (a3T (W4 C_law_refused hr (by rfl) (G0 (pv 7) (G0 (pv 6) G6))))) (a7e (W4 C_law_right hr (by rfl) (G0 (pv 2) (G0 (pv 6) G6))))))))))))),?_⟩
  refine⟨_,rfl,a,ns,_,rfl,hS,(by decide),fun cc=>?_⟩
  refine⟨_,rfl,a,ns,rfl,hS,by omega,fun x0 hs b0 b1 b2 ps0 H0 s0 hpf0 hd=>?_⟩
  refine⟨(by show 4<=sizeLine;decide),fun l gl=>?_⟩
  have sl:G8 H0 (upd H0 l (.lst [.int 1,.int 2,.int 3,.int 4])):=(G8.refl H0).new gl
  obtain⟨st,hat4,hst0⟩:=b7B cc
  refine⟨_,rfl,_,_,rfl,rfl,(by show(0:Int) < 4;decide),l,_,_,_,rfl,rfl,SqL.of G1,hat4,?_⟩
  refine⟨x0,ps0,st,rfl,sl.partsF hpf0,hd.fit,hst0,fun c x H1 s1' hpf=>?_⟩
  have s1:=sl.trans s1'
  have hfit:=a3V c hd.fit
  have hnet:=a6d c hd.net
  obtain⟨hknd,hklen0⟩:=hd.keys
  have hcl:=hd.closedQ c
  have hU:=hd.usesQ c
  have hklenB:∀c,∀k∈D6 (I9 (quiet c ps0)),k.2.length<=100:=fun c=>by
   rw[a0l,a2x,<-a0l]
   exact hklen0
  have hklen:=hklenB c
  have hpos:0 < (quiet c ps0).length:=by
   rw[a2S,hd.len]
   exact hd.lo
  obtain⟨o,vs,hx,ho,hps⟩:=id hpf
  have sqx:∀{H5:Hp},G8 H1 H5->SqT K H5 x vs:=fun s5=> .inl (.inr ⟨o,s5 _ _ hx⟩)
  have hvl:vs.length=(quiet c ps0).length:=AF hps
  have hhi:=hfit.hi
  refine⟨_,rfl,x,_,rfl,.inr (sqx (G8.refl H1)),_,_,rfl,rfl,⟨by decide,by decide⟩,_,_,rfl,rfl,?_⟩
  have hst:0 < (1:Int)+(vs.length:Int)/5:=by omega
  refine⟨_,rfl,_,rfl,_,_,rfl,rfl,⟨by decide,by decide⟩,_,rfl,_,_,rfl,rfl,hst,_,rfl,_,rfl,_,rfl,x,vs,_,rfl,(fun H5 s5=>sqx s5),rfl,hst,fun p ys H5 s5 hp5 hys=>?_⟩
  refine⟨p,rfl,⟨_,hp5 H5 (G8.refl H5)⟩,a0o (K:=K) (a:=p) (xs:=ys) (fun i σ H6=>∃(v4 v5:Option V),σ=[some (.ref a),some (.int cc),some (.ref x),some (.int (1+(vs.length:Int)/5)),v4,v5,none,none]/\G8 H5 H6)
   ⟨_,_,rfl,G8.refl H5⟩ (fun i σ H6 _⟨_,_,_,s6⟩=>hp5 _ s6) ?_ ?_⟩
  ·rintro i y σ H6 hy ⟨w4,w5,rfl,s6⟩
   have s16:=s5.trans s6
   obtain⟨j,hj⟩:=AV (hys y (AG hy))
   obtain⟨pt,hpt,t,u,ws,ey,ht,hu',hrs⟩:=Paired.get? hps hj
   subst ey
   have hmem:pt.1∈(quiet c ps0).map (·.1):=AN (f:=(·.1)) (AG hpt)
   refine⟨t,_,rfl,SqT.of (s16 _ _ ht),rfl,_,_,rfl,_,_,rfl,rfl,?_⟩
   refine⟨_,rfl,_,rfl,x,_,pt.1,rfl,s16.partsF hpf,hfit,hnet,hklen,hcl,hmem,hU,fun H7 s7=>?_⟩
   refine⟨_,rfl,B6 ?_⟩
   exact⟨_,_,rfl,s6.trans s7⟩
  ·rintro σ H6 ⟨w4,w5,rfl,s6⟩
   have s16:=s5.trans s6
   have hlp:(0:Int) < (vs.length:Int):=by omega
   have hmlt:((cc/20) % (vs.length:Int)).toNat < vs.length:=by
    have h1:=BQ (cc/20) hlp
    have h2:=BO (cc/20) (by omega:(vs.length:Int)≠0)
    omega
   have hme:(((cc/20) % (vs.length:Int)).toNat:Int)=(cc/20) % (vs.length:Int):=Int.toNat_of_nonneg (BO _ (by omega))
   obtain⟨y,hy⟩:∃y,vs[((cc/20) % (vs.length:Int)).toNat]?=some y:=⟨_,AU hmlt⟩
   have haty:atI vs ((cc/20) % (vs.length:Int))=some y:=by
    rw[<-hme]
    exact W9 hy
   obtain⟨pt,hpt,t,u,ws,ey,ht,hu',hrs⟩:=Paired.get? hps hy
   subst ey
   have hmem:pt.1∈(quiet c ps0).map (·.1):=AN (f:=(·.1)) (AG hpt)
   refine⟨_,rfl,_,rfl,_,_,rfl,rfl,⟨by decide,by decide⟩,_,rfl,x,_,rfl,.inr (sqx s16),_,_,rfl,rfl,hlp,x,_,_,_,rfl,rfl,sqx s16,haty,t,_,_,_,rfl,rfl,SqT.of (s16 _ _ ht),rfl,?_⟩
   refine⟨_,rfl,x,rfl,⟨_,sqx s16⟩,fun D hD=>?_⟩
   refine a3E (K:=K) (a:=x) (xs:=vs) (fun i σ H7=>∃(v0 v1:Option V)(us:List V),σ=[v0,v1]/\G8 H6 H7/\H7 D=some (.lst us)/\Paired (a1G H7) us (quiet (fun _=>false) ((quiet c ps0).take i))) ⟨_,_,[],rfl,(G8.refl H6).new hD,G1,by rw[List.take_zero];exact .nil⟩ (fun i σ2 H7⟨_,_,_,_,s7,_⟩=>sqx (s16.trans s7)) ?_ ?_
   ·rintro i z σ H7 hz ⟨v0,v1,us,rfl,s7,hD2,hus⟩
    obtain⟨pt',hpt',t',u',ws',ez,ht',hu2,hrs'⟩:=Paired.get? hps hz
    subst ez
    have hi:=(List.getElem?_eq_some_iff.mp hpt').1
    have hwl:ws'.length=pt'.2.length:=AF hrs'
    have hr40:=hfit.rows _ (AG hpt')
    have s17:=s16.trans s7
    have hul:us.length<=100:=by
     rw[AF hus,a2S,BD]
     omega
    refine⟨t',_,rfl,SqT.of (s17 _ _ ht'),rfl,_,_,rfl,_,_,rfl,rfl,?_⟩
    refine⟨_,rfl,_,rfl,u',rfl,⟨_,SqT.of (s17 _ _ hu2)⟩,fun D2 hD2'=>?_⟩
    refine a3E (K:=K) (a:=u') (xs:=ws') (fun j σ H8=>∃(v0:Option V)(zs:List V),σ=[v0]/\G8 H7 H8/\H8 D2=some (.lst zs)/\a0e H8 zs ((pt'.2.take j).filter (E8 false))) ⟨_,[],rfl,(G8.refl H7).new hD2',G1,by rw[List.take_zero];exact .nil⟩ (fun i σ2 H8⟨_,_,_,s8,_⟩=>SqT.of ((s17.trans s8) _ _ hu2)) ?_ ?_
    ·rintro j y' σ H8 hy' ⟨w0,zs,rfl,s8,hD3,hzs⟩
     obtain⟨rw,hrw,r,er,hra⟩:=Paired.get? hrs' hy'
     subst er
     have hj:=(List.getElem?_eq_some_iff.mp hrw).1
     have hra3:=hra.mono (s17.trans s8).tups
     obtain⟨x1,rs1,hrt⟩:=hra3.kind
     have z0:atI (V.str (R8 rw)::x1::rs1) 0=some (.str (R8 rw)):=W9 (j:=0) rfl
     have hzl:zs.length<=40:=by
      rw[AF hzs]
      refine Nat.le_trans (List.length_filter_le _ _) ?_
      rw[BD]
      omega
     refine⟨_,rfl,r,_,_,_,rfl,rfl,SqT.of hrt,z0,rfl,?_⟩
     rw[a7K]
     cases hk:a0S rw with
     | false=>
      refine⟨_,rfl,B6 ?_⟩
      refine⟨_,zs,rfl,s8,hD3,?_⟩
      rw[J7 hrw,List.filter_append,BJ (by unfold E8;rw[hk];decide),List.filter_nil,List.append_nil]
      exact hzs
     | true=>
      refine⟨_,rfl,a0b ?_⟩
      have TL:=R1.lst (ys:=zs++[.ref r]) hD3
      refine⟨_,rfl,zs,hD3,J6 (by omega),_,zs++[.ref r],rfl,s8.put hD2',G1,?_⟩
      rw[J7 hrw,List.filter_append,BM (by unfold E8;rw[hk];rfl),List.filter_nil]
      exact Paired.snoc (hzs.mono TL) ⟨r,rfl,hra3.mono TL⟩
    ·rintro σ H8 ⟨w0,zs,rfl,s8,hD3,hzs⟩
     rw[hwl,AY]at hzs
     refine⟨D2,_,rfl,.inl ⟨SqL.of hD3,fun p gp=>?_⟩⟩
     have s9:G8 H7 (upd H8 p (.tup zs)):=s8.new gp
     refine⟨F2,fun e ge=>?_⟩
     have s10:=s9.new (o:= .tup [.str pt'.1,.ref p]) ge
     have hD5:=s10 _ _ hD2
     have TL:=R1.lst (ys:=us++[.ref e]) hD5
     refine⟨us,hD5,J6 (by omega),_,_,us++[.ref e],rfl,(s7.trans s10).put hD,G1,?_⟩
     rw[J7 hpt',a5t]
     refine Paired.snoc (Paired.mapP hus fun _ _ z=>z.mono (s10.tups.trans TL)) ⟨e,p,zs,rfl,TL _ _ G1,TL _ _ (U3 G1 ge),?_⟩
     exact hzs.mono (((R1.new gp).trans (R1.new ge)).trans TL)
   ·rintro σ H7 ⟨v0,v1,us,rfl,s7,hD2,hus⟩
    rw[hvl,AY,a7y]at hus
    refine⟨D,_,rfl,SqL.of hD2,fun x2 o' hx2 ho'=>?_⟩
    have s8:G8 H7 (upd H7 x2 (.frz o' (.tup us))):=(G8.refl H7).new hx2
    have hpf8:O9 (upd H7 x2 (.frz o' (.tup us))) x2 (quiet (fun _=>false) ps0):=⟨o',us,G1,ho',Paired.mapP hus fun _ _ z=>z.mono s8.tups⟩
    have s18:=s16.trans (s7.trans s8)
    have hmemB:pt.1∈(quiet (fun _=>false) ps0).map (·.1):=by
     rw[a2k]at hmem⊢
     exact hmem
    refine⟨_,rfl,_,rfl,x2,_,pt.1,rfl,hpf8,a3V _ hd.fit,a6d _ hd.net,hklenB _,hd.closedQ _,hmemB,hd.usesQ _,fun R hD=>⟨fun _ H9 s9=>?_,fun p k e=>?_⟩⟩
    ·refine⟨_,rfl,a0b ?_⟩
     exact⟨_,rfl,_,rfl,x,_,pt.1,rfl,(s18.trans s9).partsF hpf,hfit,hnet,hklen,hcl,hmem,hU,fun H10 s10=>q H10⟩
    ·rw[a9x]at e
     cases e
end
end K44
namespace K44
open PySem L2
noncomputable def DA (K:W.Frag) (x:Str) (st:Stmt):Prop:=∃f od an sl oc kV dc pm cd ct,W.nsIn K mainGlobals x=some (some (.ref f))/\K.lookup f=some ⟨oc,od,.func (W.fnOf x x (a0f st) (F6 st) (J0 st) .none kV dc pm an cd ct),sl⟩/\W.codeIn K cd x=true/\W.keepIn K (.ref f)=true
theorem DA.has{K:W.Frag}{h:Heap}{mg:Str->Option Value}{x:Str}{st:Stmt}(X:K.In h)(G:h.Ns mainGlobals mg)(d:DA K x st):W2 K mg x st:=by
 obtain⟨f,od,an,sl,oc,kV,dc,pm,cd,ct,a,l,c,k⟩:=d
 exact b0A X G a l c k
theorem DA.mk{K:W.Frag}{x:Str}{st:Stmt}{f:Addr}{od an:Option Addr}{sl:Array (Option Value)}{oc kV dc pm cd ct:Value}(a:W.nsIn K mainGlobals x=some (some (.ref f)))(l:K.lookup f=some ⟨oc,od,.func (W.fnOf x x (a0f st) (F6 st) (J0 st) .none kV dc pm an cd ct),sl⟩)(c:W.codeIn K cd x=true)(k:W.keepIn K (.ref f)=true):DA K x st:=⟨f,od,an,sl,oc,kV,dc,pm,cd,ct,a,l,c,k⟩
theorem b6g{l:W.OpenLaw}{w:World}{K:W.Frag}{h:Heap}{mg:Str->Option Value}{fa:Addr}(X:K.In h)(G:h.Ns mainGlobals mg)(hfa:mg "law"=some (.ref fa))
  {c_BundleError:Addr}
  {c_Asks:Addr}
  {c_Endless:Addr}
  {c_NoMap:Addr}
  {c_NoName:Addr}
  {c_NoPart:Addr}
  {c_NoPlace:Addr}
  {c_NoRow:Addr}
  {c_NotGiven:Addr}
  {c_TooMany:Addr}
  {c_Twice:Addr}
  {cd_c_Asks:ClassData}
  {rr_Asks:Addr}
  {fi_Asks:Addr}{iod_Asks ian_Asks:Option Addr}{isl_Asks:Array (Option Value)}{ioc_Asks ikV_Asks idc_Asks ipm_Asks icd_Asks ict_Asks:Value}
  {jN_Asks:Addr}{jnm_Asks jq_Asks:Str}{jbs_Asks:List Value}{jh_Asks:Bool}{jsn_Asks:List Str}{jsub_Asks:List Value}{jab_Asks:Bool}{jcol_Asks:Option Bool}{jdd_Asks:Option Addr}{j0_Asks j1_Asks j2_Asks j3_Asks j5_Asks:Option Value}
  (hd:DA K "placed_rows" a1m/\
  DA K "given_owns" a1J/\
  DA K "links" a6N/\
  DA K "makers" a4R/\
  DA K "made" a8K/\
  DA K "brings" a5i/\
  DA K "named_parts" a1j/\
  DA K "order" a6P/\
  DA K "new_names" a2n/\
  DA K "numbered" a2R/\
  DA K "makers_names" a0P/\
  DA K "renamed_row" a1l/\
  DA K "renamed_sum" a0q/\
  DA K "renamed_thing" a0v/\
  DA K "renamed_when" a0N/\
  DA K "flat" a5A/\
  DA K "refuse_asks" a1h/\
  DA K "work_in_order" a0B/\
  DA K "last_first" a0H/\
  DA K "_law_cell_at" a1k/\
  DA K "_law_stream" a1z/\
  DA K "_law_name" a2V/\
  DA K "_law_pool" a2T/\
  DA K "_law_begun" a2f/\
  DA K "_law_fresh" a2o/\
  DA K "_law_pairs" a2e/\
  DA K "_law_added" a2i/\
  DA K "_law_sum" a4a/\
  DA K "_law_row" a3R/\
  DA K "_law_finished" B0/\
  DA K "_law_pools" a2g/\
  DA K "_law_parts" a2q/\
  DA K "_law_some_asks" B9/\
  DA K "_law_begun_by" a0L/\
  DA K "_law_due" a4f/\
  DA K "_law_refused" a1i/\
  DA K "_law_right" a2d/\
  DA K "law" a7M)
  (z0:W.nsIn K mainGlobals "len"=some none)
  (z1:W.nsIn K mainGlobals "range"=some none)
  (z2:W.nsIn K mainGlobals "str"=some none)
  (z3:W.nsIn K mainGlobals "tuple"=some none)
  (z4:W.nsIn K mainGlobals "list"=some none)
  (z5:W.nsIn K mainGlobals "dict"=some none)
  (z6:W.nsIn K mainGlobals "enumerate"=some none)
  (z7:W.nsIn K mainGlobals "isinstance"=some none)
  (z8:W.nsIn K mainGlobals "min"=some none)
  (z9:W.nsIn K mainGlobals "max"=some none)
  (z10:W.nsIn K mainGlobals "zip"=some none)
  (z11:W.nsIn K mainGlobals "int"=some none)
  (z12:W.nsIn K mainGlobals "bool"=some none)
  (z13:W.nsIn K mainGlobals "reversed"=some none)
  (z14:W.nsIn K mainGlobals "ValueError"=some none)
  (x_BundleError:W.nsIn K mainGlobals "BundleError"=some (some (.ref c_BundleError)))
  (x_Asks:W.nsIn K mainGlobals "Asks"=some (some (.ref c_Asks)))
  (x_Endless:W.nsIn K mainGlobals "Endless"=some (some (.ref c_Endless)))
  (x_NoMap:W.nsIn K mainGlobals "NoMap"=some (some (.ref c_NoMap)))
  (x_NoName:W.nsIn K mainGlobals "NoName"=some (some (.ref c_NoName)))
  (x_NoPart:W.nsIn K mainGlobals "NoPart"=some (some (.ref c_NoPart)))
  (x_NoPlace:W.nsIn K mainGlobals "NoPlace"=some (some (.ref c_NoPlace)))
  (x_NoRow:W.nsIn K mainGlobals "NoRow"=some (some (.ref c_NoRow)))
  (x_NotGiven:W.nsIn K mainGlobals "NotGiven"=some (some (.ref c_NotGiven)))
  (x_TooMany:W.nsIn K mainGlobals "TooMany"=some (some (.ref c_TooMany)))
  (x_Twice:W.nsIn K mainGlobals "Twice"=some (some (.ref c_Twice)))
  (k_Asks_cl:W.clsIn K c_Asks=some cd_c_Asks)
  (k_Asks_ty:W.typeIn K (.ref c_Asks)=some (.type "type"))
  (k_Asks_base:W.mroIn K c_Asks (.type "BaseException")=some true)
  (k_Asks_ga:W.findIn K (.ref c_Asks) "__getattribute__"=some (some (.builtin "BaseException.__getattribute__")))
  (k_Asks_gt:W.findIn K (.ref c_Asks) "__getattr__"=some none)
  (k_Asks_ca:W.findIn K (.ref c_Asks) "__class__"=some (some (.builtin "object.__class__")))
  (k_Asks_gd:W.specialIn K (.builtin "object.__class__") "__get__"=some (some (.builtin "getset_descriptor.__get__")))
  (k_Asks_tk:W.takesIn K (.builtin "object.__class__")=some true)
  (k_Asks_ob:W.mroIn K c_Asks (.type "object")=some true)
  (f_i_bun:W.kitOne K (.ref c_Asks) (.ref c_BundleError)=some true)
  (f_i_val:W.kitOne K (.ref c_Asks) (.type "ValueError")=some true)
  (f_i_oth:W.kitAny K (.ref c_Asks) [.ref c_Endless,.ref c_NoMap,.ref c_NoName,.ref c_NoPart,.ref c_NoPlace,.ref c_NoRow,.ref c_NotGiven,.ref c_TooMany,.ref c_Twice]=some false)
  (f_s_Asks:W.mroIn K c_Asks (.ref c_Asks)=some true)
  (i_Asks_ini:W.findIn K (.ref c_Asks) "__init__"=some (some (.ref fi_Asks)))
  (i_Asks_l:K.lookup fi_Asks=some ⟨ioc_Asks,iod_Asks,.func (W.fnOf "__init__" "RefusedAt.__init__" (a0f Z0) (F6 Z0) (J0 Z0) .none ikV_Asks idc_Asks ipm_Asks ian_Asks icd_Asks ict_Asks),isl_Asks⟩)
  (i_Asks_c:W.codeIn K icd_Asks "RefusedAt.__init__"=true)
  (i_Asks_k:W.keepIn K (.ref fi_Asks)=true)
  (i_Asks_f:W.isFn K (.ref fi_Asks)=true)
  (i_Asks_kc:W.keepIn K (.ref c_Asks)=true)
  (i_Asks_o:K.lookup c_Asks=some (excClassObj jnm_Asks jq_Asks c_Asks jN_Asks jbs_Asks (.ref rr_Asks:: .ref c_BundleError::[.type "ValueError",.type "Exception",.type "BaseException",.type "object"]) jh_Asks jsn_Asks jsub_Asks jab_Asks jcol_Asks jdd_Asks j0_Asks j1_Asks j2_Asks j3_Asks j5_Asks "ValueError.__new__"))
  (i_Asks_ov:a5c cd_c_Asks.mro)
  (i_Asks_hd:cd_c_Asks.hasDict=true)
  (i_Asks_sa:W.findIn K (.ref c_Asks) "__setattr__"=some (some (.builtin "object.__setattr__")))
  (i_Asks_no_part:W.findIn K (.ref c_Asks) "part"=some none)
  (i_Asks_no_row:W.findIn K (.ref c_Asks) "row"=some none)
  (b_BundleError_ga:W.specialIn K (.ref c_BundleError) "__getattribute__"=some (some (.builtin "type.__getattribute__")))
  (b_BundleError_rd:W.readsIn K c_BundleError (.type "type")=true)
  (b_BundleError_fc:W.findCls K (.ref c_BundleError) (.type "type") "__init__"=some (.val (.builtin "ValueError.__init__"))):
  ∃fd:FuncData,(∀(s:Shared)(v:Value),BindsTo s fd ⟨[v],[]⟩ [("_law_script",v)])/\∀base:Heap,K.In base->base.Ns mainGlobals mg->a4C l.prog w K mg base CX0 9 fa fd ["_law_script"] (a9X K):=by
 obtain⟨d0,d1,d2,d3,d4,d5,d6,d7,d8,d9,d10,d11,d12,d13,d14,d15,d16,d17,d18,d19,d20,d21,d22,d23,d24,d25,d26,d27,d28,d29,d30,d31,d32,d33,d34,d35,d36,f,od,an,sl,oc,kV,dc,pm,cd,ct,a,l,c,k⟩:=hd
 have e:=hfa.symm.trans (W.mg_of X G a)
 cases e
 have T:Txt K mg:=⟨W.mg_none_of X G z0,W.mg_none_of X G z1,W.mg_none_of X G z2,W.mg_none_of X G z3,W.mg_none_of X G z4,W.mg_none_of X G z5,W.mg_none_of X G z6,W.mg_none_of X G z7,W.mg_none_of X G z8,W.mg_none_of X G z9,W.mg_none_of X G z10,W.mg_none_of X G z11,W.mg_none_of X G z12,W.mg_none_of X G z13,W.mg_none_of X G z14,d0.has X G,d1.has X G,d2.has X G,d3.has X G,d4.has X G,d5.has X G,d6.has X G,d7.has X G,d8.has X G,d9.has X G,d10.has X G,d11.has X G,d12.has X G,d13.has X G,d14.has X G,d15.has X G,d16.has X G,d17.has X G,d18.has X G,d19.has X G,d20.has X G,d21.has X G,d22.has X G,d23.has X G,d24.has X G,d25.has X G,d26.has X G,d27.has X G,d28.has X G,d29.has X G,d30.has X G,d31.has X G,d32.has X G,d33.has X G,d34.has X G,d35.has X G,d36.has X G,⟨⟨c_BundleError,c_Asks,c_Endless,c_NoMap,c_NoName,c_NoPart,c_NoPlace,c_NoRow,c_NotGiven,c_TooMany,c_Twice⟩,⟨W.mg_of X G x_BundleError,W.mg_of X G x_Asks,W.mg_of X G x_Endless,W.mg_of X G x_NoMap,W.mg_of X G x_NoName,W.mg_of X G x_NoPart,W.mg_of X G x_NoPlace,W.mg_of X G x_NoRow,W.mg_of X G x_NotGiven,W.mg_of X G x_TooMany,W.mg_of X G x_Twice,⟨(by rw[k_Asks_cl];rfl),k_Asks_ty,k_Asks_base,k_Asks_ga,k_Asks_gt,k_Asks_ca,k_Asks_gd,k_Asks_tk,k_Asks_ob⟩,f_i_bun,f_i_val,f_i_oth,f_s_Asks,⟨fi_Asks,_,a8Y (st:=Z0) i_Asks_l i_Asks_c i_Asks_k,⟨⟨rr_Asks,c_BundleError,jN_Asks,jnm_Asks,jq_Asks,jbs_Asks,jh_Asks,jsn_Asks,jsub_Asks,jab_Asks,jcol_Asks,jdd_Asks,j0_Asks,j1_Asks,j2_Asks,j3_Asks,j5_Asks,i_Asks_o⟩,i_Asks_ini,i_Asks_f⟩,i_Asks_kc⟩,⟨⟨cd_c_Asks,k_Asks_cl,i_Asks_ov,i_Asks_hd⟩,i_Asks_sa,i_Asks_no_part⟩,⟨⟨cd_c_Asks,k_Asks_cl,i_Asks_ov,i_Asks_hd⟩,i_Asks_sa,i_Asks_no_row⟩,⟨b_BundleError_ga,b_BundleError_rd,b_BundleError_fc⟩⟩⟩⟩
 exact⟨_,fun s v=> .of_eq rfl,fun base _ _=>b6p (a8Y (st:=a7M) l c k) T⟩
theorem b7o{l:W.OpenLaw}{q:Program}{loose:List Str}{XP:(Str->Option Value)->Heap->Prop}{YP:World->Heap->Prop}{d:DefRec}{K:Params->W.Frag}(hn:l.most=some 63)(hdf:d.params.defaults=[])
  (hY:∀(w:World)(h:Heap),YP w h->(K w.params).In h)
  (F:∀(w:World)(mg:Str->Option Value)(fa:Addr)(h:Heap),(K w.params).In h->h.Ns mainGlobals mg->mg d.name=some (.ref fa)->
   ∃fd:FuncData,(∀(s:Shared)(u:Value),BindsTo s fd ⟨[u],[]⟩ [("_law_script",u)])/\∀base:Heap,(K w.params).In base->base.Ns mainGlobals mg->a4C l.prog w (K w.params) mg base CX0 9 fa fd ["_law_script"] (a9X (K w.params))):
  W.WalkO q loose XP YP l.row.toRowW d [] (fun f vs=>PySem.call f vs):=
 L2.b4n (n:=63) (k:=9) (x:="_law_script") (CX:=fun _=>CX0) (sp:=fun w=>a9X (K w.params)) hn (by decide) hdf ⟨rfl,by decide,by decide⟩ hY F (fun _ _ a ns hl _ hS=>⟨a,ns,rfl,hS,hl,fun _=>rfl⟩) fun _ _ _ _ _ z=>z
end K44
open PySem PySem.W PyProof.Rows
set_option maxRecDepth 100000 in
set_option maxHeartbeats 0 in
theorem PySem.Challenge.cw_bundlehouse_k44_parts_that_ask_holds : PySem.Challenge.rw_bundlehouse_k44_parts_that_ask.Holds := by
 w_on
 refine HD.b4v (l:=PySem.Challenge.rw_bundlehouse_k44_parts_that_ask) (q:=HD.b5a PySem.Challenge.rw_bundlehouse_k44_parts_that_ask.prog [54]) (K:=K44.a6u) (as:=K44.a6w) (N:=8124) K44.b2L K44.b5K K44.b4t (by rfl) (by rfl) (by rfl) (by rfl) (by decide +kernel) ⟨rfl,rfl,rfl,rfl,rfl,by decide +kernel⟩ ?hw ?hc
 (case hw=>w_witness2)
 k_fill
 refine K44.b7o (l:=PySem.Challenge.rw_bundlehouse_k44_parts_that_ask) rfl rfl (fun w h Y=>W.kIn_of Y) ?F
 case F=>
  intro w mg fa h KX G hmg
  refine' K44.b6g KX G hmg ?hd ?z0 ?z1 ?z2 ?z3 ?z4 ?z5 ?z6 ?z7 ?z8 ?z9 ?z10 ?z11 ?z12 ?z13 ?z14 ?x_BundleError ?x_Asks ?x_Endless ?x_NoMap ?x_NoName ?x_NoPart ?x_NoPlace ?x_NoRow ?x_NotGiven ?x_TooMany ?x_Twice ?k_Asks_cl ?k_Asks_ty ?k_Asks_base ?k_Asks_ga ?k_Asks_gt ?k_Asks_ca ?k_Asks_gd ?k_Asks_tk ?k_Asks_ob ?f_i_bun ?f_i_val ?f_i_oth ?f_s_Asks ?i_Asks_ini ?i_Asks_l ?i_Asks_c ?i_Asks_k ?i_Asks_f ?i_Asks_kc ?i_Asks_o ?i_Asks_ov ?i_Asks_hd ?i_Asks_sa ?i_Asks_no_part ?i_Asks_no_row ?b_BundleError_ga ?b_BundleError_rd ?b_BundleError_fc
  case hd=>
   iterate 37 (refine⟨?_,?_⟩;focus (apply K44.DA.mk;k_is;k_is;k_is;k_is))
   apply K44.DA.mk;k_is;k_is;k_is;k_is
  (case z0=>k_is);(case z1=>k_is);(case z2=>k_is);(case z3=>k_is);(case z4=>k_is);(case z5=>k_is);(case z6=>k_is);(case z7=>k_is);(case z8=>k_is);(case z9=>k_is);(case z10=>k_is);(case z11=>k_is);(case z12=>k_is);(case z13=>k_is);(case z14=>k_is)
  (case x_BundleError=>k_is)
  (case x_Asks=>k_is)
  (case x_Endless=>k_is)
  (case x_NoMap=>k_is)
  (case x_NoName=>k_is)
  (case x_NoPart=>k_is)
  (case x_NoPlace=>k_is)
  (case x_NoRow=>k_is)
  (case x_NotGiven=>k_is)
  (case x_TooMany=>k_is)
  (case x_Twice=>k_is)
  (case k_Asks_cl=>k_is)
  (case k_Asks_ty=>k_is)
  (case k_Asks_base=>k_is)
  (case k_Asks_ga=>k_is)
  (case k_Asks_gt=>k_is)
  (case k_Asks_ca=>k_is)
  (case k_Asks_gd=>k_is)
  (case k_Asks_tk=>k_is)
  (case k_Asks_ob=>k_is)
  (case f_i_bun=>kit_is)
  (case f_i_val=>kit_is)
  (case f_i_oth=>kit_is)
  (case f_s_Asks=>k_is)
  (case i_Asks_ini=>k_is)
  (case i_Asks_l=>k_is)
  (case i_Asks_c=>k_is)
  (case i_Asks_k=>k_is)
  (case i_Asks_f=>k_is)
  (case i_Asks_kc=>k_is)
  (case i_Asks_o=>k_is)
  (case i_Asks_ov=>exact .own (.own (.own .base)))
  (case i_Asks_hd=>rfl)
  (case i_Asks_sa=>k_is)
  (case i_Asks_no_part=>k_is)
  (case i_Asks_no_row=>k_is)
  (case b_BundleError_ga=>k_is)
  (case b_BundleError_rd=>k_is)
  (case b_BundleError_fc=>k_is)