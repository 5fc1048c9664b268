import PyProof.Rows.All
import Wide.All
import OpenK.AllK
import Wide.FinOn
import Lean
import PyProof.EqAt
import PyProof.EqKinds
import PyProof.TupleCall
import PySem.Challenge.RW_bundlehouse_k45_whole_flat_rows_done
set_option Elab.async false
set_option linter.all false
set_option maxRecDepth 100000
section
open PySem PySem.Spec PyProof.Rows
def AA:=@wpAny_bind
def AB:=@wpAny_pure
def AC:=@List.mem_singleton
def AD:=@List.mem_of_getElem?
def AE:=@Paired.length
def AF:=@Heap.get?_push_of_some
def AG:=@List.map_append
def AH:=@Bool.false_ne_true
def AI:=@Nat.le_refl
def AJ:=@Heap.get?_push_size
def AK:=@List.mem_cons_of_mem
def AL:=@List.mem_append
def AM:=@List.mem_cons_self
def AN:=@PassesOwn.never
def AO:=@List.mem_map
def AQ:=@List.getElem?_eq_getElem
def AR:=@List.nodup_append
def AS:=@List.mem_map_of_mem
def AT:=@List.getElem?_of_mem
def AU:=@Heap.lt_size
def AV:=@List.mem_append_right
def AW:=@List.take_length
def AX:=@List.mem_append_left
def AY:=@List.length_take
def AZ:=@decide_eq_false
def BA:=@List.filterMap_cons
def BB:=@List.append_nil
def BC:=@List.flatMap_cons
def BD:=@List.append_assoc
def BE:=@List.getD_eq_getElem?_getD
def BF:=@Nat.ne_of_lt
def BG:=@Nat.lt_of_lt_of_le
def BH:=@List.mem_flatMap
def BI:=@wpAny_of_eq
def BJ:=@List.nodup_iff_pairwise_ne
def BK:=@List.nodup_cons
def BL:=@Heap.get?_update_self
def BM:=@Nat.le_succ
def BN:=@List.filter_cons_of_neg
def BO:=@List.length_reverse
def BP:=@List.getElem?_set_self
def BQ:=@List.take_append_drop
def BR:=@Array.getElem?_toList
def BS:=@List.getElem?_append_right
def BT:=@List.filter_cons_of_pos
end
theorem a0s:0<=PySem.sizeLine:=by decide
theorem a3d:1<=PySem.sizeLine:=by decide
theorem O4:2<=PySem.sizeLine:=by decide
theorem a0p:3<=PySem.sizeLine:=by decide
namespace HD
open PySem PySem.W
noncomputable abbrev b5z (p:Program) (ks:List Nat):Program:=
 {p with main:={p.main with body:=ks.filterMap fun i=>p.main.body[i]?}}
noncomputable abbrev en (P:Params) (x:Str) (t:Tok) (v:Value):DictEntry:=⟨PyData.keyHash P x,.str x t,v⟩
noncomputable abbrev tp (p:Program) (i:Nat):Stmt:=p.main.body.getD i (.Pass ⟨0,0,0,0⟩)
noncomputable def dA (s:Stmt):Arguments:=match s with
 | .FunctionDef _ a _ _ _ _ _ _ _ _=>a
 | _=>⟨[],[],none,[],[],none,[]⟩
noncomputable def dB (s:Stmt):List Stmt:=match s with
 | .FunctionDef _ _ b _ _ _ _ _ _ _=>b
 | _=> []
noncomputable def dS (s:Stmt):Scope:=match s with
 | .FunctionDef _ _ _ _ _ _ c _ _ _=>c
 | _=>default
theorem b2h{p q:Program}{lo:List Str}{j:Shared->Bool}{K:Params->Frag}{as:List Addr}(n:Nat){e:∀P,as=(K P).map (·.1)}{N:Nat}
  (h1:∀w,((openEnds treeTable p w N).map fun s=>openSeen q lo (importedModules p.main.body) j true s)=some (openGood q lo))
  (O:∀w,((openEnds treeTable p w N).map fun s=>(as.take n).map s.heap.get?)=some (((K w.params).take n).map fun p=>some p.2))
  (Y:∀w,((openEnds treeTable p w N).map fun s=>(as.drop n).map s.heap.get?)=some (((K w.params).drop n).map fun p=>some p.2)):LeftO p q lo j (kHook K as e).obs (kHook K as e).val N:=by
 intro w
 have D:=h1 w
 have B:=O w
 have F:=Y w
 generalize openEnds treeTable p w N=r at D B F⊢
 cases r with
 | none=>cases B
 | some s=>
  have Z:openSeen q lo (importedModules p.main.body) j true s=openGood q lo:=Option.some.inj D
  have J:(as.take n).map s.heap.get?=((K w.params).take n).map fun p=>some p.2:=Option.some.inj B
  have U:(as.drop n).map s.heap.get?=((K w.params).drop n).map fun p=>some p.2:=Option.some.inj F
  have G:as.map s.heap.get?=(K w.params).map fun p=>some p.2:=by rw[<-BQ n as,AG,J,U,<-AG,BQ]
  show some (openSeen q lo (importedModules p.main.body) j true s,as.map s.heap.get?)=some (openGood q lo,(K w.params).map fun p=>some p.2)
  rw[Z,G]
theorem b4Q{l:OpenLaw}{q:Program}{lo:List Str}{K:Params->Frag}{as:List Addr}{N:Nat}{d:DefRec}{j:List (Str×Expr)}
  (e:∀P,as=(K P).map (·.1))(b5O:l.wellSaid=true)
  (hl:LeftO l.row.prog q lo (fun s=>xlAt q [] s && recOk (RowW.records l.row.toRowW) s) (kHook K as e).obs (kHook K as e).val N)
  (h1:defOf q l.row.name=some (d,j))(h2:l.row.prog.theDef l.row.name=some (d.params,d.body,d.scope))
  (B:kwWritten? d.params.kwonlyargs d.params.kw_defaults=some j)(O:(!l.row.writes || l.row.records.isEmpty)=true)
  (D:(chainsOk q && opensWell l.row.prog && (frees l.row.toRowW && l.row.within.isEmpty))=true)
  (F:l.row.prog.bare)(J:l.row.toRowW.promised)
  (go:WalkO q lo (XL q []) (kHook K as e).says l.row.toRowW d j fun f vs=>PySem.call f vs):l.Holds:=by
 refine holds_law b5O fun G=>?_
 refine holds_open (XP:=XL q []) (YP:=(kHook K as e).says) hl (kHook K as e).of (kHook K as e).keeps ?_ XL.keeps h1 h2 B ?_ O G D F J go
 ·intro s x
  exact xl_of s (Bool.and_eq_true_iff.mp x).1
 ·intro s x
  exact recFacts_of (Bool.and_eq_true_iff.mp x).2
end HD
namespace K45
open PySem PySem.W
abbrev zP:=PySem.Challenge.pw_bundlehouse_k45_whole_flat_rows_done
theorem a3N{α:Type}{us:List α}(h:us.length=1):∃a,us=[a]:=by
 match us,h with
 | [a],_=>exact⟨a,rfl⟩
theorem a4j{α:Type}{us:List α}(h:us.length=2):∃a b,us=[a,b]:=by
 match us,h with
 | [a,b],_=>exact⟨a,b,rfl⟩
theorem a6n{α:Type}{us:List α}(h:us.length=3):∃a b c,us=[a,b,c]:=by
 match us,h with
 | [a,b,c],_=>exact⟨a,b,c,rfl⟩
theorem b8w{α:Type}{us:List α}(h:us.length=4):∃a b c d,us=[a,b,c,d]:=by
 match us,h with
 | [a,b,c,d],_=>exact⟨a,b,c,d,rfl⟩
set_option maxHeartbeats 0
noncomputable def a7b (P:Params):W.Frag:=
 (nat_lit 2,{cls:= .none,data:= .dict #[]})::
 (nat_lit 3,{cls:= .type "dict",data:= .dict #[HD.en P "__name__" 165 (.str "law_bundlehouse_k45_whole_flat_rows_done" 456),HD.en P "__doc__" 166 (.none),HD.en P "__package__" 167 (.none),HD.en P "__loader__" 168 (.builtin "__main__.__loader__#opaque"),HD.en P "__spec__" 169 (.none),HD.en P "__annotations__" 170 (.ref 6),HD.en P "__builtins__" 171 (.ref 4),HD.en P "__file__" 173 (.str "/claim/cut.py" 172),HD.en P "__cached__" 174 (.none),HD.en P "BundleError" 206 (.ref 24),HD.en P "RefusedAt" 233 (.ref 44),HD.en P "Asks" 249 (.ref 56),HD.en P "placed_rows" 263 (.ref 65),HD.en P "given_owns" 274 (.ref 72),HD.en P "links" 288 (.ref 79),HD.en P "makers" 301 (.ref 86),HD.en P "made" 312 (.ref 93),HD.en P "brings" 320 (.ref 100),HD.en P "named_parts" 331 (.ref 107),HD.en P "order" 342 (.ref 114),HD.en P "new_names" 357 (.ref 121),HD.en P "numbered" 366 (.ref 128),HD.en P "makers_names" 381 (.ref 135),HD.en P "renamed_row" 391 (.ref 142),HD.en P "renamed_sum" 397 (.ref 147),HD.en P "renamed_thing" 406 (.ref 154),HD.en P "renamed_when" 415 (.ref 161),HD.en P "flat" 423 (.ref 166),HD.en P "refuse_asks" 435 (.ref 173),HD.en P "work_in_order" 449 (.ref 180),HD.en P "last_first" 455 (.ref 185),HD.en P "_law_cell_at" 465 (.ref 192),HD.en P "_law_stream" 476 (.ref 199),HD.en P "_law_name" 489 (.ref 206),HD.en P "_law_pool" 497 (.ref 213),HD.en P "_law_begun" 508 (.ref 220),HD.en P "_law_fresh" 517 (.ref 227),HD.en P "_law_pairs" 533 (.ref 234),HD.en P "_law_added" 549 (.ref 241),HD.en P "_law_sum" 561 (.ref 248),HD.en P "_law_row" 575 (.ref 255),HD.en P "_law_owned" 581 (.ref 260),HD.en P "_law_finished" 587 (.ref 265),HD.en P "_law_pools" 597 (.ref 272),HD.en P "_law_parts" 607 (.ref 279),HD.en P "_law_made" 618 (.ref 286),HD.en P "_law_makers" 635 (.ref 293),HD.en P "_law_sum_of" 650 (.ref 300),HD.en P "_law_row_done" 665 (.ref 307),HD.en P "_law_run" 686 (.ref 314),HD.en P "_law_numbers" 697 (.ref 321),HD.en P "_law_led" 711 (.ref 328),HD.en P "law" 717 (.ref 333)] 53})::
 (nat_lit 15,{cls:= .type "tuple",data:= .seq #[.type "ValueError"]})::
 (nat_lit 22,{cls:= .type "tuple",data:= .seq #[]})::
 (nat_lit 23,{cls:= .type "dict",data:= .dict #[HD.en P "__module__" 196 (.str "bundlehouse.errors" 187),HD.en P "__firstlineno__" 200 (.int 2 199),HD.en P "__static_attributes__" 201 (.ref 22),HD.en P "__weakref__" 203 (.ref 25),HD.en P "__doc__" 204 (.none)] 3})::
 (nat_lit 24,{cls:= .type "type",data:= .cls {name:="BundleError",bases:=[.type "ValueError"],mro:=[.ref 24,.type "ValueError",.type "Exception",.type "BaseException",.type "object"],ns:=23,qualname:="BundleError",subclasses:=[.ref 44]},slots:= #[some (.ref 15),none,some (.str "BundleError" 189),some (.str "BundleError" 197),some (.builtin "ValueError.__new__"),some (.bool true)]})::
 (nat_lit 25,{cls:= .type "getset_descriptor",data:= .fields #[.str "__weakref__" 202,.ref 24,.builtin "ExceptionGroup.__weakref__",.none]})::
 (nat_lit 28,{cls:= .type "tuple",data:= .seq #[.ref 24]})::
 (nat_lit 35,{cls:= .type "tuple",data:= .seq #[]})::
 (nat_lit 37,{cls:= .type "tuple",data:= .seq #[.str "self" 222,.str "part" 223,.str "row" 224]})::
 (nat_lit 38,{cls:= .type "tuple",data:= .seq #[]})::
 (nat_lit 40,{cls:= .type "code",data:= .fields #[.str "__init__" 219,.str "RefusedAt.__init__" 220,.str "/claim/cut.py" 221,.int 6 0,.int 3 0,.int 0 0,.int 0 0,.int 3 0,.ref 35,.bool true,.int 181 0,.ref 36,.none,.ref 37,.ref 38,.ref 39,.int 225 0,.int 6 0,.str "/claim/cut.py" 226]})::
 (nat_lit 42,{cls:= .type "tuple",data:= .seq #[.str "part" 228,.str "row" 229]})::
 (nat_lit 43,{cls:= .type "dict",data:= .dict #[HD.en P "__module__" 214 (.str "bundlehouse.errors" 187),HD.en P "__firstlineno__" 218 (.int 4 217),HD.en P "__init__" 227 (.ref 41),HD.en P "__static_attributes__" 230 (.ref 42),HD.en P "__doc__" 231 (.none)] 2})::
 (nat_lit 44,{cls:= .type "type",data:= .cls {name:="RefusedAt",bases:=[.ref 24],mro:=[.ref 44,.ref 24,.type "ValueError",.type "Exception",.type "BaseException",.type "object"],ns:=43,qualname:="RefusedAt",subclasses:=[.ref 56]},slots:= #[some (.ref 28),none,some (.str "RefusedAt" 207),some (.str "RefusedAt" 215),some (.builtin "ValueError.__new__"),some (.bool true)]})::
 (nat_lit 47,{cls:= .type "tuple",data:= .seq #[.ref 44]})::
 (nat_lit 54,{cls:= .type "tuple",data:= .seq #[]})::
 (nat_lit 55,{cls:= .type "dict",data:= .dict #[HD.en P "__module__" 241 (.str "bundlehouse.errors" 187),HD.en P "__firstlineno__" 245 (.int 10 244),HD.en P "__static_attributes__" 246 (.ref 54),HD.en P "__doc__" 247 (.none)] 2})::
 (nat_lit 56,{cls:= .type "type",data:= .cls {name:="Asks",bases:=[.ref 44],mro:=[.ref 56,.ref 44,.ref 24,.type "ValueError",.type "Exception",.type "BaseException",.type "object"],ns:=55,qualname:="Asks"},slots:= #[some (.ref 47),none,some (.str "Asks" 234),some (.str "Asks" 242),some (.builtin "ValueError.__new__"),some (.bool true)]})::
 (nat_lit 59,{cls:= .type "tuple",data:= .seq #[]})::
 (nat_lit 61,{cls:= .type "tuple",data:= .seq #[.str "parts" 255,.str "found" 256,.str "part" 257,.str "rows" 258,.str "number" 259,.str "row" 260]})::
 (nat_lit 62,{cls:= .type "tuple",data:= .seq #[]})::
 (nat_lit 64,{cls:= .type "code",data:= .fields #[.str "placed_rows" 252,.str "placed_rows" 253,.str "/claim/cut.py" 254,.int 13 0,.int 1 0,.int 0 0,.int 0 0,.int 3 0,.ref 59,.bool true,.int 181 0,.ref 60,.none,.ref 61,.ref 62,.ref 63,.int 261 0,.int 13 0,.str "/claim/cut.py" 262]})::
 (nat_lit 65,⟨.type "function",none,.func (W.fnOf "placed_rows" "placed_rows" (HD.dA (HD.tp zP 5)) (HD.dB (HD.tp zP 5)) (HD.dS (HD.tp zP 5)) (.none) (.none) (.none) (.str "bundlehouse.net" 250) (none) (.ref 64) (.none)), #[]⟩)::
 (nat_lit 66,{cls:= .type "tuple",data:= .seq #[]})::
 (nat_lit 68,{cls:= .type "tuple",data:= .seq #[.str "parts" 267,.str "owns" 268,.str "part" 269,.str "number" 270,.str "row" 271]})::
 (nat_lit 69,{cls:= .type "tuple",data:= .seq #[]})::
 (nat_lit 71,{cls:= .type "code",data:= .fields #[.str "given_owns" 264,.str "given_owns" 265,.str "/claim/cut.py" 266,.int 19 0,.int 1 0,.int 0 0,.int 0 0,.int 3 0,.ref 66,.bool true,.int 181 0,.ref 67,.none,.ref 68,.ref 69,.ref 70,.int 272 0,.int 19 0,.str "/claim/cut.py" 273]})::
 (nat_lit 72,⟨.type "function",none,.func (W.fnOf "given_owns" "given_owns" (HD.dA (HD.tp zP 6)) (HD.dB (HD.tp zP 6)) (HD.dS (HD.tp zP 6)) (.none) (.none) (.none) (.str "bundlehouse.net" 250) (none) (.ref 71) (.none)), #[]⟩)::
 (nat_lit 73,{cls:= .type "tuple",data:= .seq #[]})::
 (nat_lit 75,{cls:= .type "tuple",data:= .seq #[.str "parts" 278,.str "owns" 279,.str "onward" 280,.str "part" 281,.str "number" 282,.str "row" 283,.str "given" 284,.str "own" 285]})::
 (nat_lit 76,{cls:= .type "tuple",data:= .seq #[]})::
 (nat_lit 78,{cls:= .type "code",data:= .fields #[.str "links" 275,.str "links" 276,.str "/claim/cut.py" 277,.int 25 0,.int 1 0,.int 0 0,.int 0 0,.int 3 0,.ref 73,.bool true,.int 181 0,.ref 74,.none,.ref 75,.ref 76,.ref 77,.int 286 0,.int 25 0,.str "/claim/cut.py" 287]})::
 (nat_lit 79,⟨.type "function",none,.func (W.fnOf "links" "links" (HD.dA (HD.tp zP 7)) (HD.dB (HD.tp zP 7)) (HD.dS (HD.tp zP 7)) (.none) (.none) (.none) (.str "bundlehouse.net" 250) (none) (.ref 78) (.none)), #[]⟩)::
 (nat_lit 80,{cls:= .type "tuple",data:= .seq #[]})::
 (nat_lit 82,{cls:= .type "tuple",data:= .seq #[.str "parts" 292,.str "found" 293,.str "onward" 294,.str "start" 295,.str "way" 296,.str "here" 297,.str "name" 298]})::
 (nat_lit 83,{cls:= .type "tuple",data:= .seq #[]})::
 (nat_lit 85,{cls:= .type "code",data:= .fields #[.str "makers" 289,.str "makers" 290,.str "/claim/cut.py" 291,.int 33 0,.int 1 0,.int 0 0,.int 0 0,.int 3 0,.ref 80,.bool true,.int 181 0,.ref 81,.none,.ref 82,.ref 83,.ref 84,.int 299 0,.int 33 0,.str "/claim/cut.py" 300]})::
 (nat_lit 86,⟨.type "function",none,.func (W.fnOf "makers" "makers" (HD.dA (HD.tp zP 8)) (HD.dB (HD.tp zP 8)) (HD.dS (HD.tp zP 8)) (.none) (.none) (.none) (.str "bundlehouse.net" 250) (none) (.ref 85) (.none)), #[]⟩)::
 (nat_lit 87,{cls:= .type "tuple",data:= .seq #[]})::
 (nat_lit 89,{cls:= .type "tuple",data:= .seq #[.str "parts" 305,.str "found" 306,.str "part" 307,.str "number" 308,.str "row" 309]})::
 (nat_lit 90,{cls:= .type "tuple",data:= .seq #[]})::
 (nat_lit 92,{cls:= .type "code",data:= .fields #[.str "made" 302,.str "made" 303,.str "/claim/cut.py" 304,.int 45 0,.int 1 0,.int 0 0,.int 0 0,.int 3 0,.ref 87,.bool true,.int 181 0,.ref 88,.none,.ref 89,.ref 90,.ref 91,.int 310 0,.int 45 0,.str "/claim/cut.py" 311]})::
 (nat_lit 93,⟨.type "function",none,.func (W.fnOf "made" "made" (HD.dA (HD.tp zP 9)) (HD.dB (HD.tp zP 9)) (HD.dS (HD.tp zP 9)) (.none) (.none) (.none) (.str "bundlehouse.net" 250) (none) (.ref 92) (.none)), #[]⟩)::
 (nat_lit 94,{cls:= .type "tuple",data:= .seq #[]})::
 (nat_lit 96,{cls:= .type "tuple",data:= .seq #[.str "parts" 316,.str "part" 317]})::
 (nat_lit 97,{cls:= .type "tuple",data:= .seq #[]})::
 (nat_lit 99,{cls:= .type "code",data:= .fields #[.str "brings" 313,.str "brings" 314,.str "/claim/cut.py" 315,.int 51 0,.int 2 0,.int 0 0,.int 0 0,.int 3 0,.ref 94,.bool true,.int 181 0,.ref 95,.none,.ref 96,.ref 97,.ref 98,.int 318 0,.int 51 0,.str "/claim/cut.py" 319]})::
 (nat_lit 100,⟨.type "function",none,.func (W.fnOf "brings" "brings" (HD.dA (HD.tp zP 10)) (HD.dB (HD.tp zP 10)) (HD.dS (HD.tp zP 10)) (.none) (.none) (.none) (.str "bundlehouse.net" 250) (none) (.ref 99) (.none)), #[]⟩)::
 (nat_lit 101,{cls:= .type "tuple",data:= .seq #[]})::
 (nat_lit 103,{cls:= .type "tuple",data:= .seq #[.str "parts" 324,.str "part" 325,.str "kind" 326,.str "found" 327,.str "row" 328]})::
 (nat_lit 104,{cls:= .type "tuple",data:= .seq #[]})::
 (nat_lit 106,{cls:= .type "code",data:= .fields #[.str "named_parts" 321,.str "named_parts" 322,.str "/claim/cut.py" 323,.int 53 0,.int 3 0,.int 0 0,.int 0 0,.int 3 0,.ref 101,.bool true,.int 181 0,.ref 102,.none,.ref 103,.ref 104,.ref 105,.int 329 0,.int 53 0,.str "/claim/cut.py" 330]})::
 (nat_lit 107,⟨.type "function",none,.func (W.fnOf "named_parts" "named_parts" (HD.dA (HD.tp zP 11)) (HD.dB (HD.tp zP 11)) (HD.dS (HD.tp zP 11)) (.none) (.none) (.none) (.str "bundlehouse.net" 250) (none) (.ref 106) (.none)), #[]⟩)::
 (nat_lit 108,{cls:= .type "tuple",data:= .seq #[]})::
 (nat_lit 110,{cls:= .type "tuple",data:= .seq #[.str "parts" 335,.str "root" 336,.str "begun" 337,.str "waiting" 338,.str "part" 339]})::
 (nat_lit 111,{cls:= .type "tuple",data:= .seq #[]})::
 (nat_lit 113,{cls:= .type "code",data:= .fields #[.str "order" 332,.str "order" 333,.str "/claim/cut.py" 334,.int 59 0,.int 2 0,.int 0 0,.int 0 0,.int 3 0,.ref 108,.bool true,.int 181 0,.ref 109,.none,.ref 110,.ref 111,.ref 112,.int 340 0,.int 59 0,.str "/claim/cut.py" 341]})::
 (nat_lit 114,⟨.type "function",none,.func (W.fnOf "order" "order" (HD.dA (HD.tp zP 12)) (HD.dB (HD.tp zP 12)) (HD.dS (HD.tp zP 12)) (.none) (.none) (.none) (.str "bundlehouse.net" 250) (none) (.ref 113) (.none)), #[]⟩)::
 (nat_lit 115,{cls:= .type "tuple",data:= .seq #[]})::
 (nat_lit 117,{cls:= .type "tuple",data:= .seq #[.str "parts" 348,.str "owns" 349,.str "used" 350,.str "part" 351,.str "own" 352,.str "found" 353,.str "new" 354]})::
 (nat_lit 118,{cls:= .type "tuple",data:= .seq #[]})::
 (nat_lit 120,{cls:= .type "code",data:= .fields #[.str "new_names" 345,.str "new_names" 346,.str "/claim/cut.py" 347,.int 69 0,.int 1 0,.int 0 0,.int 0 0,.int 3 0,.ref 115,.bool true,.int 181 0,.ref 116,.none,.ref 117,.ref 118,.ref 119,.int 355 0,.int 69 0,.str "/claim/cut.py" 356]})::
 (nat_lit 121,⟨.type "function",none,.func (W.fnOf "new_names" "new_names" (HD.dA (HD.tp zP 14)) (HD.dB (HD.tp zP 14)) (HD.dS (HD.tp zP 14)) (.none) (.none) (.none) (.str "bundlehouse.names" 343) (none) (.ref 120) (.none)), #[]⟩)::
 (nat_lit 122,{cls:= .type "tuple",data:= .seq #[]})::
 (nat_lit 124,{cls:= .type "tuple",data:= .seq #[.str "own" 361,.str "used" 362,.str "number" 363]})::
 (nat_lit 125,{cls:= .type "tuple",data:= .seq #[]})::
 (nat_lit 127,{cls:= .type "code",data:= .fields #[.str "numbered" 358,.str "numbered" 359,.str "/claim/cut.py" 360,.int 80 0,.int 2 0,.int 0 0,.int 0 0,.int 3 0,.ref 122,.bool true,.int 181 0,.ref 123,.none,.ref 124,.ref 125,.ref 126,.int 364 0,.int 80 0,.str "/claim/cut.py" 365]})::
 (nat_lit 128,⟨.type "function",none,.func (W.fnOf "numbered" "numbered" (HD.dA (HD.tp zP 15)) (HD.dB (HD.tp zP 15)) (HD.dS (HD.tp zP 15)) (.none) (.none) (.none) (.str "bundlehouse.names" 343) (none) (.ref 127) (.none)), #[]⟩)::
 (nat_lit 129,{cls:= .type "tuple",data:= .seq #[]})::
 (nat_lit 131,{cls:= .type "tuple",data:= .seq #[.str "parts" 370,.str "places" 371,.str "news" 372,.str "part" 373,.str "own" 374,.str "new" 375,.str "found" 376,.str "name" 377,.str "place" 378]})::
 (nat_lit 132,{cls:= .type "tuple",data:= .seq #[]})::
 (nat_lit 134,{cls:= .type "code",data:= .fields #[.str "makers_names" 367,.str "makers_names" 368,.str "/claim/cut.py" 369,.int 85 0,.int 1 0,.int 0 0,.int 0 0,.int 3 0,.ref 129,.bool true,.int 181 0,.ref 130,.none,.ref 131,.ref 132,.ref 133,.int 379 0,.int 85 0,.str "/claim/cut.py" 380]})::
 (nat_lit 135,⟨.type "function",none,.func (W.fnOf "makers_names" "makers_names" (HD.dA (HD.tp zP 16)) (HD.dB (HD.tp zP 16)) (HD.dS (HD.tp zP 16)) (.none) (.none) (.none) (.str "bundlehouse.names" 343) (none) (.ref 134) (.none)), #[]⟩)::
 (nat_lit 136,{cls:= .type "tuple",data:= .seq #[]})::
 (nat_lit 138,{cls:= .type "tuple",data:= .seq #[.str "part" 385,.str "row" 386,.str "news" 387,.str "kind" 388]})::
 (nat_lit 139,{cls:= .type "tuple",data:= .seq #[]})::
 (nat_lit 141,{cls:= .type "code",data:= .fields #[.str "renamed_row" 382,.str "renamed_row" 383,.str "/claim/cut.py" 384,.int 94 0,.int 3 0,.int 0 0,.int 0 0,.int 3 0,.ref 136,.bool true,.int 181 0,.ref 137,.none,.ref 138,.ref 139,.ref 140,.int 389 0,.int 94 0,.str "/claim/cut.py" 390]})::
 (nat_lit 142,⟨.type "function",none,.func (W.fnOf "renamed_row" "renamed_row" (HD.dA (HD.tp zP 17)) (HD.dB (HD.tp zP 17)) (HD.dS (HD.tp zP 17)) (.none) (.none) (.none) (.str "bundlehouse.names" 343) (none) (.ref 141) (.none)), #[]⟩)::
 (nat_lit 143,{cls:= .type "tuple",data:= .seq #[]})::
 (nat_lit 146,{cls:= .type "code",data:= .fields #[.str "renamed_sum" 392,.str "renamed_sum" 393,.str "/claim/cut.py" 394,.int 105 0,.int 3 0,.int 0 0,.int 0 0,.int 3 0,.ref 143,.bool true,.int 181 0,.ref 144,.none,.none,.none,.ref 145,.int 395 0,.int 105 0,.str "/claim/cut.py" 396]})::
 (nat_lit 147,⟨.type "function",none,.func (W.fnOf "renamed_sum" "renamed_sum" (HD.dA (HD.tp zP 18)) (HD.dB (HD.tp zP 18)) (HD.dS (HD.tp zP 18)) (.none) (.none) (.none) (.str "bundlehouse.names" 343) (none) (.ref 146) (.none)), #[]⟩)::
 (nat_lit 148,{cls:= .type "tuple",data:= .seq #[]})::
 (nat_lit 150,{cls:= .type "tuple",data:= .seq #[.str "part" 401,.str "thing" 402,.str "news" 403]})::
 (nat_lit 151,{cls:= .type "tuple",data:= .seq #[]})::
 (nat_lit 153,{cls:= .type "code",data:= .fields #[.str "renamed_thing" 398,.str "renamed_thing" 399,.str "/claim/cut.py" 400,.int 107 0,.int 3 0,.int 0 0,.int 0 0,.int 3 0,.ref 148,.bool true,.int 181 0,.ref 149,.none,.ref 150,.ref 151,.ref 152,.int 404 0,.int 107 0,.str "/claim/cut.py" 405]})::
 (nat_lit 154,⟨.type "function",none,.func (W.fnOf "renamed_thing" "renamed_thing" (HD.dA (HD.tp zP 19)) (HD.dB (HD.tp zP 19)) (HD.dS (HD.tp zP 19)) (.none) (.none) (.none) (.str "bundlehouse.names" 343) (none) (.ref 153) (.none)), #[]⟩)::
 (nat_lit 155,{cls:= .type "tuple",data:= .seq #[]})::
 (nat_lit 157,{cls:= .type "tuple",data:= .seq #[.str "part" 410,.str "when" 411,.str "news" 412]})::
 (nat_lit 158,{cls:= .type "tuple",data:= .seq #[]})::
 (nat_lit 160,{cls:= .type "code",data:= .fields #[.str "renamed_when" 407,.str "renamed_when" 408,.str "/claim/cut.py" 409,.int 111 0,.int 3 0,.int 0 0,.int 0 0,.int 3 0,.ref 155,.bool true,.int 181 0,.ref 156,.none,.ref 157,.ref 158,.ref 159,.int 413 0,.int 111 0,.str "/claim/cut.py" 414]})::
 (nat_lit 161,⟨.type "function",none,.func (W.fnOf "renamed_when" "renamed_when" (HD.dA (HD.tp zP 20)) (HD.dB (HD.tp zP 20)) (HD.dS (HD.tp zP 20)) (.none) (.none) (.none) (.str "bundlehouse.names" 343) (none) (.ref 160) (.none)), #[]⟩)::
 (nat_lit 162,{cls:= .type "tuple",data:= .seq #[]})::
 (nat_lit 165,{cls:= .type "code",data:= .fields #[.str "flat" 418,.str "flat" 419,.str "/claim/cut.py" 420,.int 116 0,.int 2 0,.int 0 0,.int 0 0,.int 3 0,.ref 162,.bool true,.int 181 0,.ref 163,.none,.none,.none,.ref 164,.int 421 0,.int 116 0,.str "/claim/cut.py" 422]})::
 (nat_lit 166,⟨.type "function",none,.func (W.fnOf "flat" "flat" (HD.dA (HD.tp zP 22)) (HD.dB (HD.tp zP 22)) (HD.dS (HD.tp zP 22)) (.none) (.none) (.none) (.str "bundlehouse.flat" 416) (none) (.ref 165) (.none)), #[]⟩)::
 (nat_lit 167,{cls:= .type "tuple",data:= .seq #[]})::
 (nat_lit 169,{cls:= .type "tuple",data:= .seq #[.str "parts" 427,.str "root" 428,.str "rows" 429,.str "part" 430,.str "number" 431,.str "row" 432]})::
 (nat_lit 170,{cls:= .type "tuple",data:= .seq #[]})::
 (nat_lit 172,{cls:= .type "code",data:= .fields #[.str "refuse_asks" 424,.str "refuse_asks" 425,.str "/claim/cut.py" 426,.int 123 0,.int 2 0,.int 0 0,.int 0 0,.int 3 0,.ref 167,.bool true,.int 181 0,.ref 168,.none,.ref 169,.ref 170,.ref 171,.int 433 0,.int 123 0,.str "/claim/cut.py" 434]})::
 (nat_lit 173,⟨.type "function",none,.func (W.fnOf "refuse_asks" "refuse_asks" (HD.dA (HD.tp zP 23)) (HD.dB (HD.tp zP 23)) (HD.dS (HD.tp zP 23)) (.none) (.none) (.none) (.str "bundlehouse.flat" 416) (none) (.ref 172) (.none)), #[]⟩)::
 (nat_lit 174,{cls:= .type "tuple",data:= .seq #[]})::
 (nat_lit 176,{cls:= .type "tuple",data:= .seq #[.str "parts" 439,.str "root" 440,.str "rows" 441,.str "begun" 442,.str "waiting" 443,.str "work" 444,.str "step" 445,.str "row" 446]})::
 (nat_lit 177,{cls:= .type "tuple",data:= .seq #[]})::
 (nat_lit 179,{cls:= .type "code",data:= .fields #[.str "work_in_order" 436,.str "work_in_order" 437,.str "/claim/cut.py" 438,.int 129 0,.int 2 0,.int 0 0,.int 0 0,.int 3 0,.ref 174,.bool true,.int 181 0,.ref 175,.none,.ref 176,.ref 177,.ref 178,.int 447 0,.int 129 0,.str "/claim/cut.py" 448]})::
 (nat_lit 180,⟨.type "function",none,.func (W.fnOf "work_in_order" "work_in_order" (HD.dA (HD.tp zP 24)) (HD.dB (HD.tp zP 24)) (HD.dS (HD.tp zP 24)) (.none) (.none) (.none) (.str "bundlehouse.flat" 416) (none) (.ref 179) (.none)), #[]⟩)::
 (nat_lit 181,{cls:= .type "tuple",data:= .seq #[]})::
 (nat_lit 184,{cls:= .type "code",data:= .fields #[.str "last_first" 450,.str "last_first" 451,.str "/claim/cut.py" 452,.int 143 0,.int 2 0,.int 0 0,.int 0 0,.int 3 0,.ref 181,.bool true,.int 181 0,.ref 182,.none,.none,.none,.ref 183,.int 453 0,.int 143 0,.str "/claim/cut.py" 454]})::
 (nat_lit 185,⟨.type "function",none,.func (W.fnOf "last_first" "last_first" (HD.dA (HD.tp zP 25)) (HD.dB (HD.tp zP 25)) (HD.dS (HD.tp zP 25)) (.none) (.none) (.none) (.str "bundlehouse.flat" 416) (none) (.ref 184) (.none)), #[]⟩)::
 (nat_lit 186,{cls:= .type "tuple",data:= .seq #[]})::
 (nat_lit 188,{cls:= .type "tuple",data:= .seq #[.str "_law_script" 461,.str "_law_k" 462]})::
 (nat_lit 189,{cls:= .type "tuple",data:= .seq #[]})::
 (nat_lit 191,{cls:= .type "code",data:= .fields #[.str "_law_cell_at" 458,.str "_law_cell_at" 459,.str "/claim/cut.py" 460,.int 147 0,.int 2 0,.int 0 0,.int 0 0,.int 3 0,.ref 186,.bool true,.int 181 0,.ref 187,.none,.ref 188,.ref 189,.ref 190,.int 463 0,.int 147 0,.str "/claim/cut.py" 464]})::
 (nat_lit 192,⟨.type "function",none,.func (W.fnOf "_law_cell_at" "_law_cell_at" (HD.dA (HD.tp zP 27)) (HD.dB (HD.tp zP 27)) (HD.dS (HD.tp zP 27)) (.none) (.none) (.none) (.str "law_bundlehouse_k45_whole_flat_rows_done" 456) (none) (.ref 191) (.none)), #[]⟩)::
 (nat_lit 193,{cls:= .type "tuple",data:= .seq #[]})::
 (nat_lit 195,{cls:= .type "tuple",data:= .seq #[.str "_law_cell" 469,.str "_law_k" 470,.str "_law_found" 471,.str "_law_number" 472,.str "_law_by" 473]})::
 (nat_lit 196,{cls:= .type "tuple",data:= .seq #[]})::
 (nat_lit 198,{cls:= .type "code",data:= .fields #[.str "_law_stream" 466,.str "_law_stream" 467,.str "/claim/cut.py" 468,.int 151 0,.int 2 0,.int 0 0,.int 0 0,.int 3 0,.ref 193,.bool true,.int 181 0,.ref 194,.none,.ref 195,.ref 196,.ref 197,.int 474 0,.int 151 0,.str "/claim/cut.py" 475]})::
 (nat_lit 199,⟨.type "function",none,.func (W.fnOf "_law_stream" "_law_stream" (HD.dA (HD.tp zP 28)) (HD.dB (HD.tp zP 28)) (HD.dS (HD.tp zP 28)) (.none) (.none) (.none) (.str "law_bundlehouse_k45_whole_flat_rows_done" 456) (none) (.ref 198) (.none)), #[]⟩)::
 (nat_lit 200,{cls:= .type "tuple",data:= .seq #[]})::
 (nat_lit 202,{cls:= .type "tuple",data:= .seq #[.str "_law_base" 480,.str "_law_k" 481,.str "_law_letters" 482,.str "_law_size" 483,.str "_law_name_here" 484,.str "_law_j" 485,.str "_law_step" 486]})::
 (nat_lit 203,{cls:= .type "tuple",data:= .seq #[]})::
 (nat_lit 205,{cls:= .type "code",data:= .fields #[.str "_law_name" 477,.str "_law_name" 478,.str "/claim/cut.py" 479,.int 158 0,.int 2 0,.int 0 0,.int 0 0,.int 3 0,.ref 200,.bool true,.int 181 0,.ref 201,.none,.ref 202,.ref 203,.ref 204,.int 487 0,.int 158 0,.str "/claim/cut.py" 488]})::
 (nat_lit 206,⟨.type "function",none,.func (W.fnOf "_law_name" "_law_name" (HD.dA (HD.tp zP 29)) (HD.dB (HD.tp zP 29)) (HD.dS (HD.tp zP 29)) (.none) (.none) (.none) (.str "law_bundlehouse_k45_whole_flat_rows_done" 456) (none) (.ref 205) (.none)), #[]⟩)::
 (nat_lit 207,{cls:= .type "tuple",data:= .seq #[]})::
 (nat_lit 209,{cls:= .type "tuple",data:= .seq #[.str "_law_script" 493,.str "_law_k" 494]})::
 (nat_lit 210,{cls:= .type "tuple",data:= .seq #[]})::
 (nat_lit 212,{cls:= .type "code",data:= .fields #[.str "_law_pool" 490,.str "_law_pool" 491,.str "/claim/cut.py" 492,.int 177 0,.int 2 0,.int 0 0,.int 0 0,.int 3 0,.ref 207,.bool true,.int 181 0,.ref 208,.none,.ref 209,.ref 210,.ref 211,.int 495 0,.int 177 0,.str "/claim/cut.py" 496]})::
 (nat_lit 213,⟨.type "function",none,.func (W.fnOf "_law_pool" "_law_pool" (HD.dA (HD.tp zP 30)) (HD.dB (HD.tp zP 30)) (HD.dS (HD.tp zP 30)) (.none) (.none) (.none) (.str "law_bundlehouse_k45_whole_flat_rows_done" 456) (none) (.ref 212) (.none)), #[]⟩)::
 (nat_lit 214,{cls:= .type "tuple",data:= .seq #[]})::
 (nat_lit 216,{cls:= .type "tuple",data:= .seq #[.str "_law_script" 501,.str "_law_first" 502,.str "_law_many" 503,.str "_law_house" 504,.str "_law_k" 505]})::
 (nat_lit 217,{cls:= .type "tuple",data:= .seq #[]})::
 (nat_lit 219,{cls:= .type "code",data:= .fields #[.str "_law_begun" 498,.str "_law_begun" 499,.str "/claim/cut.py" 500,.int 179 0,.int 1 0,.int 0 0,.int 0 0,.int 3 0,.ref 214,.bool true,.int 181 0,.ref 215,.none,.ref 216,.ref 217,.ref 218,.int 506 0,.int 179 0,.str "/claim/cut.py" 507]})::
 (nat_lit 220,⟨.type "function",none,.func (W.fnOf "_law_begun" "_law_begun" (HD.dA (HD.tp zP 31)) (HD.dB (HD.tp zP 31)) (HD.dS (HD.tp zP 31)) (.none) (.none) (.none) (.str "law_bundlehouse_k45_whole_flat_rows_done" 456) (none) (.ref 219) (.none)), #[]⟩)::
 (nat_lit 221,{cls:= .type "tuple",data:= .seq #[]})::
 (nat_lit 223,{cls:= .type "tuple",data:= .seq #[.str "_law_part" 512,.str "_law_pool_here" 513,.str "_law_k" 514]})::
 (nat_lit 224,{cls:= .type "tuple",data:= .seq #[]})::
 (nat_lit 226,{cls:= .type "code",data:= .fields #[.str "_law_fresh" 509,.str "_law_fresh" 510,.str "/claim/cut.py" 511,.int 188 0,.int 3 0,.int 0 0,.int 0 0,.int 3 0,.ref 221,.bool true,.int 181 0,.ref 222,.none,.ref 223,.ref 224,.ref 225,.int 515 0,.int 188 0,.str "/claim/cut.py" 516]})::
 (nat_lit 227,⟨.type "function",none,.func (W.fnOf "_law_fresh" "_law_fresh" (HD.dA (HD.tp zP 32)) (HD.dB (HD.tp zP 32)) (HD.dS (HD.tp zP 32)) (.none) (.none) (.none) (.str "law_bundlehouse_k45_whole_flat_rows_done" 456) (none) (.ref 226) (.none)), #[]⟩)::
 (nat_lit 228,{cls:= .type "tuple",data:= .seq #[]})::
 (nat_lit 230,{cls:= .type "tuple",data:= .seq #[.str "_law_house" 521,.str "_law_pools_here" 522,.str "_law_here" 523,.str "_law_other" 524,.str "_law_xs" 525,.str "_law_part" 526,.str "_law_given" 527,.str "_law_pairs_here" 528,.str "_law_t" 529,.str "_law_own" 530]})::
 (nat_lit 231,{cls:= .type "tuple",data:= .seq #[]})::
 (nat_lit 233,{cls:= .type "code",data:= .fields #[.str "_law_pairs" 518,.str "_law_pairs" 519,.str "/claim/cut.py" 520,.int 190 0,.int 5 0,.int 0 0,.int 0 0,.int 3 0,.ref 228,.bool true,.int 181 0,.ref 229,.none,.ref 230,.ref 231,.ref 232,.int 531 0,.int 190 0,.str "/claim/cut.py" 532]})::
 (nat_lit 234,⟨.type "function",none,.func (W.fnOf "_law_pairs" "_law_pairs" (HD.dA (HD.tp zP 33)) (HD.dB (HD.tp zP 33)) (HD.dS (HD.tp zP 33)) (.none) (.none) (.none) (.str "law_bundlehouse_k45_whole_flat_rows_done" 456) (none) (.ref 233) (.none)), #[]⟩)::
 (nat_lit 235,{cls:= .type "tuple",data:= .seq #[]})::
 (nat_lit 237,{cls:= .type "tuple",data:= .seq #[.str "_law_house" 537,.str "_law_pools_here" 538,.str "_law_xs" 539,.str "_law_here" 540,.str "_law_part" 541,.str "_law_at" 542,.str "_law_kind" 543,.str "_law_other" 544,.str "_law_own" 545,.str "_law_given" 546]})::
 (nat_lit 238,{cls:= .type "tuple",data:= .seq #[]})::
 (nat_lit 240,{cls:= .type "code",data:= .fields #[.str "_law_added" 534,.str "_law_added" 535,.str "/claim/cut.py" 536,.int 199 0,.int 3 0,.int 0 0,.int 0 0,.int 3 0,.ref 235,.bool true,.int 181 0,.ref 236,.none,.ref 237,.ref 238,.ref 239,.int 547 0,.int 199 0,.str "/claim/cut.py" 548]})::
 (nat_lit 241,⟨.type "function",none,.func (W.fnOf "_law_added" "_law_added" (HD.dA (HD.tp zP 34)) (HD.dB (HD.tp zP 34)) (HD.dS (HD.tp zP 34)) (.none) (.none) (.none) (.str "law_bundlehouse_k45_whole_flat_rows_done" 456) (none) (.ref 240) (.none)), #[]⟩)::
 (nat_lit 242,{cls:= .type "tuple",data:= .seq #[]})::
 (nat_lit 244,{cls:= .type "tuple",data:= .seq #[.str "_law_owns" 553,.str "_law_xs" 554,.str "_law_terms" 555,.str "_law_t" 556,.str "_law_number" 557,.str "_law_thing" 558]})::
 (nat_lit 245,{cls:= .type "tuple",data:= .seq #[]})::
 (nat_lit 247,{cls:= .type "code",data:= .fields #[.str "_law_sum" 550,.str "_law_sum" 551,.str "/claim/cut.py" 552,.int 223 0,.int 2 0,.int 0 0,.int 0 0,.int 3 0,.ref 242,.bool true,.int 181 0,.ref 243,.none,.ref 244,.ref 245,.ref 246,.int 559 0,.int 223 0,.str "/claim/cut.py" 560]})::
 (nat_lit 248,⟨.type "function",none,.func (W.fnOf "_law_sum" "_law_sum" (HD.dA (HD.tp zP 35)) (HD.dB (HD.tp zP 35)) (HD.dS (HD.tp zP 35)) (.none) (.none) (.none) (.str "law_bundlehouse_k45_whole_flat_rows_done" 456) (none) (.ref 247) (.none)), #[]⟩)::
 (nat_lit 249,{cls:= .type "tuple",data:= .seq #[]})::
 (nat_lit 251,{cls:= .type "tuple",data:= .seq #[.str "_law_row_here" 565,.str "_law_owns" 566,.str "_law_names" 567,.str "_law_kind" 568,.str "_law_one" 569,.str "_law_xs" 570,.str "_law_when" 571,.str "_law_terms" 572]})::
 (nat_lit 252,{cls:= .type "tuple",data:= .seq #[]})::
 (nat_lit 254,{cls:= .type "code",data:= .fields #[.str "_law_row" 562,.str "_law_row" 563,.str "/claim/cut.py" 564,.int 234 0,.int 3 0,.int 0 0,.int 0 0,.int 3 0,.ref 249,.bool true,.int 181 0,.ref 250,.none,.ref 251,.ref 252,.ref 253,.int 573 0,.int 234 0,.str "/claim/cut.py" 574]})::
 (nat_lit 255,⟨.type "function",none,.func (W.fnOf "_law_row" "_law_row" (HD.dA (HD.tp zP 36)) (HD.dB (HD.tp zP 36)) (HD.dS (HD.tp zP 36)) (.none) (.none) (.none) (.str "law_bundlehouse_k45_whole_flat_rows_done" 456) (none) (.ref 254) (.none)), #[]⟩)::
 (nat_lit 256,{cls:= .type "tuple",data:= .seq #[]})::
 (nat_lit 259,{cls:= .type "code",data:= .fields #[.str "_law_owned" 576,.str "_law_owned" 577,.str "/claim/cut.py" 578,.int 253 0,.int 1 0,.int 0 0,.int 0 0,.int 3 0,.ref 256,.bool true,.int 181 0,.ref 257,.none,.none,.none,.ref 258,.int 579 0,.int 253 0,.str "/claim/cut.py" 580]})::
 (nat_lit 260,⟨.type "function",none,.func (W.fnOf "_law_owned" "_law_owned" (HD.dA (HD.tp zP 37)) (HD.dB (HD.tp zP 37)) (HD.dS (HD.tp zP 37)) (.none) (.none) (.none) (.str "law_bundlehouse_k45_whole_flat_rows_done" 456) (none) (.ref 259) (.none)), #[]⟩)::
 (nat_lit 261,{cls:= .type "tuple",data:= .seq #[]})::
 (nat_lit 264,{cls:= .type "code",data:= .fields #[.str "_law_finished" 582,.str "_law_finished" 583,.str "/claim/cut.py" 584,.int 259 0,.int 3 0,.int 0 0,.int 0 0,.int 3 0,.ref 261,.bool true,.int 181 0,.ref 262,.none,.none,.none,.ref 263,.int 585 0,.int 259 0,.str "/claim/cut.py" 586]})::
 (nat_lit 265,⟨.type "function",none,.func (W.fnOf "_law_finished" "_law_finished" (HD.dA (HD.tp zP 38)) (HD.dB (HD.tp zP 38)) (HD.dS (HD.tp zP 38)) (.none) (.none) (.none) (.str "law_bundlehouse_k45_whole_flat_rows_done" 456) (none) (.ref 264) (.none)), #[]⟩)::
 (nat_lit 266,{cls:= .type "tuple",data:= .seq #[]})::
 (nat_lit 268,{cls:= .type "tuple",data:= .seq #[.str "_law_script" 591,.str "_law_first" 592,.str "_law_own" 593,.str "_law_other" 594]})::
 (nat_lit 269,{cls:= .type "tuple",data:= .seq #[]})::
 (nat_lit 271,{cls:= .type "code",data:= .fields #[.str "_law_pools" 588,.str "_law_pools" 589,.str "/claim/cut.py" 590,.int 273 0,.int 1 0,.int 0 0,.int 0 0,.int 3 0,.ref 266,.bool true,.int 181 0,.ref 267,.none,.ref 268,.ref 269,.ref 270,.int 595 0,.int 273 0,.str "/claim/cut.py" 596]})::
 (nat_lit 272,⟨.type "function",none,.func (W.fnOf "_law_pools" "_law_pools" (HD.dA (HD.tp zP 39)) (HD.dB (HD.tp zP 39)) (HD.dS (HD.tp zP 39)) (.none) (.none) (.none) (.str "law_bundlehouse_k45_whole_flat_rows_done" 456) (none) (.ref 271) (.none)), #[]⟩)::
 (nat_lit 273,{cls:= .type "tuple",data:= .seq #[]})::
 (nat_lit 275,{cls:= .type "tuple",data:= .seq #[.str "_law_script" 601,.str "_law_house" 602,.str "_law_pools_here" 603,.str "_law_k" 604]})::
 (nat_lit 276,{cls:= .type "tuple",data:= .seq #[]})::
 (nat_lit 278,{cls:= .type "code",data:= .fields #[.str "_law_parts" 598,.str "_law_parts" 599,.str "/claim/cut.py" 600,.int 278 0,.int 1 0,.int 0 0,.int 0 0,.int 3 0,.ref 273,.bool true,.int 181 0,.ref 274,.none,.ref 275,.ref 276,.ref 277,.int 605 0,.int 278 0,.str "/claim/cut.py" 606]})::
 (nat_lit 279,⟨.type "function",none,.func (W.fnOf "_law_parts" "_law_parts" (HD.dA (HD.tp zP 40)) (HD.dB (HD.tp zP 40)) (HD.dS (HD.tp zP 40)) (.none) (.none) (.none) (.str "law_bundlehouse_k45_whole_flat_rows_done" 456) (none) (.ref 278) (.none)), #[]⟩)::
 (nat_lit 280,{cls:= .type "tuple",data:= .seq #[]})::
 (nat_lit 282,{cls:= .type "tuple",data:= .seq #[.str "_law_parts_here" 611,.str "_law_made_here" 612,.str "_law_name_here" 613,.str "_law_rows" 614,.str "_law_k" 615]})::
 (nat_lit 283,{cls:= .type "tuple",data:= .seq #[]})::
 (nat_lit 285,{cls:= .type "code",data:= .fields #[.str "_law_made" 608,.str "_law_made" 609,.str "/claim/cut.py" 610,.int 284 0,.int 1 0,.int 0 0,.int 0 0,.int 3 0,.ref 280,.bool true,.int 181 0,.ref 281,.none,.ref 282,.ref 283,.ref 284,.int 616 0,.int 284 0,.str "/claim/cut.py" 617]})::
 (nat_lit 286,⟨.type "function",none,.func (W.fnOf "_law_made" "_law_made" (HD.dA (HD.tp zP 41)) (HD.dB (HD.tp zP 41)) (HD.dS (HD.tp zP 41)) (.none) (.none) (.none) (.str "law_bundlehouse_k45_whole_flat_rows_done" 456) (none) (.ref 285) (.none)), #[]⟩)::
 (nat_lit 287,{cls:= .type "tuple",data:= .seq #[]})::
 (nat_lit 289,{cls:= .type "tuple",data:= .seq #[.str "_law_parts_here" 622,.str "_law_makers_here" 623,.str "_law_given" 624,.str "_law_steps" 625,.str "_law_name_here" 626,.str "_law_rows" 627,.str "_law_row_here" 628,.str "_law_handed" 629,.str "_law_own" 630,.str "_law_spot" 631,.str "_law_last" 632]})::
 (nat_lit 290,{cls:= .type "tuple",data:= .seq #[]})::
 (nat_lit 292,{cls:= .type "code",data:= .fields #[.str "_law_makers" 619,.str "_law_makers" 620,.str "/claim/cut.py" 621,.int 291 0,.int 1 0,.int 0 0,.int 0 0,.int 3 0,.ref 287,.bool true,.int 181 0,.ref 288,.none,.ref 289,.ref 290,.ref 291,.int 633 0,.int 291 0,.str "/claim/cut.py" 634]})::
 (nat_lit 293,⟨.type "function",none,.func (W.fnOf "_law_makers" "_law_makers" (HD.dA (HD.tp zP 42)) (HD.dB (HD.tp zP 42)) (HD.dS (HD.tp zP 42)) (.none) (.none) (.none) (.str "law_bundlehouse_k45_whole_flat_rows_done" 456) (none) (.ref 292) (.none)), #[]⟩)::
 (nat_lit 294,{cls:= .type "tuple",data:= .seq #[]})::
 (nat_lit 296,{cls:= .type "tuple",data:= .seq #[.str "_law_terms" 639,.str "_law_at" 640,.str "_law_part" 641,.str "_law_makers_here" 642,.str "_law_values" 643,.str "_law_amount" 644,.str "_law_k" 645,.str "_law_sign" 646,.str "_law_thing" 647]})::
 (nat_lit 297,{cls:= .type "tuple",data:= .seq #[]})::
 (nat_lit 299,{cls:= .type "code",data:= .fields #[.str "_law_sum_of" 636,.str "_law_sum_of" 637,.str "/claim/cut.py" 638,.int 310 0,.int 5 0,.int 0 0,.int 0 0,.int 3 0,.ref 294,.bool true,.int 181 0,.ref 295,.none,.ref 296,.ref 297,.ref 298,.int 648 0,.int 310 0,.str "/claim/cut.py" 649]})::
 (nat_lit 300,⟨.type "function",none,.func (W.fnOf "_law_sum_of" "_law_sum_of" (HD.dA (HD.tp zP 43)) (HD.dB (HD.tp zP 43)) (HD.dS (HD.tp zP 43)) (.none) (.none) (.none) (.str "law_bundlehouse_k45_whole_flat_rows_done" 456) (none) (.ref 299) (.none)), #[]⟩)::
 (nat_lit 301,{cls:= .type "tuple",data:= .seq #[]})::
 (nat_lit 303,{cls:= .type "tuple",data:= .seq #[.str "_law_row_here" 654,.str "_law_spot" 655,.str "_law_makers_here" 656,.str "_law_values" 657,.str "_law_left" 658,.str "_law_deeds" 659,.str "_law_kind" 660,.str "_law_amount" 661,.str "_law_word" 662]})::
 (nat_lit 304,{cls:= .type "tuple",data:= .seq #[]})::
 (nat_lit 306,{cls:= .type "code",data:= .fields #[.str "_law_row_done" 651,.str "_law_row_done" 652,.str "/claim/cut.py" 653,.int 320 0,.int 6 0,.int 0 0,.int 0 0,.int 3 0,.ref 301,.bool true,.int 181 0,.ref 302,.none,.ref 303,.ref 304,.ref 305,.int 663 0,.int 320 0,.str "/claim/cut.py" 664]})::
 (nat_lit 307,⟨.type "function",none,.func (W.fnOf "_law_row_done" "_law_row_done" (HD.dA (HD.tp zP 44)) (HD.dB (HD.tp zP 44)) (HD.dS (HD.tp zP 44)) (.none) (.none) (.none) (.str "law_bundlehouse_k45_whole_flat_rows_done" 456) (none) (.ref 306) (.none)), #[]⟩)::
 (nat_lit 308,{cls:= .type "tuple",data:= .seq #[]})::
 (nat_lit 310,{cls:= .type "tuple",data:= .seq #[.str "_law_parts_here" 669,.str "_law_root" 670,.str "_law_numbers_here" 671,.str "_law_makers_here" 672,.str "_law_rows_by" 673,.str "_law_name_here" 674,.str "_law_rows" 675,.str "_law_begun_here" 676,.str "_law_amid" 677,.str "_law_values" 678,.str "_law_deeds" 679,.str "_law_left" 680,.str "_law_fault" 681,.str "_law_at" 682,.str "_law_row_here" 683]})::
 (nat_lit 311,{cls:= .type "tuple",data:= .seq #[]})::
 (nat_lit 313,{cls:= .type "code",data:= .fields #[.str "_law_run" 666,.str "_law_run" 667,.str "/claim/cut.py" 668,.int 343 0,.int 3 0,.int 0 0,.int 0 0,.int 3 0,.ref 308,.bool true,.int 181 0,.ref 309,.none,.ref 310,.ref 311,.ref 312,.int 684 0,.int 343 0,.str "/claim/cut.py" 685]})::
 (nat_lit 314,⟨.type "function",none,.func (W.fnOf "_law_run" "_law_run" (HD.dA (HD.tp zP 45)) (HD.dB (HD.tp zP 45)) (HD.dS (HD.tp zP 45)) (.none) (.none) (.none) (.str "law_bundlehouse_k45_whole_flat_rows_done" 456) (none) (.ref 313) (.none)), #[]⟩)::
 (nat_lit 315,{cls:= .type "tuple",data:= .seq #[]})::
 (nat_lit 317,{cls:= .type "tuple",data:= .seq #[.str "_law_script" 690,.str "_law_most" 691,.str "_law_found" 692,.str "_law_cell" 693,.str "_law_way" 694]})::
 (nat_lit 318,{cls:= .type "tuple",data:= .seq #[]})::
 (nat_lit 320,{cls:= .type "code",data:= .fields #[.str "_law_numbers" 687,.str "_law_numbers" 688,.str "/claim/cut.py" 689,.int 367 0,.int 2 0,.int 0 0,.int 0 0,.int 3 0,.ref 315,.bool true,.int 181 0,.ref 316,.none,.ref 317,.ref 318,.ref 319,.int 695 0,.int 367 0,.str "/claim/cut.py" 696]})::
 (nat_lit 321,⟨.type "function",none,.func (W.fnOf "_law_numbers" "_law_numbers" (HD.dA (HD.tp zP 46)) (HD.dB (HD.tp zP 46)) (HD.dS (HD.tp zP 46)) (.none) (.none) (.none) (.str "law_bundlehouse_k45_whole_flat_rows_done" 456) (none) (.ref 320) (.none)), #[]⟩)::
 (nat_lit 322,{cls:= .type "tuple",data:= .seq #[]})::
 (nat_lit 324,{cls:= .type "tuple",data:= .seq #[.str "_law_done" 701,.str "_law_origins" 702,.str "_law_deeds" 703,.str "_law_kind" 704,.str "_law_amount" 705,.str "_law_name_here" 706,.str "_law_number" 707,.str "_law_fault" 708]})::
 (nat_lit 325,{cls:= .type "tuple",data:= .seq #[]})::
 (nat_lit 327,{cls:= .type "code",data:= .fields #[.str "_law_led" 698,.str "_law_led" 699,.str "/claim/cut.py" 700,.int 378 0,.int 2 0,.int 0 0,.int 0 0,.int 3 0,.ref 322,.bool true,.int 181 0,.ref 323,.none,.ref 324,.ref 325,.ref 326,.int 709 0,.int 378 0,.str "/claim/cut.py" 710]})::
 (nat_lit 328,⟨.type "function",none,.func (W.fnOf "_law_led" "_law_led" (HD.dA (HD.tp zP 47)) (HD.dB (HD.tp zP 47)) (HD.dS (HD.tp zP 47)) (.none) (.none) (.none) (.str "law_bundlehouse_k45_whole_flat_rows_done" 456) (none) (.ref 327) (.none)), #[]⟩)::
 (nat_lit 329,{cls:= .type "tuple",data:= .seq #[]})::
 (nat_lit 332,{cls:= .type "code",data:= .fields #[.str "law" 712,.str "law" 713,.str "/claim/cut.py" 714,.int 386 0,.int 1 0,.int 0 0,.int 0 0,.int 3 0,.ref 329,.bool true,.int 181 0,.ref 330,.none,.none,.none,.ref 331,.int 715 0,.int 386 0,.str "/claim/cut.py" 716]})::
 (nat_lit 333,⟨.type "function",none,.func (W.fnOf "law" "law" (HD.dA (HD.tp zP 48)) (HD.dB (HD.tp zP 48)) (HD.dS (HD.tp zP 48)) (.none) (.none) (.none) (.str "law_bundlehouse_k45_whole_flat_rows_done" 456) (none) (.ref 332) (.none)), #[]⟩)::[]
noncomputable def a6V:List Addr:=[nat_lit 2,nat_lit 3,nat_lit 15,nat_lit 22,nat_lit 23,nat_lit 24,nat_lit 25,nat_lit 28,nat_lit 35,nat_lit 37,nat_lit 38,nat_lit 40,nat_lit 42,nat_lit 43,nat_lit 44,nat_lit 47,nat_lit 54,nat_lit 55,nat_lit 56,nat_lit 59,nat_lit 61,nat_lit 62,nat_lit 64,nat_lit 65,nat_lit 66,nat_lit 68,nat_lit 69,nat_lit 71,nat_lit 72,nat_lit 73,nat_lit 75,nat_lit 76,nat_lit 78,nat_lit 79,nat_lit 80,nat_lit 82,nat_lit 83,nat_lit 85,nat_lit 86,nat_lit 87,nat_lit 89,nat_lit 90,nat_lit 92,nat_lit 93,nat_lit 94,nat_lit 96,nat_lit 97,nat_lit 99,nat_lit 100,nat_lit 101,nat_lit 103,nat_lit 104,nat_lit 106,nat_lit 107,nat_lit 108,nat_lit 110,nat_lit 111,nat_lit 113,nat_lit 114,nat_lit 115,nat_lit 117,nat_lit 118,nat_lit 120,nat_lit 121,nat_lit 122,nat_lit 124,nat_lit 125,nat_lit 127,nat_lit 128,nat_lit 129,nat_lit 131,nat_lit 132,nat_lit 134,nat_lit 135,nat_lit 136,nat_lit 138,nat_lit 139,nat_lit 141,nat_lit 142,nat_lit 143,nat_lit 146,nat_lit 147,nat_lit 148,nat_lit 150,nat_lit 151,nat_lit 153,nat_lit 154,nat_lit 155,nat_lit 157,nat_lit 158,nat_lit 160,nat_lit 161,nat_lit 162,nat_lit 165,nat_lit 166,nat_lit 167,nat_lit 169,nat_lit 170,nat_lit 172,nat_lit 173,nat_lit 174,nat_lit 176,nat_lit 177,nat_lit 179,nat_lit 180,nat_lit 181,nat_lit 184,nat_lit 185,nat_lit 186,nat_lit 188,nat_lit 189,nat_lit 191,nat_lit 192,nat_lit 193,nat_lit 195,nat_lit 196,nat_lit 198,nat_lit 199,nat_lit 200,nat_lit 202,nat_lit 203,nat_lit 205,nat_lit 206,nat_lit 207,nat_lit 209,nat_lit 210,nat_lit 212,nat_lit 213,nat_lit 214,nat_lit 216,nat_lit 217,nat_lit 219,nat_lit 220,nat_lit 221,nat_lit 223,nat_lit 224,nat_lit 226,nat_lit 227,nat_lit 228,nat_lit 230,nat_lit 231,nat_lit 233,nat_lit 234,nat_lit 235,nat_lit 237,nat_lit 238,nat_lit 240,nat_lit 241,nat_lit 242,nat_lit 244,nat_lit 245,nat_lit 247,nat_lit 248,nat_lit 249,nat_lit 251,nat_lit 252,nat_lit 254,nat_lit 255,nat_lit 256,nat_lit 259,nat_lit 260,nat_lit 261,nat_lit 264,nat_lit 265,nat_lit 266,nat_lit 268,nat_lit 269,nat_lit 271,nat_lit 272,nat_lit 273,nat_lit 275,nat_lit 276,nat_lit 278,nat_lit 279,nat_lit 280,nat_lit 282,nat_lit 283,nat_lit 285,nat_lit 286,nat_lit 287,nat_lit 289,nat_lit 290,nat_lit 292,nat_lit 293,nat_lit 294,nat_lit 296,nat_lit 297,nat_lit 299,nat_lit 300,nat_lit 301,nat_lit 303,nat_lit 304,nat_lit 306,nat_lit 307,nat_lit 308,nat_lit 310,nat_lit 311,nat_lit 313,nat_lit 314,nat_lit 315,nat_lit 317,nat_lit 318,nat_lit 320,nat_lit 321,nat_lit 322,nat_lit 324,nat_lit 325,nat_lit 327,nat_lit 328,nat_lit 329,nat_lit 332,nat_lit 333]
theorem b3w:∀P,a6V=(a7b P).map (·.1):=fun _=>by kernel_rfl
theorem b5O:PySem.Challenge.rw_bundlehouse_k45_whole_flat_rows_done.wellSaid=true:=by kernel_rfl
noncomputable abbrev qP:Program:=(HD.b5z PySem.Challenge.rw_bundlehouse_k45_whole_flat_rows_done.prog [48])
noncomputable abbrev sE (w:World):=openEnds treeTable PySem.Challenge.rw_bundlehouse_k45_whole_flat_rows_done.row.prog w 4236
noncomputable abbrev sX:Shared->Bool:=(fun s=>xlAt qP [] s && recOk (RowW.records PySem.Challenge.rw_bundlehouse_k45_whole_flat_rows_done.row.toRowW) s)
noncomputable abbrev sL:List Str:="BundleError"::"RefusedAt"::"Asks"::"placed_rows"::"given_owns"::"links"::"makers"::"made"::"brings"::"named_parts"::"order"::"new_names"::"numbered"::"makers_names"::"renamed_row"::"renamed_sum"::"renamed_thing"::"renamed_when"::"flat"::"refuse_asks"::"work_in_order"::"last_first"::"_law_cell_at"::"_law_stream"::"_law_name"::"_law_pool"::"_law_begun"::"_law_fresh"::"_law_pairs"::"_law_added"::"_law_sum"::"_law_row"::"_law_owned"::"_law_finished"::"_law_pools"::"_law_parts"::"_law_made"::"_law_makers"::"_law_sum_of"::"_law_row_done"::"_law_run"::"_law_numbers"::"_law_led"::[]
noncomputable abbrev sS (s:Shared):=openSeen qP sL (importedModules PySem.Challenge.rw_bundlehouse_k45_whole_flat_rows_done.row.prog.main.body) sX true s
theorem b7W:∀w,((sE w).map fun s=>sS s)=some (openGood qP sL):=fun w=>by kernel_rfl
theorem b8a:∀w,((sE w).map fun s=>(a6V.take 106).map s.heap.get?)=some (((a7b w.params).take 106).map fun p=>some p.2):=fun w=>by kernel_rfl
theorem b8g:∀w,((sE w).map fun s=>(a6V.drop 106).map s.heap.get?)=some (((a7b w.params).drop 106).map fun p=>some p.2):=fun w=>by kernel_rfl
theorem b3X:LeftO PySem.Challenge.rw_bundlehouse_k45_whole_flat_rows_done.row.prog qP sL sX (kHook a7b a6V b3w).obs (kHook a7b a6V b3w).val 4236:=HD.b2h 106 b7W b8a b8g
end K45
namespace L2
open PySem PySem.Spec PyProof.Rows
noncomputable abbrev Key:=Sum Int Str
noncomputable def a5W:Key->Value->Bool
 | .inl k,v=>Value.isInt k v
 | .inr x,v=>Value.isStrOf x v
noncomputable def b7R (w:World):Key->Int
 | .inl k=>hashInt k
 | .inr x=>hashStr w x
theorem F2:∀{k:Key}{v:Value},a5W k v=true->(∃i t,k=Sum.inl i/\v=Value.int i t)\/(∃x t,k=Sum.inr x/\v=Value.str x t)
 | .inl i,v,h=>by
  obtain⟨t,e⟩:=Value.isInt_shape (k:=i) (v:=v) h
  exact .inl ⟨i,t,rfl,e⟩
 | .inr x,v,h=>by
  obtain⟨t,e⟩:=Value.isStrOf_shape (x:=x) (v:=v) h
  exact .inr ⟨x,t,rfl,e⟩
theorem b1g(i:Int)(t:Tok):a5W (.inl i) (.int i t)=true:=by simp[a5W,Value.isInt]
theorem b1X(x:Str)(t:Tok):a5W (.inr x) (.str x t)=true:=by simp[a5W,Value.isStrOf]
theorem b6h(a b:Int):decide ((Sum.inl a:Key)=Sum.inl b)=(a==b):=by
 by_cases e:a=b
 ·subst e;simp
 ·have h:¬(Sum.inl a:Key)=Sum.inl b:=fun q=>e (Sum.inl.inj q)
  rw[AZ h]
  exact(beq_eq_false_iff_ne.mpr e).symm
theorem b5J(a b:Str):decide ((Sum.inr a:Key)=Sum.inr b)=decide (a=b):=by
 by_cases e:a=b
 ·subst e;simp
 ·have h:¬(Sum.inr a:Key)=Sum.inr b:=fun q=>e (Sum.inr.inj q)
  rw[AZ h,AZ e]
theorem b6e(a:Int)(b:Str):decide ((Sum.inl a:Key)=Sum.inr b)=false:=AZ (fun q=>nomatch q)
theorem b6i(a:Str)(b:Int):decide ((Sum.inr a:Key)=Sum.inl b)=false:=AZ (fun q=>nomatch q)
noncomputable def Z8 (prog:Program) (w:World):PySem.KeyKind prog w Key where
 is:=a5W
 hash:=b7R w
 inj:=fun v a b ha hb=>by
  rcases F2 ha with⟨i,t,rfl,rfl⟩ | ⟨x,t,rfl,rfl⟩
  ·rcases F2 hb with⟨j,u,rfl,e⟩ | ⟨y,u,rfl,e⟩
   ·injection e with e1 _;rw[e1]
   ·exact nomatch e
  ·rcases F2 hb with⟨j,u,rfl,e⟩ | ⟨y,u,rfl,e⟩
   ·exact nomatch e
   ·injection e with e1 _;rw[e1]
 byValue:=fun k v h=>by
  rcases F2 h with⟨i,t,rfl,rfl⟩ | ⟨x,t,rfl,rfl⟩<;>rfl
 pyHash:=fun hv h=>by
  rcases F2 hv with⟨i,t,rfl,rfl⟩ | ⟨x,t,rfl,rfl⟩
  ·exact wpAny_pyHash_int h
  ·exact wpAny_pyHash_str h
 eqBool:=fun hu hv h=>by
  rcases F2 hu with⟨i,t,rfl,rfl⟩ | ⟨x,t,rfl,rfl⟩
  ·rcases F2 hv with⟨j,u,rfl,rfl⟩ | ⟨y,u,rfl,rfl⟩
   ·rw[b6h]at h;exact wpAny_eqBool_int h
   ·rw[b6e]at h;exact SeqAt.EqAt.int_str i t y u _ _ _ _ h
  ·rcases F2 hv with⟨j,u,rfl,rfl⟩ | ⟨y,u,rfl,rfl⟩
   ·rw[b6i]at h;exact SeqAt.EqAt.str_int x t j u _ _ _ _ h
   ·rw[b5J]at h;exact wpAny_eqBool_str h
 «strs»:=fun k x t v h=>by
  rcases F2 h with⟨i,u,rfl,e⟩ | ⟨y,u,rfl,e⟩
  ·exact nomatch e
  ·injection e with e1 _
   subst e1
   cases v<;>rfl
theorem a8D(prog:Program)(w:World)(i:Int)(t:Tok):(Z8 prog w).is (.inl i) (.int i t)=true:=b1g i t
theorem a4S(prog:Program)(w:World)(x:Str)(t:Tok):(Z8 prog w).is (.inr x) (.str x t)=true:=b1X x t
end L2
namespace L2
open PySem PySem.Spec PyProof.Rows
inductive V where
 | non | bl (b:Bool) | int (i:Int) | str (x:Str) | byt (b:Array UInt8) | flt (b:UInt64) | ref (a:Addr) | ty (n:String)
 deriving DecidableEq
noncomputable def W9:V->Value->Prop
 | .non,u=>u=Value.none
 | .bl b,u=>u=Value.bool b
 | .int i,u=>∃t,u=Value.int i t
 | .str x,u=>∃t,u=Value.str x t
 | .byt b,u=>∃t,u=Value.bytes b t
 | .flt b,u=>∃t,u=Value.float b t
 | .ref a,u=>u=Value.ref a
 | .ty n,u=>u=Value.type n
noncomputable abbrev W6:List V->List Value->Prop:=Paired W9
theorem W6.length{xs:List V}{us:List Value}(r:W6 xs us):xs.length=us.length:=AE r
theorem W6.get:∀{xs:List V}{us:List Value}{i:Nat}{x:V},W6 xs us->xs[i]?=some x->∃u,us[i]?=some u/\W9 x u
 | _,_,_,_,.nil,e=>by simp at e
 | _,_,0,_,.cons r _,e=>by simp at e;subst e;exact⟨_,rfl,r⟩
 | _,_,i+1,x,.cons _ t,e=>by
  obtain⟨u,h1,h2⟩:=W6.get (i:=i) (x:=x) t (by simpa using e)
  exact⟨u,by simpa using h1,h2⟩
theorem W6.set{x:V}{u:Value}(r:W9 x u):∀{xs:List V}{us:List Value}(i:Nat),W6 xs us->W6 (xs.set i x) (us.set i u)
 | _,_,_,.nil=> .nil
 | _,_,0,.cons _ t=> .cons r t
 | _,_,i+1,.cons q t=> .cons q (W6.set r i t)
theorem W6.append:∀{xs ys:List V}{us j:List Value},W6 xs us->W6 ys j->W6 (xs++ys) (us++j)
 | _,_,_,_,.nil,s=>s
 | _,_,_,_,.cons r t,s=> .cons r (W6.append t s)
theorem W6.take:∀{xs:List V}{us:List Value}(n:Nat),W6 xs us->W6 (xs.take n) (us.take n)
 | _,_,0,_=> .nil
 | _,_,_+1,.nil=> .nil
 | _,_,n+1,.cons r t=> .cons r (W6.take n t)
theorem W6.drop:∀{xs:List V}{us:List Value}(n:Nat),W6 xs us->W6 (xs.drop n) (us.drop n)
 | _,_,0,r=>r
 | _,_,_+1,.nil=> .nil
 | _,_,n+1,.cons _ t=>W6.drop n t
noncomputable def a5O:Option V->Option Value->Prop
 | some v,some u=>W9 v u
 | none,none=>True
 | _,_=>False
noncomputable def KV {κ:Type}:List (κ×V)->List (κ×Value)->Prop:=Paired fun(p:κ×V)(q:κ×Value)=>p.1=q.1/\W9 p.2 q.2
noncomputable def kV:Key->V
 | .inl i=> .int i
 | .inr x=> .str x
inductive HO where
 | lst (xs:List V)
 | tup (xs:List V)
 | dK (kvs:List (Key×V)) | dT (kvs:List (List Key×V))
 | set (S:Int->Bool) (n:Nat)
 | ins (C dx:Addr) (fs:List (Str×V))
 | own (x:Addr)
 | xd (fs:List (Str×V))
 | met (f x:Addr)
 | rng (lo hi:Int)
 | frz (o:Obj) (u:HO)
 | tbl (ps:Array Value)
 | ext (φ:Heap->Prop)
noncomputable abbrev Hp:=Addr->Option HO
noncomputable def upd (H:Hp) (a:Addr) (o:HO):Hp:=fun b=>if b=a then some o else H b
theorem G1{H:Hp}{a:Addr}{o:HO}:upd H a o a=some o:=by unfold upd;rw[if_pos rfl]
theorem G8{H:Hp}{a b:Addr}{o:HO}(h:b≠a):upd H a o b=H b:=by unfold upd;rw[if_neg h]
theorem b4c{H:Hp}{a:Addr}{o u:HO}:upd (upd H a o) a u=upd H a u:=by
 funext b;unfold upd;split<;>rfl
theorem a5p{H:Hp}{a b:Addr}{o u:HO}(h:H a=some o)(h':H b=some u)(d:o≠u):a≠b:=by
 intro e;subst e;rw[h]at h';exact d (Option.some.inj h')
theorem Y8{H:Hp}{a b:Addr}{o:HO}(h:H a=some o)(h':H b=none):a≠b:=by
 intro e;subst e;rw[h]at h';cases h'
section
variable(P:Program)(w:World)
noncomputable def O5 (H:Hp) (h:Heap) (a:Addr):HO->Prop
 | .lst xs=>xs.length<=sizeLine/\∃(its:List Value)(n:Nat),W6 xs its/\h.get? a=some {cls:= .type "list",data:= .seq its.toArray n}
 | .tup xs=>xs.length<=sizeLine/\∃its:List Value,W6 xs its/\IsTup h a its.toArray
 | .dK kvs=>kvs.length<=sizeLine/\(a==sysModules)=false/\∃vs,KV kvs vs/\h.DictOf (Z8 P w) a vs
 | .dT kvs=>kvs.length<=sizeLine/\(a==sysModules)=false/\∃xs:List (List Key×Addr×Value),
   Paired (fun(p:List Key×V)(q:List Key×Addr×Value)=>p.1=q.1/\H q.2.1=some (.tup (p.1.map kV))/\W9 p.2 q.2.2) kvs xs/\
   ∃o es ep,h.get? a=some o/\o.ExactDict/\o.data= .dict es ep/\es.toList=xs.map (entryOfKey (tupleKind (Z8 P w)))/\(xs.map (·.1)).Nodup
 | .set S n=>h.SetOf (intKind P w) a S n
 | .ins C dx fs=>H dx=some (.own a)/\fs.length<=1000/\dx≠a/\h.get? a=some (W.instObj C dx)/\
   ∃mA,h.Ns1 dx mA/\(∀f,a5O (fs.lookup f) (mA f))/\PySem.Within mA (fs.map (·.1))
 | .own _=>∃o,h.get? a=some o
 | .xd fs=>∃mA,h.Ns1 a mA/\∀f,a5O (fs.lookup f) (mA f)
 | .rng lo hi=>∃t u v,h.get? a=some {cls:= .type "range",data:= .fields #[.int lo t,.int hi u,.int 1 v]}
 | .frz o u=>h.get? a=some o/\O5 H h a u
 | .tbl ps=>h.get? a=some {cls:= .none,data:= .fields ps}
 | .met f x=>h.get? a=some (W.methodObj (.ref f) (.ref x))
 | .ext φ=>φ h/\(∃o,h.get? a=some o)/\∀h1 h2:Heap,φ h1->(∀o,h1.get? a=some o->h2.get? a=some o)->φ h2
noncomputable def HOk (H:Hp) (h:Heap):Prop:=∀a o,H a=some o->O5 P w H h a o
end
section
variable{P:Program}{w:World}{H H':Hp}{h h':Heap}{a:Addr}{o:HO}
theorem O5.lt(x:O5 P w H h a o):a < h.objs.size:=by
 cases o with
 | lst xs=>obtain⟨_,_,_,_,e⟩:=x;exact AU e
 | tup xs=>obtain⟨_,_,_,p⟩:=x;exact p.lt
 | dK kvs=>obtain⟨_,_,_,_,o,_,_,e,_⟩:=x;exact AU e
 | dT kvs=>obtain⟨_,_,_,_,o,_,_,e,_⟩:=x;exact AU e
 | set S n=>obtain⟨o,_,_,_,e,_⟩:=x;exact AU e
 | ins C dx fs=>obtain⟨_,_,_,e,_⟩:=x;exact AU e
 | own y=>obtain⟨_,e⟩:=x;exact AU e
 | xd fs=>obtain⟨_,⟨_,_,_,e,_⟩,_⟩:=x;exact AU e
 | rng lo hi=>obtain⟨_,_,_,e⟩:=x;exact AU e
 | frz j u=>obtain⟨e,_⟩:=x;exact AU e
 | tbl ps=>exact AU (show h.get? a=some _ from x)
 | met f y=>exact AU (show h.get? a=some _ from x)
 | ext φ=>obtain⟨_,⟨_,e⟩,_⟩:=x;exact AU e
theorem Paired.mapP{α β:Type}{F G:α->β->Prop}:∀{l₁:List α}{l₂:List β},Paired F l₁ l₂->(∀a b,F a b->G a b)->Paired G l₁ l₂
 | _,_,.nil,_=> .nil
 | _,_,.cons r t,f=> .cons (f _ _ r) (Paired.mapP t f)
theorem O5.stay(x:O5 P w H h a o)(k:∀b u,(b=a\/H b=some (.own a))->h.get? b=some u->h'.get? b=some u)
  (G:∀b,H b=some (.own a)->H' b=some (.own a))(ht:∀b xs,H b=some (.tup xs)->H' b=some (.tup xs)):O5 P w H' h' a o:=by
 induction o with
 | lst xs=>obtain⟨z,B,n,r,e⟩:=x;exact⟨z,B,n,r,k _ _ (.inl rfl) e⟩
 | tup xs=>obtain⟨z,B,r,j,e,c⟩:=x;exact⟨z,B,r,j,k _ _ (.inl rfl) e,c⟩
 | dK kvs=>obtain⟨z,y,F,r,j,es,ep,e,c⟩:=x;exact⟨z,y,F,r,j,es,ep,k _ _ (.inl rfl) e,c⟩
 | dT kvs=>
  obtain⟨z,y,xs,r,j,es,ep,e,c⟩:=x
  exact⟨z,y,xs,Paired.mapP r fun p q z=>⟨z.1,ht _ _ z.2.1,z.2.2⟩,j,es,ep,k _ _ (.inl rfl) e,c⟩
 | set S n=>obtain⟨j,es,ep,t,e,c⟩:=x;exact⟨j,es,ep,t,k _ _ (.inl rfl) e,c⟩
 | ins C dx fs=>
  obtain⟨d,z,ne,e,mA,⟨D,es,ep,O,c⟩,r⟩:=x
  exact⟨G _ d,z,ne,k _ _ (.inl rfl) e,mA,⟨D,es,ep,k _ _ (.inr d) O,c⟩,r⟩
 | own y=>obtain⟨j,e⟩:=x;exact⟨j,k _ _ (.inl rfl) e⟩
 | xd fs=>obtain⟨mA,⟨D,es,ep,e,c⟩,r⟩:=x;exact⟨mA,⟨D,es,ep,k _ _ (.inl rfl) e,c⟩,r⟩
 | rng lo hi=>obtain⟨t,u,v,e⟩:=x;exact⟨t,u,v,k _ _ (.inl rfl) e⟩
 | frz j u J=>obtain⟨e,q⟩:=x;exact⟨k _ _ (.inl rfl) e,J q⟩
 | tbl ps=>
  have e:h.get? a=some {cls:= .none,data:= .fields ps}:=x
  show h'.get? a=some {cls:= .none,data:= .fields ps}
  exact k a _ (.inl rfl) e
 | met f y=>
  have e:h.get? a=some (W.methodObj (.ref f) (.ref y)):=x
  show h'.get? a=some (W.methodObj (.ref f) (.ref y))
  exact k a _ (.inl rfl) e
 | ext φ=>obtain⟨p,⟨o,e⟩,st⟩:=x;exact⟨st _ _ p fun o q=>k _ _ (.inl rfl) q,⟨o,k _ _ (.inl rfl) e⟩,st⟩
theorem HOk.lt(x:HOk P w H h)(e:H a=some o):a < h.objs.size:=(x a o e).lt
theorem HOk.fresh(x:HOk P w H h)(e:h.objs.size<=a):H a=none:=by
 cases q:H a with
 | none=>rfl
 | some u=>exact absurd (BG (x.lt q) e) (Nat.lt_irrefl _)
theorem HOk.kept(x:HOk P w H h)(k:∀b u,h.get? b=some u->h'.get? b=some u):HOk P w H h':=fun a o e=>
 (x a o e).stay (fun b u _ q=>k b u q) (fun _ q=>q) fun _ _ q=>q
theorem HOk.laid(x:HOk P w H h)(k:∀b u,h.get? b=some u->h'.get? b=some u)(D:h.objs.size<=a)(new:O5 P w (upd H a o) h' a o):HOk P w (upd H a o) h':=fun b u e=>by
 have B:=x.fresh D
 by_cases j:b=a
 ·subst j;rw[G1]at e;cases e;exact new
 ·rw[G8 j]at e
  exact(x b u e).stay (fun c v _ q=>k c v q) (fun c q=>by rw[G8 (Y8 q B)];exact q) fun c xs q=>by rw[G8 (Y8 q B)];exact q
end
noncomputable def Rd (H:Hp) (a:Addr) (u:HO):Prop:=H a=some u\/∃o,H a=some (.frz o u)
theorem Rd.ok{P:Program}{w:World}{H:Hp}{h:Heap}{a:Addr}{u:HO}(r:Rd H a u)(x:HOk P w H h):O5 P w H h a u:=by
 rcases r with r | ⟨o,r⟩
 ·exact x a u r
 ·obtain⟨_,q⟩:=x a _ r
  exact q
noncomputable def Mut:Option HO->Prop
 | some (.lst _)=>True
 | some (.dK _)=>True
 | some (.dT _)=>True
 | some (.set _ _)=>True
 | some (.ins _ _ _)=>True
 | some (.ext _)=>True
 | _=>False
section
variable{P:Program}{w:World}{H:Hp}{h h':Heap}{x e:Addr}{o':HO}
theorem HOk.write(ok:HOk P w H h)(G:Mut (H x))(Y:e=x\/H e=some (.own x))(k:∀b u,b≠e->h.get? b=some u->h'.get? b=some u)(O:∃u,h'.get? e=some u)
  (new:O5 P w (upd H x o') h' x o'):HOk P w (upd H x o') h':=fun b u q=>by
 have B:∀c y,H c=some (.own y)->c≠x:=fun c y r z=>by subst z;rw[r]at G;exact G
 have D:∀c xs,H c=some (.tup xs)->c≠x:=fun c xs r z=>by subst z;rw[r]at G;exact G
 by_cases J:b=x
 ·subst J;rw[G1]at q;cases q;exact new
 ·rw[G8 J]at q
  by_cases j:b=e
  ·have U:H b=some (.own x):=by
    rcases Y with z | z
    ·exact absurd (j.trans z) J
    ·rw[j];exact z
   rw[q]at U;cases U
   obtain⟨v,hv⟩:=O
   exact⟨v,by rw[j];exact hv⟩
  ·refine(ok b u q).stay (fun c v F r=>k c v ?_ r) (fun c r=>by rw[G8 (B c b r)];exact r) fun c xs r=>by rw[G8 (D c xs r)];exact r
   rcases F with rfl | F
   ·exact j
   ·rintro rfl
    rcases Y with z | z
    ·exact B c b F z
    ·rw[F]at z;cases z;exact J rfl
end
structure Un(fs ex:List Addr)(H H':Hp)(h h':Heap):Prop where
 keep:∀b o,h.get? b=some o->H b=none->b∉fs->b∉ex->h'.get? b=some o
 slot:∀b o,h.get? b=some o->H b=none->b∈fs->b∉ex->∃sl,h'.get? b=some {o with slots:=sl}
 free:∀b o,h.get? b=some o->H b=none->b∉ex->H' b=none
 there:∀b o,h.get? b=some o->b∉ex->∃o',h'.get? b=some o'
 tups:∀b xs,H b=some (.tup xs)->H' b=some (.tup xs)
 frzs:∀b o u,H b=some (.frz o u)->H' b=some (.frz o u)
 tbls:∀b ps,H b=some (.tbl ps)->∃more,H' b=some (.tbl (ps++more))
section
variable{fs fs' ex ex':List Addr}{H H1 H2:Hp}{h h1 h2 h':Heap}{a x e:Addr}{o:HO}
theorem Un.any(u:Un fs ex H H1 h h1){b:Addr}{j:Obj}(q:h.get? b=some j)(n:H b=none)(hx:b∉ex):∃D,h1.get? b=some {j with slots:=D}:=by
 by_cases B:b∈fs
 ·exact u.slot b j q n B hx
 ·exact⟨j.slots,u.keep b j q n B hx⟩
theorem Un.kept(k:∀b u,h.get? b=some u->h'.get? b=some u):Un fs ex H H h h':=
 ⟨fun b j q _ _ _=>k b j q,fun b j q _ _ _=>⟨j.slots,k b j q⟩,fun _ _ _ n _=>n,fun b j q _=>⟨j,k b j q⟩,fun _ _ q=>q,fun _ _ _ q=>q,fun _ ps q=>⟨#[],by rw[q];simp⟩⟩
theorem Un.refl:Un fs ex H H h h:=Un.kept fun _ _ q=>q
theorem Un.laid(k:∀b u,h.get? b=some u->h'.get? b=some u)(B:h.objs.size<=a)(j:H a=none):Un fs ex H (upd H a o) h h' where
 keep:=fun b u q _ _ _=>k b u q
 slot:=fun b u q _ _ _=>⟨u.slots,k b u q⟩
 free:=fun b u q n _=>by rw[G8 (BF (BG (AU q) B))];exact n
 there:=fun b u q _=>⟨u,k b u q⟩
 tups:=fun b xs q=>by rw[G8 (Y8 q j)];exact q
 frzs:=fun b u xs q=>by rw[G8 (Y8 q j)];exact q
 tbls:=fun b ps q=>⟨#[],by rw[G8 (Y8 q j),q];simp⟩
theorem Un.write(B:Mut (H x))(J:e=x\/H e=some (.own x))(k:∀b u,b≠e->h.get? b=some u->h'.get? b=some u)(F:∃u,h'.get? e=some u):Un fs ex H (upd H x o) h h':=by
 have hx:∀b,H b=none->b≠x:=fun b n z=>by subst z;rw[n]at B;exact B
 have G:∀b,H b=none->b≠e:=fun b n z=>by
  subst z
  rcases J with r | r
  ·exact hx b n r
  ·rw[n]at r;cases r
 have D:∀b u,H b=some u->¬Mut (some u)->b≠x:=fun b u q nm z=>by subst z;rw[q]at B;exact nm B
 refine⟨fun b u q n _ _=>k b u (G b n) q,fun b u q n _ _=>⟨u.slots,k b u (G b n) q⟩,fun b u q n _=>by rw[G8 (hx b n)];exact n,fun b u q _=>?_,
  fun b xs q=>by rw[G8 (D b _ q fun z=>z)];exact q,fun b u xs q=>by rw[G8 (D b _ q fun z=>z)];exact q,fun b ps q=>⟨#[],by rw[G8 (D b _ q fun z=>z),q];simp⟩⟩
 by_cases j:b=e
 ·subst j;exact F
 ·exact⟨u,k b u j q⟩
end
noncomputable def trk (h:Heap) (H:Hp):List Addr:=(List.range h.objs.size).filter fun a=>(H a).isSome
noncomputable def a7R (h:Heap) (H:Hp):Heap:=W.hideAll h (trk h H)
theorem b1e(h:Heap)(H:Hp):(a7R h H).objs.size=h.objs.size:=W.hideAll_size _ _
theorem b3G{h:Heap}{H:Hp}{b:Addr}{o:Obj}(e:h.get? b=some o)(n:H b=none):(a7R h H).get? b=some o:=
 W.hideAll_get _ e fun j=>by
  have q:(H b).isSome=true:=(List.mem_filter.mp j).2
  rw[n]at q;simp at q
theorem b4k{h:Heap}{H:Hp}{b:Addr}{o:Obj}(e:(a7R h H).get? b=some o):h.get? b=some o/\H b=none:=by
 have j:h.get? b=some o:=W.of_hideAll (trk h H) e
 refine⟨j,?_⟩
 cases q:H b with
 | none=>rfl
 | some x=>
  have B:b∈trk h H:=List.mem_filter.mpr ⟨List.mem_range.mpr (AU j),by simp[q]⟩
  have z:(a7R h H).get? b=none:=W.hideAll_none (trk h H) B
  rw[z]at e;cases e
end L2
namespace L2
open PySem PySem.Spec PyProof.Rows
structure Mod(K:W.Frag)(mg:Str->Option Value)(base:Heap):Prop where
 kin:K.In base
 glob:base.Ns mainGlobals mg
 blt:∃mb,base.Ns builtinsNs mb/\∀x:Str,x≠ "__name__" ->mb x=bootBuiltins x
 nolimit:base.NoLimit
structure Cx where
 prog:Program
 w:World
 K:W.Frag
 mg:Str->Option Value
 base:Heap
 A:Around
 N:List Str
 s₀:Shared
 H₀:Hp
 env:Env
 outer:List Env
 stack:List Env
 ex:List Addr
 fn:Str->Bool
 calm:Bool
 pn:List (Addr×Obj)
 xe:Value->Shared->Prop
noncomputable def frs (l:List Env):List Addr:=l.filterMap (·.frame)
noncomputable abbrev Cx.fs (X:Cx):List Addr:=frs X.outer
noncomputable def Vis (sc:Scope) (x:Str):Prop:=sc.names.lookup x=some .local\/sc.names.lookup x=some .cell\/sc.names.lookup x=some .free
noncomputable def Loc (sc:Scope) (x:Str):Prop:=sc.names.lookup x=some .local\/sc.names.lookup x=some .cell
noncomputable def b7M (env:Env) (h:Heap) (m:Str->Option Value) (x:Str) (u:Value):Prop:=
 (env.kindOf x=some .local/\m x=some u)\/((env.kindOf x=some .cell\/env.kindOf x=some .free)/\∃c,env.cells.lookup x=some c/\h.IsCell c (some u))
structure Cx.Ok(X:Cx):Prop where
 mod:Mod X.K X.mg X.base
 kind:X.env.scope.kind= .function
 glob:X.env.globals=mainGlobals
 blt:X.env.builtins=builtinsNs
 above:X.s₀.heap.objs.size<=X.env.locals
 inj:∀x y c,X.env.cells.lookup x=some c->X.env.cells.lookup y=some c->x=y
 has:∀x,(X.env.kindOf x=some .cell\/X.env.kindOf x=some .free)->∃c,X.env.cells.lookup x=some c
 cab:∀x c,X.fn x=true->X.env.cells.lookup x=some c->X.s₀.heap.objs.size<=c
 hd:X.calm=true->X.A.handled=none
 frames:X.A.frames=some X.stack
 stk:X.stack=X.outer\/(X.stack=X.env::X.outer/\X.env.frame=some X.env.locals)
 exf:∀b∈X.ex,b≠X.env.locals/\∀x c,X.env.cells.lookup x=some c->c≠b
 bs:∀b o,X.base.get? b=some o->X.s₀.heap.get? b=some o/\X.H₀ b=none
 bsz:X.base.objs.size<=X.s₀.heap.objs.size
 noex:∀b o,X.base.get? b=some o->b∉X.ex
 exfs:∀b∈X.ex,b∉X.fs
 funs:X.s₀.heap.FunFrames X.base X.outer
 frf:∀b∈X.fs,X.H₀ b=none
structure Inv(X:Cx)(pins:List (Addr×Obj))(σ:List (Option V))(H:Hp)(s:Shared):Prop where
 ok:X.Ok
 os:s.os=X.s₀.os
 bare:AllBare s.gens
 base:Un X.fs X.ex X.H₀ H X.s₀.heap s.heap
 loc:∃m,s.heap.Ns X.env.locals m/\∀(i:Nat)(x:Str)(v:V),X.N[i]?=some x->σ[i]?=some (some v)->Vis X.env.scope x->∃u,W9 v u/\b7M X.env s.heap m x u
 cell:∀x c,X.env.cells.lookup x=some c->∃v,s.heap.IsCell c v
 free:H X.env.locals=none
 freeC:∀x c,X.env.cells.lookup x=some c->H c=none
 pin:∀p∈X.pn++pins,s.heap.get? p.1=some p.2/\H p.1=none/\p.1≠X.env.locals/\p.1∉X.fs/\∀v,p.2.data≠ .cell v
 hok:HOk X.prog X.w H s.heap
 len:σ.length=X.N.length
section
variable{X:Cx}{pins:List (Addr×Obj)}{σ:List (Option V)}{H H':Hp}{s:Shared}{h':Heap}
theorem Cx.Ok.nofr(ok:X.Ok){b:Addr}{o:Obj}(e:X.base.get? b=some o):b∉X.fs:=fun j=>by
 have:=(ok.funs.mem j).1
 rw[e]at this;cases this
theorem Inv.bs(I:Inv X pins σ H s):∀b o,X.base.get? b=some o->s.heap.get? b=some o/\H b=none:=fun b o e=>
 ⟨I.base.keep b o (I.ok.bs b o e).1 (I.ok.bs b o e).2 (I.ok.nofr e) (I.ok.noex b o e),I.base.free b o (I.ok.bs b o e).1 (I.ok.bs b o e).2 (I.ok.noex b o e)⟩
theorem Inv.bk(I:Inv X pins σ H s):∀b o,X.base.get? b=some o->s.heap.get? b=some o:=fun b o e=>(I.bs b o e).1
theorem Inv.mod(I:Inv X pins σ H s):Mod X.K X.mg X.base:=I.ok.mod
theorem Inv.kIn(I:Inv X pins σ H s):X.K.In s.heap:=I.ok.mod.kin.keeps I.bk
theorem Inv.lt(I:Inv X pins σ H s):X.env.locals < s.heap.objs.size:=let⟨_,j,_⟩:=I.loc;j.lt
theorem Inv.sz(I:Inv X pins σ H s):X.s₀.heap.objs.size<=s.heap.objs.size:=Nat.le_trans I.ok.above (Nat.le_of_lt I.lt)
theorem Inv.nofs(I:Inv X pins σ H s){a:Addr}(h:s.heap.objs.size<=a):a∉X.fs:=fun j=>by
 obtain⟨_,o,q,_⟩:=I.ok.funs.mem j
 exact absurd (BG (AU q) (Nat.le_trans I.sz h)) (Nat.lt_irrefl _)
theorem Inv.cne(I:Inv X pins σ H s):∀x c,X.env.cells.lookup x=some c->c≠X.env.locals:=fun x c e z=>by
 obtain⟨v,o,B,hd⟩:=I.cell x c e
 obtain⟨m,⟨o',es,ep,j,q,_⟩,_⟩:=I.loc
 rw[z,j]at B;cases B;rw[q]at hd;cases hd
theorem Inv.funs(I:Inv X pins σ H s):s.heap.FunFrames X.base X.outer:=by
 have all:∀(l:List Env),(∀b∈frs l,b∈X.fs)->X.s₀.heap.FunFrames X.base l->s.heap.FunFrames X.base l:=by
  intro l
  induction l with
  | nil=>intro _ _;trivial
  | cons env r G=>
   intro B hl
   obtain⟨O,⟨L,o,hf,J,F,hd⟩,D⟩:=hl
   have q:L∈X.fs:=B L (by unfold frs;rw[BA,hf];exact AM)
   obtain⟨U,e⟩:=I.base.slot L o F (I.ok.frf L q) q fun z=>I.ok.exfs L z q
   exact⟨O,⟨L,_,hf,J,e,hd⟩,G (fun b j=>B b (by unfold frs;rw[BA,hf];exact AK _ j)) D⟩
 exact all X.outer (fun _ j=>j) I.ok.funs
theorem Inv.stack(I:Inv X pins σ H s):s.heap.FunFrames X.base X.stack:=by
 rcases I.ok.stk with e | ⟨e,hf⟩
 ·rw[e];exact I.funs
 ·rw[e]
  obtain⟨m,j,_⟩:=I.loc
  refine .cons (by rw[I.ok.kind];decide) hf j ?_ I.funs
  exact Heap.get?_none_of_le (Nat.le_trans I.ok.bsz I.ok.above)
theorem Inv.stkSub(I:Inv X pins σ H s):∀b∈frs X.stack,b∈X.env.locals::X.fs:=fun b j=>by
 rcases I.ok.stk with e | ⟨e,hf⟩
 ·rw[e]at j;exact AK _ j
 ·rw[e]at j
  unfold frs at j
  rw[BA,hf]at j
  exact j
theorem Inv.stkFree(I:Inv X pins σ H s):∀b∈frs X.stack,H b=none:=fun b j=>by
 rcases List.mem_cons.mp (I.stkSub b j)with e | j
 ·rw[e];exact I.free
 ·obtain⟨_,o,q,_⟩:=I.ok.funs.mem j
  exact I.base.free b o q (I.ok.frf b j) fun z=>I.ok.exfs b z j
theorem Inv.step{g':Array GenState}{t':Nat}{d':Drawn}{ch:List Addr}(I:Inv X pins σ H s)
  (B:∀b∈ch,(b∈X.ex\/X.s₀.heap.objs.size<=b)/\b≠X.env.locals/\(∀x c,X.env.cells.lookup x=some c->c≠b)/\∀p∈X.pn++pins,p.1≠b)
  (keep:∀b o,b≠X.env.locals->b∉X.fs->b∉ch->s.heap.get? b=some o->H b=none->h'.get? b=some o)
  (slot:∀b o,b≠X.env.locals->b∈X.fs->b∉ch->s.heap.get? b=some o->H b=none->∃sl,h'.get? b=some {o with slots:=sl})(free:∀b o,b∉ch->s.heap.get? b=some o->H b=none->H' b=none)
  (there:∀b o,b∉ch->s.heap.get? b=some o->∃o',h'.get? b=some o')
  (tups:∀b xs,H b=some (.tup xs)->H' b=some (.tup xs))(frzs:∀b o u,H b=some (.frz o u)->H' b=some (.frz o u))(tbls:∀b ps,H b=some (.tbl ps)->∃U,H' b=some (.tbl (ps++U)))
  (ns:∀m,s.heap.Ns X.env.locals m->h'.Ns X.env.locals m)(hok:HOk X.prog X.w H' h')(hg:AllBare g'):
  Inv X pins σ H' {s with heap:=h',gens:=g',drawn:=d',toks:=t'}:=by
 have Z:∀b o,X.s₀.heap.get? b=some o->b≠X.env.locals:=fun b o e=>BF (BG (AU e) I.ok.above)
 have G:∀b o,X.s₀.heap.get? b=some o->b∉X.ex->b∉ch:=fun b o e hx J=>by
  rcases(B b J).1 with z | z
  ·exact hx z
  ·exact absurd (BG (AU e) z) (Nat.lt_irrefl _)
 have j:∀x c,X.env.cells.lookup x=some c->∀v,s.heap.IsCell c v->h'.IsCell c v:=fun x c e v⟨o,O,hd⟩=>by
  have D:c∉ch:=fun z=>(B c z).2.2.1 x c e rfl
  by_cases hc:c∈X.fs
  ·obtain⟨sl,q⟩:=slot c o (I.cne x c e) hc D O (I.freeC x c e)
   exact⟨_,q,hd⟩
  ·exact⟨o,keep c o (I.cne x c e) hc D O (I.freeC x c e),hd⟩
 refine⟨I.ok,I.os,hg,⟨fun b o e n J hx=>?_,fun b o e n J hx=>?_,fun b o e n hx=>?_,fun b o e hx=>?_,fun b xs e=>tups b xs (I.base.tups b xs e),fun b o xs e=>frzs b o xs (I.base.frzs b o xs e),fun b ps e=>?_⟩,?_,fun x c e=>?_,?_,fun x c e=>?_,fun p hp=>?_,hok,I.len⟩
 ·exact keep b o (Z b o e) J (G b o e hx) (I.base.keep b o e n J hx) (I.base.free b o e n hx)
 ·obtain⟨sl,F⟩:=I.base.slot b o e n J hx
  obtain⟨ha,Y⟩:=slot b _ (Z b o e) J (G b o e hx) F (I.base.free b o e n hx)
  exact⟨ha,Y⟩
 ·obtain⟨o',F⟩:=I.base.there b o e hx
  exact free b o' (G b o e hx) F (I.base.free b o e n hx)
 ·obtain⟨o',F⟩:=I.base.there b o e hx
  exact there b o' (G b o e hx) F
 ·obtain⟨m1,F⟩:=I.base.tbls b ps e
  obtain⟨m2,Y⟩:=tbls b _ F
  exact⟨m1++m2,by rw[Y,Array.append_assoc]⟩
 ·obtain⟨m,hn,hl⟩:=I.loc
  refine⟨m,ns m hn,fun i x v F Y e3=>?_⟩
  obtain⟨u,r,l⟩:=hl i x v F Y e3
  refine⟨u,r,?_⟩
  rcases l with l | ⟨k,c,e,z⟩
  ·exact .inl l
  ·exact .inr ⟨k,c,e,j x c e _ z⟩
 ·obtain⟨v,z⟩:=I.cell x c e
  exact⟨v,j x c e v z⟩
 ·obtain⟨m,⟨o,_,_,O,_⟩,_⟩:=I.loc
  exact free _ o (fun z=>(B _ z).2.1 rfl) O I.free
 ·obtain⟨v,o,O,hd⟩:=I.cell x c e
  exact free c o (fun z=>(B c z).2.2.1 x c e rfl) O (I.freeC x c e)
 ·obtain⟨e,n,ne,nf,d⟩:=I.pin p hp
  have D:p.1∉ch:=fun z=>(B p.1 z).2.2.2 p hp rfl
  exact⟨keep p.1 p.2 ne nf D e n,free p.1 p.2 D e n,ne,nf,d⟩
theorem Inv.un{t':Nat}(I:Inv X pins σ H s)(u:Un X.fs [] H H' s.heap h')(hok:HOk X.prog X.w H' h'):Inv X pins σ H' {s with heap:=h',toks:=t'}:=by
 obtain⟨m,⟨o,es,ep,F,r⟩,_⟩:=id I.loc
 obtain⟨Y,O⟩:=u.any F I.free (by simp)
 exact I.step (g':=s.gens) (d':=s.drawn) (ch:=[]) (fun _ z=>nomatch z) (fun b o _ B _ e n=>u.keep b o e n B (by simp)) (fun b o _ B _ e n=>u.slot b o e n B (by simp)) (fun b o _ e n=>u.free b o e n (by simp)) (fun b o _ e=>u.there b o e (by simp)) u.tups u.frzs u.tbls (fun U G=>by
  obtain⟨o',q,D,j,J⟩:=G
  rw[F]at j;cases j
  exact⟨_,q,D,O,J⟩) hok I.bare
theorem Inv.call{g':Array GenState}{t':Nat}{d':Drawn}{ch:List Addr}(I:Inv X pins σ H s)(u:Un (frs X.stack) ch H H' s.heap h')(hok:HOk X.prog X.w H' h')(hg:AllBare g')
  (B:∀b∈ch,(b∈X.ex\/X.s₀.heap.objs.size<=b)/\b≠X.env.locals/\(∀x c,X.env.cells.lookup x=some c->c≠b)/\∀p∈X.pn++pins,p.1≠b):
  Inv X pins σ H' {s with heap:=h',gens:=g',drawn:=d',toks:=t'}:=by
 obtain⟨m,⟨o,es,ep,J,r⟩,_⟩:=id I.loc
 obtain⟨sl,G⟩:=u.any J I.free fun z=>(B _ z).2.1 rfl
 exact I.step (ch:=ch) B (fun b o G O j e n=>u.keep b o e n (fun z=>(List.mem_cons.mp (I.stkSub b z)).elim G O) j) (fun b o _ _ j e n=>u.any e n j) (fun b o j e n=>u.free b o e n j) (fun b o j e=>u.there b o e j) u.tups u.frzs u.tbls (fun Z U=>by
  obtain⟨o',D,F,q,Y⟩:=U
  rw[J]at q;cases q
  exact⟨_,D,F,G,Y⟩) hok hg
theorem Inv.turned{t':Nat}{it:Addr}(I:Inv X pins σ H s)(k:∀b o,b≠it->s.heap.get? b=some o->h'.get? b=some o)(U:H it=none)(D:it≠X.env.locals)
  (h1:it∈X.ex\/X.s₀.heap.objs.size<=it)(h2:∀x c,X.env.cells.lookup x=some c->c≠it)(F:∀p∈X.pn++pins,p.1≠it):Inv X pins σ H {s with heap:=h',toks:=t'}:=by
 have B:∀b u,H b=some u->b≠it:=fun b u e z=>by rw[z,U]at e;cases e
 refine I.step (g':=s.gens) (d':=s.drawn) (ch:=[it]) (fun b G=>?_) (fun b o _ _ j e _=>k b o (fun z=>j (by simp[z])) e) (fun b o _ _ j e _=>⟨o.slots,k b o (fun z=>j (by simp[z])) e⟩) (fun _ _ _ _ n=>n)
  (fun b o j e=>⟨o,k b o (fun z=>j (by simp[z])) e⟩) (fun _ _ e=>e) (fun _ _ _ e=>e) (fun b ps e=>⟨#[],by rw[e];simp⟩) (fun m J=>?_) (fun b u e=>?_) I.bare
 ·have e:b=it:=by simpa using G
  subst e
  exact⟨h1,D,h2,F⟩
 ·obtain⟨o,es,ep,O,r⟩:=J
  exact⟨o,es,ep,k _ o (Ne.symm D) O,r⟩
 ·refine(I.hok b u e).stay (fun c v j q=>k c v ?_ q) (fun _ q=>q) fun _ _ q=>q
  rcases j with z | z
  ·rw[z];exact B b u e
  ·exact B c _ z
theorem Inv.tok(I:Inv X pins σ H s)(t:Nat):Inv X pins σ H {s with toks:=t}:=I.un (h':=s.heap) (t':=t) Un.refl I.hok
theorem Inv.kept{t':Nat}(I:Inv X pins σ H s)(k:∀b u,s.heap.get? b=some u->h'.get? b=some u):Inv X pins σ H {s with heap:=h',toks:=t'}:=I.un (Un.kept k) (I.hok.kept k)
theorem Inv.laid{a:Addr}{o:HO}{t':Nat}(I:Inv X pins σ H s)(k:∀b u,s.heap.get? b=some u->h'.get? b=some u)(j:s.heap.objs.size<=a)(new:O5 X.prog X.w (upd H a o) h' a o):
  Inv X pins σ (upd H a o) {s with heap:=h',toks:=t'}:=I.un (Un.laid k j (I.hok.fresh j)) (I.hok.laid k j new)
theorem Inv.write{x e:Addr}{o:HO}{t':Nat}(I:Inv X pins σ H s)(q:Mut (H x))(B:e=x\/H e=some (.own x))(k:∀b u,b≠e->s.heap.get? b=some u->h'.get? b=some u)(j:∃u,h'.get? e=some u)
  (new:O5 X.prog X.w (upd H x o) h' x o):Inv X pins σ (upd H x o) {s with heap:=h',toks:=t'}:=I.un (Un.write q B k j) (I.hok.write q B k j new)
theorem Inv.pins_of{j:List (Addr×Obj)}(I:Inv X pins σ H s)(h:∀p∈j,s.heap.get? p.1=some p.2/\H p.1=none/\p.1≠X.env.locals/\p.1∉X.fs/\∀v,p.2.data≠ .cell v):Inv X j σ H s:=
 ⟨I.ok,I.os,I.bare,I.base,I.loc,I.cell,I.free,I.freeC,fun p q=>(AL.mp q).elim (fun z=>I.pin p (AX _ z)) (h p),I.hok,I.len⟩
theorem a8r{N:List Str}(hN:N.Nodup){i j:Nat}{x:Str}(a:N[i]?=some x)(b:N[j]?=some x):i=j:=by
 obtain⟨h1,q⟩:=List.getElem?_eq_some_iff.mp a
 obtain⟨h2,B⟩:=List.getElem?_eq_some_iff.mp b
 exact(List.getElem_inj hN).mp (q.trans B.symm)
theorem a6H{M:Model}{A:Around}{E:Value->Shared->Prop}{i:Nat}{x:Str}{v:V}{u:Value}{Q:Unit->Shared->Prop}(I:Inv X pins σ H s)(hN:X.N.Nodup)(hi:X.N[i]?=some x)(hx:Loc X.env.scope x)(r:W9 v u)
  (h:∀s',Inv X pins (σ.set i (some v)) H s'->(∃a,Heap.SameBut a s.heap s'.heap/\(a=X.env.locals\/X.env.cells.lookup x=some a))->Q () s')(hf:X.fn x=true\/X.env.scope.names.lookup x=some .local:=by first | exact .inl rfl | exact .inr rfl | assumption):wpAny M A (storeName X.env x u) Q E s:=by
 obtain⟨m,hn,hl⟩:=id I.loc
 have hm:(X.env.scope.kind== .class || (X.env.scope.kind== .module && X.env.locals != X.env.globals))=false:=by rw[I.ok.kind];rfl
 have U:i < σ.length:=by rw[I.len];exact(List.getElem?_eq_some_iff.mp hi).1
 have cne:=I.cne
 have F:∀{a:Addr}{h':Heap},(∃o,s.heap.get? a=some o/\H a=none)->Heap.SameBut a s.heap h'->HOk X.prog X.w H h':=fun{a h'}ha B b ob e=>by
  obtain⟨_,_,J⟩:=ha
  refine(I.hok b ob e).stay (fun c w' G q=>(B.2 c ?_).trans q) (fun _ q=>q) fun _ _ q=>q
  rintro rfl
  rcases G with rfl | G
  ·rw[J]at e;cases e
  ·rw[J]at G;cases G
 rcases hx with Y | Y
 ·refine wpAny_storeName_local Y hn (fun h' hr B=>?_) hm
  obtain⟨oL,_,_,ht,_⟩:=id hn
  refine h _ ⟨I.ok,I.os,I.bare,⟨fun b o e n hb hx=>?_,fun b o e n hb hx=>?_,I.base.free,fun b o e hx=>?_,I.base.tups,I.base.frzs,I.base.tbls⟩,⟨_,hr,fun j y v' D O e3=>?_⟩,fun y c e=>?_,I.free,I.freeC,fun p hp=>?_,F ⟨oL,ht,I.free⟩ B,by simpa using I.len⟩ ⟨_,B,.inl rfl⟩
  ·exact(B.2 b (BF (BG (AU e) I.ok.above))).trans (I.base.keep b o e n hb hx)
  ·obtain⟨sl,D⟩:=I.base.slot b o e n hb hx
   exact⟨sl,(B.2 b (BF (BG (AU e) I.ok.above))).trans D⟩
  ·obtain⟨o',D⟩:=I.base.there b o e hx
   exact⟨o',(B.2 b (BF (BG (AU e) I.ok.above))).trans D⟩
  ·by_cases Z:j=i
   ·subst Z
    rw[hi]at D;cases D
    rw[BP U]at O
    cases O
    exact⟨u,r,.inl ⟨Y,by simp⟩⟩
   ·rw[List.getElem?_set_ne (Ne.symm Z)]at O
    obtain⟨u',r',q⟩:=hl j y v' D O e3
    refine⟨u',r',?_⟩
    rcases q with⟨k,e⟩ | ⟨k,c,e,z⟩
    ·refine .inl ⟨k,?_⟩
     have:y≠x:=fun e=>Z (a8r hN D (e▸hi))
     simp[this,e]
    ·exact .inr ⟨k,c,e,z.sameBut B (cne y c e)⟩
  ·obtain⟨w',z⟩:=I.cell y c e
   exact⟨w',z.sameBut B (cne y c e)⟩
  ·obtain⟨e,n,ne,nf,d⟩:=I.pin p hp
   exact⟨(B.2 p.1 ne).trans e,n,ne,nf,d⟩
 ·have he:X.fn x=true:=by
   rcases hf with z | z
   ·exact z
   ·rw[z]at Y;cases Y
  obtain⟨c,G⟩:=I.ok.has x (.inl Y)
  obtain⟨w',z⟩:=I.cell x c G
  refine wpAny_storeName_cell I.ok.kind Y G z (fun h' hg B=>?_)
  obtain⟨oc,hq,ho⟩:=id z
  refine h {s with heap:=h'} ⟨I.ok,I.os,I.bare,⟨fun b o e n hb hx=>?_,fun b o e n hb hx=>?_,I.base.free,fun b o e hx=>?_,I.base.tups,I.base.frzs,I.base.tbls⟩,⟨m,hn.sameBut B (Ne.symm (cne x c G)),fun j y v' D O e3=>?_⟩,fun y c' e=>?_,I.free,I.freeC,fun p hp=>?_,F ⟨oc,hq,I.freeC x c G⟩ B,by simpa using I.len⟩ ⟨c,B,.inr G⟩
  ·exact(B.2 b (BF (BG (AU e) (I.ok.cab x c he G)))).trans (I.base.keep b o e n hb hx)
  ·obtain⟨sl,D⟩:=I.base.slot b o e n hb hx
   exact⟨sl,(B.2 b (BF (BG (AU e) (I.ok.cab x c he G)))).trans D⟩
  ·obtain⟨o',D⟩:=I.base.there b o e hx
   exact⟨o',(B.2 b (BF (BG (AU e) (I.ok.cab x c he G)))).trans D⟩
  ·by_cases Z:j=i
   ·subst Z
    rw[hi]at D;cases D
    rw[BP U]at O
    cases O
    exact⟨u,r,.inr ⟨.inl Y,c,G,hg⟩⟩
   ·rw[List.getElem?_set_ne (Ne.symm Z)]at O
    obtain⟨u',r',q⟩:=hl j y v' D O e3
    refine⟨u',r',?_⟩
    rcases q with q | ⟨k,c',e,z'⟩
    ·exact .inl q
    ·refine .inr ⟨k,c',e,z'.sameBut B ?_⟩
     rintro rfl
     exact Z (a8r hN D (I.ok.inj _ _ _ e G▸hi))
  ·by_cases hh:c'=c
   ·subst hh;exact⟨_,hg⟩
   ·obtain⟨w2,z2⟩:=I.cell y c' e
    exact⟨w2,z2.sameBut B hh⟩
  ·obtain⟨e,n,ne,nf,d⟩:=I.pin p hp
   refine⟨(B.2 p.1 ?_).trans e,n,ne,nf,d⟩
   intro q
   rw[q,hq]at e
   have q':oc=p.2:=Option.some.inj e
   exact d w' (by rw[<-q'];exact ho)
theorem a5o{M:Model}{A:Around}{E:Value->Shared->Prop}{i:Nat}{x:Str}{v:V}{u:Value}{Q:Unit->Shared->Prop}(I:Inv X pins σ H s)(hN:X.N.Nodup)(hi:X.N[i]?=some x)(hx:Loc X.env.scope x)(r:W9 v u)
  (h:∀s',Inv X pins (σ.set i (some v)) H s'->Q () s')(hf:X.fn x=true\/X.env.scope.names.lookup x=some .local:=by first | exact .inl rfl | exact .inr rfl | assumption):wpAny M A (storeName X.env x u) Q E s:=
 a6H I hN hi hx r (fun s' j _=>h s' j) hf
theorem Inv.call'{s':Shared}{ch:List Addr}(I:Inv X pins σ H s)(q:s'.os=s.os)(u:Un (frs X.stack) ch H H' s.heap s'.heap)(hok:HOk X.prog X.w H' s'.heap)(hg:AllBare s'.gens)
  (j:∀b∈ch,(b∈X.ex\/X.s₀.heap.objs.size<=b)/\b≠X.env.locals/\(∀x c,X.env.cells.lookup x=some c->c≠b)/\∀p∈X.pn++pins,p.1≠b):Inv X pins σ H' s':=by
 obtain⟨h',g',d',t',o'⟩:=s'
 have e:o'=s.os:=q
 subst e
 exact I.call (g':=g') (t':=t') (d':=d') u hok hg j
end
noncomputable abbrev XK:=Value->Option Addr->Hp->Prop
noncomputable abbrev St:=List (Option V)
noncomputable abbrev VK:=V->Hp->Prop
noncomputable abbrev TE:=St->Hp->VK->Prop
noncomputable abbrev TT:=St->Hp->(Bool->Hp->Prop)->Prop
noncomputable abbrev TA:=St->Hp->(List V->Hp->Prop)->Prop
structure a0m where
 nx:St->Hp->Prop
 rt:VK
 bk:St->Hp->Prop:=fun _ _=>False
 ct:St->Hp->Prop:=fun _ _=>False
noncomputable abbrev TS:=a0m->St->Hp->Prop
noncomputable def EP (X:Cx) (pins:List (Addr×Obj)) (σ:St) (Q:VK) (u:Value) (s':Shared):Prop:=∃v H',Inv X pins σ H' s'/\W9 v u/\Q v H'
noncomputable def TP (X:Cx) (pins:List (Addr×Obj)) (σ:St) (Q:Bool->Hp->Prop) (b:Bool) (s':Shared):Prop:=∃H',Inv X pins σ H' s'/\Q b H'
noncomputable def AP (X:Cx) (pins:List (Addr×Obj)) (σ:St) (Q:List V->Hp->Prop) (us:List Value) (s':Shared):Prop:=∃vs H',Inv X pins σ H' s'/\W6 vs us/\Q vs H'
noncomputable def SP (X:Cx) (pins:List (Addr×Obj)) (D:a0m) (f:Flow) (s':Shared):Prop:=
 match f with
 | .next=>∃σ' H',Inv X pins σ' H' s'/\D.nx σ' H'
 | .brk=>∃σ' H',Inv X pins σ' H' s'/\D.bk σ' H'
 | .cont=>∃σ' H',Inv X pins σ' H' s'/\D.ct σ' H'
 | .ret u=>∃v σ' H',Inv X pins σ' H' s'/\W9 v u/\D.rt v H'
noncomputable def PE (X:Cx) (e:Expr) (t:TE):Prop:=
 ∀(pins:List (Addr×Obj))(s:Shared)(σ:St)(H:Hp)(Q:VK),Inv X pins σ H s->t σ H Q->wpAny (model X.prog X.w) X.A (eval e X.env) (EP X pins σ Q) X.xe s
noncomputable def PT (X:Cx) (e:Expr) (t:TT):Prop:=
 ∀(pins:List (Addr×Obj))(s:Shared)(σ:St)(H:Hp)(Q:Bool->Hp->Prop),Inv X pins σ H s->t σ H Q->wpAny (model X.prog X.w) X.A (isTrue e X.env (eval e X.env)) (TP X pins σ Q) X.xe s
noncomputable def PW (X:Cx) (e:Expr) (t:TT):Prop:=
 ∀(whole:Sem Value)(pins:List (Addr×Obj))(s:Shared)(σ:St)(H:Hp)(Q:Bool->Hp->Prop),Inv X pins σ H s->t σ H Q->wpAny (model X.prog X.w) X.A (isTrue e X.env whole) (TP X pins σ Q) X.xe s
theorem PW.pt{X:Cx}{e:Expr}{t:TT}(h:PW X e t):PT X e t:=h _
noncomputable def PA (X:Cx) (es:List Expr) (t:TA):Prop:=
 ∀(pos:Pos)(pins:List (Addr×Obj))(s:Shared)(σ:St)(H:Hp)(Q:List V->Hp->Prop),Inv X pins σ H s->t σ H Q->wpAny (model X.prog X.w) X.A (spliced (backTo pos (starEach es X.env))) (AP X pins σ Q) X.xe s
noncomputable def PS (X:Cx) (st:Stmt) (t:TS):Prop:=
 ∀(pins:List (Addr×Obj))(s:Shared)(σ:St)(H:Hp)(D:a0m),Inv X pins σ H s->t D σ H->wpAny (model X.prog X.w) X.A (exec st X.env) (SP X pins D) X.xe s
noncomputable def PSs (X:Cx) (st:List Stmt) (t:TS):Prop:=
 ∀(pins:List (Addr×Obj))(s:Shared)(σ:St)(H:Hp)(D:a0m),Inv X pins σ H s->t D σ H->wpAny (model X.prog X.w) X.A (execs st X.env) (SP X pins D) X.xe s
theorem thn{α:Type}{t:Sem α}{Q j:α->Shared->Prop}{M:Model}{A:Around}{E:Value->Shared->Prop}{s:Shared}(h:wpAny M A t Q E s)(q:∀a s,Q a s->j a s):wpAny M A t j E s:=wpAny_mono h q fun _ _ x=>x
end L2
namespace L2
open PySem PySem.Spec PyProof.Rows
section
variable{X:Cx}
noncomputable def b6T (i:Nat):TE:=fun σ H Q=>∃v,σ[i]?=some (some v)/\Q v H
noncomputable def tC (v:V):TE:=fun _ H Q=>Q v H
theorem b6A{i:Nat}{x:Str}{pos:Pos}(hN:X.N[i]?=some x)(hv:Vis X.env.scope x)(hd:(x==("__debug__":Str))=false:=by decide)(B:(x==("__classdict__":Str))=false:=by decide):PE X (.Name x pos) (b6T i):=by
 intro pins s σ H Q I h
 obtain⟨v,e,h⟩:=h
 obtain⟨m,G,hl⟩:=I.loc
 obtain⟨u,r,l⟩:=hl i x v hN e hv
 have fin:EP X pins σ Q u s:=⟨v,H,I,r,h⟩
 rcases l with⟨q,F⟩ | ⟨q,c,D,j⟩
 ·exact wpAny_Name (wpAny_loadName_local I.ok.kind q G F fin) hd
 ·rcases q with q | q
  ·exact wpAny_Name (wpAny_loadName_cell I.ok.kind q D j fin) hd
  ·exact wpAny_Name (wpAny_loadName_free I.ok.kind q D j fin B) hd
theorem G2{i j pos}:PE X (.Constant (.int i) j pos) (tC (.int i)):=fun _ _ _ H _ I h=>wpAny_Constant_int ⟨.int i,H,I.tok _,⟨_,rfl⟩,h⟩
theorem a3D{b j pos}:PE X (.Constant (.bool b) j pos) (tC (.bl b)):=fun _ _ _ H _ I h=>Constant_bool ⟨.bl b,H,I,rfl,h⟩
theorem a2u{j pos}:PE X (.Constant .none j pos) (tC .non):=fun _ _ _ H _ I h=>Constant_none ⟨.non,H,I,rfl,h⟩
theorem R7{x j pos}:PE X (.Constant (.str x) j pos) (tC (.str x)):=fun _ _ _ H _ I h=>Calls.Constant_str ⟨.str x,H,I.tok _,⟨_,rfl⟩,h⟩
noncomputable def Gl (X:Cx) (x:Str):Prop:=X.env.kindOf x=some .globalImplicit
theorem b4Y{E:Value->Shared->Prop}{pins:List (Addr×Obj)}{s:Shared}{σ:St}{H:Hp}{x:Str}{u:Value}{pos:Pos}{Q:Value->Shared->Prop}(I:Inv X pins σ H s)(hg:Gl X x)(j:X.mg x=some u)(h:Q u s)
  (hd:(x==("__debug__":Str))=false:=by decide):wpAny (model X.prog X.w) X.A (eval (.Name x pos) X.env) Q E s:=
 Calls.Name_function_global I.ok.kind hg (Calls.loadGlobal_global (by rw[I.ok.glob];exact I.mod.glob.keeps I.bk) j h) hd
theorem a1i{E:Value->Shared->Prop}{pins:List (Addr×Obj)}{s:Shared}{σ:St}{H:Hp}{x:Str}{u:Value}{pos:Pos}{Q:Value->Shared->Prop}(I:Inv X pins σ H s)(hg:Gl X x)(j:X.mg x=none)(hv:bootBuiltins x=some u)(h:Q u s)
  (q:x≠ "__name__":=by decide)(hd:(x==("__debug__":Str))=false:=by decide):wpAny (model X.prog X.w) X.A (eval (.Name x pos) X.env) Q E s:=by
 obtain⟨B,h1,h2⟩:=I.mod.blt
 exact Calls.Name_function_global I.ok.kind hg (Calls.loadGlobal_builtin (by rw[I.ok.glob];exact I.mod.glob.keeps I.bk) j (by rw[I.ok.blt];exact h1.keeps I.bk) ((h2 x q).trans hv) h) hd
theorem b0w{x:Str}{v:V}{u:Value}{pos:Pos}(hg:Gl X x)(q:X.mg x=none)(hv:bootBuiltins x=some u)(r:W9 v u)(j:x≠ "__name__":=by decide)(hd:(x==("__debug__":Str))=false:=by decide):PE X (.Name x pos) (tC v):=
 fun _ _ _ H _ I h=>a1i I hg q hv ⟨v,H,I,r,h⟩ j hd
variable{a b:Expr}{ta tb:TE}{pos:Pos}
noncomputable def PC (X:Cx) (op:CmpOp) (a b:Expr) (t:TE):Prop:=
 ∀(pins:List (Addr×Obj))(s:Shared)(σ:St)(H:Hp)(Q:VK),Inv X pins σ H s->t σ H Q->
  wpAny (model X.prog X.w) X.A (eval a X.env) (fun v s₁=>wpAny (model X.prog X.w) X.A (eval b X.env) (fun u s₂=>wpAny (model X.prog X.w) X.A (compareOp op v u) (EP X pins σ Q) X.xe s₂) X.xe s₁) X.xe s
theorem b2p(b:Expr){j:CmpOp}(h:j≠ .In)(h2:j≠ .NotIn):behindInMarks j b=false:=by
 have q:(j==CmpOp.In)=false:=by cases j<;>first | rfl | exact absurd rfl h
 have B:(j==CmpOp.NotIn)=false:=by cases j<;>first | rfl | exact absurd rfl h2
 cases b<;>simp[behindInMarks,q,B]
noncomputable def b7U (ta:TE):TE:=fun σ H Q=>ta σ H fun x H1=>Q (.bl (decide (x= .non))) H1
noncomputable def b6W (ta:TE):TE:=fun σ H Q=>ta σ H fun x H1=>Q (.bl (!decide (x= .non))) H1
theorem W9.none_iff{x:V}{v:Value}(r:W9 x v):(v==Value.none)=decide (x= .non):=by
 cases x with
 | non=>cases r;rfl
 | bl _=>cases r;rfl
 | int _=>obtain⟨t,rfl⟩:=r;rfl
 | str _=>obtain⟨t,rfl⟩:=r;rfl
 | byt _=>obtain⟨t,rfl⟩:=r;rfl
 | flt _=>obtain⟨t,rfl⟩:=r;rfl
 | ref _=>cases r;rfl
 | ty _=>cases r;rfl
theorem b2z{j pos'}(B:PE X a ta):PC X .Is a (.Constant .none j pos') (b7U ta):=by
 intro pins s σ H Q I h
 refine thn (B pins s σ H _ I h) fun v D⟨x,H1,I1,r1,q⟩=>?_
 exact Constant_none (is_none_gen ⟨.bl _,H1,I1,by rw[r1.none_iff];rfl,q⟩)
theorem a7d{j pos'}(B:PE X a ta):PC X .IsNot a (.Constant .none j pos') (b6W ta):=by
 intro pins s σ H Q I h
 refine thn (B pins s σ H _ I h) fun v D⟨x,H1,I1,r1,q⟩=>?_
 exact Constant_none (isnot_none_gen ⟨.bl _,H1,I1,by rw[r1.none_iff];rfl,q⟩)
noncomputable def tB (t:TE):TT:=fun σ H Q=>t σ H fun x H1=>∃c,x= .bl c/\Q c H1
theorem a0R{j:CmpOp}{t:TE}(h:PC X j a b t)(h1:behindInMarks j b=false:=by first | exact b2p _ (by decide) (by decide) | rfl):PT X (.Compare a [j] [b] pos) (tB t):=by
 intro pins s σ H Q I hw
 refine wpAny_isTrue_Compare1 (thn (h pins s σ H _ I hw) fun v D h1=>thn h1 fun u F h2=>thn h2 fun c G⟨x,H1,I1,r1,B⟩=>?_) h1
 obtain⟨d,rfl,q⟩:=B
 cases r1
 exact wpAny_truthy_bool ⟨H1,I1,q⟩
theorem a5x{e:Expr}{t:TE}(h:PE X e t)(D:∀j,isTrue e X.env j=(do let v<-j;standAt e.pos;holding [v] (truthy v)):=by intro _;rfl):PT X e (tB t):=by
 intro pins s σ H Q I hw
 refine isTrue_plain (thn (h pins s σ H _ I hw) fun v F⟨x,H1,I1,r1,B⟩=>?_) (D _)
 obtain⟨d,rfl,q⟩:=B
 cases r1
 exact wpAny_truthy_bool ⟨H1,I1,q⟩
variable{tA tB':TT}{rest:List Expr}
noncomputable def b0S (t u:TT):TT:=fun σ H Q=>t σ H fun c H1=>if c=true then u σ H1 Q else Q false H1
noncomputable def tOr (t u:TT):TT:=fun σ H Q=>t σ H fun c H1=>if c=true then Q true H1 else u σ H1 Q
noncomputable def b7P (t:TT):TT:=fun σ H Q=>t σ H fun c H1=>Q (!c) H1
theorem M1(j:PT X a tA):PW X (.BoolOp .And [a] pos) tA:=by
 intro B pins s σ H Q I h
 refine isTrue_and (thn (j pins s σ H Q I h) fun c q e=>?_)
 cases c with
 | true=>exact isTrue_and_nil e
 | false=>exact e
theorem a9X(j:PT X a tA):PW X (.BoolOp .Or [a] pos) tA:=by
 intro B pins s σ H Q I h
 refine isTrue_or (thn (j pins s σ H Q I h) fun c q e=>?_)
 cases c with
 | false=>exact isTrue_or_nil e
 | true=>exact e
theorem a0x(D:PT X a tA)(B:PW X (.BoolOp .And (b::rest) pos) tB'):PW X (.BoolOp .And (a::b::rest) pos) (b0S tA tB'):=by
 intro F pins s σ H Q I h
 refine isTrue_and (thn (D pins s σ H _ I h) fun c q⟨H1,I1,j⟩=>?_)
 cases c with
 | true=>exact B F pins q σ H1 Q I1 j
 | false=>exact⟨H1,I1,j⟩
theorem b3Q(D:PT X a tA)(B:PW X (.BoolOp .Or (b::rest) pos) tB'):PW X (.BoolOp .Or (a::b::rest) pos) (tOr tA tB'):=by
 intro F pins s σ H Q I h
 refine isTrue_or (thn (D pins s σ H _ I h) fun c q⟨H1,I1,j⟩=>?_)
 cases c with
 | true=>exact⟨H1,I1,j⟩
 | false=>exact B F pins q σ H1 Q I1 j
theorem b5K(j:PT X a tA):PT X (.UnaryOp .Not a pos) (b7P tA):=by
 intro pins s σ H Q I h
 exact isTrue_not (j pins s σ H (fun c H1=>Q (!c) H1) I h)
noncomputable def tIf (t:TT) (ta tb:TE):TE:=fun σ H Q=>t σ H fun c H1=>if c=true then ta σ H1 Q else tb σ H1 Q
theorem b3D{c:Expr}(D:PT X c tA)(F:PE X a ta)(B:PE X b tb):PE X (.IfExp c a b pos) (tIf tA ta tb):=by
 intro pins s σ H Q I h
 refine wpAny_IfExp (thn (D pins s σ H _ I h) fun d j⟨H1,I1,q⟩=>?_)
 cases d with
 | true=>exact F pins j σ H1 Q I1 q
 | false=>exact B pins j σ H1 Q I1 q
end
end L2
namespace L2
open PySem PySem.Spec PyProof.Rows
noncomputable def SqL (K:W.Frag) (H:Hp) (a:Addr) (xs:List V):Prop:=
 Rd H a (.lst xs)\/
  ∃(o:Obj)(its:Array Value)(n:Nat),K.lookup a=some o/\o.cls= .type "list"/\o.dict=none/\o.data= .seq its n/\its.size<=sizeLine/\W6 xs its.toList
noncomputable def SqT (K:W.Frag) (H:Hp) (a:Addr) (xs:List V):Prop:=
 Rd H a (.tup xs)\/
  ∃(o:Obj)(its:Array Value)(n:Nat),K.lookup a=some o/\o.cls= .type "tuple"/\o.data= .seq its n/\its.size<=sizeLine/\W6 xs its.toList
noncomputable def b8m:Value->Option V
 | .none=>some .non
 | .bool b=>some (.bl b)
 | .int i _=>some (.int i)
 | .str x _=>some (.str x)
 | .bytes b _=>some (.byt b)
 | .float b _=>some (.flt b)
 | .ref a=>some (.ref a)
 | .type n=>some (.ty n)
 | _=>none
theorem W9.abs{x:V}{u:Value}(r:W9 x u):b8m u=some x:=by
 cases x with
 | non=>cases r;rfl
 | bl _=>cases r;rfl
 | int _=>obtain⟨t,rfl⟩:=r;rfl
 | str _=>obtain⟨t,rfl⟩:=r;rfl
 | byt _=>obtain⟨t,rfl⟩:=r;rfl
 | flt _=>obtain⟨t,rfl⟩:=r;rfl
 | ref _=>cases r;rfl
 | ty _=>cases r;rfl
theorem W9.inj{x y:V}{u:Value}(r:W9 x u)(q:W9 y u):x=y:=Option.some.inj (r.abs.symm.trans q.abs)
theorem W6.inj:∀{xs ys:List V}{us:List Value},W6 xs us->W6 ys us->xs=ys
 | _,_,_,.nil,.nil=>rfl
 | _,_,_,.cons r t,.cons j t'=>by rw[r.inj j,W6.inj t t']
section
variable{X:Cx}{pins:List (Addr×Obj)}{σ:St}{H:Hp}{s:Shared}{a:Addr}{xs ys:List V}
theorem SqL.of{K:W.Frag}(h:H a=some (.lst xs)):SqL K H a xs:= .inl (.inl h)
theorem SqT.of{K:W.Frag}(h:H a=some (.tup xs)):SqT K H a xs:= .inl (.inl h)
theorem Inv.list(I:Inv X pins σ H s)(h:SqL X.K H a xs):∃its:List Value,W6 xs its/\PlainL s.heap a its.toArray/\xs.length<=sizeLine:=by
 rcases h with h | ⟨o,its,n,B,j,hd,q,D,r⟩
 ·obtain⟨z,its,n,r,e⟩:=h.ok I.hok
  exact⟨its,r,⟨_,n,e,rfl,rfl,rfl⟩,z⟩
 ·refine⟨its.toList,r,⟨o,n,I.kIn a o B,j,hd,by simpa using q⟩,?_⟩
  have e:=r.length
  simp only[Array.length_toList]at e
  omega
theorem Inv.tuple(I:Inv X pins σ H s)(h:SqT X.K H a xs):∃its:List Value,W6 xs its/\IsTup s.heap a its.toArray/\xs.length<=sizeLine:=by
 rcases h with h | ⟨o,its,n,B,j,q,D,r⟩
 ·obtain⟨z,its,r,p⟩:=h.ok I.hok
  exact⟨its,r,p,z⟩
 ·refine⟨its.toList,r,⟨o,I.kIn a o B,j,n,by simpa using q⟩,?_⟩
  have e:=r.length
  simp only[Array.length_toList]at e
  omega
theorem Inv.list_inj(I:Inv X pins σ H s)(h:SqL X.K H a xs)(h':SqL X.K H a ys):xs=ys:=by
 obtain⟨j,r,⟨o,n,e,_,_,d⟩,_⟩:=I.list h
 obtain⟨its',B,⟨o',D,q,_,_,d'⟩,_⟩:=I.list h'
 rw[e]at q;cases q
 rw[d]at d'
 injection d' with d1 _
 have:j=its':=by simpa using congrArg Array.toList d1
 subst this
 exact r.inj B
theorem Inv.tuple_inj(I:Inv X pins σ H s)(h:SqT X.K H a xs)(h':SqT X.K H a ys):xs=ys:=by
 obtain⟨j,r,⟨o,e,_,n,d⟩,_⟩:=I.tuple h
 obtain⟨its',B,⟨o',q,_,D,d'⟩,_⟩:=I.tuple h'
 rw[e]at q;cases q
 rw[d]at d'
 injection d' with d1 _
 have:j=its':=by simpa using congrArg Array.toList d1
 subst this
 exact r.inj B
end
noncomputable abbrev Cx.wish (X:Cx) (E:Value->Shared->Prop):Cx:={X with xe:=E}
noncomputable abbrev Cx.nox (X:Cx):Cx:=X.wish fun _ _=>False
theorem Cx.Ok.wish{X:Cx}(ok:X.Ok)(E:Value->Shared->Prop):(X.wish E).Ok:=
 ⟨ok.mod,ok.kind,ok.glob,ok.blt,ok.above,ok.inj,ok.has,ok.cab,ok.hd,ok.frames,ok.stk,ok.exf,ok.bs,ok.bsz,ok.noex,ok.exfs,ok.funs,ok.frf⟩
theorem Cx.Ok.unwish{X:Cx}{E:Value->Shared->Prop}(ok:(X.wish E).Ok):X.Ok:=
 ⟨ok.mod,ok.kind,ok.glob,ok.blt,ok.above,ok.inj,ok.has,ok.cab,ok.hd,ok.frames,ok.stk,ok.exf,ok.bs,ok.bsz,ok.noex,ok.exfs,ok.funs,ok.frf⟩
section
variable{X:Cx}{pins:List (Addr×Obj)}{σ:St}{H:Hp}{s:Shared}{E:Value->Shared->Prop}
theorem Inv.wish(I:Inv X pins σ H s)(E:Value->Shared->Prop):Inv (X.wish E) pins σ H s:=⟨I.ok.wish E,I.os,I.bare,I.base,I.loc,I.cell,I.free,I.freeC,I.pin,I.hok,I.len⟩
theorem Inv.unwish(I:Inv (X.wish E) pins σ H s):Inv X pins σ H s:=⟨I.ok.unwish,I.os,I.bare,I.base,I.loc,I.cell,I.free,I.freeC,I.pin,I.hok,I.len⟩
theorem SP.unwish{D:a0m}{f:Flow}{s':Shared}(h:SP (X.wish E) pins D f s'):SP X pins D f s':=by
 cases f with
 | next=>obtain⟨j,H',I,q⟩:=h;exact⟨j,H',I.unwish,q⟩
 | brk=>obtain⟨j,H',I,q⟩:=h;exact⟨j,H',I.unwish,q⟩
 | cont=>obtain⟨j,H',I,q⟩:=h;exact⟨j,H',I.unwish,q⟩
 | ret u=>obtain⟨v,j,H',I,r,q⟩:=h;exact⟨v,j,H',I.unwish,r,q⟩
theorem PSs.nox{st:List Stmt}{t:TS}(h:PSs X.nox st t):PSs X st t:=fun pins s σ H D I hw=>
 wpAny_mono (h pins s σ H D (I.wish _) hw) (fun _ _ q=>q.unwish) fun _ _ z=>False.elim z
end
section
variable{X:Cx}{st:Stmt}{rest:List Stmt}{t u:TS}{e:Expr}{te:TE}{pos:Pos}
noncomputable def a2p:TS:=fun D σ H=>D.nx σ H
noncomputable def a3e (t u:TS):TS:=fun D σ H=>t {D with nx:=u D} σ H
theorem R8:PSs X [] a2p:=fun _ _ σ H _ I h=>wpAny_execs_nil ⟨σ,H,I,h⟩
theorem G3(h1:PS X st t)(h2:PSs X rest u):PSs X (st::rest) (a3e t u):=by
 intro pins s σ H D I h
 refine wpAny_execs_cons (thn (h1 pins s σ H {D with nx:=u D} I h) fun f B q=>?_)
 cases f with
 | next=>
  obtain⟨j,H',F,q⟩:=q
  exact h2 pins B j H' D F q
 | ret v=>exact q
 | brk=>exact q
 | cont=>exact q
theorem G6(h1:PS X st t):PSs X [st] t:=by
 intro pins s σ H D I h
 refine wpAny_execs_cons (thn (h1 pins s σ H D I h) fun f j q=>?_)
 cases f with
 | next=>exact wpAny_execs_nil q
 | ret v=>exact q
 | brk=>exact q
 | cont=>exact q
theorem Inv.quiet{pins:List (Addr×Obj)}{σ:St}{H:Hp}{s:Shared}(I:Inv X pins σ H s):interactive X.env=false:=by simp[interactive,I.ok.kind]
noncomputable def b7o (te:TE):TS:=fun D σ H=>te σ H fun _ H1=>D.nx σ H1
theorem Y1(B:PE X e te)(j:swapsWith e none pos.line X.env=pure false:=by rfl):PS X (.Expr e pos) (b7o te):=by
 intro pins s σ H D I h
 exact wpAny_Expr_any (thn (B pins s σ H _ I h) fun v F⟨x,H1,I1,r1,q⟩=>⟨σ,H1,I1,q⟩) I.quiet j
noncomputable def b8d (te:TE):TS:=fun D σ H=>te σ H D.rt
theorem R9(q:PE X e te):PS X (.Return (some e) pos) (b8d te):=by
 intro pins s σ H D I h
 exact wpAny_Return_some (thn (q pins s σ H _ I h) fun v B⟨x,H1,I1,r1,j⟩=>⟨x,σ,H1,I1,r1,j⟩)
noncomputable def b7r:TS:=fun D _ H=>D.rt .non H
theorem b4E:PS X (.Return none pos) b7r:=fun _ _ σ H _ I h=>wpAny_Return_none ⟨.non,σ,H,I,rfl,h⟩
noncomputable def a5I (c:TT) (t u:TS):TS:=fun D σ H=>c σ H fun b H1=>if b=true then t D σ H1 else u D σ H1
theorem U8{c:Expr}{a b:List Stmt}{tc:TT}(B:PT X c tc)(G:PSs X a t)(F:PSs X b u):PS X (.If c a b pos) (a5I tc t u):=by
 intro pins s σ H D I h
 refine wpAny_If (thn (B pins s σ H _ I h) fun d q⟨H1,I1,j⟩=>?_)
 cases d with
 | true=>exact G pins q σ H1 D I1 j
 | false=>exact F pins q σ H1 D I1 j
noncomputable def b6w:TS:=fun _ _ _=>False
theorem b2G:PS X st b6w:=fun _ _ _ _ _ _ h=>h.elim
end
noncomputable abbrev TG:=V->St->Hp->(St->Hp->Prop)->Prop
noncomputable abbrev TGs:=List V->St->Hp->(St->Hp->Prop)->Prop
noncomputable def PG (X:Cx) (target:Expr) (t:TG):Prop:=
 ∀(pins:List (Addr×Obj))(s:Shared)(σ:St)(H:Hp)(v:V)(u:Value)(Q:St->Hp->Prop),Inv X pins σ H s->W9 v u->t v σ H Q->
  wpAny (model X.prog X.w) X.A (assign target X.env u) (fun _ s'=>∃σ' H',Inv X pins σ' H' s'/\Q σ' H') X.xe s
noncomputable def PGs (X:Cx) (ts:List Expr) (t:TGs):Prop:=
 ∀(pins:List (Addr×Obj))(s:Shared)(σ:St)(H:Hp)(vs:List V)(us:List Value)(Q:St->Hp->Prop),Inv X pins σ H s->W6 vs us->t vs σ H Q->
  wpAny (model X.prog X.w) X.A (assignInOrder ((assignEach ts X.env).map (·.2)) us) (fun _ s'=>∃σ' H',Inv X pins σ' H' s'/\Q σ' H') X.xe s
noncomputable abbrev b5V:=V->V->V->Hp->(Hp->Prop)->Prop
noncomputable def b7a (X:Cx) (t:b5V):Prop:=
 ∀(pins:List (Addr×Obj))(s:Shared)(σ:St)(H:Hp)(o i v:V)(ov iv u:Value)(Q:Hp->Prop),Inv X pins σ H s->W9 o ov->W9 i iv->W9 v u->t o i v H Q->
  wpAny (model X.prog X.w) X.A (setItem ov iv u) (fun _ s'=>∃H',Inv X pins σ H' s'/\Q H') X.xe s
noncomputable abbrev TIp:=V->V->Hp->VK->Prop
noncomputable def PIp (X:Cx) (op:Operator) (t:TIp):Prop:=
 ∀(pins:List (Addr×Obj))(s:Shared)(σ:St)(H:Hp)(x y:V)(v u:Value)(Q:VK),Inv X pins σ H s->W9 x v->W9 y u->t x y H Q->
  wpAny (model X.prog X.w) X.A (inplaceOp op v u) (EP X pins σ Q) X.xe s
section
variable{X:Cx}{pos:Pos}
noncomputable def M3 (i:Nat):TG:=fun v σ H Q=>Q (σ.set i (some v)) H
theorem I9{i:Nat}{x:Str}(hN:X.N.Nodup)(hi:X.N[i]?=some x)(hx:Loc X.env.scope x)(hf:X.fn x=true\/X.env.scope.names.lookup x=some .local:=by first | exact .inl rfl | exact .inr rfl | assumption):PG X (.Name x pos) (M3 i):=by
 intro pins s σ H v u Q I r h
 exact wpAny_assign_Name (a5o I hN hi hx r (fun s' j=>⟨_,H,j,h⟩) hf)
noncomputable def b7S:TGs:=fun vs σ H Q=>vs=[]/\Q σ H
noncomputable def b6X (t:TG) (u:TGs):TGs:=fun vs σ H Q=>∃v r,vs=v::r/\t v σ H fun σ' H'=>u r σ' H' Q
theorem Y2:PGs X [] b7S:=by
 intro pins s σ H j us Q I r h
 obtain⟨e,h⟩:=h
 subst e
 cases r
 exact assignInOrder_nil ⟨σ,H,I,h⟩
theorem J0{e:Expr}{es:List Expr}{t:TG}{u:TGs}(h1:PG X e t)(h2:PGs X es u)
  (F:(assignEach (e::es) X.env).map (·.2)=assign e X.env::(assignEach es X.env).map (·.2):=by rfl):PGs X (e::es) (b6X t u):=by
 intro pins s σ H O us Q I r h
 obtain⟨v,J,B,h⟩:=h
 subst B
 cases r with
 | cons r G=>
  rw[F]
  refine assignInOrder_cons (thn (h1 pins s σ H _ _ _ I r h) fun _ D⟨j,H1,I1,q⟩=>?_)
  exact h2 pins D j H1 _ _ Q I1 G q
noncomputable def b7F (K:W.Frag) (n:Nat) (t:TGs):TG:=fun v σ H Q=>∃a xs,v= .ref a/\SqT K H a xs/\xs.length=n/\t xs σ H Q
theorem E7{es:List Expr}{k:Nat}{t:TGs}{n:Nat}(B:X.calm=true)(h:PGs X es t)
  (J:(assignEach es X.env).length=n:=by rfl)(j:(assignEach es X.env).findIdx? (·.1)=none:=by rfl):PG X (.Tuple es k pos) (b7F X.K n t):=by
 intro pins s σ H v u Q I r hw
 obtain⟨a,xs,D,G,hl,hw⟩:=hw
 subst D
 cases r
 obtain⟨F,q,ht,O⟩:=I.tuple G
 refine assign_Tuple_tuple (I.ok.hd B) ht (by simp[J,<-hl,q.length]) j fun h' hx=>?_
 have I1:Inv X pins σ H {s with heap:=h'}:=I.kept (t':=s.toks) fun b o e=>hx b o (BF (AU e)) e
 exact h pins _ σ H xs _ Q I1 (by simpa using q) hw
noncomputable def b7X (to ti:TE) (t:b5V):TG:=fun v σ H Q=>to σ H fun o H1=>ti σ H1 fun i H2=>t o i v H2 fun H3=>Q σ H3
theorem b5X{o i:Expr}{to B:TE}{t:b5V}(O:PE X o to)(hi:PE X i B)(Y:b7a X t)
  (Z:∀v,assign (.Subscript o i pos) X.env v=(do
   let j<-holding [v] (eval o X.env)
   let q<-holding [v,j] (eval i X.env)
   standAt pos
   holding [v,j,q] (setItem j q v)
   release [v,j,q] []):=by intro _;rfl):PG X (.Subscript o i pos) (b7X to B t):=by
 intro pins s σ H v u Q I r h
 rw[Z]
 refine AA (wpAny_holding (thn (O pins s σ H _ I h) fun j J⟨x,H1,I1,r1,G⟩=>?_))
 refine AA (wpAny_holding (thn (hi pins J σ H1 _ I1 G) fun q U⟨y,H2,I2,r2,D⟩=>?_))
 refine AA (wpAny_standAt (AA (wpAny_holding (thn (Y pins U σ H2 x y v j q u _ I2 r1 r2 r D) fun _ s3⟨H3,I3,F⟩=>?_))))
 exact wpAny_release ⟨σ,H3,I3,F⟩
noncomputable def b1m (te:TE) (g:TG):TS:=fun D σ H=>te σ H fun x H1=>g x σ H1 D.nx
theorem a4F{tg e:Expr}{te:TE}{g:TG}(F:PE X e te)(hg:PG X tg g)(G:swapsWithSole [tg] e pos.line X.env=pure false:=by rfl)(hw:swappedStores [tg] e X.env=pure none:=by rfl)
  (h1:(assignEach [tg] X.env).map (·.2)=[assign tg X.env]:=by rfl):PS X (.Assign [tg] e pos) (b1m te g):=by
 intro pins s σ H D I h
 refine wpAny_Assign_stores (thn (F pins s σ H _ I h) fun v B⟨x,H1,I1,r1,j⟩=>?_) G hw
 rw[h1]
 exact thn (hg pins B σ H1 x v _ I1 r1 j) fun _ J q=>q
theorem J1{i:Nat}{x:Str}{e:Expr}{te:TE}{pos':Pos}(hN:X.N.Nodup)(hi:X.N[i]?=some x)(hx:Loc X.env.scope x)(q:PE X e te)(B:swapsWith e (some (.Name x pos')) pos.line X.env=pure false:=by rfl)(hf:X.fn x=true\/X.env.scope.names.lookup x=some .local:=by first | exact .inl rfl | exact .inr rfl | assumption):
  PS X (.Assign [.Name x pos'] e pos) (b1m te (M3 i)):=by
 intro pins s σ H D I h
 refine wpAny_Assign_Name (thn (q pins s σ H _ I h) fun v F⟨y,H1,I1,r1,j⟩=>?_) B
 exact a5o I1 hN hi hx r1 (fun G I2=>⟨_,H1,I2,j⟩) hf
noncomputable def b8s (i:Nat) (te:TE) (ti:TIp):TS:=fun D σ H=>∃x,σ[i]?=some (some x)/\te σ H fun y H1=>ti x y H1 fun z H2=>D.nx (σ.set i (some z)) H2
theorem b5Z{i:Nat}{x:Str}{e:Expr}{te:TE}{G:Operator}{O:TIp}{pos':Pos}(hN:X.N.Nodup)(hi:X.N[i]?=some x)(hx:Loc X.env.scope x)(he:PE X e te)(ho:PIp X G O)(hf:X.fn x=true\/X.env.scope.names.lookup x=some .local:=by first | exact .inl rfl | exact .inr rfl | assumption):
  PS X (.AugAssign (.Name x pos') G e pos) (b8s i te O):=by
 intro pins s σ H D I h
 obtain⟨v,e1,h⟩:=h
 obtain⟨m,hn,hl⟩:=I.loc
 have J:Vis X.env.scope x:=by rcases hx with k | k;exact .inl k;exact .inr (.inl k)
 obtain⟨u,r,l⟩:=hl i x v hi e1 J
 refine wpAny_AugAssign_Name ?_
 have go:wpAny (model X.prog X.w) X.A (eval e X.env) (fun w F=>wpAny (model X.prog X.w) X.A (inplaceOp G u w) (fun r B=>wpAny (model X.prog X.w) X.A (storeName X.env x r) (fun _=>SP X pins D .next) X.xe B) X.xe F) X.xe s:=by
  refine thn (he pins s σ H _ I h) fun w s1⟨y,H1,I1,r1,Z⟩=>?_
  refine thn (ho pins s1 σ H1 v y u w _ I1 r r1 Z) fun z s2⟨zv,H2,I2,r2,Y⟩=>?_
  exact a5o I2 hN hi hx r2 (fun s3 I3=>⟨_,H2,I3,Y⟩) hf
 rcases l with⟨j,hm⟩ | ⟨j,c,U,q⟩
 ·exact wpAny_loadName_local I.ok.kind j hn hm go
 ·rcases j with j | j
  ·exact wpAny_loadName_cell I.ok.kind j U q go
  ·rcases hx with k | k
   ·have:X.env.scope.names.lookup x=some .free:=j
    rw[k]at this;cases this
   ·have:X.env.scope.names.lookup x=some .free:=j
    rw[k]at this;cases this
noncomputable def ipI (f:Int->Int->Int):TIp:=fun x y H Q=>∃i j,x= .int i/\y= .int j/\Q (.int (f i j)) H
theorem b6E:PIp X .Add (ipI fun i j=>i+j):=by
 intro pins s σ H x y v u Q I r1 r2 h
 obtain⟨i,j,B,D,q⟩:=h
 subst B;subst D
 obtain⟨t,rfl⟩:=r1
 obtain⟨t',rfl⟩:=r2
 exact iadd_int ⟨.int _,H,I.tok _,⟨_,rfl⟩,q⟩
end
section
variable{X:Cx}{pos:Pos}
noncomputable def a7f (c:TT) (tb:TS):TS:=fun D σ H=>∃W:Nat->St->Hp->Prop,(∃m,W m σ H)/\∀m σ H,W m σ H->
 c σ H fun b H1=>if b=true then∃N:St->Hp->Prop,(∀σ' H',N σ' H'->∃m',m' < m/\W m' σ' H')/\tb {D with nx:=N,ct:=N,bk:=D.nx} σ H1 else D.nx σ H1
theorem a1P{c:Expr}{body:List Stmt}{tc:TT}{tb:TS}(hp:PassesOwn (model X.prog X.w) X.A X.env X.xe)(hc:PT X c tc)(hb:PSs X body tb):PS X (.While c body [] pos) (a7f tc tb):=by
 intro pins s σ H D I h
 obtain⟨W,⟨m0,w0⟩,B⟩:=h
 refine wpAny_While (codeAny_whileLoop (fun n s'=>∃G H',Inv X pins G H' s'/\W n G H') ?_ m0 ⟨σ,H,I,w0⟩)
 rintro n s1 ⟨q,H1,I1,w1⟩
 refine wpAny_passesOwn hp (thn (hc pins s1 q H1 _ I1 (B n q H1 w1)) fun b s2⟨H2,I2,J⟩=>?_)
 cases b with
 | true=>
  obtain⟨N,hN,J⟩:=J
  rw[if_pos rfl]
  refine wpAny_passesOwn hp (thn (hb pins s2 q H2 _ I2 J) fun f s3 O=>?_)
  cases f with
  | next=>
   obtain⟨j,F,I3,U⟩:=O
   obtain⟨Y,Z,w3⟩:=hN j F U
   exact⟨Y,Z,j,F,I3,w3⟩
  | cont=>
   obtain⟨j,F,I3,U⟩:=O
   obtain⟨Y,Z,w3⟩:=hN j F U
   exact⟨Y,Z,j,F,I3,w3⟩
  | brk=>exact O
  | ret v=>exact O
 | false=>
  rw[if_neg AH]
  exact wpAny_execs_nil ⟨q,H2,I2,J⟩
end
structure It where
 go:Nat->Hp->Prop
 yld:Nat->Hp->V->Hp->Prop
 stop:Nat->Hp->Prop
noncomputable def a3m (X:Cx) (pins:List (Addr×Obj)) (H:Hp) (b:Addr):Prop:=
 H b=none/\b≠X.env.locals/\b∉X.fs/\(b∈X.ex\/X.s₀.heap.objs.size<=b)/\(∀x c,X.env.cells.lookup x=some c->c≠b)/\∀p∈X.pn++pins,p.1≠b
theorem Inv.fpOk{X:Cx}{pins:List (Addr×Obj)}{σ:St}{H H':Hp}{s:Shared}{b:Addr}(I:Inv X pins σ H s)(j:s.heap.objs.size<=b)(B:H' b=none):a3m X pins H' b:=by
 refine⟨B,Nat.ne_of_gt (BG I.lt j),I.nofs j,.inr (Nat.le_trans I.sz j),fun x c e z=>?_,fun p D z=>?_⟩
 ·obtain⟨v,q⟩:=I.cell x c e
  exact absurd (BG q.lt (by rw[z];exact j)) (Nat.lt_irrefl _)
 ·exact absurd (BG (AU (I.pin p D).1) (by rw[z];exact j)) (Nat.lt_irrefl _)
structure a8N(P:Program)(w:World)(K:W.Frag)(tg:Expr)(J:It)(fp:List Addr)(it:Addr)(tn:Nat->Heap->Prop):Prop where
 mem:it∈fp
 obj:∀i h,tn i h->∀b∈fp,∃o,h.get? b=some o/\∀v,o.data≠ .cell v
 keep:∀i h h',tn i h->(∀b∈fp,∀o,h.get? b=some o->h'.get? b=some o)->tn i h'
 item:∀(X:Cx),X.prog=P->X.w=w->X.K=K->X.calm=true->∀(i:Nat)(pins:List (Addr×Obj))(s:Shared)(σ:St)(H:Hp)(E:Value->Shared->Prop),Inv X pins σ H s->(∀b∈fp,a3m X pins H b)->tn i s.heap->J.go i H->
  wpAny (model P w) X.A (pyNext (.ref it)) (fun r s1=>∃u,r=some u/\
   wpAny (model P w) X.A (letOwnedTupleGo tg (.ref it) u) (fun _ s2=>∃x H',Inv X pins σ H' s2/\W9 x u/\J.yld i H x H'/\tn (i+1) s2.heap/\∀b∈fp,H' b=none) E s1) E s
 done:∀(X:Cx),X.prog=P->X.w=w->X.K=K->X.calm=true->∀(i:Nat)(pins:List (Addr×Obj))(s:Shared)(σ:St)(H:Hp)(E:Value->Shared->Prop),Inv X pins σ H s->(∀b∈fp,a3m X pins H b)->tn i s.heap->J.stop i H->
  wpAny (model P w) X.A (pyNext (.ref it)) (fun r s1=>r=none/\Inv X pins σ H s1) E s
 self:∀(A:Around)(i:Nat)(s:Shared)(Q:Value->Shared->Prop)(E:Value->Shared->Prop),tn i s.heap->Q (.ref it) s->wpAny (model P w) A (pyIter (.ref it)) Q E s
noncomputable abbrev TI:=St->Hp->(It->Hp->Prop)->Prop
noncomputable def PIE (X:Cx) (pins:List (Addr×Obj)) (σ:St) (tg:Expr) (R:It->Hp->Prop) (itv:Value) (s2:Shared):Prop:=
 ∃(it:Addr)(fp:List Addr)(tn:Nat->Heap->Prop)(J:It)(H':Hp),itv= .ref it/\Inv X pins σ H' s2/\a8N X.prog X.w X.K tg J fp it tn/\tn 0 s2.heap/\(∀b∈fp,a3m X pins H' b)/\R J H'
noncomputable def PI (X:Cx) (tg iter:Expr) (wi:TI):Prop:=
 ∀(pins:List (Addr×Obj))(s:Shared)(σ:St)(H:Hp)(R:It->Hp->Prop),Inv X pins σ H s->wi σ H R->
  wpAny (model X.prog X.w) X.A (eval iter X.env) (fun v s1=>wpAny (model X.prog X.w) X.A (pyIter v) (PIE X pins σ tg R) X.xe s1) X.xe s
theorem b0o{M:Model}{A:Around}{E:Value->Shared->Prop}{s:Shared}{tg:Expr}{it:Addr}{u:Value}{o:Obj}{n:String}{vs:Array Value}{Q:Unit->Shared->Prop}(D:s.heap.get? it=some o)(q:o.cls= .type n)(hd:o.data= .fields vs)
  (B:["enumerate","zip","dict_itemiterator","dict_reverseitemiterator","odict_iterator","itertools.zip_longest","itertools.pairwise"].contains n=false)(j:Q () s):wpAny M A (letOwnedTupleGo tg (.ref it) u) Q E s:=by
 unfold letOwnedTupleGo
 cases tg<;>first
  | exact AB j
  | (cases u<;>first
    | exact AB j
    | (refine AA (wpAny_load D ?_)
       rw[q,hd]
       show wpAny M A (if(["enumerate","zip","dict_itemiterator","dict_reverseitemiterator","odict_iterator","itertools.zip_longest","itertools.pairwise"].contains n && vs[0]?==some (rawInt _))=true then _ else _) Q E s
       rw[if_neg (by intro h;rw[B,Bool.false_and]at h;cases h)]
       exact AB j))
noncomputable def Itl (K:W.Frag) (a:Addr):It:=
 ⟨fun i H=>∃xs x,SqL K H a xs/\xs[i]?=some x,fun i H x H'=>H'=H/\∀xs,SqL K H a xs->xs[i]?=some x,fun i H=>∃xs,SqL K H a xs/\xs.length<=i⟩
noncomputable def Itt (K:W.Frag) (a:Addr):It:=
 ⟨fun i H=>∃xs x,SqT K H a xs/\xs[i]?=some x,fun i H x H'=>H'=H/\∀xs,SqT K H a xs->xs[i]?=some x,fun i H=>∃xs,SqT K H a xs/\xs.length<=i⟩
noncomputable def Itr (lo:Int) (n:Nat):It:=⟨fun i _=>i < n,fun i H x H'=>H'=H/\x= .int (lo+i),fun i _=>n<=i⟩
theorem b0N{P:Program}{w:World}{K:W.Frag}{tg:Expr}(a it:Addr):a8N P w K tg (Itl K a) [it] it (fun i h=>h.IsListIter it a i)where
 mem:=by simp
 obj:=fun i h st b j=>by
  have e:b=it:=by simpa using j
  subst e
  obtain⟨o,e,c,d⟩:=st
  exact⟨o,e,fun v z=>by rw[d]at z;cases z⟩
 keep:=fun i h h' st k=>st.at fun o e=>k it (by simp) o e
 item:=by
  intro X D hw Z hc i pins s σ H E I hf st hg
  subst D hw Z
  obtain⟨xs,x,B,hx⟩:=hg
  obtain⟨F,G,p,hz⟩:=I.list B
  obtain⟨u,hu,ru⟩:=G.get hx
  obtain⟨f0,J,f2,Y,U,O⟩:=hf it (by simp)
  refine wpAny_pyNext_list_item st p.isList (x:=u) (by simpa using hu) fun h' q sb=>?_
  have I1:Inv X pins σ H {s with heap:=h'}:=I.turned (t':=s.toks) (fun b o j e=>(sb.2 b j).trans e) f0 J Y U O
  obtain⟨o,e,c,d⟩:=id q
  exact⟨u,rfl,b0o (s:={s with heap:=h'}) e c d (by decide) ⟨x,H,I1,ru,⟨rfl,fun ys hy=>by rw[I.list_inj hy B];exact hx⟩,q,fun b j=>(hf b j).1⟩⟩
 done:=by
  intro X D hw Z hc i pins s σ H E I hf st hg
  subst D hw Z
  obtain⟨xs,B,hx⟩:=hg
  obtain⟨F,G,p,hz⟩:=I.list B
  obtain⟨f0,J,f2,Y,U,O⟩:=hf it (by simp)
  have hl:=G.length
  exact wpAny_pyNext_list_end (I.ok.hd hc) st p.isList (by simp;omega) fun h' eb=>⟨rfl,I.turned (t':=s.toks) (fun b o j e=>eb b o j e) f0 J Y U O⟩
 self:=fun _ _ _ _ _ st h=>wpAny_pyIter_listiter st h
theorem a9l{P:Program}{w:World}{K:W.Frag}{tg:Expr}(a it:Addr):a8N P w K tg (Itt K a) [it] it (fun i h=>h.IsTupleIter it a i)where
 mem:=by simp
 obj:=fun i h st b j=>by
  have e:b=it:=by simpa using j
  subst e
  obtain⟨o,e,c,d⟩:=st
  exact⟨o,e,fun v z=>by rw[d]at z;cases z⟩
 keep:=fun i h h' st k=>st.at fun o e=>k it (by simp) o e
 item:=by
  intro X F hw Z hc i pins s σ H E I hf st hg
  subst F hw Z
  obtain⟨xs,x,D,hx⟩:=hg
  obtain⟨q,G,p,hz⟩:=I.tuple D
  obtain⟨u,hu,ru⟩:=G.get hx
  obtain⟨f0,J,f2,Y,U,O⟩:=hf it (by simp)
  refine wpAny_pyNext_tuple_item st (show s.heap.IsTuple a q.toArray from p) (x:=u) (by simpa using hu) fun h' B sb=>?_
  have I1:Inv X pins σ H {s with heap:=h'}:=I.turned (t':=s.toks) (fun b o j e=>(sb.2 b j).trans e) f0 J Y U O
  obtain⟨o,e,c,d⟩:=id B
  exact⟨u,rfl,b0o (s:={s with heap:=h'}) e c d (by decide) ⟨x,H,I1,ru,⟨rfl,fun ys hy=>by rw[I.tuple_inj hy D];exact hx⟩,B,fun b j=>(hf b j).1⟩⟩
 done:=by
  intro X F hw Z hc i pins s σ H E I hf st hg
  subst F hw Z
  obtain⟨xs,D,hx⟩:=hg
  obtain⟨q,G,p,hz⟩:=I.tuple D
  obtain⟨f0,J,f2,Y,U,O⟩:=hf it (by simp)
  have hl:=G.length
  exact wpAny_pyNext_tuple_end (I.ok.hd hc) st (show s.heap.IsTuple a q.toArray from p) (by simp;omega) fun h' eb=>⟨rfl,I.turned (t':=s.toks) (fun b o j e=>eb b o j e) f0 J Y U O⟩
 self:=fun _ _ _ _ _ st h=>wpAny_pyIter_tupleiter st h
theorem a9z{P:Program}{w:World}{K:W.Frag}{tg:Expr}(it:Addr)(lo:Int)(n:Nat):a8N P w K tg (Itr lo n) [it] it (fun i h=>IsRangeIter h it (lo+(i:Nat)*1) ((n:Int) - (i:Nat)) 1)where
 mem:=by simp
 obj:=fun i h st b j=>by
  have e:b=it:=by simpa using j
  subst e
  exact⟨_,st,fun v z=>by
   have z':Data.fields _=Data.cell v:=z
   cases z'⟩
 keep:=fun i h h' st k=>k it (by simp) _ st
 item:=by
  intro X D hw U B i pins s σ H E I hf st hg
  subst D hw U
  obtain⟨Y,F,Z,O,J,G⟩:=hf it (by simp)
  have W:=Walks.range (prog:=X.prog) (w:=X.w) (I.ok.hd B) it lo 1 n
  refine W.item i s _ _ hg st fun v h' tk hv q kk=>?_
  obtain⟨t,rfl⟩:=hv
  have I1:Inv X pins σ H {s with heap:=h',toks:=tk}:=I.turned (fun b o j e=>kk b o (by simpa using j) e) Y F O J G
  refine⟨_,rfl,b0o (s:={s with heap:=h',toks:=tk}) (n:="range_iterator") q rfl rfl (by decide) ⟨.int (lo+i),H,I1,⟨t,?_⟩,⟨rfl,rfl⟩,q,fun b j=>(hf b j).1⟩⟩
  rw[Int.mul_one]
 done:=by
  intro X D hw U B i pins s σ H E I hf st hg
  subst D hw U
  obtain⟨Y,F,Z,O,J,G⟩:=hf it (by simp)
  exact wpAny_pyNext_range_end (I.ok.hd B) st (by have:n<=i:=hg;omega) fun h' eb=>⟨rfl,I.turned (t':=s.toks) (fun b o j e=>eb b o j e) Y F O J G⟩
 self:=fun _ _ _ _ _ st h=>wpAny_pyIter_rangeiter st h
end L2
namespace L2
open PySem PySem.Spec PyProof.Rows
section
variable{X:Cx}{tg:Expr}
noncomputable def b7z (K:W.Frag) (tl:TE):TI:=fun σ H R=>tl σ H fun x H1=>∃a,x= .ref a/\(∃xs,SqL K H1 a xs)/\R (Itl K a) H1
noncomputable def b6Z (K:W.Frag) (tl:TE):TI:=fun σ H R=>tl σ H fun x H1=>∃a,x= .ref a/\(∃xs,SqT K H1 a xs)/\R (Itt K a) H1
theorem a0Z{l:Expr}{tl:TE}(hl:PE X l tl):PI X tg l (b7z X.K tl):=by
 intro pins s σ H R I h
 refine thn (hl pins s σ H _ I h) fun v j⟨x,H1,I1,r1,B⟩=>?_
 obtain⟨a,e,⟨xs,G⟩,q⟩:=B
 subst e
 cases r1
 obtain⟨F,J,p,O⟩:=I1.list G
 refine wpAny_pyIter_list p.isList ?_
 refine⟨j.heap.objs.size,[j.heap.objs.size],_,_,H1,rfl,I1.kept (t':=j.toks) fun b o e=>AF _ e,b0N a _,⟨_,AJ _ rfl,rfl,rfl⟩,fun b D=>?_,q⟩
 have e:b=j.heap.objs.size:=by simpa using D
 subst e
 exact I1.fpOk (AI _) (I1.hok.fresh (AI _))
theorem D1{l:Expr}{tl:TE}(hl:PE X l tl):PI X tg l (b6Z X.K tl):=by
 intro pins s σ H R I h
 refine thn (hl pins s σ H _ I h) fun v j⟨x,H1,I1,r1,D⟩=>?_
 obtain⟨a,e,⟨xs,G⟩,q⟩:=D
 subst e
 cases r1
 obtain⟨B,J,p,O⟩:=I1.tuple G
 refine wpAny_pyIter_tuple (show j.heap.IsTuple a B.toArray from p) ?_
 refine⟨j.heap.objs.size,[j.heap.objs.size],_,_,H1,rfl,I1.kept (t':=j.toks) fun b o e=>AF _ e,a9l a _,⟨_,AJ _ rfl,rfl,rfl⟩,fun b F=>?_,q⟩
 have e:b=j.heap.objs.size:=by simpa using F
 subst e
 exact I1.fpOk (AI _) (I1.hok.fresh (AI _))
theorem a7T{pins:List (Addr×Obj)}{σ:St}{H:Hp}{s:Shared}{R:It->Hp->Prop}{E:Value->Shared->Prop}{lo hi:Int}{t u v:Tok}{tk:Nat}(I:Inv X pins σ H s)(h1: -(2 ^ 62)<=lo)(h2:lo < 2 ^ 62)(j: -(2 ^ 62)<=hi)(G:hi < 2 ^ 62)
  (q:R (Itr lo (hi - lo).toNat) H):wpAny (model X.prog X.w) X.A (pyIter (.ref s.heap.objs.size)) (PIE X pins σ tg R) E {s with heap:=s.heap.push {cls:= .type "range",data:= .fields #[.int lo t,.int hi u,.int 1 v]},toks:=tk}:=by
 refine wpAny_pyIter_range (IsRange.new ..) (small_one h1 h2 j G) ?_
 have I1:Inv X pins σ H {s with heap:=s.heap.push {cls:= .type "range",data:= .fields #[.int lo t,.int hi u,.int 1 v]},toks:=tk}:=I.kept fun b o e=>AF _ e
 refine⟨(s.heap.push {cls:= .type "range",data:= .fields #[.int lo t,.int hi u,.int 1 v]}).objs.size,[(s.heap.push {cls:= .type "range",data:= .fields #[.int lo t,.int hi u,.int 1 v]}).objs.size],_,_,H,rfl,
  I1.kept (t':=tk) fun b o e=>AF _ e,a9z _ lo (hi - lo).toNat,?_,fun b D=>?_,q⟩
 ·have B:lo+((0:Nat):Int)*1=lo:=by simp
  have F:(((hi - lo).toNat:Nat):Int) - ((0:Nat):Int)=Builtin.Range.rangeSize lo hi 1:=by rw[rangeSize_one];split<;>omega
  show IsRangeIter _ _ (lo+((0:Nat):Int)*1) ((((hi - lo).toNat:Nat):Int) - ((0:Nat):Int)) 1
  rw[B,F]
  exact AJ _ rfl
 ·have e:b=(s.heap.push {cls:= .type "range",data:= .fields #[.int lo t,.int hi u,.int 1 v]}).objs.size:=by simpa using D
  subst e
  exact I1.fpOk (AI _) (I1.hok.fresh (AI _))
noncomputable def b6R (ta:TA):TI:=fun σ H R=>ta σ H fun vs H1=>∃j:Int,vs=[.int j]/\ -(2 ^ 62)<=j/\j < 2 ^ 62/\R (Itr 0 j.toNat) H1
noncomputable def b7j (ta:TA):TI:=fun σ H R=>ta σ H fun vs H1=>∃i j:Int,vs=[.int i,.int j]/\(-(2 ^ 62)<=i/\i < 2 ^ 62/\ -(2 ^ 62)<=j/\j < 2 ^ 62)/\R (Itr i (j - i).toNat) H1
theorem a0y{a:Expr}{ta:TA}{p pos:Pos}(hg:Gl X "range")(F:X.mg "range"=none)(J:PA X [a] ta)(G:starEach [a] X.env=[(false,eval a X.env)]:=by rfl):PI X tg (.Call (.Name "range" p) [a] [] pos) (b6R ta):=by
 intro pins s σ H R I h
 refine Call_ (a1i I hg F boot_range (PyProof.Rows.callWith_type1 (thn (J pos pins s σ H _ I h) fun us U⟨Y,H1,I1,r1,B⟩=>?_) G rfl))
 obtain⟨j,e,B,D,q⟩:=B
 subst e
 cases r1 with
 | cons r O=>
  cases O
  obtain⟨t,rfl⟩:=r
  exact call_range_1 (a7T I1 (by omega) (by omega) B D (by simpa using q))
theorem b1S{a b:Expr}{ta:TA}{p pos:Pos}(hg:Gl X "range")(O:X.mg "range"=none)(Y:PA X [a,b] ta)(U:starEach [a,b] X.env=[(false,eval a X.env),(false,eval b X.env)]:=by rfl)(B:starEach [b] X.env=[(false,eval b X.env)]:=by rfl):
  PI X tg (.Call (.Name "range" p) [a,b] [] pos) (b7j ta):=by
 intro pins s σ H R I h
 refine Call_ (a1i I hg O boot_range (PyProof.Rows.callWith_type1 (thn (Y pos pins s σ H _ I h) fun us s1⟨vs,H1,I1,r1,D⟩=>?_) (by rw[U,B]) (by rw[B];rfl)))
 obtain⟨i,j,e,⟨D,G,J,Z⟩,q⟩:=D
 subst e
 cases r1 with
 | cons r F=>
  cases F with
  | cons r' F=>
   cases F
   obtain⟨t,rfl⟩:=r
   obtain⟨t',rfl⟩:=r'
   exact call_range_2 (a7T I1 D G J Z q)
noncomputable def b8u (wi:TI) (g:TG) (tb:TS):TS:=fun D σ H=>wi σ H fun J H1=>∃W:Nat->Nat->St->Hp->Prop,(∃m,W 0 m σ H1)/\∀i m σ H,W i m σ H->
 (J.stop i H/\D.nx σ H)\/(J.go i H/\∃N:St->Hp->Prop,(∀σ' H',N σ' H'->∃m',m' < m/\W (i+1) m' σ' H')/\∀x H',J.yld i H x H'->g x σ H' fun σ2 H2=>tb {D with nx:=N,ct:=N,bk:=D.nx} σ2 H2)
noncomputable def a5s (fp:List Addr) (h:Heap):List (Addr×Obj):=fp.filterMap fun b=>(h.get? b).map fun o=>(b,o)
theorem a1T{fp:List Addr}{h:Heap}{b:Addr}{o:Obj}(j:b∈fp)(e:h.get? b=some o):(b,o)∈a5s fp h:=List.mem_filterMap.mpr ⟨b,j,by rw[e];rfl⟩
theorem b0Z{fp:List Addr}{h:Heap}{p:Addr×Obj}(B:p∈a5s fp h):p.1∈fp/\h.get? p.1=some p.2:=by
 obtain⟨b,j,e⟩:=List.mem_filterMap.mp B
 cases q:h.get? b with
 | none=>rw[q]at e;cases e
 | some o=>
  rw[q]at e
  have D:(b,o)=p:=Option.some.inj e
  subst D
  exact⟨j,q⟩
theorem Inv.pinned{pins:List (Addr×Obj)}{σ:St}{H:Hp}{s:Shared}{fp:List Addr}(I:Inv X pins σ H s)(hf:∀b∈fp,a3m X pins H b)(D:∀b∈fp,∃o,s.heap.get? b=some o/\∀v,o.data≠ .cell v):Inv X (pins++a5s fp s.heap) σ H s:=
 I.pins_of fun p G=>(AL.mp G).elim (fun z=>I.pin p (AV _ z)) fun z=>by
  obtain⟨j,e⟩:=b0Z z
  obtain⟨J,F,B,_⟩:=hf p.1 j
  obtain⟨o,q,d⟩:=D p.1 j
  rw[e]at q;cases q
  exact⟨e,J,F,B,d⟩
theorem Inv.unpinned{pins q:List (Addr×Obj)}{σ:St}{H:Hp}{s:Shared}(I:Inv X (pins++q) σ H s):Inv X pins σ H s:=I.pins_of fun p j=>I.pin p (AV _ (AX _ j))
theorem Y9{iter:Expr}{body:List Stmt}{wi:TI}{g:TG}{tb:TS}{pos:Pos}(hp:PassesOwn (model X.prog X.w) X.A X.env X.xe)(hc:X.calm=true)(hi:PI X tg iter wi)(hg:PG X tg g)(B:PSs X body tb)
  (hs:∀x,foldedSetIterable iter X.env x=pure x:=by intro _;rfl):PS X (.For tg iter body [] pos) (b8u wi g tb):=by
 intro pins s σ H D I h
 refine wpAny_For (thn (hi pins s σ H _ I h) fun v s1 h1=>thn h1 fun hq s2 h2=>?_) hs
 obtain⟨it,fp,tn,J,H2,e,I2,T,ho,f2,W,⟨m0,w0⟩,he⟩:=h2
 subst e
 have F:∀{H':Hp},(∀b∈fp,H' b=none)->∀b∈fp,a3m X pins H' b:=fun hn b B=>⟨hn b B,(f2 b B).2⟩
 refine codeAny_forLoop_any (fun n s'=>∃i O H',Inv X pins O H' s'/\tn i s'.heap/\(∀b∈fp,H' b=none)/\W i n O H') ?_ m0 ⟨0,σ,H2,I2,ho,fun b B=>(f2 b B).1,w0⟩
 rintro n s3 ⟨i,q,H3,I3,ha,hf,w3⟩
 rcases he i n q H3 w3 with⟨stop,qn⟩ | ⟨go,N,hN,step⟩
 ·refine wpAny_passesOwn hp (thn (T.done X rfl rfl rfl hc i pins s3 q H3 X.xe I3 (F hf) ha stop) fun r s4⟨hr,I4⟩=>?_)
  subst hr
  exact wpAny_execs_nil ⟨q,H3,I4,qn⟩
 ·refine wpAny_passesOwn hp (thn (T.item X rfl rfl rfl hc i pins s3 q H3 X.xe I3 (F hf) ha go) fun r s4⟨u,hr,h4⟩=>?_)
  subst hr
  refine wpAny_passesOwn hp (thn h4 fun _ s5⟨x,H5,I5,r5,y5,Z,hk⟩=>?_)
  have hh:=I5.pinned (F hk) (T.obj _ _ Z)
  refine wpAny_passesOwn hp (thn (hg _ s5 q H5 x u _ hh r5 (step x H5 y5)) fun _ s6⟨hj,H6,I6,q6⟩=>?_)
  refine wpAny_passesOwn hp (thn (B _ s6 hj H6 _ I6 q6) fun f s7 Y=>?_)
  have again:∀{j:St}{U:Hp},Inv X (pins++a5s fp s5.heap) j U s7->N j U->∃m,m < n/\∃i O H',Inv X pins O H' s7/\tn i s7.heap/\(∀b∈fp,H' b=none)/\W i m O H':=fun{j U}G n7=>by
   obtain⟨m',hm,w7⟩:=hN j U n7
   refine⟨m',hm,i+1,j,U,G.unpinned,T.keep _ _ _ Z fun b B o e=>(G.pin (b,o) (AV _ (AV _ (a1T B e)))).1,fun b B=>?_,w7⟩
   obtain⟨o,e,d⟩:=T.obj _ _ Z b B
   exact(G.pin (b,o) (AV _ (AV _ (a1T B e)))).2.1
  cases f with
  | next=>obtain⟨j,U,G,n7⟩:=Y;exact again G n7
  | cont=>obtain⟨j,U,G,n7⟩:=Y;exact again G n7
  | brk=>obtain⟨j,U,G,Y⟩:=Y;exact⟨j,U,G.unpinned,Y⟩
  | ret v=>obtain⟨x7,j,U,G,r7,Y⟩:=Y;exact⟨x7,j,U,G.unpinned,r7,Y⟩
end
theorem a1g{K:W.Frag}{a:Addr}{xs:List V}{g:TG}{tb:TS}{D:a0m}{σ:St}{H:Hp}(j:Nat->St->Hp->Prop)(Y:j 0 σ H)(hl:∀i σ H,i<=xs.length->j i σ H->SqL K H a xs)
  (O:∀i x σ H,xs[i]?=some x->j i σ H->g x σ H fun B H2=>tb {D with nx:=j (i+1),ct:=j (i+1),bk:=D.nx} B H2)(hd:∀σ H,j xs.length σ H->D.nx σ H):
  ∃W:Nat->Nat->St->Hp->Prop,(∃m,W 0 m σ H)/\∀i m σ H,W i m σ H->
   ((Itl K a).stop i H/\D.nx σ H)\/((Itl K a).go i H/\∃N:St->Hp->Prop,(∀F H',N F H'->∃J,J < m/\W (i+1) J F H')/\∀x H',(Itl K a).yld i H x H'->g x σ H' fun B H2=>tb {D with nx:=N,ct:=N,bk:=D.nx} B H2):=by
 refine⟨fun i m σ H=>m=xs.length - i/\i<=xs.length/\j i σ H,⟨xs.length,by simp,Nat.zero_le _,Y⟩,?_⟩
 rintro i m σ H ⟨rfl,hi,p⟩
 have q:=hl i σ H hi p
 by_cases G:i < xs.length
 ·refine .inr ⟨⟨xs,xs[i],q,by simp[G]⟩,j (i+1),fun F H' U=>⟨xs.length - (i+1),by omega,rfl,G,U⟩,fun x H' y=>?_⟩
  obtain⟨e,y⟩:=y
  subst e
  exact O i x σ _ (y xs q) p
 ·have e:i=xs.length:=by omega
  subst e
  exact .inl ⟨⟨xs,q,AI _⟩,hd σ H p⟩
theorem F9{K:W.Frag}{a:Addr}{xs:List V}{g:TG}{tb:TS}{D:a0m}{σ:St}{H:Hp}(j:Nat->St->Hp->Prop)(Y:j 0 σ H)(hl:∀i σ H,i<=xs.length->j i σ H->SqT K H a xs)
  (O:∀i x σ H,xs[i]?=some x->j i σ H->g x σ H fun B H2=>tb {D with nx:=j (i+1),ct:=j (i+1),bk:=D.nx} B H2)(hd:∀σ H,j xs.length σ H->D.nx σ H):
  ∃W:Nat->Nat->St->Hp->Prop,(∃m,W 0 m σ H)/\∀i m σ H,W i m σ H->
   ((Itt K a).stop i H/\D.nx σ H)\/((Itt K a).go i H/\∃N:St->Hp->Prop,(∀F H',N F H'->∃J,J < m/\W (i+1) J F H')/\∀x H',(Itt K a).yld i H x H'->g x σ H' fun B H2=>tb {D with nx:=N,ct:=N,bk:=D.nx} B H2):=by
 refine⟨fun i m σ H=>m=xs.length - i/\i<=xs.length/\j i σ H,⟨xs.length,by simp,Nat.zero_le _,Y⟩,?_⟩
 rintro i m σ H ⟨rfl,hi,p⟩
 have q:=hl i σ H hi p
 by_cases G:i < xs.length
 ·refine .inr ⟨⟨xs,xs[i],q,by simp[G]⟩,j (i+1),fun F H' U=>⟨xs.length - (i+1),by omega,rfl,G,U⟩,fun x H' y=>?_⟩
  obtain⟨e,y⟩:=y
  subst e
  exact O i x σ _ (y xs q) p
 ·have e:i=xs.length:=by omega
  subst e
  exact .inl ⟨⟨xs,q,AI _⟩,hd σ H p⟩
theorem a0g{lo:Int}{n:Nat}{g:TG}{tb:TS}{D:a0m}{σ:St}{H:Hp}(q:Nat->St->Hp->Prop)(U:q 0 σ H)
  (J:∀i σ H,i < n->q i σ H->g (.int (lo+i)) σ H fun j H2=>tb {D with nx:=q (i+1),ct:=q (i+1),bk:=D.nx} j H2)(hd:∀σ H,q n σ H->D.nx σ H):
  ∃W:Nat->Nat->St->Hp->Prop,(∃m,W 0 m σ H)/\∀i m σ H,W i m σ H->
   ((Itr lo n).stop i H/\D.nx σ H)\/((Itr lo n).go i H/\∃N:St->Hp->Prop,(∀F H',N F H'->∃G,G < m/\W (i+1) G F H')/\∀x H',(Itr lo n).yld i H x H'->g x σ H' fun j H2=>tb {D with nx:=N,ct:=N,bk:=D.nx} j H2):=by
 refine⟨fun i m σ H=>m=n - i/\i<=n/\q i σ H,⟨n,by simp,Nat.zero_le _,U⟩,?_⟩
 rintro i m σ H ⟨rfl,hi,p⟩
 by_cases B:i < n
 ·refine .inr ⟨B,q (i+1),fun F H' O=>⟨n - (i+1),by omega,rfl,B,O⟩,fun x H' y=>?_⟩
  obtain⟨e,y⟩:=y
  subst e y
  exact J i σ _ B p
 ·have e:i=n:=by omega
  subst e
  exact .inl ⟨AI _,hd σ H p⟩
theorem a2G{c:TT}{tb:TS}{D:a0m}{σ:St}{H:Hp}(B:St->Hp->Prop)(μ:St->Hp->Nat)(O:B σ H)
  (G:∀σ H,B σ H->c σ H fun b H1=>if b=true then tb {D with nx:=fun j H'=>B j H'/\μ j H' < μ σ H,ct:=fun j H'=>B j H'/\μ j H' < μ σ H,bk:=D.nx} σ H1 else D.nx σ H1)
  (mono:∀σ H Q F,(∀b H1,Q b H1->F b H1)->c σ H Q->c σ H F):a7f c tb D σ H:=by
 refine⟨fun m σ H=>m=μ σ H/\B σ H,⟨_,rfl,O⟩,?_⟩
 rintro m σ H ⟨rfl,p⟩
 refine mono σ H _ _ (fun b H1 q=>?_) (G σ H p)
 cases b with
 | true=>exact⟨_,fun j H'⟨J,l⟩=>⟨_,l,rfl,J⟩,q⟩
 | false=>exact q
end L2
namespace L2
open PySem PySem.Spec PyProof.Rows
noncomputable abbrev R2:=V->V->Hp->VK->Prop
noncomputable def OpR (X:Cx) (f:Value->Value->Sem Value) (r:R2):Prop:=
 ∀(pins:List (Addr×Obj))(s:Shared)(σ:St)(H:Hp)(x y:V)(v u:Value)(Q:VK),Inv X pins σ H s->W9 x v->W9 y u->r x y H Q->
  wpAny (model X.prog X.w) X.A (f v u) (EP X pins σ Q) X.xe s
noncomputable def UnR (X:Cx) (f:Value->Sem Value) (r:V->Hp->VK->Prop):Prop:=
 ∀(pins:List (Addr×Obj))(s:Shared)(σ:St)(H:Hp)(x:V)(v:Value)(Q:VK),Inv X pins σ H s->W9 x v->r x H Q->
  wpAny (model X.prog X.w) X.A (f v) (EP X pins σ Q) X.xe s
noncomputable def a1u (X:Cx) (f:Value) (r:List V->Hp->VK->Prop):Prop:=
 ∀(pins:List (Addr×Obj))(s:Shared)(σ:St)(H:Hp)(xs:List V)(us:List Value)(Q:VK),Inv X pins σ H s->W6 xs us->r xs H Q->
  wpAny (model X.prog X.w) X.A (call f us) (EP X pins σ Q) X.xe s
noncomputable def b8o (X:Cx) (r:V->Hp->(Bool->Hp->Prop)->Prop):Prop:=
 ∀(pins:List (Addr×Obj))(s:Shared)(σ:St)(H:Hp)(x:V)(v:Value)(Q:Bool->Hp->Prop),Inv X pins σ H s->W9 x v->r x H Q->
  wpAny (model X.prog X.w) X.A (truthy v) (TP X pins σ Q) X.xe s
noncomputable def tOp (r:R2) (ta tb:TE):TE:=fun σ H Q=>ta σ H fun x H1=>tb σ H1 fun y H2=>r x y H2 Q
noncomputable def tUn (r:V->Hp->VK->Prop) (ta:TE):TE:=fun σ H Q=>ta σ H fun x H1=>r x H1 Q
noncomputable def rI (C:Int->Int->Prop) (g:Int->Int->V):R2:=fun x y H Q=>∃i j,x= .int i/\y= .int j/\C i j/\Q (g i j) H
noncomputable def rI0 (g:Int->Int->V):R2:=fun x y H Q=>∃i j,x= .int i/\y= .int j/\Q (g i j) H
noncomputable def rU (g:Int->V):V->Hp->VK->Prop:=fun x H Q=>∃i,x= .int i/\Q (g i) H
section
variable{X:Cx}{a b c:Expr}{ta tb tc:TE}{pos:Pos}
theorem b6M(O:PE X a ta)(J:PE X b tb){pins:List (Addr×Obj)}{s:Shared}{σ:St}{H:Hp}{R:V->V->Hp->Prop}(I:Inv X pins σ H s)
  (h:ta σ H fun x H1=>tb σ H1 fun y H2=>R x y H2){Q:Value->Shared->Prop}{f:Value->Value->Sem Value}
  (hf:∀v u B x y H2,Inv X pins σ H2 B->W9 x v->W9 y u->R x y H2->wpAny (model X.prog X.w) X.A (f v u) Q X.xe B):
  wpAny (model X.prog X.w) X.A (eval a X.env) (fun v j=>wpAny (model X.prog X.w) X.A (eval b X.env) (fun u q=>wpAny (model X.prog X.w) X.A (f v u) Q X.xe q) X.xe j) X.xe s:=by
 refine thn (O pins s σ H _ I h) fun v G⟨x,H1,I1,r1,F⟩=>?_
 refine thn (J pins G σ H1 _ I1 F) fun u B⟨y,H2,I2,r2,D⟩=>?_
 exact hf v u B x y H2 I2 r1 r2 D
theorem G9{j:Operator}{r:R2}(G:OpR X (binaryOp j) r)(J:PE X a ta)(B:PE X b tb):PE X (.BinOp a j b pos) (tOp r ta tb):=by
 intro pins s σ H Q I h
 exact wpAny_BinOp (b6M J B I h fun v u F x y H2 I2 D O q=>G pins F σ H2 x y v u Q I2 D O q)
theorem b0c{j:UnaryOp}{r:V->Hp->VK->Prop}(F:UnR X (unaryOp j) r)(D:PE X a ta):PE X (.UnaryOp j a pos) (tUn r ta):=by
 intro pins s σ H Q I h
 exact UnaryOp_ (thn (D pins s σ H _ I h) fun v q⟨x,H1,I1,r1,B⟩=>F pins q σ H1 x v Q I1 r1 B)
theorem opI{f:Value->Value->Sem Value}{C:Int->Int->Prop}{g:Int->Int->Int}
  (B:∀(i j:Int)(t u:Tok)(s:Shared)(Q:Value->Shared->Prop)(E:Value->Shared->Prop),C i j->Q (.int (g i j) s.toks) {s with toks:=s.toks+1}->wpAny (model X.prog X.w) X.A (f (.int i t) (.int j u)) Q E s):
  OpR X f (rI C fun i j=> .int (g i j)):=by
 intro pins s σ H x y v u Q I F G h
 obtain⟨i,j,rfl,rfl,D,q⟩:=h
 obtain⟨t,rfl⟩:=F
 obtain⟨t',rfl⟩:=G
 exact B i j t t' s _ _ D ⟨.int (g i j),H,I.tok _,⟨_,rfl⟩,q⟩
theorem b7D{f:Value->Value->Sem Value}{g:Int->Int->Int}
  (B:∀(i j:Int)(t u:Tok)(s:Shared)(Q:Value->Shared->Prop)(E:Value->Shared->Prop),Q (.int (g i j) s.toks) {s with toks:=s.toks+1}->wpAny (model X.prog X.w) X.A (f (.int i t) (.int j u)) Q E s):
  OpR X f (rI0 fun i j=> .int (g i j)):=by
 intro pins s σ H x y v u Q I D F h
 obtain⟨i,j,rfl,rfl,q⟩:=h
 obtain⟨t,rfl⟩:=D
 obtain⟨t',rfl⟩:=F
 exact B i j t t' s _ _ ⟨.int (g i j),H,I.tok _,⟨_,rfl⟩,q⟩
theorem b6u{f:Value->Value->Sem Value}{g:Int->Int->Bool}
  (B:∀(i j:Int)(t u:Tok)(s:Shared)(Q:Value->Shared->Prop)(E:Value->Shared->Prop),Q (.bool (g i j)) s->wpAny (model X.prog X.w) X.A (f (.int i t) (.int j u)) Q E s):
  OpR X f (rI0 fun i j=> .bl (g i j)):=by
 intro pins s σ H x y v u Q I D F h
 obtain⟨i,j,rfl,rfl,q⟩:=h
 obtain⟨t,rfl⟩:=D
 obtain⟨t',rfl⟩:=F
 exact B i j t t' s _ _ ⟨.bl (g i j),H,I,rfl,q⟩
noncomputable def b7V (i j:Int):Prop:=0 < j/\j < 1073741824
noncomputable def b7T (i j:Int):Prop:=0<=j/\j<=1000000/\i.natAbs < 2 ^ 64
noncomputable def b5T (i j:Int):Prop:=(-(2 ^ 64) < i/\i < 2 ^ 64)\/(-(2 ^ 64) < j/\j < 2 ^ 64)
theorem b5T.ok{i j:Int}(h:b5T i j):IntMulOk i j:=by
 rcases h with⟨h1,h2⟩ | ⟨h1,h2⟩
 ·exact .of_left (intBits_le_64 h1 h2)
 ·exact .of_right (intBits_le_64 h1 h2)
theorem Z7:OpR X (binaryOp .Add) (rI0 fun i j=> .int (i+j)):=b7D fun _ _ _ _ _ _ _ q=>add_int q
theorem a9J:OpR X (binaryOp .Sub) (rI0 fun i j=> .int (i - j)):=b7D fun _ _ _ _ _ _ _ q=>sub_int q
theorem E8:OpR X (binaryOp .Mult) (rI b5T fun i j=> .int (i*j)):=opI fun _ _ _ _ _ _ _ B q=>mul_int q B.ok
theorem W8:OpR X (binaryOp .FloorDiv) (rI b7V fun i j=> .int (i/j)):=opI fun i j _ _ _ _ _ B q=>by
 have h1:(0:Int) < j:=B.1
 have h2:j < 1073741824:=B.2
 exact floordiv_int (by omega) (by rw[Int.fdiv_eq_ediv_of_nonneg i (by omega)];exact q) (.inl (PyProof.noPylong_small (by omega)))
theorem U6:OpR X (binaryOp .Mod) (rI (fun _ j=>0 < j) fun i j=> .int (i % j)):=opI fun i j _ _ _ _ _ B q=>by
 have h1:(0:Int) < j:=B
 exact mod_int' (by omega) (by rw[Int.fmod_eq_emod_of_nonneg i (by omega)];exact q)
theorem a9V:OpR X (binaryOp .Pow) (rI b7T fun i j=> .int (i ^ j.toNat)):=opI fun _ _ _ _ _ _ _ B q=>pow_int_small B.1 B.2.1 B.2.2 q
theorem unI{f:Value->Sem Value}{g:Int->Int}
  (j:∀(i:Int)(t:Tok)(s:Shared)(Q:Value->Shared->Prop)(E:Value->Shared->Prop),Q (.int (g i) s.toks) {s with toks:=s.toks+1}->wpAny (model X.prog X.w) X.A (f (.int i t)) Q E s):
  UnR X f (rU fun i=> .int (g i)):=by
 intro pins s σ H x v Q I B h
 obtain⟨i,rfl,q⟩:=h
 obtain⟨t,rfl⟩:=B
 exact j i t s _ _ ⟨.int (g i),H,I.tok _,⟨_,rfl⟩,q⟩
theorem a7l:UnR X (unaryOp .USub) (rU fun i=> .int (-i)):=unI fun _ _ _ _ _ q=>neg_int q
end
noncomputable def b7e:V->V->Bool
 | .non,.non=>true | .non,.int _=>true | .int _,.non=>true | .non,.bl _=>true | .bl _,.non=>true | .non,.str _=>true | .str _,.non=>true
 | .int _,.int _=>true | .bl _,.bl _=>true | .str _,.str _=>true | .byt _,.byt _=>true
 | .int _,.str _=>true | .str _,.int _=>true | .bl _,.str _=>true | .str _,.bl _=>true
 | _,_=>false
noncomputable def rEq:R2:=fun x y H Q=>b7e x y=true/\Q (.bl (decide (x=y))) H
noncomputable def rNe:R2:=fun x y H Q=>b7e x y=true/\Q (.bl (!decide (x=y))) H
theorem b0k{i j:Int}:decide (V.int i=V.int j)=(i==j):=by
 rw[Bool.eq_iff_iff]
 simp
theorem b2n{i j:Bool}:decide (V.bl i=V.bl j)=(i==j):=by
 rw[Bool.eq_iff_iff]
 simp
theorem b0d{i j:Str}:decide (V.str i=V.str j)=(i==j):=by
 rw[Bool.eq_iff_iff]
 simp
theorem b0x{i j:Array UInt8}:decide (V.byt i=V.byt j)=(i.toList==j.toList):=by
 rw[Bool.eq_iff_iff]
 cases i
 cases j
 simp
section
variable{X:Cx}{a b c:Expr}{ta tb tc:TE}{pos:Pos}
theorem O2{pins:List (Addr×Obj)}{σ:St}{H:Hp}{s:Shared}{Q:VK}{k j:Bool}(I:Inv X pins σ H s)(q:Q (.bl k) H)(e:k=j):EP X pins σ Q (.bool j) s:=by
 subst e
 exact⟨.bl k,H,I,rfl,q⟩
theorem O3:OpR X (compareOp .Eq) rEq:=by
 intro pins s σ H x y v u Q I F B h
 obtain⟨D,q⟩:=h
 cases x with
 | non=>
  cases F
  cases y with
  | non=>cases B;exact PySem.EqNone.eq_none_none (O2 I q (by simp))
  | bl j=>cases B;exact PySem.EqNone.eq_none_bool (O2 I q (by simp))
  | int j=>obtain⟨t',rfl⟩:=B;exact PySem.EqNone.eq_none_int (O2 I q (by simp))
  | str j=>obtain⟨t',rfl⟩:=B;exact PySem.EqNone.eq_none_str (O2 I q (by simp))
  | _=>exact absurd (show false=true from D) AH
 | bl i=>
  cases F
  cases y with
  | non=>cases B;exact PySem.EqNone.eq_bool_none (O2 I q (by simp))
  | bl j=>cases B;exact eq_bool (O2 I q b2n)
  | str j=>obtain⟨t',rfl⟩:=B;exact PySem.EqMixed.eq_bool_str (O2 I q (by simp))
  | _=>exact absurd (show false=true from D) AH
 | int i=>
  obtain⟨t,rfl⟩:=F
  cases y with
  | non=>cases B;exact PySem.EqNone.eq_int_none (O2 I q (by simp))
  | int j=>obtain⟨t',rfl⟩:=B;exact eq_int (O2 I q b0k)
  | str j=>obtain⟨t',rfl⟩:=B;exact PySem.EqMixed.eq_int_str (O2 I q (by simp))
  | _=>exact absurd (show false=true from D) AH
 | str i=>
  obtain⟨t,rfl⟩:=F
  cases y with
  | non=>cases B;exact PySem.EqNone.eq_str_none (O2 I q (by simp))
  | bl j=>cases B;exact PySem.EqMixed.eq_str_bool (O2 I q (by simp))
  | int j=>obtain⟨t',rfl⟩:=B;exact PySem.EqMixed.eq_str_int (O2 I q (by simp))
  | str j=>obtain⟨t',rfl⟩:=B;exact eq_str (O2 I q b0d)
  | _=>exact absurd (show false=true from D) AH
 | byt i=>
  obtain⟨t,rfl⟩:=F
  cases y with
  | byt j=>obtain⟨t',rfl⟩:=B;exact W.eq_bytes (O2 I q b0x)
  | _=>exact absurd (show false=true from D) AH
 | _=>cases y<;>exact absurd (show false=true from D) AH
theorem b0u:OpR X (compareOp .NotEq) rNe:=by
 intro pins s σ H x y v u Q I F B h
 obtain⟨D,q⟩:=h
 cases x with
 | non=>
  cases F
  cases y with
  | non=>cases B;exact PySem.EqNone.ne_none_none (O2 I q (by simp))
  | bl j=>cases B;exact PySem.EqNone.ne_none_bool (O2 I q (by simp))
  | int j=>obtain⟨t',rfl⟩:=B;exact PySem.EqNone.ne_none_int (O2 I q (by simp))
  | str j=>obtain⟨t',rfl⟩:=B;exact PySem.EqNone.ne_none_str (O2 I q (by simp))
  | _=>exact absurd (show false=true from D) AH
 | bl i=>
  cases F
  cases y with
  | non=>cases B;exact PySem.EqNone.ne_bool_none (O2 I q (by simp))
  | bl j=>cases B;exact ne_bool (O2 I q (congrArg not b2n))
  | str j=>obtain⟨t',rfl⟩:=B;exact PySem.EqMixed.ne_bool_str (O2 I q (by simp))
  | _=>exact absurd (show false=true from D) AH
 | int i=>
  obtain⟨t,rfl⟩:=F
  cases y with
  | non=>cases B;exact PySem.EqNone.ne_int_none (O2 I q (by simp))
  | int j=>obtain⟨t',rfl⟩:=B;exact ne_int (O2 I q (congrArg not b0k))
  | str j=>obtain⟨t',rfl⟩:=B;exact PySem.EqMixed.ne_int_str (O2 I q (by simp))
  | _=>exact absurd (show false=true from D) AH
 | str i=>
  obtain⟨t,rfl⟩:=F
  cases y with
  | non=>cases B;exact PySem.EqNone.ne_str_none (O2 I q (by simp))
  | bl j=>cases B;exact PySem.EqMixed.ne_str_bool (O2 I q (by simp))
  | int j=>obtain⟨t',rfl⟩:=B;exact PySem.EqMixed.ne_str_int (O2 I q (by simp))
  | str j=>obtain⟨t',rfl⟩:=B;exact ne_str (O2 I q (congrArg not b0d))
  | _=>exact absurd (show false=true from D) AH
 | byt i=>
  obtain⟨t,rfl⟩:=F
  cases y with
  | byt j=>obtain⟨t',rfl⟩:=B;exact W.ne_bytes (O2 I q (congrArg not b0x))
  | _=>exact absurd (show false=true from D) AH
 | _=>cases y<;>exact absurd (show false=true from D) AH
theorem a6s:OpR X (compareOp .Lt) (rI0 fun i j=> .bl (decide (i < j))):=b6u fun _ _ _ _ _ _ _ q=>lt_int q
theorem b5C:OpR X (compareOp .LtE) (rI0 fun i j=> .bl (decide (i<=j))):=b6u fun _ _ _ _ _ _ _ q=>le_int q
theorem a6d:OpR X (compareOp .Gt) (rI0 fun i j=> .bl (decide (j < i))):=b6u fun _ _ _ _ _ _ _ q=>gt_int q
theorem U0(b:Expr){j:CmpOp}(h:j≠ .In:=by decide)(h2:j≠ .NotIn:=by decide):behindInMarks j b=false:=by
 have q:(j==CmpOp.In)=false:=by cases j<;>first | rfl | exact absurd rfl h
 have B:(j==CmpOp.NotIn)=false:=by cases j<;>first | rfl | exact absurd rfl h2
 cases b<;>simp[behindInMarks,q,B]
theorem b0g{j:CmpOp}{r:R2}(J:OpR X (compareOp j) r)(O:PE X a ta)(B:PE X b tb)(D:behindInMarks j b=false):PE X (.Compare a [j] [b] pos) (tOp r ta tb):=by
 intro pins s σ H Q I h
 exact wpAny_Compare1 (b6M O B I h fun v u G x y H2 I2 F U q=>J pins G σ H2 x y v u Q I2 F U q) D
noncomputable def b7b (t:TE):TT:=fun σ H Q=>t σ H fun x H'=>∃k,x= .bl k/\Q k H'
theorem J6{j:CmpOp}{r:R2}(U:OpR X (compareOp j) r)(Z:PE X a ta)(G:PE X b tb)(J:behindInMarks j b=false):PT X (.Compare a [j] [b] pos) (b7b (tOp r ta tb)):=by
 intro pins s σ H Q I h
 refine wpAny_isTrue_Compare1 (thn (Z pins s σ H _ I h) fun v F⟨x,H1,I1,r1,D⟩=>thn (G pins F σ H1 _ I1 D) fun u Y⟨y,H2,I2,r2,q⟩=>
  thn (U pins Y σ H2 x y v u _ I2 r1 r2 q) fun c s3⟨z,H3,I3,O,k,e,B⟩=>?_) J
 subst e
 cases O
 exact wpAny_truthy_bool ⟨H3,I3,B⟩
noncomputable def b6S (K:W.Frag) (x:V) (H:Hp) (k:Bool):Prop:=
 match x with
 | .non=>k=false
 | .bl b=>k=b
 | .int i=>k=(i != 0)
 | .str y=>y.length<=sizeLine/\k=((y.length:Int) != 0)
 | .byt y=>y.size<=sizeLine/\k=((y.size:Int) != 0)
 | .ref p=>(∃xs,SqL K H p xs/\k= !xs.isEmpty)\/(∃xs,SqT K H p xs/\k= !xs.isEmpty)\/∃kvs,H p=some (.dK kvs)/\k= !kvs.isEmpty
 | _=>False
theorem a9i{κ:Type}{kvs:List (κ×V)}{vs:List (κ×Value)}(r:KV kvs vs):(!vs.isEmpty)= !kvs.isEmpty:=by
 cases r<;>rfl
theorem a5A{xs:List V}{its:List Value}(r:W6 xs its):(!its.toArray.isEmpty)= !xs.isEmpty:=by
 cases r<;>simp
theorem a4A:(sizeLine:Nat) < 2 ^ 63:=by rw[sizeLine_eq];decide
theorem b5P:b8o X (fun x H Q=>∃k,b6S X.K x H k/\Q k H):=by
 intro pins s σ H x v Q I D h
 obtain⟨k,e,q⟩:=h
 have hl:=a4A
 have Z:sizeLine=16777216:=sizeLine_eq
 cases x with
 | non=>
  cases D
  have j:k=false:=e
  subst j
  exact truthy_none ⟨H,I,q⟩
 | bl b=>
  cases D
  have j:k=b:=e
  subst j
  exact wpAny_truthy_bool ⟨H,I,q⟩
 | int i=>
  obtain⟨t,rfl⟩:=D
  have j:k=(i != 0):=e
  subst j
  exact PySem.P.truthy_int ⟨H,I,q⟩
 | str y=>
  obtain⟨t,rfl⟩:=D
  obtain⟨U,j⟩:y.length<=sizeLine/\k=((y.length:Int) != 0):=e
  subst j
  exact PySem.P.truthy_str (by omega) ⟨H,I.tok _,q⟩
 | byt y=>
  obtain⟨t,rfl⟩:=D
  obtain⟨U,j⟩:y.size<=sizeLine/\k=((y.size:Int) != 0):=e
  subst j
  exact W.truthy_bytes (by omega) ⟨H,I.tok _,q⟩
 | ref p=>
  cases D
  have j:(∃xs,SqL X.K H p xs/\k= !xs.isEmpty)\/(∃xs,SqT X.K H p xs/\k= !xs.isEmpty)\/∃kvs,H p=some (.dK kvs)/\k= !kvs.isEmpty:=e
  rcases j with⟨xs,hx,j⟩ | ⟨xs,hx,j⟩ | ⟨kvs,hx,j⟩
  ·subst j
   obtain⟨G,r,J,O⟩:=I.list hx
   have B:=r.length
   exact wpAny_truthy_list J.isList (by simp only[List.size_toArray];omega) ⟨H,I.tok _,by rw[a5A r];exact q⟩
  ·subst j
   obtain⟨G,r,J,O⟩:=I.tuple hx
   have B:=r.length
   exact truthy_tuple J (by simp only[List.size_toArray];omega) ⟨H,I.tok _,by rw[a5A r];exact q⟩
  ·subst j
   obtain⟨O,Y,F,r,m⟩:kvs.length<=sizeLine/\(p==sysModules)=false/\∃F,KV kvs F/\s.heap.DictOf (Z8 X.prog X.w) p F:=I.hok p _ hx
   have B:kvs.length=F.length:=AE r
   exact wpAny_truthy_dict Y m (by omega) ⟨H,I.tok _,by rw[a9i r];exact q⟩
 | _=>exact(show False from e).elim
theorem a8k(F:PE X a ta)(D:∀j,isTrue a X.env j=(do let v<-j;standAt a.pos;holding [v] (truthy v))):
  PT X a (fun σ H Q=>ta σ H fun x H'=>∃k,b6S X.K x H' k/\Q k H'):=by
 intro pins s σ H Q I h
 exact isTrue_plain (thn (F pins s σ H _ I h) fun v B⟨x,H1,I1,r1,q⟩=>b5P pins B σ H1 x v Q I1 r1 q) (D _)
theorem a0e:OpR X (binaryOp .Add) (fun x y H Q=>∃i j,x= .str i/\y= .str j/\i.length+j.length<=sizeLine/\Q (.str (i++j)) H):=by
 intro pins s σ H x y v u Q I B F h
 obtain⟨i,j,rfl,rfl,D,q⟩:=h
 obtain⟨t,rfl⟩:=B
 obtain⟨t',rfl⟩:=F
 exact add_str (fun t' tk=>⟨.str (i++j),H,I.tok _,⟨_,rfl⟩,q⟩) D
theorem a3H{x:V}{us:List Value}(r:W6 [x] us):∃u,us=[u]/\W9 x u:=by
 cases r with
 | cons r1 r2=>cases r2;exact⟨_,rfl,r1⟩
theorem b3t{x y:V}{us:List Value}(r:W6 [x,y] us):∃u j,us=[u,j]/\W9 x u/\W9 y j:=by
 cases r with
 | cons r1 r2=>
  cases r2 with
  | cons B q=>cases q;exact⟨_,_,rfl,r1,B⟩
theorem a6I(D:X.calm=true):a1u X (.builtin "max") (fun xs H Q=>∃i j,xs=[.int i,.int j]/\Q (.int (if j > i then j else i)) H):=by
 intro pins s σ H xs us Q I r h
 obtain⟨i,j,rfl,q⟩:=h
 obtain⟨u,F,rfl,⟨t,rfl⟩,⟨t',rfl⟩⟩:=b3t r
 refine max_two_ints (I.ok.hd D) fun h' tk k=>⟨_,H,I.kept k,?_,q⟩
 by_cases B:j > i
 ·rw[if_pos B,if_pos B];exact⟨_,rfl⟩
 ·rw[if_neg B,if_neg B];exact⟨_,rfl⟩
theorem a4H(D:X.calm=true):a1u X (.builtin "min") (fun xs H Q=>∃i j,xs=[.int i,.int j]/\Q (.int (if j < i then j else i)) H):=by
 intro pins s σ H xs us Q I r h
 obtain⟨i,j,rfl,q⟩:=h
 obtain⟨u,F,rfl,⟨t,rfl⟩,⟨t',rfl⟩⟩:=b3t r
 refine min_two_ints (I.ok.hd D) fun h' tk k=>⟨_,H,I.kept k,?_,q⟩
 by_cases B:j < i
 ·rw[if_pos B,if_pos B];exact⟨_,rfl⟩
 ·rw[if_neg B,if_neg B];exact⟨_,rfl⟩
theorem b1u:a1u X (.type "int") (fun xs H Q=>(∃i,xs=[.int i]/\Q (.int i) H)\/∃k,xs=[.bl k]/\Q (.int (if k then 1 else 0)) H):=by
 intro pins s σ H xs us Q I r h
 rcases h with⟨i,rfl,q⟩ | ⟨k,rfl,q⟩
 ·obtain⟨u,rfl,t,rfl⟩:=a3H r
  exact call_int_int ⟨.int i,H,I,⟨_,rfl⟩,q⟩
 ·obtain⟨u,rfl,r1⟩:=a3H r
  cases r1
  exact call_int_bool ⟨.int (if k then 1 else 0),H,I.tok _,⟨_,rfl⟩,q⟩
theorem a1X:a1u X (.type "str") (fun xs H Q=>∃i,xs=[.int i]/\i.natAbs.log2 < 1920/\Q (.str (toString i)) H):=by
 intro pins s σ H xs us Q I r h
 obtain⟨i,rfl,j,q⟩:=h
 obtain⟨u,rfl,t,rfl⟩:=a3H r
 exact PySem.P.str_of_int j ⟨.str _,H,I.tok _,⟨_,rfl⟩,q⟩
end
end L2
namespace L2
open PySem PySem.Spec PyProof.Rows
structure b6L(h:Heap)(x dx C:Addr)(mA:Str->Option Value):Prop where
 obj:h.get? x=some (W.instObj C dx)
 ns:h.Ns1 dx mA
 ne:dx≠x
theorem b0H{h:Heap}{dx:Addr}{mA:Str->Option Value}(n:h.Ns1 dx mA):∃B,h.get? dx=some B/\∀name,W.lookIn name B=some (mA name):=by
 obtain⟨o,es,ep,J,hd,O,_,F⟩:=n
 refine⟨o,J,fun name=>?_⟩
 have e:=F name
 unfold nsFind findBy at e
 rw[<-Array.find?_toList]at e
 unfold W.lookIn
 rw[hd]
 dsimp only
 split
 ·rename_i y q
  rw[q]at e
  exact congrArg some e
 ·rename_i q
  rw[q]at e
  have a:es.toList.any (·.refKey)=false:=by
   rw[List.any_eq_false]
   intro y D
   obtain⟨z,t,j⟩:=O y (Array.mem_toList_iff.mp D)
   simp[DictEntry.refKey,j]
  have G:¬es.toList.any (·.refKey)=true:=by rw[a];exact AH
  rw[if_neg G]
  exact congrArg some e
theorem b6L.look{h:Heap}{x dx C:Addr}{mA:Str->Option Value}(I:b6L h x dx C mA):∃j,W.InstAt h x (W.instObj C dx) C (some j)/\∀name,W.lookIn name j=some (mA name):=
 let⟨j,q,hl⟩:=b0H I.ns
 ⟨j,⟨I.obj,rfl,rfl,q⟩,hl⟩
section
variable{prog:Program}{w:World}{A:Around}{E:Value->Shared->Prop}{s:Shared}{K:W.Frag}{x dx C f:Addr}{mA:Str->Option Value}{name:Str}{v:Value}
end
theorem a5O.some_of{v:V}{o:Option Value}(r:a5O (some v) o):∃u,o=some u/\W9 v u:=by
 cases o with
 | none=>exact(show False from r).elim
 | some u=>exact⟨u,rfl,r⟩
section
variable{P:Program}{w:World}{H H':Hp}{h h':Heap}{a C dx:Addr}{fs fs':List (Str×V)}
theorem b4Z(hok:HOk P w H h)(e:H a=some (.ins C dx fs)):∃mA,b6L h a dx C mA/\(∀f,a5O (fs.lookup f) (mA f))/\PySem.Within mA (fs.map (·.1))/\fs.length<=1000/\H dx=some (.own a):=by
 obtain⟨d,z,ne,j,mA,n,r,q⟩:=(show O5 P w H h a (.ins C dx fs)from hok a _ e)
 exact⟨mA,⟨j,n,ne⟩,r,q,z,d⟩
end
structure Cls(K:W.Frag)(C:Addr):Prop where
 pg:W.plainGet K C Str.empty=true
 hd:W.hasDictIn K C=true
 po:W.plainOver K C=true
 sa:W.findIn K (.ref C) "__setattr__"=some (some (.builtin "object.__setattr__"))
theorem Cls.get{K:W.Frag}{C:Addr}(c:Cls K C)(f:Str):W.plainGet K C f=true:=c.pg
section
variable{X:Cx}{pins:List (Addr×Obj)}{σ:St}{H:Hp}{s:Shared}{a C dx:Addr}{fs:List (Str×V)}{f:Str}{v:V}{A:Around}{E:Value->Shared->Prop}
end
section
variable{X:Cx}{o e value:Expr}{f:Str}{pos pos' tpos:Pos}{ta tv:TE}
end
section
variable{X:Cx}{pins:List (Addr×Obj)}{σ:St}{H:Hp}{s:Shared}{A:Around}{E:Value->Shared->Prop}{Q:Value->Shared->Prop}{c:Value}{b:Bool}
inductive a4w (K:W.Frag) (H:Hp):V->Value->Prop where
 | non:a4w K H .non (.type "NoneType")
 | bl (x:Bool):a4w K H (.bl x) (.type "bool")
 | int (i:Int):a4w K H (.int i) (.type "int")
 | str (x:Str):a4w K H (.str x) (.type "str")
 | flt (x:UInt64):a4w K H (.flt x) (.type "float")
 | lst {a:Addr} {xs:List V} (e:H a=some (.lst xs)):a4w K H (.ref a) (.type "list")
 | frz {a:Addr} {o:Obj} {xs:List V} (e:H a=some (.frz o (.lst xs))):a4w K H (.ref a) (.type "list")
 | tup {a:Addr} {xs:List V} (e:H a=some (.tup xs)):a4w K H (.ref a) (.type "tuple")
 | dK {a:Addr} {kvs:List (Key×V)} (e:H a=some (.dK kvs)):a4w K H (.ref a) (.type "dict")
 | dT {a:Addr} {kvs:List (List Key×V)} (e:H a=some (.dT kvs)):a4w K H (.ref a) (.type "dict")
 | ins {a C dx:Addr} {fs:List (Str×V)} (e:H a=some (.ins C dx fs)) (cl:Cls K C) (ha:W.findIn K (.ref C) "__class__"=some (some (.builtin "object.__class__")))
   (hn:W.specialIn K (.builtin "object.__class__") "__get__"=some (some (.builtin "getset_descriptor.__get__"))) (htk:W.takesIn K (.builtin "object.__class__")=some true)
   (hm:W.mroIn K C (.type "object")=some true):a4w K H (.ref a) (.ref C)
theorem b1l{x:V}{u t:Value}(I:Inv X pins σ H s)(j:W9 x u)(ty:a4w X.K H x t)(e:W.kitOne X.K t c=some b)(h:∀tk,Q (.bool b) {s with toks:=tk}):
  wpAny (model X.prog X.w) A (call (.builtin "isinstance") [u,c]) Q E s:=by
 cases ty with
 | non=>cases(show u=Value.none from j);exact W.kia_one W.kitx_none I.kIn True.intro e (fun z=>nomatch z) h
 | bl y=>cases(show u=Value.bool y from j);exact W.kia_one W.kitx_bool I.kIn True.intro e (fun z=>nomatch z) h
 | int i=>obtain⟨t,q⟩:=(show∃t,u=Value.int i t from j);cases q;exact W.kia_one W.kitx_int I.kIn True.intro e (fun z=>nomatch z) h
 | str y=>obtain⟨t,q⟩:=(show∃t,u=Value.str y t from j);cases q;exact W.kia_one W.kitx_str I.kIn True.intro e (fun z=>nomatch z) h
 | flt y=>obtain⟨t,q⟩:=(show∃t,u=Value.float y t from j);cases q;exact W.kia_one W.kitx_float I.kIn True.intro e (fun z=>nomatch z) h
 | @lst a xs B=>
  cases(show u=Value.ref a from j)
  obtain⟨_,_,n,_,h1⟩:=(show O5 X.prog X.w H s.heap a (.lst xs)from I.hok a _ B)
  exact W.kia_one W.kitx_list I.kIn ⟨_,h1,rfl⟩ e (fun z=>nomatch z) h
 | @frz a G xs B=>
  cases(show u=Value.ref a from j)
  obtain⟨_,_,_,n,_,h1⟩:=(show O5 X.prog X.w H s.heap a (.frz G (.lst xs))from I.hok a _ B)
  exact W.kia_one W.kitx_list I.kIn ⟨_,h1,rfl⟩ e (fun z=>nomatch z) h
 | @tup a xs B=>
  cases(show u=Value.ref a from j)
  obtain⟨_,_,_,p⟩:=(show O5 X.prog X.w H s.heap a (.tup xs)from I.hok a _ B)
  obtain⟨o,h1,h2,_⟩:=p
  exact W.kia_one W.kitx_tuple I.kIn ⟨o,h1,h2⟩ e (fun z=>nomatch z) h
 | @dK a kvs B=>
  cases(show u=Value.ref a from j)
  obtain⟨_,_,vs,_,p⟩:=(show O5 X.prog X.w H s.heap a (.dK kvs)from I.hok a _ B)
  obtain⟨o,es,ep,h1,h2,_⟩:=p
  exact W.kia_one W.kitx_dict I.kIn ⟨o,h1,h2.1⟩ e (fun z=>nomatch z) h
 | @dT a kvs B=>
  cases(show u=Value.ref a from j)
  obtain⟨_,_,xs,_,o,es,ep,h1,h2,_⟩:=(show O5 X.prog X.w H s.heap a (.dT kvs)from I.hok a _ B)
  exact W.kia_one W.kitx_dict I.kIn ⟨o,h1,h2.1⟩ e (fun z=>nomatch z) h
 | @ins a C dx fs B cl Y U D F=>
  cases(show u=Value.ref a from j)
  obtain⟨mA,O,_⟩:=b4Z I.hok B
  obtain⟨Z,J,_⟩:=O.look
  exact W.kia_one (W.kitx_own (cl.get _) cl.hd Y U D F) I.kIn J e (fun z=>nomatch z) h
end
end L2
namespace L2
open PySem PySem.Spec PyProof.Rows
structure a1R(k:Nat)(A:Around):Prop where
 hd:A.handled=none
 dp:A.depth+3*k+5 < recursionLimit
 un:A.units+16*k+200 < cLine
theorem a1R.mono{j k:Nat}{A:Around}(r:a1R k A)(h:j<=k):a1R j A:=⟨r.hd,by have:=r.dp;omega,by have:=r.un;omega⟩
theorem a1R.deeper{k:Nat}{A:Around}(r:a1R (k+1) A)(env:Env):a1R k (A.deeper env):=
 ⟨r.hd,by have:=r.dp;show A.depth+1+3*k+5 < _;omega,by have:=r.un;show A.units+3+16*k+200 < _;omega⟩
theorem a1R.depth{k:Nat}{A:Around}(r:a1R k A):A.depth < recursionLimit:=by have:=r.dp;omega
theorem a1R.units{k:Nat}{A:Around}(r:a1R k A):A.units+64 < cLine:=by have:=r.un;omega
noncomputable def b7Q:TA:=fun _ H Q=>Q [] H
noncomputable def b7k (ta:TE) (tr:TA):TA:=fun σ H Q=>ta σ H fun x H1=>tr σ H1 fun xs H2=>Q (x::xs) H2
section
variable{X:Cx}{e:Expr}{es:List Expr}{te:TE}{t:TA}{pos:Pos}
theorem G4:PA X [] b7Q:=fun _ _ _ _ H Q I h=>Calls.spliced_nil ⟨[],H,I,.nil,h⟩
theorem G0(G:PE X e te)(q:PA X es t)(F:starEach (e::es) X.env=(false,eval e X.env)::starEach es X.env:=by rfl):PA X (e::es) (b7k te t):=by
 intro pos pins s σ H Q I h
 rw[F]
 show wpAny _ _ (spliced ((false,eval e X.env)::backTo pos (starEach es X.env))) _ _ s
 refine Calls.spliced_cons (thn (G pins s σ H _ I h) fun u D⟨x,H1,I1,r1,B⟩=>?_)
 exact thn (q pos pins D σ H1 _ I1 B) fun us J⟨xs,H2,I2,r2,j⟩=>⟨x::xs,H2,I2,.cons r1 r2,j⟩
noncomputable def b7Z (t:TA):TE:=fun σ H Q=>t σ H fun xs H1=>xs.length<=sizeLine/\∀p,H1 p=none->Q (.ref p) (upd H1 p (.tup xs))
noncomputable def b8j (t:TA):TE:=fun σ H Q=>t σ H fun xs H1=>xs.length<=sizeLine/\∀p,H1 p=none->Q (.ref p) (upd H1 p (.lst xs))
theorem R1{x1}(h:PA X es t):PE X (.Tuple es x1 pos) (b7Z t):=by
 intro pins s σ H Q I B
 refine wpAny_Tuple_spliced (thn (h pos pins s σ H _ I B) fun us j⟨xs,H1,I1,r,z,q⟩=>⟨by rw[<-r.length];exact z,?_⟩)
 have hf:H1 j.heap.objs.size=none:=I1.hok.fresh (AI _)
 refine⟨.ref j.heap.objs.size,upd H1 j.heap.objs.size (.tup xs),I1.laid (t':=j.toks) (fun b u e=>AF _ e) (AI _) ?_,rfl,q _ hf⟩
 exact⟨z,us,r,⟨_,AJ _ rfl,rfl,_,rfl⟩⟩
theorem Y3(h:PA X es t):PE X (.List es pos) (b8j t):=by
 intro pins s σ H Q I B
 refine wpAny_List_spliced (thn (h pos pins s σ H _ I B) fun us j⟨xs,H1,I1,r,z,q⟩=>⟨by rw[<-r.length];exact z,?_⟩)
 have hf:H1 j.heap.objs.size=none:=I1.hok.fresh (AI _)
 refine⟨.ref j.heap.objs.size,upd H1 j.heap.objs.size (.lst xs),I1.laid (t':=j.toks) (fun b u e=>AF _ e) (AI _) ?_,rfl,q _ hf⟩
 exact⟨z,us,0,r,AJ _ rfl⟩
end
noncomputable abbrev Sp:=List V->Hp->VK->XK->Prop
noncomputable abbrev CXT:=List Env->Hp->Shared->XK->Value->Shared->Prop
structure b5v(P:Program)(w:World)(K:W.Frag)(mg:Str->Option Value)(base:Heap)(A:Around)(outer:List Env)(s:Shared)(H:Hp):Prop where
 frames:A.frames=some outer
 mod:Mod K mg base
 bs:∀b o,base.get? b=some o->s.heap.get? b=some o/\H b=none
 bsz:base.objs.size<=s.heap.objs.size
 funs:s.heap.FunFrames base outer
 frf:∀b∈frs outer,H b=none
 hok:HOk P w H s.heap
 bare:AllBare s.gens
noncomputable def CE (outer:List Env) (P:Program) (w:World) (H:Hp) (s:Shared) (Q:VK) (u:Value) (s':Shared):Prop:=
 ∃v H',s'.os=s.os/\AllBare s'.gens/\Un (frs outer) [] H H' s.heap s'.heap/\HOk P w H' s'.heap/\W9 v u/\Q v H'
noncomputable def CR (CX:CXT) (outer:List Env) (P:Program) (w:World) (H:Hp) (s:Shared) (Q:VK) (E:XK) (r:Result) (s':Shared):Prop:=
 match r with
 | .ok (.ret u)=>CE outer P w H s Q u s'
 | .ok _=>False
 | .error e=>CX outer H s E e s'
structure a6j(P:Program)(w:World)(K:W.Frag)(mg:Str->Option Value)(base:Heap)(CX:CXT)(k:Nat)(f:Addr)(fd:FuncData)(ps:List Str)(sp:Sp):Prop where
 len:∀vs H Q E,sp vs H Q E->vs.length=ps.length
 run:∀(A:Around)(outer:List Env)(s:Shared)(H:Hp)(args:Args)(us:List Value)(vs:List V)(Q:VK)(E:XK),a1R k A->b5v P w K mg base A outer s H->BindsTo s fd args (ps.zip us)->W6 vs us->sp vs H Q E->
  codeAny (model P w) A (.call (.ref f) args) (CR CX outer P w H s Q E) s
section
variable{X:Cx}{pins:List (Addr×Obj)}{σ:St}{H:Hp}{s s':Shared}
theorem Inv.env0(I:Inv X pins σ H s):b5v X.prog X.w X.K X.mg X.base X.A X.stack s H:=
 ⟨I.ok.frames,I.ok.mod,I.bs,Nat.le_trans I.ok.bsz I.sz,I.stack,I.stkFree,I.hok,I.bare⟩
theorem Inv.after{Q:VK}{u:Value}(I:Inv X pins σ H s)(h:CE X.stack X.prog X.w H s Q u s'):EP X pins σ Q u s':=by
 obtain⟨v,H',os,bare,un,hok,r,q⟩:=h
 obtain⟨B,g,d,t,j⟩:=s'
 obtain rfl:j=s.os:=os
 exact⟨v,H',I.call (h':=B) (g':=g) (d':=d) (t':=t) (ch:=[]) un hok bare (fun b z=>absurd z (by simp)),r,q⟩
end
noncomputable def b5y (sp:Sp) (dvs:List V) (E:XK) (t:TA):TE:=fun σ H Q=>t σ H fun vs H1=>sp (vs++dvs) H1 Q E
noncomputable def a6A (K:W.Frag) (fd:FuncData) (ps:List Str) (ds:List Value):Prop:=
 ∀(s:Shared)(us:List Value),K.In s.heap->(us++ds).length=ps.length->BindsTo s fd ⟨us,[]⟩ (ps.zip (us++ds))
theorem a6A.all{K:W.Frag}{fd:FuncData}{ps:List Str}(h:∀us:List Value,us.length=ps.length->bindArgs fd ⟨us,[]⟩=pure (ps.zip us)):a6A K fd ps []:=fun s us _ hl=>by
 rw[BB]at hl⊢
 exact .of_eq (h us hl)
noncomputable def a9Z (CX:CXT) (X:Cx) (E:XK):Prop:=∀(pins:List (Addr×Obj))(σ:St)(H:Hp)(s:Shared)(e:Value)(s':Shared),Inv X pins σ H s->CX X.stack H s E e s'->X.xe e s'
section
variable{X:Cx}{CX:CXT}{k:Nat}{f C:Addr}{fd:FuncData}{ps:List Str}{sp:Sp}{dvs:List V}{ds:List Value}{E:XK}{x m:Str}{p pos apos:Pos}{e o:Expr}{es:List Expr}{ta:TE}{t:TA}
theorem b6m{pins:List (Addr×Obj)}{σ:St}{H:Hp}{s:Shared}{Q:VK}{us:List Value}{vs:List V}(F:a6j X.prog X.w X.K X.mg X.base CX k f fd ps sp)(q:a1R k X.A)(B:a6A X.K fd ps ds)(hd:W6 dvs ds)(hx:a9Z CX X E)
  (I:Inv X pins σ H s)(r:W6 vs us)(h:sp (vs++dvs) H Q E):wpAny (model X.prog X.w) X.A (call (.ref f) us) (EP X pins σ Q) X.xe s:=by
 have r2:W6 (vs++dvs) (us++ds):=r.append hd
 have hl:(us++ds).length=ps.length:=by rw[<-r2.length];exact F.len _ _ _ _ h
 refine wpAny_call (codeAny_mono (F.run X.A X.stack s H ⟨us,[]⟩ (us++ds) (vs++dvs) Q E q I.env0 (B s us I.kIn hl) r2 h) fun r s' j=>?_)
 cases r with
 | error e=>exact hx pins σ H s e s' I j
 | ok D=>
  cases D with
  | ret u=>exact I.after j
  | next=>exact False.elim j
  | brk=>exact False.elim j
  | cont=>exact False.elim j
theorem b5t(F:a6j X.prog X.w X.K X.mg X.base CX k f fd ps sp)(D:a1R k X.A)(hg:Gl X x)(J:X.mg x=some (.ref f))(Y:W.keepIn X.K (.ref f)=true)(G:a6A X.K fd ps ds)(hd:W6 dvs ds)(hx:a9Z CX X E)
  (U:PA X (e::es) t)(j:(x==("__debug__":Str))=false:=by decide)(O:starEach (e::es) X.env=(false,eval e X.env)::starEach es X.env:=by rfl)(B:(backTo pos (starEach es X.env)).any (·.1)=false:=by rfl):
  PE X (.Call (.Name x p) (e::es) [] pos) (b5y sp dvs E t):=by
 intro pins s σ H Q I h
 refine wpAny_Call_Name_kw (b4Y I hg J ?_ j)
 refine W.callWith_K (h₀:=X.base) I.ok.mod.kin Y (thn (U pos pins s σ H _ I h) fun us Z⟨vs,H1,I1,r,q⟩=>⟨I1.kIn,?_⟩) O B
 exact b6m F D G hd hx I1 r q
end
section
variable{X:Cx}{CX:CXT}{k:Nat}{f C:Addr}{fd:FuncData}{ps ks:List Str}{sp:Sp}{E:XK}{x m:Str}{p pos apos kpos:Pos}{e o:Expr}{es:List Expr}{kws:List Keyword}{te ta:TE}{t tk:TA}{nm:Option Str}
variable{g:List Value->List Value->List Value}{gV:List V->List V->List V}
end
structure U3(N P:List Str)(sc:Scope):Prop where
 kind:sc.kind= .function
 co:sc.isCoroutine=false
 gen:sc.isGenerator=false
 nd:N.Nodup
 pre:N.take P.length=P
 par:∀x∈P,sc.names.lookup x=some .local\/sc.names.lookup x=some .cell
 nofree:∀y∈sc.names,y.2≠ .free
theorem a6X{j:Str->Option NameKind}{x:Str}:∀{binds:List (Str×Value)}{m:Str->Option Value},(∀v,(x,v)∉binds)->bindL j binds m x=m x
 | [],_,_=>rfl
 | (n,v)::r,m,h=>by
  unfold bindL
  rw[a6X fun w hw=>h w (AK _ hw)]
  split
  ·have:x≠n:=by rintro rfl;exact h v AM
   simp[this]
  ·rfl
theorem a6B{j:Str->Option NameKind}{x:Str}:∀{binds:List (Str×Value)}{m:Str->Option Value},(∀v,(x,v)∉binds)->bindC j binds m x=m x
 | [],_,_=>rfl
 | (n,v)::r,m,h=>by
  unfold bindC
  rw[a6B fun w hw=>h w (AK _ hw)]
  split
  ·rfl
  ·have:x≠n:=by rintro rfl;exact h v AM
   simp[this]
theorem a6r{j:Str->Option NameKind}{x:Str}{v:Value}:∀{P:List Str}{vs:List Value}{i:Nat}{m:Str->Option Value},P.Nodup->P[i]?=some x->vs[i]?=some v->j x=some .local->
  bindL j (P.zip vs) m x=some v
 | [],_,_,_,_,h,_,_=>by simp at h
 | _::_,[],_,_,_,_,h,_=>by simp at h
 | p::P,w::vs,0,m,nd,h1,h2,q=>by
  simp at h1 h2;subst h1;subst h2
  show bindL j ((p,w)::P.zip vs) m p=_
  unfold bindL
  rw[a6X fun v hv=>(BK.mp nd).1 (List.of_mem_zip hv).1,if_pos q]
  simp
 | p::P,w::vs,i+1,m,nd,h1,h2,q=>by
  show bindL j ((p,w)::P.zip vs) m x=_
  unfold bindL
  exact a6r (i:=i) (BK.mp nd).2 (by simpa using h1) (by simpa using h2) q
theorem a6S{j:Str->Option NameKind}{x:Str}{v:Value}:∀{P:List Str}{vs:List Value}{i:Nat}{m:Str->Option Value},P.Nodup->P[i]?=some x->vs[i]?=some v->j x≠some .local->
  bindC j (P.zip vs) m x=some v
 | [],_,_,_,_,h,_,_=>by simp at h
 | _::_,[],_,_,_,_,h,_=>by simp at h
 | p::P,w::vs,0,m,nd,h1,h2,q=>by
  simp at h1 h2;subst h1;subst h2
  show bindC j ((p,w)::P.zip vs) m p=_
  unfold bindC
  rw[a6B fun v hv=>(BK.mp nd).1 (List.of_mem_zip hv).1,if_neg q]
  simp
 | p::P,w::vs,i+1,m,nd,h1,h2,q=>by
  show bindC j ((p,w)::P.zip vs) m x=_
  unfold bindC
  exact a6S (i:=i) (BK.mp nd).2 (by simpa using h1) (by simpa using h2) q
noncomputable def a3O (N:List Str) (vs:List V):St:=vs.map some++List.replicate (N.length - vs.length) none
noncomputable def a9T (CX:CXT) (P:Program) (w:World) (K:W.Frag) (mg:Str->Option Value) (base:Heap) (N:List Str) (qual:Str) (scope:Scope) (f:Addr) (cd:Value) (A:Around) (outer:List Env) (s:Shared) (H:Hp) (E:XK):Cx where
 prog:=P
 w:=w
 K:=K
 mg:=mg
 base:=base
 A:=A.deeper (envOfC qual scope s.heap.objs.size f cd)
 N:=N
 s₀:=s
 H₀:=H
 env:=envOfC qual scope s.heap.objs.size f cd
 outer:=outer
 stack:=envOfC qual scope s.heap.objs.size f cd::outer
 ex:=[]
 calm:=true
 fn:=fun _=>true
 pn:=[]
 xe:=fun e s'=>wpAny (model P w) (A.deeper (envOfC qual scope s.heap.objs.size f cd)) (leaving (envOfC qual scope s.heap.objs.size f cd) e) (fun _ s''=>CX outer H s E e s'') (fun e' s''=>CX outer H s E e' s'') s'
theorem a8h{sc:Scope}{n:Nat}{x:Str}(h:sc.names.lookup x=some .cell):∃c,(cellsFrom n sc.names []).lookup x=some c:=by
 have q:=W.cellsFrom_some sc.names n [] (.inl h)
 exact Option.isSome_iff_exists.mp q
theorem b1d{CX:CXT}{P:Program}{w:World}{K:W.Frag}{mg:Str->Option Value}{base:Heap}{N ps:List Str}{j:Str}{scope:Scope}{f:Addr}{O:Value}{A:Around}{outer:List Env}{s U:Shared}{H:Hp}{E:XK}{us:List Value}{vs:List V}
  (S:U3 N ps scope)(hd:A.handled=none)(B:b5v P w K mg base A outer s H)(hl:vs.length=ps.length)(r:W6 vs us)
  (x:InCallC s s.heap.objs.size (bindL (envOfC j scope s.heap.objs.size f O).kindOf (ps.zip us) fun _=>none) (cellsFrom (s.heap.objs.size+1) scope.names []) (bindC (envOfC j scope s.heap.objs.size f O).kindOf (ps.zip us) fun _=>none) U):
  Inv (a9T CX P w K mg base N j scope f O A outer s H E) [] (a3O N vs) H U:=by
 have hb:ps.length<=N.length:=by have:=congrArg List.length S.pre;rw[AY]at this;omega
 obtain⟨h1,tk,rfl,Z⟩:=x.done
 have F:∀b:Addr,b∉(a9T CX P w K mg base N j scope f O A outer s H E).ex:=fun b z=>absurd (show b∈([]:List Addr)from z) (by simp)
 refine⟨⟨B.mod,S.kind,rfl,rfl,AI _,fun y z c h1 h2=>?_,fun y D=>?_,fun y c _ h=>?_,fun _=>hd,Around.frames_deeper B.frames,.inr ⟨rfl,rfl⟩,fun b z=>absurd z (F b),B.bs,B.bsz,fun b _ _=>F b,fun b z=>absurd z (F b),B.funs,B.frf⟩,
  rfl,B.bare,Un.kept Z,⟨_,x.toInCall.ns,fun i y v h1 h2 h3=>?_⟩,fun y c h=>⟨_,x.cell y c h⟩,B.hok.fresh (AI _),fun y c h=>?_,fun p J=>absurd (show p∈([]:List (Addr×Obj))from J) (by simp),B.hok.kept Z,?_⟩
 ·exact name_of_addr x.apart (PySem.mem_of_lookup h1) (PySem.mem_of_lookup h2)
 ·have D:scope.names.lookup y=some .cell\/scope.names.lookup y=some .free:=D
  rcases D with D | D
  ·exact a8h D
  ·exact absurd rfl (S.nofree _ (PySem.mem_of_lookup D))
 ·exact Nat.le_of_lt (x.above y c (PySem.mem_of_lookup h))
 ·have hi:i < vs.length:=by
   unfold a3O at h2
   by_cases hi:i < vs.length
   ·exact hi
   ·rw[BS (by simpa using hi)]at h2
    rw[List.getElem?_replicate]at h2
    split at h2<;>cases h2
  have ha:vs[i]?=some v:=by
   unfold a3O at h2
   rw[List.getElem?_append_left (by simpa using hi),List.getElem?_map]at h2
   cases e:vs[i]? with
   | none=>rw[e]at h2;cases h2
   | some a=>rw[e]at h2;cases h2;rfl
  obtain⟨u,Y,rv⟩:=r.get ha
  have J:ps[i]?=some y:=by
   rw[<-S.pre,List.getElem?_take_of_lt (by omega)];exact h1
  have G:ps.Nodup:=by rw[<-S.pre];exact S.nd.sublist (List.take_sublist _ _)
  refine⟨u,rv,?_⟩
  rcases S.par y (AD J)with k | k
  ·exact .inl ⟨k,a6r G J Y k⟩
  ·obtain⟨c,e⟩:=a8h (n:=s.heap.objs.size+1) k
   refine .inr ⟨.inl k,c,e,?_⟩
   have q:=x.cell y c e
   rw[a6S G J Y (by show scope.names.lookup y≠_;rw[k];decide)]at q
   exact q
 ·exact B.hok.fresh (Nat.le_of_lt (x.above y c (PySem.mem_of_lookup h)))
 ·unfold a3O
  show _=N.length
  rw[List.length_append,List.length_map,List.length_replicate]
  omega
theorem b7w{CX:CXT}{P:Program}{w:World}{K:W.Frag}{mg:Str->Option Value}{base:Heap}{k:Nat}{f:Addr}{name j:Str}{D:Arguments}{body:List Stmt}{scope:Scope}{dV kV ha pm B ct oc:Value}{an od:Option Addr}
  {hg:Array (Option Value)}{N ps:List Str}{sp:Sp}(lk:K.lookup f=some ⟨oc,od,.func (W.fnOf name j D body scope dV kV ha pm an B ct),hg⟩)(hc:W.codeIn K B j=true)(S:U3 N ps scope)
  (len:∀vs H Q E,sp vs H Q E->vs.length=ps.length)
  (O:∀(A:Around)(outer:List Env)(s:Shared)(H:Hp)(vs:List V)(Q:VK)(E:XK),a1R k (A.deeper (envOfC j scope s.heap.objs.size f B))->sp vs H Q E->
   ∃t,PSs (a9T CX P w K mg base N j scope f B A outer s H E) body t/\t {nx:=fun _ H'=>Q .non H',rt:=Q} (a3O N vs) H):
  a6j P w K mg base CX (k+1) f (W.fnOf name j D body scope dV kV ha pm an B ct) ps sp:=by
 refine⟨len,fun A outer s H hh us vs Q E hr Y hb r Z=>?_⟩
 have hl:=len _ _ _ _ Z
 have KX:K.In s.heap:=Y.mod.kin.keeps fun b o e=>(Y.bs b o e).1
 have hf:s.heap.NoLimit:=Y.mod.nolimit.keeps fun b o e=>(Y.bs b o e).1
 have G:∀y∈ps.zip us,scope.names.lookup y.1=some .local\/(scope.names.lookup y.1=some .cell/\((cellsFrom (s.heap.objs.size+1) scope.names []).lookup y.1).isSome=true):=fun⟨n,v⟩hy=>by
  rcases S.par n (List.of_mem_zip hy).1 with q | q
  ·exact .inl q
  ·exact .inr ⟨q,W.cellsFrom_some _ _ _ (.inl q)⟩
 refine codeAny_call_function hr.depth (KX _ _ lk) rfl S.co S.gen rfl (W.codeRec_of KX hc) (hb _ _ _ _ ?_)
 refine wpAny_newFunctionEnv_cells S.kind G fun env he s1 x=>?_
 subst he
 refine⟨hf.keeps x.toInCall.keep,codeAny_func ?_⟩
 obtain⟨t,ht,hq⟩:=O A outer s H vs Q E (hr.deeper _) Z
 have I:Inv (a9T CX P w K mg base N j scope f B A outer s H E) [] (a3O N vs) H s1:=b1d S hr.hd Y hl r x
 refine wpAny_mono (ht [] s1 (a3O N vs) H _ I hq) (fun fl s' U=>?_) fun e s' U=>U
 have fin:∀{F:St}{H':Hp}{v:V}{u:Value},Inv (a9T CX P w K mg base N j scope f B A outer s H E) [] F H' s'->W9 v u->Q v H'->CE outer P w H s Q u s':=
  fun{F H' v u}J rv q=>⟨v,H',J.os,J.bare,J.base,J.hok,rv,q⟩
 cases fl with
 | ret u=>
  obtain⟨v,F,H',J,rv,q⟩:=U
  exact fin J rv q
 | next=>
  obtain⟨F,H',J,q⟩:=U
  exact fin (v:=V.non) (u:=Value.none) J rfl q
 | brk=>
  obtain⟨_,_,_,q⟩:=U
  exact False.elim q
 | cont=>
  obtain⟨_,_,_,q⟩:=U
  exact False.elim q
end L2
namespace L2
open PySem PySem.Spec PyProof.Rows
section
variable{X:Cx}{x:Str}{p pos:Pos}{e:Expr}{es:List Expr}{t:TA}{id T:String}{r:List V->Hp->VK->Prop}
noncomputable def tCB (r:List V->Hp->VK->Prop) (t:TA):TE:=fun σ H Q=>t σ H fun vs H1=>r vs H1 Q
theorem U5(B:a1u X (.builtin id) r)(hg:Gl X x)(G:X.mg x=none)(hv:bootBuiltins x=some (.builtin id))(Y:PA X (e::es) t)(U:x≠ "__name__":=by decide)(j:(x==("__debug__":Str))=false:=by decide)
  (J:starEach (e::es) X.env=(false,eval e X.env)::starEach es X.env:=by rfl)(q:(backTo pos (starEach es X.env)).any (·.1)=false:=by rfl):PE X (.Call (.Name x p) (e::es) [] pos) (tCB r t):=by
 intro pins s σ H Q I h
 refine wpAny_Call_Name_kw (a1i I hg G hv ?_ U j)
 exact PyProof.Rows.callWith_builtin1 (thn (Y pos pins s σ H _ I h) fun us F⟨O,H1,I1,r1,D⟩=>B pins F σ H1 O us Q I1 r1 D) J q
theorem Y6(B:a1u X (.type T) r)(hg:Gl X x)(G:X.mg x=none)(hv:bootBuiltins x=some (.type T))(Y:PA X (e::es) t)(U:x≠ "__name__":=by decide)(j:(x==("__debug__":Str))=false:=by decide)
  (J:starEach (e::es) X.env=(false,eval e X.env)::starEach es X.env:=by rfl)(q:(backTo pos (starEach es X.env)).any (·.1)=false:=by rfl):PE X (.Call (.Name x p) (e::es) [] pos) (tCB r t):=by
 intro pins s σ H Q I h
 refine wpAny_Call_Name_kw (a1i I hg G hv ?_ U j)
 exact PyProof.Rows.callWith_type1 (thn (Y pos pins s σ H _ I h) fun us F⟨O,H1,I1,r1,D⟩=>B pins F σ H1 O us Q I1 r1 D) J q
end
end L2
namespace HT
open PySem PyProof.Rows
section
open PySem.SeqAt
open PySem.AutoSeq1 (wpAny_loadPart')
open PySem.MeetsSeq PySem.MeetsSeq2 PySem.MeetsSeq3
end
section
variable{prog:Program}{w:World}{A:Around}{E:Value->Shared->Prop}{s:Shared}
theorem b4T{t b:Addr}{vs j:List Value}{Q:Value->Shared->Prop}(ht:IsTup s.heap t vs.toArray)(hb:IsTup s.heap b j.toArray)(hv:vs≠[])
  (h1:j=[]->Q (.ref t) s)(h2:j≠[]->Q (.ref s.heap.objs.size) {s with heap:=s.heap.push {cls:= .type "tuple",data:= .seq (vs++j).toArray}})
  (hsz:vs.length+j.length<=sizeLine):wpAny (model prog w) A (binaryOp .Add (.ref t) (.ref b)) Q E s:=by
 obtain⟨⟨cls,dd,data,sl⟩,O,Y,n,hd⟩:=id ht
 obtain⟨⟨Z,D,U,J⟩,q,G,n2,B⟩:=id hb
 simp only at Y hd G B
 subst Y hd G B
 have e:vs.toArray++j.toArray=(vs++j).toArray:=by simp
 by_cases hw:j=[]
 ·exact concat_meets ⟨_,O,rfl⟩ ⟨_,q,rfl⟩ noFill_tuple_add seq_tuple_add PySem.F.slot_tuple_add PySem.F.entry_tuple_add (PySem.F.args_tuple_add_2 _ _)
   (tuple_addW1 t b vs.toArray j.toArray n n2 dd D sl J (by simpa using hv) (by simp[hw])) ⟨O,q,h1 hw⟩
 ·refine concat_meets ⟨_,O,rfl⟩ ⟨_,q,rfl⟩ noFill_tuple_add seq_tuple_add PySem.F.slot_tuple_add PySem.F.entry_tuple_add (PySem.F.args_tuple_add_2 _ _)
   (tuple_addW2 t b vs.toArray j.toArray n n2 dd D sl J (by simpa using hv) (by simpa using hw) (by rw[List.size_toArray,List.size_toArray];exact hsz)) ⟨O,q,?_⟩
  rw[e]
  exact h2 hw
noncomputable def sIx (n d:Nat):Option Int->Nat
 | none=>d
 | some v=>if v < 0 then(v+(n:Int)).toNat else min v.toNat n
theorem b6t(n d:Nat)(hd:d<=n)(o:Option Int):sIx n d o<=n:=by
 cases o with
 | none=>exact hd
 | some v=>
  show(if v < 0 then(v+(n:Int)).toNat else min v.toNat n)<=n
  by_cases hv:v < 0
  ·rw[if_pos hv];omega
  ·rw[if_neg hv];exact Nat.min_le_right _ _
theorem b0s(v:Int)(n d:Nat):(if v < 0 then max (v+(n:Int)) 0 else min v (n:Int))=((sIx n d (some v):Nat):Int):=by
 show(if v < 0 then max (v+(n:Int)) 0 else min v (n:Int))=(((if v < 0 then(v+(n:Int)).toNat else min v.toNat n):Nat):Int)
 by_cases hv:v < 0
 ·simp only[if_pos hv];omega
 ·simp only[if_neg hv];omega
theorem a3r{v:Value}{o:Option Int}{Q:Option Int->Shared->Prop}(p:IsPart v o)(h:Q o s):wpAny (model prog w) A (Builtin.Slice.slicePartIndex v) Q E s:=by
 cases p with
 | none=>exact slicePart_none h
 | int i t=>exact slicePart_int h
end
end HT
namespace L2
open PySem PySem.Spec PyProof.Rows
noncomputable abbrev TO:=St->Hp->(Option Int->Hp->Prop)->Prop
noncomputable def PO (X:Cx) (e:Option Expr) (t:TO):Prop:=
 ∀(pins:List (Addr×Obj))(s:Shared)(σ:St)(H:Hp)(Q:Option Int->Hp->Prop),Inv X pins σ H s->t σ H Q->
  wpAny (model X.prog X.w) X.A (evalPart e X.env) (fun u s'=>∃o H',Inv X pins σ H' s'/\IsPart u o/\Q o H') X.xe s
noncomputable def b5b:TO:=fun _ H Q=>Q none H
noncomputable def b6U (t:TE):TO:=fun σ H Q=>t σ H fun x H1=>∃i,x= .int i/\Q (some i) H1
section
variable{X:Cx}{e:Expr}{te:TE}{lo hi:Option Expr}{tl th:TO}{pos p2:Pos}
theorem b4l:PO X none b5b:=by
 intro pins s σ H Q I h
 rw[evalPart_none]
 exact AB ⟨none,H,I,.none,h⟩
theorem a5i(h:PE X e te):PO X (some e) (b6U te):=by
 intro pins s σ H Q I hw
 rw[evalPart_some]
 refine thn (h pins s σ H _ I hw) fun u B⟨x,H1,I1,r1,j⟩=>?_
 obtain⟨i,rfl,q⟩:=j
 obtain⟨t,rfl⟩:=r1
 exact⟨some i,H1,I1,.int i t,q⟩
noncomputable def SlR (X:Cx) (r:V->Option Int->Option Int->Hp->VK->Prop):Prop:=
 ∀(pins:List (Addr×Obj))(s:Shared)(σ:St)(H:Hp)(x:V)(v vl vu:Value)(lo hi:Option Int)(sl:Addr)(Q:VK),Inv X pins σ H s->W9 x v->s.heap.IsSliceOf sl vl vu .none->IsPart vl lo->IsPart vu hi->r x lo hi H Q->
  ∃T id,typeLookup (.type T) "__getitem__"=pure (some (.builtin id))/\s.TypeIs v T/\wpAny (model X.prog X.w) X.A (getItem v (.ref sl)) (EP X pins σ Q) X.xe s
noncomputable def tSl (r:V->Option Int->Option Int->Hp->VK->Prop) (te:TE) (tl th:TO):TE:=fun σ H Q=>te σ H fun x H1=>tl σ H1 fun l H2=>th σ H2 fun u H3=>r x l u H3 Q
theorem b2B{r:V->Option Int->Option Int->Hp->VK->Prop}(J:SlR X r)(he:PE X e te)(hl:PO X lo tl)(hu:PO X hi th):PE X (.Subscript e (.Slice lo hi none p2) pos) (tSl r te tl th):=by
 intro pins s σ H Q I h
 refine Subscript_ (thn (he pins s σ H _ I h) fun v Z⟨x,H1,I1,r1,Y⟩=>?_)
 refine wpAny_Slice (thn (hl pins Z σ H1 _ I1 Y) fun B s2⟨l,H2,I2,pl,G⟩=>thn (hu pins s2 σ H2 _ I2 G) fun D j⟨u,F,I3,O,U⟩=>?_)
 rw[evalPart_none]
 refine AB ?_
 have I4:Inv X pins σ F {j with heap:=j.heap.push {cls:= .type "slice",data:= .fields #[B,D,.none]}}:=I3.kept (t':=j.toks) fun b ob q=>AF _ q
 obtain⟨T,id,hT,ht,hg⟩:=J pins {j with heap:=j.heap.push {cls:= .type "slice",data:= .fields #[B,D,.none]}} σ F x v B D l u j.heap.objs.size Q I4 r1 (Heap.IsSliceOf.new ..) pl O U
 show wpAny (model X.prog X.w) X.A (subscriptTail e (.Slice lo hi none p2) v (.ref j.heap.objs.size)) (EP X pins σ Q) X.xe {j with heap:=j.heap.push {cls:= .type "slice",data:= .fields #[B,D,.none]}}
 exact tail_any (ops:=[.ref j.heap.objs.size,v]) ht hT hg (by with_unfolding_all rfl)
noncomputable def b1H (xs:List V) (lo hi:Option Int):List V:=(xs.drop (HT.sIx xs.length 0 lo)).take (HT.sIx xs.length xs.length hi - HT.sIx xs.length 0 lo)
theorem a8l(xs:List V)(lo hi:Option Int):(b1H xs lo hi).length<=xs.length:=by
 unfold b1H
 rw[AY,List.length_drop]
 omega
noncomputable def b6Y (K:W.Frag):R2:=fun x y H Q=>∃a b xs ys,x= .ref a/\y= .ref b/\SqT K H a xs/\SqT K H b ys/\xs≠[]/\xs.length+ys.length<=sizeLine/\
 (ys=[]->Q (.ref a) H)/\(ys≠[]->∀p,H p=none->Q (.ref p) (upd H p (.tup (xs++ys))))
theorem W6.nil_iff{xs:List V}{us:List Value}(r:W6 xs us):us=[]↔xs=[]:=by
 cases r with
 | nil=>simp
 | cons _ _=>simp
theorem b5k:OpR X (binaryOp .Add) (b6Y X.K):=by
 intro pins s σ H x y v u Q I U Z h
 obtain⟨a,b,xs,ys,rfl,rfl,Y,J,hx,B,G,D⟩:=h
 cases U
 cases Z
 obtain⟨O,r1,F,_⟩:=I.tuple Y
 obtain⟨j,r2,p2,_⟩:=I.tuple J
 refine HT.b4T F p2 (fun z=>hx (r1.nil_iff.mp z)) (fun z=>⟨.ref a,H,I,rfl,G (r2.nil_iff.mp z)⟩) (fun z=>?_) (by rw[<-r1.length,<-r2.length];exact B)
 refine⟨.ref s.heap.objs.size,_,I.laid (t':=s.toks) (o:= .tup (xs++ys)) (fun b ob q=>AF _ q) (AI _) ?_,rfl,D (fun w=>z (r2.nil_iff.mpr w)) _ (I.hok.fresh (AI _))⟩
 exact⟨by rw[List.length_append];exact B,_,r1.append r2,IsTup.new _ _⟩
end
end L2
namespace L2
open PySem PySem.Spec PyProof.Rows
noncomputable def ixN (n:Nat) (i:Int):Option Nat:=if 0<=i then(if i < n then some i.toNat else none)else if -(n:Int)<=i then some (i+n).toNat else none
noncomputable def atI {α:Type} (xs:List α) (i:Int):Option α:=(ixN xs.length i).bind fun j=>xs[j]?
theorem b0l{n:Nat}{i:Int}{j:Nat}(h:ixN n i=some j):seqIndex? i n=some j/\j < n/\ -(n:Int)<=i/\i < n:=by
 unfold ixN at h
 by_cases q:0<=i
 ·rw[if_pos q]at h
  by_cases h1:i < n
  ·rw[if_pos h1]at h
   have e:i.toNat=j:=Option.some.inj h
   exact⟨by rw[seqIndex_of q h1,e],by omega,by omega,h1⟩
  ·rw[if_neg h1]at h;cases h
 ·rw[if_neg q]at h
  by_cases h1: -(n:Int)<=i
  ·rw[if_pos h1]at h
   have e:(i+n).toNat=j:=Option.some.inj h
   exact⟨by rw[seqIndex_neg (by omega) h1,e],by omega,h1,by omega⟩
  ·rw[if_neg h1]at h;cases h
theorem a7K{α:Type}{xs:List α}{i:Int}{v:α}(h:atI xs i=some v):∃j,seqIndex? i xs.length=some j/\xs[j]?=some v/\j < xs.length/\ -(xs.length:Int)<=i/\i < xs.length:=by
 unfold atI at h
 cases e:ixN xs.length i with
 | none=>rw[e]at h;cases h
 | some j=>
  rw[e]at h
  obtain⟨h1,h2,B,q⟩:=b0l e
  exact⟨j,h1,h,h2,B,q⟩
theorem R3{α:Type}{xs:List α}{j:Nat}{v:α}(h:xs[j]?=some v):atI xs (j:Int)=some v:=by
 have q:j < xs.length:=(List.getElem?_eq_some_iff.mp h).1
 have e:ixN xs.length (j:Int)=some j:=by
  unfold ixN
  rw[if_pos (by omega),if_pos (by omega)];simp
 unfold atI;rw[e];exact h
noncomputable def b5g (b:Expr):Prop:=∀o i,subscripted b false o i=operate [o,i] (getItem o i)
noncomputable def IxR (X:Cx) (r:R2):Prop:=
 ∀(value slice:Expr)(pins:List (Addr×Obj))(s:Shared)(σ:St)(H:Hp)(x y:V)(v u:Value)(Q:VK),Inv X pins σ H s->W9 x v->W9 y u->r x y H Q->
  subscripted slice false v u=operate [v,u] (getItem v u)->wpAny (model X.prog X.w) X.A (subscriptTail value slice v u) (EP X pins σ Q) X.xe s
noncomputable def MtR (X:Cx) (id:String) (r:V->List V->Hp->VK->Prop):Prop:=
 ∀(pins:List (Addr×Obj))(s:Shared)(σ:St)(H:Hp)(x:V)(xs:List V)(v:Value)(us:List Value)(Q:VK),Inv X pins σ H s->W9 x v->W6 xs us->r x xs H Q->
  wpAny (model X.prog X.w) X.A (call (.builtin id) (v::us)) (EP X pins σ Q) X.xe s
section
variable{X:Cx}{a b:Expr}{ta tb:TE}{pos:Pos}
theorem I0{r:R2}(j:IxR X r)(J:PE X a ta)(B:PE X b tb)(G:b5g b):PE X (.Subscript a b pos) (tOp r ta tb):=by
 intro pins s σ H Q I h
 exact Subscript_ (b6M J B I h fun v u F x y H2 I2 D O q=>j a b pins F σ H2 x y v u Q I2 D O q (G _ _))
noncomputable def b7L (K:W.Frag):R2:=fun x y H Q=>∃p xs i v,x= .ref p/\y= .int i/\SqL K H p xs/\atI xs i=some v/\Q v H
noncomputable def b7x (K:W.Frag):R2:=fun x y H Q=>∃p xs i v,x= .ref p/\y= .int i/\SqT K H p xs/\atI xs i=some v/\Q v H
noncomputable def b8c:R2:=fun x y H Q=>∃z i c,x= .str z/\y= .int i/\z.length<=sizeLine/\atI z.cps.toList i=some c/\Q (.str ⟨#[c]⟩) H
theorem J7:IxR X (b7L X.K):=by
 intro value J pins s σ H x y v u Q I rx ry h U
 obtain⟨p,xs,i,z,rfl,rfl,hq,he,q⟩:=h
 cases rx
 obtain⟨t,rfl⟩:=ry
 obtain⟨D,r,G,hz⟩:=I.list hq
 obtain⟨j,h1,h2,h3,Z,h5⟩:=a7K he
 obtain⟨w,O,F⟩:=r.get h2
 have hl:=r.length
 have hn:=a4A
 have fin:EP X pins σ Q w s:=⟨z,H,I,F,q⟩
 by_cases Y:0<=i
 ·have B:i.toNat=j:=by
   rw[seqIndex_of Y h5]at h1
   exact Option.some.inj h1
  exact item_listR G.isList Y (by omega) (by rw[B];simpa using O) fin U
 ·have B:(i+(D.toArray.size:Int)).toNat=j:=by
   rw[seqIndex_neg (by omega) Z]at h1
   rw[List.size_toArray,<-hl]
   exact Option.some.inj h1
  exact subscriptTail_builtinR (x:=w) G.isList.typeIs slot_list_getitem.lookup
   (wpAny_getItem_list_neg (Q:=fun r s'=>r=w/\EP X pins σ Q r s') G.isList (by omega) (by rw[List.size_toArray]<;>omega) (by omega) (by rw[B];simpa using O) ⟨rfl,fin⟩) U
theorem J5:IxR X (b7x X.K):=by
 intro value D pins s σ H x y v u Q I Y ry h Z
 obtain⟨p,xs,i,z,rfl,rfl,O,U,q⟩:=h
 cases Y
 obtain⟨t,rfl⟩:=ry
 obtain⟨J,r,F,hz⟩:=I.tuple O
 obtain⟨j,h1,h2,h3,h4,h5⟩:=a7K U
 obtain⟨w,G,B⟩:=r.get h2
 have hl:=r.length
 have hn:=a4A
 have fin:EP X pins σ Q w s:=⟨z,H,I,B,q⟩
 exact subscriptTail_builtinR (x:=w) F.typeIs slot_tuple_getitem.lookup
  (getItem_tuple (j:=j) (Q:=fun r s'=>r=w/\EP X pins σ Q r s') F (by omega) (by omega) (by rw[List.size_toArray,<-hl];exact h1) (by simpa using G) ⟨rfl,fin⟩) Z
theorem a5E:IxR X b8c:=by
 intro value B pins s σ H x y v u Q I O Z h U
 obtain⟨z,i,c,rfl,rfl,hz,J,q⟩:=h
 obtain⟨t,rfl⟩:=O
 obtain⟨t',rfl⟩:=Z
 obtain⟨j,h1,h2,h3,D,G⟩:=a7K J
 have hl:z.cps.toList.length=z.length:=by simp[Str.length]
 rw[hl]at h1 D G
 have hn:=a4A
 exact tail_any (typeIs_str s z t) slot_str_getitem.lookup (getItem_str (c:=c) (by
  have F:decide (i < -(2 ^ 63:Int))=false:=AZ (by omega)
  have Y:decide (i≥2 ^ 63)=false:=AZ (by omega)
  rw[F,Y,Bool.or_false]) (by rw[h1];simpa using h2) ⟨.str ⟨#[c]⟩,H,I.tok _,⟨_,rfl⟩,q⟩) U
theorem a9c(its:List Value)(n j:Nat)(u:Value):Obj.mapSeq (·.setIfInBounds j u) {cls:= .type "list",data:= .seq its.toArray n}={cls:= .type "list",data:= .seq (its.set j u).toArray n}:=by
 simp[Obj.mapSeq]
theorem Inv.lst{pins:List (Addr×Obj)}{σ:St}{H:Hp}{s:Shared}{p:Addr}{xs:List V}(I:Inv X pins σ H s)(h:H p=some (.lst xs)):
  ∃(its:List Value)(n:Nat),W6 xs its/\s.heap.get? p=some {cls:= .type "list",data:= .seq its.toArray n}/\xs.length<=sizeLine:=by
 obtain⟨z,its,n,r,e⟩:=I.hok p _ h
 exact⟨its,n,r,e,z⟩
theorem Inv.lstUpd{pins:List (Addr×Obj)}{σ:St}{H:Hp}{s:Shared}{p:Addr}{xs ys:List V}{its its':List Value}{n j:Nat}{f:Obj->Obj}(I:Inv X pins σ H s)(h:H p=some (.lst xs))
  (D:s.heap.get? p=some {cls:= .type "list",data:= .seq its.toArray n})(hf:f {cls:= .type "list",data:= .seq its.toArray n}={cls:= .type "list",data:= .seq its'.toArray j})(r:W6 ys its')(hz:ys.length<=sizeLine)(t:Nat):
  Inv X pins σ (upd H p (.lst ys)) {s with heap:=s.heap.update p f,toks:=t}:=by
 have e:(s.heap.update p f).get? p=some {cls:= .type "list",data:= .seq its'.toArray j}:=by
  rw[BL f D (by rw[hf]<;>rfl),hf]
 refine I.write (x:=p) (e:=p) (by rw[h];trivial) (.inl rfl) (fun b u B q=>(Heap.get?_update_other _ _ (Ne.symm B)).trans q) ⟨_,e⟩ ?_
 exact⟨hz,its',j,r,e⟩
noncomputable def b7u:V->V->V->Hp->(Hp->Prop)->Prop:=fun o i v H Q=>∃p xs k j,o= .ref p/\i= .int k/\H p=some (.lst xs)/\ixN xs.length k=some j/\Q (upd H p (.lst (xs.set j v)))
theorem b2O:b7a X b7u:=by
 intro pins s σ H o i v ov iv u Q I ro ri rv h
 obtain⟨p,xs,k,j,rfl,rfl,J,Z,q⟩:=h
 cases ro
 obtain⟨t,rfl⟩:=ri
 obtain⟨B,n,r,D,hz⟩:=I.lst J
 obtain⟨h1,h2,G,U⟩:=b0l Z
 have hl:=r.length
 have hn:=a4A
 have Y:Inv X pins σ (upd H p (.lst (xs.set j v))) {s with heap:=s.heap.update p (Obj.mapSeq (·.setIfInBounds j u))}:=
  I.lstUpd J D (a9c B n j u) (r.set rv j) (by rw[List.length_set];exact hz) s.toks
 by_cases O:0<=k
 ·have F:k.toNat=j:=by
   rw[seqIndex_of O U]at h1
   exact Option.some.inj h1
  exact W.ki_setAt D O (by omega) (by rw[List.size_toArray,<-hl];exact U) (by rw[F];exact⟨_,Y,q⟩)
 ·have F:(k+(B.toArray.size:Int)).toNat=j:=by
   rw[seqIndex_neg (by omega) G]at h1
   rw[List.size_toArray,<-hl]
   exact Option.some.inj h1
  exact W.ki_setBack D (by omega) (by rw[List.size_toArray,<-hl];exact G) (by omega) (by rw[F];exact⟨_,Y,q⟩)
theorem a7G(lo hi:Option Int)(n:Nat):(sliceBounds lo hi none n).1=((HT.sIx n 0 lo:Nat):Int)/\(sliceBounds lo hi none n).2.1=((HT.sIx n n hi:Nat):Int)/\(sliceBounds lo hi none n).2.2=1:=by
 refine⟨?_,?_,rfl⟩
 ·cases lo with
  | none=>simp[sliceBounds,HT.sIx]
  | some i=>
   simp only[sliceBounds,HT.sIx,Option.getD_none,show(1:Int) > 0 by decide,if_true]
   by_cases h:i < 0
   ·simp only[h,if_true]<;>omega
   ·simp only[h,if_false]<;>omega
 ·cases hi with
  | none=>simp[sliceBounds,HT.sIx]
  | some i=>
   simp only[sliceBounds,HT.sIx,Option.getD_none,show(1:Int) > 0 by decide,if_true]
   by_cases h:i < 0
   ·simp only[h,if_true]<;>omega
   ·simp only[h,if_false]<;>omega
theorem a6o(its:List Value)(lo hi:Option Int):slicePick its.toArray lo hi none=((its.drop (HT.sIx its.length 0 lo)).take (HT.sIx its.length its.length hi - HT.sIx its.length 0 lo)).toArray:=by
 obtain⟨h1,h2,j⟩:=a7G lo hi its.toArray.size
 unfold slicePick
 rw[h1,h2,j]
 simp only[sliceRange_one,pick_run,List.size_toArray]<;>rfl
noncomputable def b8t (K:W.Frag):V->Option Int->Option Int->Hp->VK->Prop:=fun x lo hi H Q=>∃a xs,x= .ref a/\SqL K H a xs/\∀p,H p=none->Q (.ref p) (upd H p (.lst (b1H xs lo hi)))
theorem b4s:SlR X (b8t X.K):=by
 intro pins s σ H x v U vu lo hi Y Q I F J O B h
 obtain⟨a,xs,rfl,hx,q⟩:=h
 cases F
 obtain⟨D,r,ht,G⟩:=I.list hx
 have j:=r.length
 refine⟨"list",_,slot_list_getitem.lookup,ht.isList.typeIs,?_⟩
 refine wpAny_getItem_list_slice ht.isList J O B .none (by simp) ?_ (by rw[List.size_toArray]<;>omega)
 rw[a6o,<-j]
 refine⟨.ref s.heap.objs.size,_,I.laid (t':=s.toks) (o:= .lst (b1H xs lo hi)) (fun b Z q=>AF _ q) (AI _) ?_,rfl,q _ (I.hok.fresh (AI _))⟩
 exact⟨Nat.le_trans (a8l xs lo hi) G,_,0,(r.drop (HT.sIx xs.length 0 lo)).take (HT.sIx xs.length xs.length hi - HT.sIx xs.length 0 lo),AJ _ rfl⟩
noncomputable def a1L:V->Bool
 | .non=>true
 | .bl _=>true
 | .int _=>true
 | .str _=>true
 | _=>false
noncomputable def eqV:V->V->Bool
 | .non,.non=>true
 | .bl a,.bl b=>a==b
 | .bl a,.int b=>(if a then 1 else 0)==b
 | .int a,.bl b=>a==(if b then 1 else 0)
 | .int a,.int b=>a==b
 | .str a,.str b=>a==b
 | _,_=>false
theorem a9Q{A:Around}{s:Shared}{y x:V}{u v:Value}(q:W9 y u)(j:W9 x v)(D:a1L y=true)(B:a1L x=true):SeqAt.EqAt A s u v (eqV y x):=by
 cases y with
 | non=>
  cases q
  cases x with
  | non=>cases j;exact SeqAt.EqAt.same _
  | bl b=>cases j;exact SeqAt.EqAt.none_bool b
  | int b=>obtain⟨t,rfl⟩:=j;exact SeqAt.EqAt.none_int b t
  | str b=>obtain⟨t,rfl⟩:=j;exact SeqAt.EqAt.none_str b t
  | _=>exact absurd (show false=true from B) AH
 | bl a=>
  cases q
  cases x with
  | non=>cases j;exact SeqAt.EqAt.bool_none a
  | bl b=>cases j;exact SeqAt.EqAt.bool_bool a b
  | int b=>obtain⟨t,rfl⟩:=j;exact SeqAt.EqAt.bool_int a b t
  | str b=>obtain⟨t,rfl⟩:=j;exact SeqAt.EqAt.bool_str a b t
  | _=>exact absurd (show false=true from B) AH
 | int a=>
  obtain⟨t',rfl⟩:=q
  cases x with
  | non=>cases j;exact SeqAt.EqAt.int_none a t'
  | bl b=>cases j;exact SeqAt.EqAt.int_bool a t' b
  | int b=>obtain⟨t,rfl⟩:=j;exact SeqAt.EqAt.int_int a t' b t
  | str b=>obtain⟨t,rfl⟩:=j;exact SeqAt.EqAt.int_str a t' b t
  | _=>exact absurd (show false=true from B) AH
 | str a=>
  obtain⟨t',rfl⟩:=q
  cases x with
  | non=>cases j;exact SeqAt.EqAt.str_none a t'
  | bl b=>cases j;exact SeqAt.EqAt.str_bool a t' b
  | int b=>obtain⟨t,rfl⟩:=j;exact SeqAt.EqAt.str_int a t' b t
  | str b=>obtain⟨t,rfl⟩:=j;exact SeqAt.EqAt.str_str a t' b t
  | _=>exact absurd (show false=true from B) AH
 | _=>exact absurd (show false=true from D) AH
noncomputable def eqU (x:V) (u:Value):Bool:=match u with
 | .none=>eqV .non x
 | .bool b=>eqV (.bl b) x
 | .int i _=>eqV (.int i) x
 | .str z _=>eqV (.str z) x
 | _=>false
theorem b2Q{x y:V}{u:Value}(r:W9 y u)(f:a1L y=true):eqU x u=eqV y x:=by
 cases y with
 | non=>cases r;rfl
 | bl b=>cases r;rfl
 | int i=>obtain⟨t,rfl⟩:=r;rfl
 | str z=>obtain⟨t,rfl⟩:=r;rfl
 | _=>exact absurd (show false=true from f) AH
theorem a4a{x:V}:∀{xs:List V}{us:List Value},W6 xs us->xs.all a1L=true->us.any (eqU x)=xs.any fun y=>eqV y x
 | _,_,.nil,_=>rfl
 | y::xs,u::us,.cons r t,f=>by
  rw[List.all_cons,Bool.and_eq_true]at f
  rw[List.any_cons,List.any_cons,b2Q r f.1,a4a t f.2]
theorem a2y{A:Around}{s:Shared}{x:V}{v:Value}(B:W9 x v)(q:a1L x=true):∀{xs:List V}{us:List Value},W6 xs us->xs.all a1L=true->∀u∈us,SeqAt.EqAt A s u v (eqU x u)
 | _,_,.nil,_=>fun u j=>by cases j
 | y::xs,u::us,.cons r t,f=>fun D j=>by
  rw[List.all_cons,Bool.and_eq_true]at f
  rcases List.mem_cons.mp j with rfl | j
  ·rw[b2Q r f.1];exact a9Q r B f.1 q
  ·exact a2y B q t f.2 D j
noncomputable def inV (x:V) (xs:List V):Bool:=xs.any fun y=>eqV y x
noncomputable def rIn (K:W.Frag) (neg:Bool):R2:=fun x y H Q=>∃p xs,y= .ref p/\(SqL K H p xs\/SqT K H p xs)/\a1L x=true/\xs.all a1L=true/\Q (.bl (if neg then !inV x xs else inV x xs)) H
theorem a4z:OpR X (compareOp .In) (rIn X.K false):=by
 intro pins s σ H x y v u Q I G O h
 obtain⟨p,xs,rfl,B,F,fs,q⟩:=h
 cases O
 rcases B with B | B
 ·obtain⟨j,r,D,J⟩:=I.list B
  refine SeqAt.in_listAt (eqU x) D.isList (fun w hw=>a2y G F r fs w (by simpa using hw)) ⟨.bl _,H,I,rfl,?_⟩
  rw[show j.toArray.any (eqU x)=j.any (eqU x)by simp,a4a r fs]
  exact q
 ·obtain⟨j,r,D,J⟩:=I.tuple B
  refine SeqAt.in_tupleAt (eqU x) D (fun w hw=>a2y G F r fs w (by simpa using hw)) ⟨.bl _,H,I,rfl,?_⟩
  rw[show j.toArray.any (eqU x)=j.any (eqU x)by simp,a4a r fs]
  exact q
theorem a7M:OpR X (compareOp .NotIn) (rIn X.K true):=by
 intro pins s σ H x y v u Q I G O h
 obtain⟨p,xs,rfl,B,F,fs,q⟩:=h
 cases O
 rcases B with B | B
 ·obtain⟨j,r,D,J⟩:=I.list B
  refine SeqAt.notIn_listAt (eqU x) D.isList (fun w hw=>a2y G F r fs w (by simpa using hw)) ⟨.bl _,H,I,rfl,?_⟩
  rw[show j.toArray.any (eqU x)=j.any (eqU x)by simp,a4a r fs]
  exact q
 ·obtain⟨j,r,D,J⟩:=I.tuple B
  refine SeqAt.notIn_tupleAt (eqU x) D (fun w hw=>a2y G F r fs w (by simpa using hw)) ⟨.bl _,H,I,rfl,?_⟩
  rw[show j.toArray.any (eqU x)=j.any (eqU x)by simp,a4a r fs]
  exact q
theorem R5:a1u X (.builtin "len") (fun xs H Q=>∃p ys,xs=[.ref p]/\(SqL X.K H p ys\/SqT X.K H p ys)/\Q (.int ys.length) H):=by
 intro pins s σ H xs us Q I r h
 obtain⟨p,ys,rfl,B,q⟩:=h
 obtain⟨u,rfl,J⟩:=a3H r
 cases J
 have U:=a4A
 rcases B with B | B
 ·obtain⟨D,G,F,O⟩:=I.list B
  have j:=G.length
  exact Calls.call_len_list F.isList (by simp only[List.size_toArray]<;>omega) ⟨.int ys.length,H,I.tok _,⟨s.toks+1,by rw[List.size_toArray,j]⟩,q⟩
 ·obtain⟨D,G,F,O⟩:=I.tuple B
  have j:=G.length
  exact len_tuple F (by simp only[List.size_toArray]<;>omega) ⟨.int ys.length,H,I.tok _,⟨s.toks+1,by rw[List.size_toArray,j]⟩,q⟩
theorem E2:a1u X (.type "tuple") (fun xs H Q=>∃p ys,xs=[.ref p]/\((SqL X.K H p ys/\∀l,H l=none->Q (.ref l) (upd H l (.tup ys)))\/(SqT X.K H p ys/\Q (.ref p) H))):=by
 intro pins s σ H xs us Q I r h
 obtain⟨p,ys,rfl,h⟩:=h
 obtain⟨u,rfl,O⟩:=a3H r
 cases O
 rcases h with⟨B,q⟩ | ⟨B,q⟩
 ·obtain⟨j,F,D,G⟩:=I.list B
  have J:=F.length
  refine call_tuple_list D.isList (fun h' kp=>?_) (by simp only[List.size_toArray]<;>omega)
  have I1:Inv X pins σ H {s with heap:=h'}:=I.kept (t':=s.toks) kp
  have I2:Inv X pins σ (upd H h'.objs.size (.tup ys)) {s with heap:=h'.push {cls:= .type "tuple",data:= .seq j.toArray}}:=
   I1.laid (t':=s.toks) (fun b o e=>AF _ e) (AI _) (show O5 X.prog X.w _ _ _ (.tup ys)from⟨G,j,F,IsTup.new _ _⟩)
  exact⟨.ref h'.objs.size,_,I2,rfl,q _ (I1.hok.fresh (AI _))⟩
 ·obtain⟨j,F,D,G⟩:=I.tuple B
  exact call_tuple_same D ⟨.ref p,H,I,rfl,q⟩
noncomputable def tyV (K:W.Frag) (T:String) (x:V) (H:Hp):Prop:=match x with
 | .str _=>T="str"
 | .int _=>T="int"
 | .ref p=>(T="list"/\∃xs,SqL K H p xs)\/(T="tuple"/\∃o,K.lookup p=some o/\o.cls= .type "tuple"/\o.dict=none)\/
   (T="dict"/\((∃kvs,H p=some (.dK kvs))\/∃kvs,H p=some (.dT kvs)))\/(T="set"/\∃S n,H p=some (.set S n))
 | _=>False
theorem b3e{pins:List (Addr×Obj)}{σ:St}{H:Hp}{s:Shared}{T:String}{x:V}{v:Value}(I:Inv X pins σ H s)(r:W9 x v)(ty:tyV X.K T x H):
  s.TypeIs v T/\∀a,v= .ref a->∃B,s.heap.get? a=some B/\B.dict=none:=by
 cases x with
 | str z=>
  obtain⟨t,rfl⟩:=r
  cases(show T="str" from ty)
  exact⟨typeIs_str s z t,fun _ e=>nomatch e⟩
 | int i=>
  obtain⟨t,rfl⟩:=r
  cases(show T="int" from ty)
  exact⟨typeIs_int s i t,fun _ e=>nomatch e⟩
 | ref p=>
  cases r
  rcases ty with⟨rfl,xs,J⟩ | ⟨rfl,o,j,F,hd⟩ | ⟨rfl,j⟩ | ⟨rfl,S,n,j⟩
  ·obtain⟨G,_,D,_⟩:=I.list J
   refine⟨D.isList.typeIs,fun a e=>?_⟩
   cases e
   obtain⟨o,n,e,c,hd,_⟩:=D
   exact⟨o,e,hd⟩
  ·refine⟨⟨o,I.kIn p o j,F⟩,fun a e=>?_⟩
   cases e
   exact⟨o,I.kIn _ o j,hd⟩
  ·have z:∃o,s.heap.get? p=some o/\o.ExactDict:=by
    rcases j with⟨kvs,j⟩ | ⟨kvs,j⟩
    ·obtain⟨_,_,_,_,o,_,_,e,ex,_⟩:=I.hok p _ j
     exact⟨o,e,ex⟩
    ·obtain⟨_,_,_,_,o,_,_,e,ex,_⟩:=I.hok p _ j
     exact⟨o,e,ex⟩
   obtain⟨o,e,ex⟩:=z
   refine⟨⟨o,e,ex.1⟩,fun a q=>?_⟩
   cases q
   exact⟨o,e,ex.2.1⟩
  ·obtain⟨o,_,_,_,e,ex,_⟩:=I.hok p _ j
   refine⟨⟨o,e,ex.1⟩,fun a q=>?_⟩
   cases q
   exact⟨o,e,ex.2.1⟩
 | _=>exact False.elim ty
noncomputable def b7O (K:W.Frag) (T:String) (r:V->List V->Hp->VK->Prop) (to:TE):TE:=fun σ H Q=>to σ H fun x H1=>tyV K T x H1/\r x [] H1 Q
noncomputable def tBM (K:W.Frag) (T:String) (r:V->List V->Hp->VK->Prop) (to:TE) (t:TA):TE:=fun σ H Q=>to σ H fun x H1=>tyV K T x H1/\t σ H1 fun xs H2=>r x xs H2 Q
variable{o e:Expr}{es:List Expr}{to:TE}{t:TA}{name:Str}{apos cpos:Pos}{T id:String}{r:V->List V->Hp->VK->Prop}
theorem a7s(O:PlainAttrs T)(slot:Slot T name id)(B:typeOf (.builtin id)=pure (.type "method_descriptor"))(G:MtR X id r)(J:PE X o to)
  (q:attributeBase o name X.env (eval o X.env)=eval o X.env:=by rfl)(j:(apos.endLine==cpos.line)=true:=by rfl):PE X (.Call (.Attribute o name apos) [] [] cpos) (b7O X.K T r to):=by
 intro pins s σ H Q I h
 refine wpAny_Call_method0_late q j (thn (J pins s σ H _ I h) fun v F⟨x,H1,I1,r1,ty,D⟩=>?_)
 obtain⟨h1,h2⟩:=b3e I1 r1 ty
 exact⟨T,id,O,slot,B,h1,h2,Calls.callWith_builtin rfl (PySem.evalArgs_none (G pins F σ H1 x [] v [] Q I1 r1 .nil D))⟩
theorem D4(pa:PlainAttrs T)(slot:Slot T name id)(F:typeOf (.builtin id)=pure (.type "method_descriptor"))(Y:MtR X id r)(ho:PE X o to)(ha:PA X (e::es) t)
  (B:attributeBase o name X.env (eval o X.env)=eval o X.env:=by rfl)
  (D:((backTo cpos (starEach (e::es) X.env)).all (fun x=>!x.1) && (backToKw cpos (keywordEach [] X.env)).all (fun x=>x.1.isSome)
   && decide ((e::es).length+([]:List Keyword).length+(if([]:List Keyword).isEmpty then 0 else 1) < 30))=true:=by rfl)
  (q:(apos.endLine==cpos.line)=true:=by rfl)(hs:starEach (e::es) X.env=(false,eval e X.env)::starEach es X.env:=by rfl)(j:(backTo cpos (starEach es X.env)).any (·.1)=false:=by rfl):
  PE X (.Call (.Attribute o name apos) (e::es) [] cpos) (tBM X.K T r to t):=by
 intro pins s σ H Q I h
 refine wpAny_Call_method_late B D q rfl (thn (ho pins s σ H _ I h) fun v U⟨x,H1,I1,r1,ty,O⟩=>?_)
 obtain⟨h1,h2⟩:=b3e I1 r1 ty
 refine⟨T,id,pa,slot,F,h1,h2,?_⟩
 have G:=ha cpos pins U σ H1 _ I1 O
 rw[hs]at G⊢
 refine Calls.callWith_builtin (by show(false || (backTo cpos (starEach es X.env)).any (·.1))=false;rw[j]<;>rfl) (Calls.evalArgs_plain ?_)
 exact thn G fun us s2⟨Z,H2,I2,r2,J⟩=>Y pins s2 σ H2 x Z v us Q I2 r1 r2 J
end
end L2
namespace L2
open PySem PySem.Spec PyProof.Rows
noncomputable def MtM (X:Cx) (id:String) (r:V->List V->Hp->VK->Prop):Prop:=
 ∀(pins:List (Addr×Obj))(s:Shared)(σ:St)(H:Hp)(x:V)(xs:List V)(v:Value)(us:List Value)(Q:VK),Inv X pins σ H s->W9 x v->W6 xs us->r x xs H Q->
  wpAny (model X.prog X.w) X.A (call (.builtin id) (v::us)) (EP X pins σ Q) X.xe s
theorem W6.one:∀{x:V}{us:List Value},W6 [x] us->∃u,us=[u]/\W9 x u
 | _,_,.cons r .nil=>⟨_,rfl,r⟩
theorem W6.zero:∀{us:List Value},W6 [] us->us=[]
 | _,.nil=>rfl
theorem W6.dropLast{xs:List V}{us:List Value}(h:W6 xs us):W6 xs.dropLast us.dropLast:=by
 induction h with
 | nil=>exact .nil
 | cons r t j=>
  cases t with
  | nil=>exact .nil
  | cons q t'=>exact .cons r j
theorem a9S{α:Type}(l:List α):l.eraseIdx (l.length - 1)=l.dropLast:=by
 induction l with
 | nil=>rfl
 | cons a r j=>
  cases r with
  | nil=>rfl
  | cons b r=>
   have e:(a::b::r).length - 1=((b::r).length - 1)+1:=by
    have h1:(a::b::r).length=r.length+2:=rfl
    have h2:(b::r).length=r.length+1:=rfl
    omega
   rw[e,List.eraseIdx_cons_succ,j]
   all_goals rfl
section
variable{X:Cx}{pins:List (Addr×Obj)}{σ:St}{H:Hp}{s:Shared}{l b:Addr}{xs ys zs:List V}
theorem Inv.lset{its its':List Value}{n:Nat}{f:Array Value->Array Value}{t':Nat}(I:Inv X pins σ H s)(D:H l=some (.lst xs))
  (e:s.heap.get? l=some {cls:= .type "list",data:= .seq its.toArray n})(hf:f its.toArray=its'.toArray)(hv:W6 ys its')(hz:ys.length<=sizeLine):
  Inv X pins σ (upd H l (.lst ys)) {s with heap:=s.heap.update l (Obj.mapSeq f),toks:=t'}:=by
 have q:=PySem.IsL.update e f
 rw[hf]at q
 refine I.write (x:=l) (e:=l) (by rw[D];exact trivial) (.inl rfl) (fun F u j B=>(Heap.get?_update_other s.heap (Obj.mapSeq f) (Ne.symm j)).trans B) ⟨_,q⟩ ?_
 exact⟨hz,its',_,hv,q⟩
theorem Inv.lnew{its:List Value}{t':Nat}(I:Inv X pins σ H s)(hv:W6 ys its)(hz:ys.length<=sizeLine):
  Inv X pins σ (upd H s.heap.objs.size (.lst ys)) {s with heap:=s.heap.push {cls:= .type "list",data:= .seq its.toArray},toks:=t'}:=
 I.laid (fun _ _ q=>AF _ q) (AI _) ⟨hz,its,0,hv,AJ _ rfl⟩
theorem Inv.fresh(I:Inv X pins σ H s):H s.heap.objs.size=none:=I.hok.fresh (AI _)
theorem Inv.lstM(I:Inv X pins σ H s)(j:H l=some (.lst xs)):xs.length<=sizeLine/\∃(its:List Value)(n:Nat),W6 xs its/\xs.length=its.length/\s.heap.get? l=some {cls:= .type "list",data:= .seq its.toArray n}:=by
 obtain⟨z,its,n,r,e⟩:=I.hok l _ j
 exact⟨z,its,n,r,r.length,e⟩
theorem b3P{n:Nat}(h:n<=sizeLine):Builtin.List.listTooLong n=false:=by
 unfold Builtin.List.listTooLong
 exact AZ (by omega)
end
section
variable{X:Cx}
noncomputable def b4h:V->List V->Hp->VK->Prop:=fun x vs H Q=>∃l xs y,x= .ref l/\vs=[y]/\H l=some (.lst xs)/\xs.length < sizeLine/\Q .non (upd H l (.lst (xs++[y])))
theorem Y5:MtM X "list.append" b4h:=by
 intro pins s σ H x O v us Q I D G h
 obtain⟨l,xs,y,rfl,rfl,B,U,q⟩:=h
 cases D
 obtain⟨u,rfl,J⟩:=G.one
 obtain⟨z,j,n,r,hl,e⟩:=I.lstM B
 refine call_meets F.slot_list_append ⟨_,e,rfl⟩ F.entry_list_append (F.args_list_append_2 _ _) (PySem.list_append l j.toArray n u (by rw[List.size_toArray];omega)) ⟨e,?_⟩
 refine⟨.non,_,I.lset (its':=j++[u]) B e (by simp) (r.append (.cons J .nil)) ?_,rfl,q⟩
 rw[List.length_append,List.length_singleton]
 omega
noncomputable def b4w:V->List V->Hp->VK->Prop:=fun x vs H Q=>∃l b xs zs,x= .ref l/\vs=[.ref b]/\H l=some (.lst xs)/\H b=some (.lst zs)/\xs.length+zs.length<=sizeLine/\Q .non (upd H l (.lst (xs++zs)))
theorem a6N:MtM X "list.extend" b4w:=by
 intro pins s σ H x vs v us Q I J O h
 obtain⟨l,b,xs,zs,rfl,rfl,G,Z,hz,q⟩:=h
 cases J
 obtain⟨u,rfl,ru⟩:=O.one
 cases ru
 obtain⟨z,B,n,r,hl,e⟩:=I.lstM G
 obtain⟨z2,j,U,r2,ha,Y⟩:=I.lstM Z
 have hsz:B.toArray.size+j.toArray.size<=sizeLine:=by rw[List.size_toArray,List.size_toArray];omega
 have D:¬(!B.toArray.isEmpty && Builtin.List.listTooLong (B.toArray.size+j.toArray.size))=true:=by
  rw[b3P hsz,Bool.and_false]
  exact AH
 refine call_meets F.slot_list_extend ⟨_,e,rfl⟩ F.entry_list_extend (F.args_list_extend_2 _ _)
  (AutoSeq1.list_extend_list_list_0 l B.toArray n b j.toArray U D (by rw[List.size_toArray];omega) (by omega)) ⟨e,Y,?_⟩
 refine⟨.non,_,I.lset (its':=B++j) G e (by simp) (r.append r2) ?_,rfl,q⟩
 rw[List.length_append]
 omega
noncomputable def b8b:V->List V->Hp->VK->Prop:=fun x vs H Q=>∃l xs y,x= .ref l/\vs=[]/\H l=some (.lst xs)/\xs[xs.length - 1]?=some y/\Q y (upd H l (.lst xs.dropLast))
theorem a7m:MtM X "list.pop" b8b:=by
 intro pins s σ H x vs v us Q I U Y h
 obtain⟨l,xs,y,rfl,rfl,G,J,q⟩:=h
 cases U
 have D:=Y.zero
 subst D
 obtain⟨z,j,n,r,hl,e⟩:=I.lstM G
 obtain⟨u,O,Z⟩:=r.get J
 have B:j.toArray[j.toArray.size - 1]?=some u:=by
  show j.toArray[j.length - 1]?=some u
  rw[<-BR,<-hl]
  exact O
 refine call_meets F.slot_list_pop ⟨_,e,rfl⟩ F.entry_list_pop (F.args_list_pop_1 _) (MeetsSeq.list_pop_last l j.toArray n u B (by rw[List.size_toArray];omega)) ⟨e,?_⟩
 refine⟨y,_,I.lset (its':=j.dropLast) G e ?_ r.dropLast ?_,Z,q⟩
 ·show j.toArray.eraseIdxIfInBounds (j.toArray.size - 1)=j.dropLast.toArray
  rw[List.size_toArray,List.eraseIdxIfInBounds_toArray,a9S]
 ·rw[List.length_dropLast]
  omega
noncomputable def b8r:R2:=fun x y H Q=>∃l b xs zs,x= .ref l/\y= .ref b/\H l=some (.lst xs)/\H b=some (.lst zs)/\xs.length+zs.length<=sizeLine/\∀p,H p=none->Q (.ref p) (upd H p (.lst (xs++zs)))
theorem b5R:OpR X (binaryOp .Add) b8r:=by
 intro pins s σ H x y v u Q I D U h
 obtain⟨l,b,xs,zs,rfl,rfl,Y,J,Z,q⟩:=h
 cases D
 cases U
 obtain⟨z,B,n,r,hl,e⟩:=I.lstM Y
 obtain⟨z2,j,n2,r2,O,G⟩:=I.lstM J
 refine PySem.P.add_list e G ?_ (by rw[List.size_toArray,List.size_toArray];omega)
 have F:B.toArray++j.toArray=(B++j).toArray:=by simp
 rw[F]
 exact⟨.ref _,_,I.lnew (t':=s.toks) (r.append r2) (by rw[List.length_append];omega),rfl,q _ I.fresh⟩
end
section
variable{prog:Program}{w:World}{A:Around}{E:Value->Shared->Prop}{s:Shared}
set_option maxRecDepth 100000 in
end
section
variable{X:Cx}
end
end L2
namespace Att
open PySem PySem.W PySem.Calls PyProof.Rows
theorem a5b{P:Params}{h:Heap}:∀(ns:List Int)(vs:List Value),WellAll P h vs (ns.map WData.int)->IntsAre vs ns:=by
 intro ns
 induction ns with
 | nil=>
  intro vs w
  rw[List.map_nil]at w
  cases w
  exact .nil
 | cons n ns j=>
  intro vs w
  rw[List.map_cons]at w
  cases w with
  | cons a b=>
   cases a
   exact .cons _ _ (j _ b)
theorem b1L{l:OpenLaw}{n:Nat}(hn:l.most=some n){P:Params}{h:Heap}{args:List WData}{j:List Value}
  (B:l.row.toRowW.claim.pre args=true)(U:WellAll P h j args):
  ∃a vs ns,j=[Value.ref a]/\args=[WData.list (ns.map WData.int)]/\h.get? a=some {cls:= .type "list",data:= .seq vs.toArray}/\IntsAre vs ns/\ns.length<=n:=by
 have O:WShape.hasAll [] args [.list .int]=true:=(pre_splitW B).1
 have Y:l.pre.holds [] {args:=args}=true:=(pre_splitW B).2
 obtain⟨d,r,rfl,h1,h2⟩:=hasAllW_cons O
 obtain rfl:=hasAllW_nil h2
 obtain⟨xs,rfl,Z⟩:=hasW_list h1
 obtain⟨ns,rfl⟩:=items_int Z
 have F:ns.length<=n:=by
  unfold OpenLaw.pre at Y
  have J:(WTm.not (.lt (.lit (.int (n:Int))) (.len (.arg 0)))).holds [] {args:=[.list (ns.map .int)]}=true:=by
   have J:=(holds_andW Y).1
   rw[hn]at J
   exact J
  have G:=condW_of J (w_not (w_lt w_lit (w_len_list (w_arg rfl))))
  rw[List.length_map]at G
  refine Nat.le_of_not_lt fun q=>?_
  have q':(n:Int) < ((ns.length:Nat):Int):=by omega
  first
   | (rw[decide_eq_true q']at G;exact absurd G (by decide))
   | (simp at G;omega)
 cases U with
 | cons w1 w2=>
  cases w2
  cases w1 with
  | list ho D=>exact⟨_,_,ns,rfl,rfl,ho,a5b ns _ D,F⟩
theorem b1j(l:OpenLaw)(args:List WData):l.row.toRowW.claim.post args (.bool true) args=true:=
 postW_of (r:=l.row.toRowW) (X:=(true==true))
  (show WShape.has [] (.bool true) .bool=true by first | rfl | decide | simp[WShape.has,WShape.arms,WShape.armsAll])
  (show(WTm.eq .res (.lit (.bool true))).value [] {args:=args,res:=some (.bool true),after:=args}=some (.bool (true==true))from w_eq_bool (w_res rfl) w_lit) rfl
theorem a8u{l:OpenLaw}{n:Nat}{q:Program}{B:List Str}{XP:(Str->Option Value)->Heap->Prop}{YP:World->Heap->Prop}{d:DefRec}
  (hn:l.most=some n)(hc:d.params.defaults=[])
  (call:∀(w:World)(s₀ j:Shared)(mg mb:Str->Option Value)(O:Addr)(o:Obj)(pm cd F:Value)(a:Addr)(vs:List Value)(ns:List Int),
   Ground q B [] XP w s₀ mg mb j.heap->YP w j.heap->
   j.heap.get? O=some o->o.data= .func (docDef d.name d.params d.body d.scope pm cd F)->j.heap.CodeRec cd d.name->mg d.name=some (.ref O)->
   j.heap.get? a=some {cls:= .type "list",data:= .seq vs.toArray}->IntsAre vs ns->ns.length<=n->j.gens= #[]->
   codeAny (model l.prog w) callerA (.call (.ref O) ⟨[.ref a],[]⟩) (fun r s'=>r= .ok (.ret (.bool true))/\OldK j.heap s'.heap/\s'.os=j.os/\AllBare s'.gens) j):
  WalkO q B XP YP l.row.toRowW d [] (fun f vs=>PySem.call f vs):=by
 intro w s₀ j mg mb G Y O o pm cd F dV kV ho hd ha hD hb hg hf hh as U hj hk he hp
 obtain rfl:dV= .none:=Dflts.none hD hc
 obtain rfl:kV= .none:=Dflts.noKw hD
 obtain⟨a,vs,ns,rfl,rfl,J,D,Z⟩:=b1L hn U he
 refine enter_call (codeAny_mono (call w s₀ j mg mb O o pm cd F a vs ns G Y ho (fd_plain hd) ha hb J D Z hg) fun r s' hq=>?_)
 obtain⟨rfl,h2,h3,h4⟩:=hq
 exact⟨.inl ⟨.bool true,.bool true,[],rfl,fun _=>rfl,.bool true,b1j l _,fun _=>⟨List.Pairwise.nil,fun _ hm=>(nomatch hm)⟩⟩,h2,h3,h4⟩
section
variable{prog:Program}{w:World}{A:Around}{E:Value->Shared->Prop}{s:Shared}{K:Frag}
end
end Att
namespace L2
open PySem PySem.Spec PyProof.Rows
theorem a6G:∀{vs:List Value}{ns:List Int},IntsAre vs ns->W6 (ns.map V.int) vs
 | _,_,.nil=> .nil
 | _,_,.cons n t h=> .cons ⟨t,rfl⟩ (a6G h)
noncomputable def b6B (H:Hp):Prop:=∀b,H b=none\/∃o xs,H b=some (.frz o (.lst xs))
theorem b2w{P:Program}{w:World}{K:W.Frag}{mg mb:Str->Option Value}{CX:CXT}{k:Nat}{fa a:Addr}{fd:FuncData}{x:Str}{sp:Sp}{j:Shared}{vs:List Value}{ns:List Int}
  (KX:K.In j.heap)(U:j.heap.Ns mainGlobals mg)(D:j.heap.Ns builtinsNs mb)(hj:∀x:Str,x≠ "__name__" ->mb x=bootBuiltins x)(he:j.heap.NoLimit)(hg:j.gens= #[])
  (ha:j.heap.get? a=some {cls:= .type "list",data:= .seq vs.toArray})(hi:IntsAre vs ns)(hl:ns.length<=sizeLine)(hr:a1R k callerA)
  (F:∀base:Heap,K.In base->base.Ns mainGlobals mg->a6j P w K mg base CX k fa fd [x] sp)(O:∀(s:Shared)(u:Value),BindsTo s fd ⟨[u],[]⟩ [(x,u)])
  (hm:∀H:Hp,b6B H->SqL K H a (ns.map V.int)->sp [.ref a] H (fun v _=>v= .bl true) fun _ _ _=>False)
  (hh:∀H e s',CX [] H j (fun _ _ _=>False) e s'->False):
  codeAny (model P w) callerA (.call (.ref fa) ⟨[.ref a],[]⟩) (fun r s'=>r= .ok (.ret (.bool true))/\OldK j.heap s'.heap/\s'.os=j.os/\AllBare s'.gens) j:=by
 have rv:=a6G hi
 have Z:=hi.length
 have J:∀H:Hp,b6B H->SqL K H a (ns.map V.int)->HOk P w H j.heap->(∀b,H b≠none->b=a)->(H a≠none->K.lookup a=none)->
   codeAny (model P w) callerA (.call (.ref fa) ⟨[.ref a],[]⟩) (fun r s'=>r= .ok (.ret (.bool true))/\OldK j.heap s'.heap/\s'.os=j.os/\AllBare s'.gens) j:=by
  intro H hO hS hok hA hK
  have B:∀{b:Addr}{o:Obj},j.heap.get? b=some o->H b=none->(a7R j.heap H).get? b=some o:=fun e n=>b3G e n
  have hf:∀{b:Addr}{o:Obj}{es:Array DictEntry}{ep:Nat},j.heap.get? b=some o->o.data= .dict es ep->H b=none:=fun{b o es ep}e d=>by
   cases q:H b with
   | none=>rfl
   | some u=>
    have e':b=a:=hA b (by rw[q];simp)
    subst e'
    rw[ha]at e;cases e
    have d':Data.seq vs.toArray _=Data.dict es ep:=d
    cases d'
  have G:∀{b:Addr}{m:Str->Option Value},j.heap.Ns b m->(a7R j.heap H).Ns b m:=fun{b m}⟨o,es,ep,e,d,r⟩=>⟨o,es,ep,B e (hf e d),d,r⟩
  have Y:K.In (a7R j.heap H):=fun b o e=>B (KX b o e) (by
   cases q:H b with
   | none=>rfl
   | some u=>
    have e':b=a:=hA b (by rw[q];simp)
    subst e'
    rw[hK (by rw[q];simp)]at e;cases e)
  have hM:Mod K mg (a7R j.heap H):=⟨Y,G U,⟨mb,G D,hj⟩,let⟨mc,h1,h2⟩:=he;⟨mc,G h1,h2⟩⟩
  have e0:b5v P w K mg (a7R j.heap H) callerA [] j H:=⟨rfl,hM,fun b o e=>b4k e,Nat.le_of_eq (b1e _ _),trivial,fun b D=>absurd (show b∈([]:List Addr)from D) (by simp),hok,.of_eq hg⟩
  refine codeAny_mono ((F _ Y (G U)).run callerA [] j H ⟨[.ref a],[]⟩ [.ref a] [.ref a] _ _ hr e0 (O j (.ref a)) (.cons rfl .nil) (hm H hO hS)) fun r s' h=>?_
  cases r with
  | error e=>exact(hh H e s' h).elim
  | ok fl=>
   cases fl with
   | next=>exact False.elim h
   | brk=>exact False.elim h
   | cont=>exact False.elim h
   | ret u=>
    obtain⟨v,H',os,bare,un,hc,r',q⟩:=h
    have q':v= .bl true:=q
    subst q'
    obtain rfl:u=Value.bool true:=r'
    refine⟨rfl,OldK.of_keep fun b o e=>?_,os,bare⟩
    cases q:H b with
    | none=>exact un.keep b o e q (by intro z;exact absurd (show b∈([]:List Addr)from z) (by simp)) (by simp)
    | some u=>
     rcases hO b with z | ⟨ob,xs,z⟩
     ·rw[q]at z;cases z
     ·have z2:=un.frzs b ob _ z
      obtain⟨e1,_⟩:=hok b _ z
      obtain⟨e2,_⟩:=hc b _ z2
      rw[e]at e1;cases e1
      exact e2
 cases hk:K.lookup a with
 | some o=>
  have e:=KX a o hk
  rw[ha]at e
  cases e
  refine J (fun _=>none) (fun _=> .inl rfl) (.inr ⟨_,vs.toArray,_,hk,rfl,rfl,rfl,by rw[List.size_toArray,Z];exact hl,by simpa using rv⟩) (fun b u z=>by have z':(none:Option HO)=some u:=z;cases z') (fun b z=>absurd rfl z) fun z=>absurd rfl z
 | none=>
  refine J (fun b=>if b=a then some (.frz {cls:= .type "list",data:= .seq vs.toArray} (.lst (ns.map V.int)))else none) (fun b=>?_) (.inl (.inr ⟨{cls:= .type "list",data:= .seq vs.toArray},if_pos rfl⟩)) (fun b u z=>?_) (fun b z=>?_) fun _=>hk
  ·by_cases D:b=a
   ·exact .inr ⟨_,_,if_pos D⟩
   ·exact .inl (if_neg D)
  ·by_cases D:b=a
   ·have z':=(if_pos D).symm.trans z
    cases z'
    subst D
    exact⟨ha,by rw[List.length_map];exact hl,vs,_,rv,ha⟩
   ·have z':=(if_neg D).symm.trans z
    cases z'
  ·by_cases D:b=a
   ·exact D
   ·exact absurd (if_neg D) z
end L2
namespace L2
open PySem PySem.Spec PyProof.Rows
noncomputable abbrev KOf {K:W.Frag} {h:Heap} (_:K.In h):W.Frag:=K
theorem b5n{l:W.OpenLaw}{n k:Nat}{q:Program}{B:List Str}{XP:(Str->Option Value)->Heap->Prop}{YP:World->Heap->Prop}{d:DefRec}{K:Params->W.Frag}{CX:World->CXT}{sp:World->Sp}{x:Str}
  (hn:l.most=some n)(he:n<=sizeLine)(ha:d.params.defaults=[])(hr:a1R k callerA)
  (hY:∀(w:World)(h:Heap),YP w h->(K w.params).In h)
  (F:∀(w:World)(mg:Str->Option Value)(U:Addr)(h:Heap),(K w.params).In h->h.Ns mainGlobals mg->mg d.name=some (.ref U)->
   ∃fd:FuncData,(∀(s:Shared)(u:Value),BindsTo s fd ⟨[u],[]⟩ [(x,u)])/\
    ∀base:Heap,(K w.params).In base->base.Ns mainGlobals mg->a6j l.prog w (K w.params) mg base (CX w) k U fd [x] (sp w))
  (hc:∀(w:World)(H:Hp)(a:Addr)(ns:List Int),ns.length<=n->b6B H->SqL (K w.params) H a (ns.map V.int)->sp w [.ref a] H (fun v _=>v= .bl true) fun _ _ _=>False)
  (hf:∀(w:World)(H:Hp)(s:Shared)(e:Value)(s':Shared),CX w [] H s (fun _ _ _=>False) e s'->False):
  W.WalkO q B XP YP l.row.toRowW d [] (fun f vs=>PySem.call f vs):=by
 refine Att.a8u hn ha fun w s₀ O mg mb U o pm cd hj a vs ns G Y ho hd hh Z J D j hg=>?_
 have KX:=hY w _ Y
 obtain⟨fd,hb,hF⟩:=F w mg U _ KX G.T.g Z
 exact b2w KX G.T.g G.T.b G.T.builtins G.T.nolimit hg J D (Nat.le_trans j he) hr hF hb (fun H hO hS=>hc w H a ns j hO hS) fun H e s'=>hf w H O e s'
end L2
namespace L2
open PySem PySem.Spec PyProof.Rows
noncomputable def a1r (s:Stmt):Arguments:=match s with
 | .FunctionDef _ a _ _ _ _ _ _ _ _=>a
 | _=>{posonlyargs:=[],args:=[],vararg:=none,kwonlyargs:=[],kw_defaults:=[],kwarg:=none,defaults:=[]}
noncomputable def a0A (s:Stmt):List Stmt:=match s with
 | .FunctionDef _ _ b _ _ _ _ _ _ _=>b
 | _=> []
noncomputable def J4 (s:Stmt):Scope:=match s with
 | .FunctionDef _ _ _ _ _ _ sc _ _ _=>sc
 | _=>{kind:= .function,names:=[],isGenerator:=false,isCoroutine:=false}
noncomputable abbrev CX0:CXT:=fun _ _ _ _ _ _=>False
noncomputable abbrev E0:XK:=fun _ _ _=>False
theorem b7A{X:Cx}:a9Z CX0 X E0:=fun _ _ _ _ _ _ _ h=>h.elim
structure Fun(K:W.Frag)(x qual:Str)(st:Stmt)(f:Addr)(fd:FuncData):Prop where
 ex:∃(oc:Value)(od:Option Addr)(kV doc pm:Value)(an:Option Addr)(cdv ct:Value)(osl:Array (Option Value)),
  fd=W.fnOf x qual (a1r st) (a0A st) (J4 st) .none kV doc pm an cdv ct/\K.lookup f=some ⟨oc,od,.func fd,osl⟩/\W.codeIn K cdv qual=true
 kp:W.keepIn K (.ref f)=true
section
variable{P:Program}{w:World}{K:W.Frag}{mg:Str->Option Value}{base:Heap}
theorem Fun.ok{x j:Str}{st:Stmt}{f:Addr}{fd:FuncData}{N ps:List Str}{k:Nat}{sp:Sp}(F:Fun K x j st f fd)(S:U3 N ps (J4 st))(len:∀vs H Q E,sp vs H Q E->vs.length=ps.length)
  (D:∀(B:Value)(A:Around)(outer:List Env)(s:Shared)(H:Hp)(vs:List V)(Q:VK)(E:XK),a1R k (A.deeper (envOfC j (J4 st) s.heap.objs.size f B))->sp vs H Q E->
   ∃t,PSs (a9T CX0 P w K mg base N j (J4 st) f B A outer s H E).nox (a0A st) t/\t {nx:=fun _ H'=>Q .non H',rt:=Q} (a3O N vs) H):a6j P w K mg base CX0 (k+1) f fd ps sp:=by
 obtain⟨oc,od,kV,Y,pm,an,B,ct,Z,rfl,U,G⟩:=F.ex
 refine b7w U G S len fun A outer s H vs Q E O J=>?_
 obtain⟨t,h,q⟩:=D B A outer s H vs Q E O J
 exact⟨t,h.nox,q⟩
theorem Fun.binds{x j:Str}{st:Stmt}{f:Addr}{fd:FuncData}{ps:List Str}(F:Fun K x j st f fd)
  (h:∀(kV q D:Value)(G:Option Addr)(B ct:Value)(us:List Value),us.length=ps.length->bindArgs (W.fnOf x j (a1r st) (a0A st) (J4 st) .none kV q D G B ct) ⟨us,[]⟩=pure (ps.zip us)):a6A K fd ps []:=by
 obtain⟨Y,U,kV,q,D,G,B,ct,O,rfl,Z,J⟩:=F.ex
 exact .all (h kV q D G B ct)
theorem b2i{x j:Str}{st:Stmt}{f:Addr}{O:Value}{J G:Option Addr}{D:Array (Option Value)}{kV B F q ct:Value}(l:K.lookup f=some ⟨O,J,.func (W.fnOf x j (a1r st) (a0A st) (J4 st) .none kV B F G q ct),D⟩)
  (c:W.codeIn K q j=true)(k:W.keepIn K (.ref f)=true):Fun K x j st f (W.fnOf x j (a1r st) (a0A st) (J4 st) .none kV B F G q ct):=⟨⟨O,J,kV,B,F,G,q,ct,D,rfl,l,c⟩,k⟩
end
theorem B2{A:Around}{k:Nat}(j:a1R k A):A.units+1 < cLine:=Nat.lt_of_le_of_lt (Nat.add_le_add_left (by decide:1<=64) _) j.units
theorem J8{n:Nat}(h:n<=1000):n < sizeLine:=Nat.lt_of_le_of_lt h (by decide)
section
variable{X:Cx}
theorem pv(i:Nat){x:Str}{pos:Pos}(hN:X.N[i]?=some x:=by rfl)(hv:Vis X.env.scope x:=by first | exact Or.inl rfl | exact Or.inr (Or.inl rfl) | exact Or.inr (Or.inr rfl))(hd:(x==("__debug__":Str))=false:=by decide)
  (j:(x==("__classdict__":Str))=false:=by decide):PE X (.Name x pos) (b6T i):=b6A hN hv hd j
end
theorem F8{A B:Prop}(h:B):if false=true then A else B:=by
 rw[if_neg AH]
 exact h
theorem B9{A B:Prop}(h:A):if true=true then A else B:=by
 rw[if_pos rfl]
 exact h
theorem a3q{c A B:Prop}[Decidable c](h1:c->A)(h2:¬c->B):if c then A else B:=by
 by_cases h:c
 ·rw[if_pos h]
  exact h1 h
 ·rw[if_neg h]
  exact h2 h
theorem a5u{c A B:Prop}[Decidable c](j:c)(h:B):if(!decide c)=true then A else B:=by
 rw[decide_eq_true j]
 exact F8 h
noncomputable def G5 (H H':Hp):Prop:=∀b o,H b=some o->H' b=some o
theorem G5.refl(H:Hp):G5 H H:=fun _ _ h=>h
theorem G5.trans{H H1 H2:Hp}(a:G5 H H1)(b:G5 H1 H2):G5 H H2:=fun c o h=>b c o (a c o h)
theorem G5.free{H H':Hp}(e:G5 H H'){l:Addr}(h:H' l=Option.none):H l=Option.none:=by
 cases q:H l with
 | none=>rfl
 | some o=>
  rw[e l o q]at h
  cases h
theorem G5.seq{K:W.Frag}{H H':Hp}{a:Addr}{xs:List V}(e:G5 H H')(h:SqL K H a xs):SqL K H' a xs:=by
 rcases h with(h | ⟨o,h⟩) | h
 ·exact .inl (.inl (e _ _ h))
 ·exact .inl (.inr ⟨o,e _ _ h⟩)
 ·exact .inr h
end L2
set_option maxHeartbeats 16000000
namespace L2
open PySem PySem.Spec PyProof.Rows
section
variable{X:Cx}{pins:List (Addr×Obj)}{σ:List (Option V)}{H:Hp}{s:Shared}{h':Heap}
theorem Inv.turnedL{t':Nat}{ch:List Addr}(I:Inv X pins σ H s)(k:∀b o,b∉ch->s.heap.get? b=some o->h'.get? b=some o)(hf:∀b∈ch,a3m X pins H b):
  Inv X pins σ H {s with heap:=h',toks:=t'}:=by
 have B:∀b u,H b=some u->b∉ch:=fun b u e z=>by rw[(hf b z).1]at e;cases e
 refine I.step (g':=s.gens) (d':=s.drawn) (ch:=ch) (fun b F=>?_) (fun b o _ _ j e _=>k b o j e) (fun b o _ _ j e _=>⟨o.slots,k b o j e⟩) (fun _ _ _ _ n=>n)
  (fun b o j e=>⟨o,k b o j e⟩) (fun _ _ e=>e) (fun _ _ _ e=>e) (fun b ps e=>⟨#[],by rw[e];simp⟩) (fun m G=>?_) (fun b u e=>?_) I.bare
 ·obtain⟨_,h1,_,h2,D,O⟩:=hf b F
  exact⟨h2,h1,D,O⟩
 ·obtain⟨o,es,ep,J,r⟩:=G
  exact⟨o,es,ep,k _ o (fun z=>(hf _ z).2.1 rfl) J,r⟩
 ·refine(I.hok b u e).stay (fun c v j q=>k c v ?_ q) (fun _ q=>q) fun _ _ q=>q
  rcases j with z | z
  ·rw[z];exact B b u e
  ·exact B c _ z
theorem Inv.track{T:Addr}{o:HO}(I:Inv X pins σ H s)(hf:a3m X pins H T)(new:O5 X.prog X.w (upd H T o) s.heap T o):Inv X pins σ (upd H T o) s:=by
 obtain⟨J,h1,U,h2,F,O⟩:=hf
 have j:∀b u,H b=some u->b≠T:=fun b u e z=>by rw[z,J]at e;cases e
 refine I.step (h':=s.heap) (g':=s.gens) (d':=s.drawn) (t':=s.toks) (ch:=[T]) (fun b D=>?_) (fun b o _ _ B e _=>e) (fun b o _ _ B e _=>⟨o.slots,e⟩)
  (fun b o B _ n=>by rw[G8 (fun z=>B (by simp[z]))];exact n)
  (fun b o B e=>⟨o,e⟩) (fun b xs e=>by rw[G8 (j _ _ e)];exact e) (fun b Y u e=>by rw[G8 (j _ _ e)];exact e) (fun b ps e=>⟨#[],by rw[G8 (j _ _ e),e];simp⟩) (fun m G=>G) (fun b u e=>?_) I.bare
 ·have e:b=T:=by simpa using D
  subst e
  exact⟨h2,h1,F,O⟩
 ·by_cases D:b=T
  ·subst D;rw[G1]at e;cases e;exact new
  ·rw[G8 D]at e
   exact(I.hok b u e).stay (fun c v _ q=>q) (fun c q=>by rw[G8 (j _ _ q)];exact q) fun c xs q=>by rw[G8 (j _ _ q)];exact q
end
section
variable{X:Cx}
theorem a4V:a1u X (.builtin "isinstance") (fun xs H Q=>∃x t T b,xs=[x,.ty T]/\a4w X.K H x t/\W.kitOne X.K t (.type T)=some b/\Q (.bl b) H):=by
 intro pins s σ H xs us Q I r h
 obtain⟨x,t,T,b,rfl,ty,e,q⟩:=h
 obtain⟨u,B,rfl,j,D⟩:=b3t r
 cases(show B=Value.type T from D)
 exact b1l I j ty e fun tk=>⟨.bl b,H,I.tok _,rfl,q⟩
noncomputable def b7f (K:W.Frag):R2:=fun x y H Q=>∃a b xs ys,x= .ref a/\y= .ref b/\SqT K H a xs/\SqT K H b ys/\xs.length+ys.length<=sizeLine/\
 (xs=[]->Q (.ref b) H)/\(xs≠[]->ys=[]->Q (.ref a) H)/\(xs≠[]->ys≠[]->∀p,H p=none->Q (.ref p) (upd H p (.tup (xs++ys))))
theorem a1s:OpR X (binaryOp .Add) (b7f X.K):=by
 intro pins s σ H x y v u Q I rx ry h
 obtain⟨a,b,xs,ys,rfl,rfl,ha,Z,hz,q0,q1,q2⟩:=h
 cases rx
 cases ry
 by_cases hx:xs=[]
 ·obtain⟨B,r1,p1,_⟩:=I.tuple ha
  obtain⟨j,r2,p2,_⟩:=I.tuple Z
  obtain⟨⟨cls,dd,data,sl⟩,ho,Y,n,hd⟩:=id p1
  obtain⟨⟨he,O,J,U⟩,q,G,n2,D⟩:=id p2
  simp only at Y hd G D
  subst Y hd G D
  have hv:B=[]:=r1.nil_iff.mpr hx
  exact concat_meets ⟨_,ho,rfl⟩ ⟨_,q,rfl⟩ noFill_tuple_add seq_tuple_add PySem.F.slot_tuple_add PySem.F.entry_tuple_add (PySem.F.args_tuple_add_2 _ _)
   (tuple_addW0 a b B.toArray j.toArray n n2 dd O sl U (by simp[hv])) ⟨ho,q,⟨.ref b,H,I,rfl,q0 hx⟩⟩
 ·exact b5k pins s σ H (.ref a) (.ref b) (.ref a) (.ref b) Q I rfl rfl ⟨a,b,xs,ys,rfl,rfl,ha,Z,hx,hz,q1 hx,q2 hx⟩
theorem a8a:∀{x:V},a1L x=true->eqV x x=true
 | .non,_=>by rfl
 | .bl b,_=>by simp[eqV]
 | .int i,_=>by simp[eqV]
 | .str z,_=>by simp[eqV]
 | .byt _,h=>by first | exact absurd (show false=true from h) AH | simp[eqV]
 | .flt _,h=>by first | exact absurd (show false=true from h) AH | simp[eqV]
 | .ref _,h=>by first | exact absurd (show false=true from h) AH | simp[eqV]
 | .ty _,h=>by first | exact absurd (show false=true from h) AH | simp[eqV]
end
end L2
namespace ET
open PySem PySem.Spec
open PySem.AutoSeq1 (wpAny_loadPart')
section
variable{prog:Program}{w:World}{A:Around}{E:Value->Shared->Prop}{s:Shared}
theorem a4e{it l:Addr}{i:Nat}{j:Array Value}{x:Value}{Q:Value->Shared->Prop}(hit:s.heap.IsTupleIter it l i)
  (hl:s.heap.IsTuple l j)(hx:j[i]?=some x)
  (J:∀h',h'.IsTupleIter it l (i+1)->Heap.SameBut it s.heap h'->Q x {s with heap:=h'}):
  wpAny (model prog w) A (Builtin.SmallTypes.nextOf (.ref it)) Q E s:=by
 obtain⟨o,q,G,hd⟩:=id hit
 obtain⟨O,B,_,nl,D⟩:=hl
 unfold Builtin.SmallTypes.nextOf
 refine AA (wpAny_callSpecial?_slot (name:=Str.ofString "__next__") hit.typeIs F.slot_tuple_iterator_next
  (wpAny_call_entry F.slot_tuple_iterator_next hit.typeIs F.entry_tuple_iterator_next ?_ (F.args_tuple_iterator_next_1 _)))
 show wpAny _ _ (field (.ref it) 0 >>= _) _ _ s
 refine AA (wpAny_field q hd (x:= .ref l) rfl ?_)
 show wpAny _ _ (if(Value.ref l==Value.none)=true then _ else _) _ _ s
 rw[if_neg (show¬((Value.ref l==Value.none)=true)from AH)]
 show wpAny _ _ (field (.ref it) 1 >>= _) _ _ s
 refine AA (wpAny_field q hd (x:= .int i 0) rfl ?_)
 show wpAny _ _ (seqItems? (.ref l) >>= _) _ _ s
 refine AA (wpAny_seqItems B D ?_)
 simp only[Int.toNat_natCast,hx]
 refine AA (wpAny_setField q hd (by simp) (AB ⟨x,rfl,AB (J _ ?_ (Heap.SameBut.update ..))⟩))
 exact⟨_,BL _ q (Obj.isFreed_of_fields (Obj.data_mapFields hd _)),(Obj.cls_mapFields ..).trans G,by
  rw[Obj.data_mapFields hd];simp[rawInt]⟩
theorem a4x{it l:Addr}{i:Nat}{j:Array Value}{Q:Value->Shared->Prop}(G:A.handled=none)
  (hit:s.heap.IsTupleIter it l i)(hl:s.heap.IsTuple l j)(hx:j[i]?=none)
  (J:∀h' e,Heap.ExtBut it s.heap h'->(∃o,h'.get? e=some o/\o.cls= .type "StopIteration")->E (.ref e) {s with heap:=h'}):
  wpAny (model prog w) A (Builtin.SmallTypes.nextOf (.ref it)) Q E s:=by
 obtain⟨o,D,O,hd⟩:=id hit
 obtain⟨U,q,_,nl,B⟩:=hl
 unfold Builtin.SmallTypes.nextOf
 refine AA (wpAny_callSpecial?_slot (name:=Str.ofString "__next__") hit.typeIs F.slot_tuple_iterator_next
  (wpAny_call_entry F.slot_tuple_iterator_next hit.typeIs F.entry_tuple_iterator_next ?_ (F.args_tuple_iterator_next_1 _)))
 show wpAny _ _ (field (.ref it) 0 >>= _) _ _ s
 refine AA (wpAny_field D hd (x:= .ref l) rfl ?_)
 show wpAny _ _ (if(Value.ref l==Value.none)=true then _ else _) _ _ s
 rw[if_neg (show¬((Value.ref l==Value.none)=true)from AH)]
 show wpAny _ _ (field (.ref it) 1 >>= _) _ _ s
 refine AA (wpAny_field D hd (x:= .int i 0) rfl ?_)
 show wpAny _ _ (seqItems? (.ref l) >>= _) _ _ s
 refine AA (wpAny_seqItems q B ?_)
 simp only[Int.toNat_natCast,hx]
 refine AA (wpAny_rule (AA (wpAny_setField D hd (by simp) ?_)))
 show wpAny _ _ (newExc (.type "StopIteration") [] >>= _) _ _ _
 refine AA ?_
 simp only[newExc,newTuple]
 refine AA (wpAny_newObj_type ?_ (by size_fits))
 refine AA (m:=firstArgMember _ _) (BI (a:=Value.none) (by first | rfl | (simp only[firstArgMember];rfl)) ?_)
 refine wpAny_newObj_type ?_ (by size_fits)
 simp only[raiseNew]
 refine AA (wpAny_handled ?_)
 first | rw[show A.in1.handled=none from G] | rw[G]
 refine AA (AB (wpAny_throw ?_))
 exact J _ _ (((Heap.SameBut.update ..).extBut.push _).push _) ⟨_,AJ _ rfl,rfl⟩
end
theorem a4R{prog:Program}{w:World}{A:Around}(O:A.handled=none)(it l:Addr)(F:l≠it)(j:Array Value):
  Draws prog w A it [it,l] j.size (fun i v=>j[i]?=some v) (fun i h=>h.IsTupleIter it l i/\h.IsTuple l j)where
 live:=fun _ _ st=>let⟨o,B,_⟩:=st.1;⟨o,B⟩
 frame:=fun _ _ _ st G=>⟨let⟨o,B,r⟩:=st.1;⟨o,G it (by simp) o B,r⟩,let⟨o,B,r⟩:=st.2;⟨o,G l (by simp) o B,r⟩⟩
 item:=fun i s Q E hi st J=>by
  refine a4e st.1 st.2 (x:=j[i]) (by simp[hi]) fun h' D q=>?_
  exact J _ h' s.toks (by simp[hi]) ⟨D,st.2.extBut q.extBut F⟩ q
 done:=fun s Q E st U=>a4x O st.1 st.2 (by simp) U
theorem a2I(l:Addr)(j:Array Value)(n:Nat)(q:Option Addr)(F:Array (Option Value)):
  Meets (Builtin.«enumerate.__new__» ⟨[.type "enumerate",.ref l],[]⟩) (fun _ R s=>s.heap.get? l=some {cls:= .type "tuple",dict:=q,data:= .seq j n,slots:=F}/\
   R (.ok (.ret (.ref (s.heap.push {cls:= .type "tuple_iterator",data:= .fields #[.ref l,.int 0 0]}).objs.size)))
    {s with heap:=(s.heap.push {cls:= .type "tuple_iterator",data:= .fields #[.ref l,.int 0 0]}).push {cls:= .type "enumerate",data:= .fields #[.none,.bool false,.ref s.heap.objs.size,rawInt 0,.none,.none]}}):=
 .of_wp fun prog w A R s h=>by
  obtain⟨G,g,d,tk,os⟩:=s;obtain⟨hl,h⟩:=h
  have D:=sub_enumerate
  have B:Heap.IsTuple (Shared.heap ⟨G,g,d,tk,os⟩) l j:=⟨_,hl,rfl,n,rfl⟩
  wp_walk using wpAny_loadPart' hl
  refine wpAny_stack_any fun st=>AB ?_
  split
  ·rename_i c _ _ _ _ _
   cases(c==Value.type "enumerate")
   ·wp_walk using wpAny_loadPart' hl,wpAny_pyIter_tuple B
    exact⟨_,rfl,h⟩
   ·wp_walk using wpAny_loadPart' hl,wpAny_pyIter_tuple B
    exact⟨_,rfl,h⟩
  ·wp_walk using wpAny_loadPart' hl,wpAny_pyIter_tuple B
   exact⟨_,rfl,h⟩
theorem a2m{prog:Program}{w:World}{A:Around}{E:Value->Shared->Prop}{s:Shared}{l:Addr}{j:Array Value}{Q:Value->Shared->Prop}(O:s.heap.IsTuple l j)
  (h:∀h',IsEnum h' (s.heap.objs.size+1) s.heap.objs.size 0 .none->h'.IsTupleIter s.heap.objs.size l 0->h'.objs.size=s.heap.objs.size+2->
   (∀b o,s.heap.get? b=some o->h'.get? b=some o)->Q (.ref (s.heap.objs.size+1)) {s with heap:=h'}):
  wpAny (model prog w) A (call (.type "enumerate") [.ref l]) Q E s:=by
 obtain⟨⟨c,D,U,J⟩,hl,q,n,hd⟩:=O
 replace q:c= .type "tuple":=q
 replace hd:U= .seq j n:=hd
 subst q hd
 refine callType_new F.called_enumerate (by decide) (F.typeCall_enumerate_1 _) (F.newCall_enumerate_1 _) (fun obj=>F.args_object_init_2 obj _) F.entry_enumerate_new
  (a2I l j n D J) ⟨hl,?_⟩
 have B:(s.heap.push {cls:= .type "tuple_iterator",data:= .fields #[.ref l,.int 0 0]}).objs.size=s.heap.objs.size+1:=Heap.size_push ..
 show _/\_
 rw[B]
 have G:IsEnum ((s.heap.push {cls:= .type "tuple_iterator",data:= .fields #[.ref l,.int 0 0]}).push
   {cls:= .type "enumerate",data:= .fields #[.none,.bool false,.ref s.heap.objs.size,rawInt 0,.none,.none]}) (s.heap.objs.size+1) s.heap.objs.size 0 .none:=by
  have:=AJ (s.heap.push {cls:= .type "tuple_iterator",data:= .fields #[.ref l,.int 0 0]})
   (o:={cls:= .type "enumerate",data:= .fields #[.none,.bool false,.ref s.heap.objs.size,rawInt 0,.none,.none]}) rfl
  rw[B]at this;exact this
 refine⟨⟨_,G,rfl⟩,h _ G ⟨_,AF _ (AJ _ rfl),rfl,rfl⟩ (by rw[Heap.size_push,B]) fun b o x=>AF _ (AF _ x)⟩
end ET
namespace L2
open PySem PySem.Spec PyProof.Rows
noncomputable def Ite (K:W.Frag) (a:Addr):It:=
 ⟨fun i H=>∃xs x,SqT K H a xs/\xs[i]?=some x,
   fun i H x H'=>∃p v,(∀xs,SqT K H a xs->xs[i]?=some v)/\H p=none/\x= .ref p/\H'=upd H p (.tup [.int i,v]),
   fun i H=>∃xs,SqT K H a xs/\xs.length=i⟩
theorem a9K{P:Program}{w:World}{K:W.Frag}{elts:List Expr}{k:Nat}{pos:Pos}(a e it:Addr)(J:e≠it):
  a8N P w K (.Tuple elts k pos) (Ite K a) [e,it] e (fun i h=>(∃old,IsEnum h e it i old)/\h.IsTupleIter it a i)where
 mem:=by simp
 obj:=fun i h st b hb=>by
  obtain⟨⟨old,G⟩,o,O,hc,hd⟩:=st
  rcases List.mem_cons.mp hb with z | hb
  ·subst z
   exact⟨_,G,fun v z=>by
    have z':Data.fields _=Data.cell v:=z
    cases z'⟩
  ·obtain z:=AC.mp hb
   subst z
   exact⟨o,O,fun v z=>by rw[hd]at z;cases z⟩
 keep:=fun i h h' st kk=>by
  obtain⟨⟨old,G⟩,o,O,r⟩:=st
  exact⟨⟨old,kk e (by simp) _ G⟩,o,kk it (by simp) o O,r⟩
 item:=by
  intro X hP hw hK hc i pins s σ H E I hf st hg
  subst hP hw hK
  obtain⟨xs,x,hq,hx⟩:=hg
  obtain⟨B,rv,p,hz⟩:=I.tuple hq
  obtain⟨u,hu,ru⟩:=rv.get hx
  obtain⟨⟨old,G⟩,hit⟩:=st
  have ht:s.heap.IsTuple a B.toArray:=p
  have U:a≠it:=by
   intro z
   obtain⟨o,O,Z,_⟩:=id hit
   obtain⟨o2,j,q,_⟩:=id ht
   rw[z,O]at j
   cases j
   rw[Z]at q
   exact absurd q (by decide)
  have ha:a≠e:=by
   intro z
   obtain⟨o2,j,q,_⟩:=id ht
   have F:=G
   unfold IsEnum at F
   rw[z,F]at j
   cases j
   exact absurd (show Value.type "enumerate"=Value.type "tuple" from q) (by decide)
  have D:=ET.a4R (prog:=X.prog) (w:=X.w) (A:=X.A.in1) (show X.A.in1.handled=none from I.ok.hd hc) it a U B.toArray
  have Y:e∉ [it,a]:=by
   intro z
   rcases List.mem_cons.mp z with z | z
   ·exact J z
   ·exact ha (AC.mp z).symm
  have W:=WalksT.enumerateD D e J Y (by simp)
  have hA:i < B.toArray.size:=by
   have h1:=(List.getElem?_eq_some_iff.mp hu).1
   simpa using h1
  refine W.item i s _ _ hA ⟨⟨old,G⟩,hit,ht⟩ fun T hC h' tk hP hT hj hM hk=>?_
  obtain⟨t,y,hy,rfl⟩:=hP
  have ey:y=u:=by
   have:B[i]?=some y:=by simpa using hy
   rw[hu]at this
   exact(Option.some.inj this).symm
  subst ey
  have I1:Inv X pins σ H {s with heap:=h',toks:=tk}:=I.turnedL (ch:=[e,it]) hk hf
  have hm:H T=none:=I.hok.fresh hT
  have fT:a3m X pins H T:=I.fpOk hT hm
  refine⟨_,rfl,?_⟩
  refine W.go elts k pos i T {s with heap:=h',toks:=tk} _ _ hM fun h2 hp hh=>?_
  have hs:=I1.turnedL (h':=h2) (t':=tk) (ch:=[e,it]) hh hf
  have I2:Inv X pins σ H {s with heap:=h2,toks:=tk}:=hs
  have hB:h2.IsTuple T #[.int i t,y]:=by
   obtain⟨o,O,r⟩:=hj
   exact⟨o,hh T o (W.apart i T h' hM) O,r⟩
  have I3:Inv X pins σ (upd H T (.tup [.int i,x])) {s with heap:=h2,toks:=tk}:=
   I2.track fT ⟨by show 2<=sizeLine;decide,[.int i t,y],.cons ⟨t,rfl⟩ (.cons ru .nil),hB⟩
  refine⟨.ref T,_,I3,rfl,⟨T,x,fun ys hr=>by rw[I.tuple_inj hr hq];exact hx,hm,rfl,rfl⟩,⟨by simpa using hp.1,hp.2.1⟩,fun b hb=>?_⟩
  rw[G8 (fun z=>W.apart i T h' hM (by rw[<-z];exact hb))]
  exact(hf b hb).1
 done:=by
  intro X hP hw hK hc i pins s σ H E I hf st hg
  subst hP hw hK
  obtain⟨xs,hq,hx⟩:=hg
  obtain⟨B,rv,p,hz⟩:=I.tuple hq
  obtain⟨⟨old,G⟩,hit⟩:=st
  have ht:s.heap.IsTuple a B.toArray:=p
  have U:a≠it:=by
   intro z
   obtain⟨o,O,Z,_⟩:=id hit
   obtain⟨o2,j,q,_⟩:=id ht
   rw[z,O]at j
   cases j
   rw[Z]at q
   exact absurd q (by decide)
  have ha:a≠e:=by
   intro z
   obtain⟨o2,j,q,_⟩:=id ht
   have F:=G
   unfold IsEnum at F
   rw[z,F]at j
   cases j
   exact absurd (show Value.type "enumerate"=Value.type "tuple" from q) (by decide)
  have D:=ET.a4R (prog:=X.prog) (w:=X.w) (A:=X.A.in1) (show X.A.in1.handled=none from I.ok.hd hc) it a U B.toArray
  have Y:e∉ [it,a]:=by
   intro z
   rcases List.mem_cons.mp z with z | z
   ·exact J z
   ·exact ha (AC.mp z).symm
  have W:=WalksT.enumerateD D e J Y (by simp)
  have hl:=rv.length
  have hn:i=B.toArray.size:=by simp;omega
  refine W.done s _ _ ⟨⟨old,by rw[<-hn];exact G⟩,by rw[<-hn];exact hit,ht⟩ fun h' tk hk=>⟨rfl,?_⟩
  exact I.turnedL (ch:=[e,it]) hk hf
 self:=fun _ _ _ _ _ st h=>by
  obtain⟨⟨old,G⟩,_⟩:=st
  exact wpAny_pyIter_enum G h
section
variable{X:Cx}{elts:List Expr}{k:Nat}{tpos:Pos}
noncomputable def b7y (K:W.Frag) (ta:TA):TI:=fun σ H R=>ta σ H fun vs H1=>∃a,vs=[.ref a]/\(∃xs,SqT K H1 a xs)/\R (Ite K a) H1
theorem a5Q{a:Expr}{ta:TA}{p pos:Pos}(hg:Gl X "enumerate")(O:X.mg "enumerate"=none)(Z:PA X [a] ta)(Y:starEach [a] X.env=[(false,eval a X.env)]:=by rfl):
  PI X (.Tuple elts k tpos) (.Call (.Name "enumerate" p) [a] [] pos) (b7y X.K ta):=by
 intro pins s σ H R I h
 refine Call_ (a1i I hg O boot_enumerate (PyProof.Rows.callWith_type1 (thn (Z pos pins s σ H _ I h) fun us j⟨vs,H1,I1,r1,G⟩=>?_) Y rfl))
 obtain⟨a,e,⟨xs,U⟩,q⟩:=G
 subst e
 cases r1 with
 | cons r rr=>
  cases rr
  cases r
  obtain⟨D,rv,p,hz⟩:=I1.tuple U
  refine ET.a2m (show j.heap.IsTuple a D.toArray from p) fun h' F hit hsz hk=>?_
  have I2:Inv X pins σ H1 {j with heap:=h'}:=I1.kept (t':=j.toks) hk
  refine wpAny_pyIter_enum F ?_
  refine⟨j.heap.objs.size+1,[j.heap.objs.size+1,j.heap.objs.size],_,_,H1,rfl,I2,a9K a (j.heap.objs.size+1) j.heap.objs.size (Nat.succ_ne_self _),⟨⟨_,F⟩,hit⟩,fun b J=>?_,q⟩
  have B:j.heap.objs.size<=b:=by
   rcases List.mem_cons.mp J with z | z
   ·rw[z];exact BM _
   ·rw[AC.mp z];exact AI _
  exact I1.fpOk B (I1.hok.fresh B)
end
theorem a8n{K:W.Frag}{a:Addr}{xs:List V}{g:TG}{tb:TS}{D:a0m}{σ:St}{H:Hp}(j:Nat->St->Hp->Prop)(h0:j 0 σ H)(hl:∀i σ H,i<=xs.length->j i σ H->SqT K H a xs)
  (Z:∀i x p σ H,xs[i]?=some x->j i σ H->H p=none->g (.ref p) σ (upd H p (.tup [.int i,x])) fun B H2=>tb {D with nx:=j (i+1),ct:=j (i+1),bk:=D.nx} B H2)(hd:∀σ H,j xs.length σ H->D.nx σ H):
  ∃W:Nat->Nat->St->Hp->Prop,(∃m,W 0 m σ H)/\∀i m σ H,W i m σ H->
   ((Ite K a).stop i H/\D.nx σ H)\/((Ite K a).go i H/\∃N:St->Hp->Prop,(∀F H',N F H'->∃J,J < m/\W (i+1) J F H')/\∀x H',(Ite K a).yld i H x H'->g x σ H' fun B H2=>tb {D with nx:=N,ct:=N,bk:=D.nx} B H2):=by
 refine⟨fun i m σ H=>m=xs.length - i/\i<=xs.length/\j i σ H,⟨xs.length,by simp,Nat.zero_le _,h0⟩,?_⟩
 rintro i m σ H ⟨rfl,hi,p⟩
 have q:=hl i σ H hi p
 by_cases G:i < xs.length
 ·refine .inr ⟨⟨xs,xs[i],q,by simp[G]⟩,j (i+1),fun F H' p'=>⟨xs.length - (i+1),by omega,rfl,G,p'⟩,fun x H' y=>?_⟩
  obtain⟨U,v,y,Y,O,e2⟩:=y
  subst O e2
  exact Z i v U σ _ (y xs q) p Y
 ·have e:i=xs.length:=by omega
  subst e
  exact .inl ⟨⟨xs,q,rfl⟩,hd σ H p⟩
end L2
namespace L2
open PySem PySem.Spec PyProof.Rows
structure Cl(P:Program)(w:World)(K:W.Frag)(mg:Str->Option Value)(base:Heap)(k:Nat)(x:Str)(ps:List Str)(sp:Sp):Prop where
 ex:∃f fd,a6j P w K mg base CX0 k f fd ps sp/\mg x=some (.ref f)/\W.keepIn K (.ref f)=true/\a6A K fd ps []
theorem W0{X:Cx}{j k:Nat}{x:Str}{ps:List Str}{sp:Sp}{e:Expr}{es:List Expr}{t:TA}{p pos:Pos}(C:Cl X.prog X.w X.K X.mg X.base j x ps sp)(G:a1R k X.A)(hg:Gl X x)(Y:PA X (e::es) t)(D:j<=k:=by decide)
  (q:(x==("__debug__":Str))=false:=by decide)(U:starEach (e::es) X.env=(false,eval e X.env)::starEach es X.env:=by rfl)(B:(backTo pos (starEach es X.env)).any (·.1)=false:=by rfl):
  PE X (.Call (.Name x p) (e::es) [] pos) (b5y sp [] E0 t):=by
 obtain⟨f,fd,F,O,Z,J⟩:=C.ex
 exact b5t F (G.mono D) hg O Z J .nil b7A Y q U B
noncomputable def W1 (K:W.Frag) (mg:Str->Option Value) (x:Str) (st:Stmt):Prop:=∃f fd,Fun K x x st f fd/\mg x=some (.ref f)
theorem b0O{K:W.Frag}{mg:Str->Option Value}{h:Heap}{x:Str}{st:Stmt}{f:Addr}{F:Value}{D O:Option Addr}{q:Array (Option Value)}{kV B J j ct:Value}(X:K.In h)(G:h.Ns mainGlobals mg)
  (a:W.nsIn K mainGlobals x=some (some (.ref f)))(l:K.lookup f=some ⟨F,D,.func (W.fnOf x x (a1r st) (a0A st) (J4 st) .none kV B J O j ct),q⟩)
  (c:W.codeIn K j x=true)(k:W.keepIn K (.ref f)=true):W1 K mg x st:=
 ⟨f,_,b2i l c k,W.mg_of X G a⟩
theorem Cl.of{P:Program}{w:World}{K:W.Frag}{mg:Str->Option Value}{base:Heap}{x:Str}{st:Stmt}{N ps:List Str}{k:Nat}{sp:Sp}(T:W1 K mg x st)(S:U3 N ps (J4 st))(len:∀vs H Q E,sp vs H Q E->vs.length=ps.length)
  (D:∀(kV B G:Value)(J:Option Addr)(j ct:Value)(us:List Value),us.length=ps.length->bindArgs (W.fnOf x x (a1r st) (a0A st) (J4 st) .none kV B G J j ct) ⟨us,[]⟩=pure (ps.zip us))
  (q:∀(f:Addr)(j:Value)(A:Around)(outer:List Env)(s:Shared)(H:Hp)(vs:List V)(Q:VK)(E:XK),a1R k (A.deeper (envOfC x (J4 st) s.heap.objs.size f j))->sp vs H Q E->
   ∃t,PSs (a9T CX0 P w K mg base N x (J4 st) f j A outer s H E).nox (a0A st) t/\t {nx:=fun _ H'=>Q .non H',rt:=Q} (a3O N vs) H):Cl P w K mg base (k+1) x ps sp:=by
 obtain⟨f,fd,F,m⟩:=T
 exact⟨f,fd,F.ok S len (fun j A outer s H vs Q E=>q f j A outer s H vs Q E),m,F.kp,F.binds D⟩
noncomputable def J9 (H H':Hp):Prop:=∀b xs,H b=some (.tup xs)->H' b=some (.tup xs)
section
variable{H H1 H2:Hp}{l p:Addr}{o:HO}{xs ys:List V}
theorem G5.tups(e:G5 H H1):J9 H H1:=fun b xs q=>e b _ q
theorem J9.refl(H:Hp):J9 H H:=fun _ _ q=>q
theorem J9.trans(a:J9 H H1)(b:J9 H1 H2):J9 H H2:=fun c xs q=>b c xs (a c xs q)
theorem J9.lst(h:H l=some (.lst xs)):J9 H (upd H l (.lst ys)):=fun b zs q=>by
 rw[G8 (a5p q h (by intro z;cases z))];exact q
theorem J9.new(h:H p=none):J9 H (upd H p o):=fun b zs q=>by
 rw[G8 (Y8 q h)];exact q
theorem G5.put(s:G5 H H1)(h:H l=none):G5 H (upd H1 l o):=fun b u q=>by
 rw[G8 (Y8 q h)];exact s b u q
theorem G5.new(s:G5 H H1)(h:H1 p=none):G5 H (upd H1 p o):=s.put (s.free h)
theorem U2{u:HO}(h:H l=some u)(j:H p=none):upd H p o l=some u:=by
 rw[G8 (Y8 h j)];exact h
end
theorem a1I{α:Type}(xs:List α)(d:α){i:Int}(j:0<=i)(h1:i < (xs.length:Int)):atI xs i=some (xs.getD i.toNat d):=by
 have e:i=((i.toNat:Nat):Int):=by omega
 have hl:i.toNat < xs.length:=by omega
 have hx:xs[i.toNat]?=some (xs.getD i.toNat d):=by
  rw[BE]
  simp[hl]
 have:=R3 hx
 rw[<-e]at this
 exact this
theorem Z1{α:Type}(f:α->V)(xs:List α)(d:α){i:Int}(j:0<=i)(h1:i < (xs.length:Int)):atI (xs.map f) i=some (f (xs.getD i.toNat d)):=by
 have:=a1I (xs.map f) (f d) j (by simpa using h1)
 rw[this,BE,List.getElem?_map,BE]
 have hl:i.toNat < xs.length:=by omega
 simp[hl]
theorem D8{x:Str}{A B:Prop}(h:A):if decide (V.str x=V.str x)=true then A else B:=by
 rw[if_pos (decide_eq_true rfl)];exact h
theorem U9{x y:Str}{A B:Prop}(e:¬x=y)(h:B):if decide (V.str x=V.str y)=true then A else B:=by
 rw[if_neg (by rw[AZ (fun q=>e (V.str.inj q))];exact AH)];exact h
theorem b7G{i:Int}{A B:Prop}(h:A):if decide (V.int i=V.int i)=true then A else B:=by
 rw[if_pos (decide_eq_true rfl)];exact h
theorem b6Q{i j:Int}{A B:Prop}(e:¬i=j)(h:B):if decide (V.int i=V.int j)=true then A else B:=by
 rw[if_neg (by rw[AZ (fun q=>e (V.int.inj q))];exact AH)];exact h
theorem a6J{i j:Int}{A B:Prop}(h1:i=j->A)(h2:¬i=j->B):if decide (V.int i=V.int j)=true then A else B:=
 a3q (fun h=>h1 (V.int.inj (of_decide_eq_true h))) fun h=>h2 fun e=>h (decide_eq_true (congrArg V.int e))
theorem b6V{p:Prop}[Decidable p]{A B:Prop}(j:p)(h:A):if decide p=true then A else B:=by
 rw[if_pos (decide_eq_true j)];exact h
theorem b7C{p:Prop}[Decidable p]{A B:Prop}(j:¬p)(h:B):if decide p=true then A else B:=by
 rw[if_neg (by rw[AZ j];exact AH)];exact h
theorem b8i{i:Int}{A B:Prop}(h:B):if(!decide (V.int i=V.int i))=true then A else B:=a5u rfl h
theorem a8i(K:W.Frag)(T:String):W.kitOne K (.type T) (.type T)=some true:=by
 unfold W.kitOne
 rw[if_pos (by simp)]
theorem a4N(K:W.Frag):W.kitOne K (.type "int") (.type "str")=some false:=by kernel_rfl
noncomputable def a3U (c:Nat):Bool:=decide (97<=c) && decide (c<=122)
noncomputable def b7g (c:Nat):Bool:=decide (48<=c) && decide (c<=57)
noncomputable def a3B (c:Nat):Bool:=a3U c || b7g c
noncomputable def b7K:List Nat->Bool
 | []=>false
 | c::r=>a3U c && r.all a3B && decide (r.length<=7)
noncomputable def B0 (x:Str):Prop:=b7K x.cps.toList=true
noncomputable instance (x:Str):Decidable (B0 x):=inferInstanceAs (Decidable (_=true))
theorem B0.len{x:Str}(h:B0 x):1<=x.length/\x.length<=8:=by
 unfold B0 at h
 obtain⟨⟨l⟩⟩:=x
 cases l with
 | nil=>exact absurd (show false=true from h) AH
 | cons c r=>
  have h':(a3U c && r.all a3B && decide (r.length<=7))=true:=h
  simp only[Bool.and_eq_true,decide_eq_true_eq]at h'
  show 1<=(Array.mk (c::r)).size/\(Array.mk (c::r)).size<=8
  simp only[List.size_toArray,List.length_cons]
  omega
inductive Th where
 | num (n:Int)
 | nam (x:Str)
noncomputable def thV:Th->V
 | .num n=> .int n
 | .nam x=> .str x
noncomputable def b0K:Th->Prop
 | .num n=>0<=n/\n < 10 ^ 60
 | .nam x=>B0 x
noncomputable def a7F (H:Hp) (v:V) (t:Int×Th):Prop:=∃p,v= .ref p/\H p=some (.tup [.int t.1,thV t.2])/\b0K t.2
noncomputable abbrev a5t (H:Hp):List V->List (Int×Th)->Prop:=Paired (a7F H)
theorem Paired.get?{α β:Type}{F:α->β->Prop}:∀{xs:List α}{ys:List β}{i:Nat}{x:α},Paired F xs ys->xs[i]?=some x->∃y,ys[i]?=some y/\F x y
 | _,_,_,_,.nil,e=>by simp at e
 | _,_,0,_,.cons r _,e=>by simp at e;subst e;exact⟨_,rfl,r⟩
 | _,_,i+1,x,.cons _ t,e=>by
  obtain⟨u,h1,h2⟩:=Paired.get? (i:=i) (x:=x) t (by simpa using e)
  exact⟨u,by simpa using h1,h2⟩
theorem Paired.get?'{α β:Type}{F:α->β->Prop}:∀{xs:List α}{ys:List β}{i:Nat}{y:β},Paired F xs ys->ys[i]?=some y->∃x,xs[i]?=some x/\F x y
 | _,_,_,_,.nil,e=>by simp at e
 | _,_,0,_,.cons r _,e=>by simp at e;subst e;exact⟨_,rfl,r⟩
 | _,_,i+1,x,.cons _ t,e=>by
  obtain⟨u,h1,h2⟩:=Paired.get?' (i:=i) (y:=x) t (by simpa using e)
  exact⟨u,by simpa using h1,h2⟩
theorem a7F.mono{H H':Hp}(s:J9 H H'){v:V}{t:Int×Th}(h:a7F H v t):a7F H' v t:=by
 obtain⟨p,e,h,o⟩:=h
 exact⟨p,e,s p _ h,o⟩
theorem a5t.mono{H H':Hp}(s:J9 H H'){vs:List V}{ts:List (Int×Th)}(h:a5t H vs ts):a5t H' vs ts:=Paired.mapP h fun _ _ q=>q.mono s
structure a1a(H:Hp)(t:Addr)(ts:List (Int×Th)):Prop where
 ex:∃vs,H t=some (.tup vs)/\a5t H vs ts
 lo:1<=ts.length
 hi:ts.length<=6
theorem a1a.mono{H H':Hp}(s:J9 H H'){t:Addr}{ts:List (Int×Th)}(h:a1a H t ts):a1a H' t ts:=by
 obtain⟨⟨j,h1,h2⟩,lo,hi⟩:=h
 exact⟨⟨j,s t _ h1,h2.mono s⟩,lo,hi⟩
theorem J2{α:Type}{l:List α}{i:Nat}{x:α}(h:l[i]?=some x):l.take (i+1)=l.take i++[x]:=by
 rw[List.take_succ,h];rfl
end L2
namespace L2
open PySem PySem.Spec PyProof.Rows
section
variable{X:Cx}
end
structure b2V(x:Str):Prop where
 nb:32∉x.cps.toList
 len:x.length<=61
noncomputable instance (x:Str):Decidable (b2V x):=decidable_of_iff (32∉x.cps.toList/\x.length<=61) ⟨fun h=>⟨h.1,h.2⟩,fun h=>⟨h.nb,h.len⟩⟩
theorem b4n{c:Nat}(h:a3B c=true):c≠32:=by
 rintro rfl
 exact absurd h (by decide)
theorem B0.signs{x:Str}(h:B0 x):∀c∈x.cps.toList,a3B c=true:=by
 unfold B0 at h
 intro c j
 cases e:x.cps.toList with
 | nil=>rw[e]at j;simp at j
 | cons d r=>
  rw[e]at h j
  have h':(a3U d && r.all a3B && decide (r.length<=7))=true:=h
  simp only[Bool.and_eq_true,decide_eq_true_eq,List.all_eq_true]at h'
  rcases List.mem_cons.mp j with z | z
  ·rw[z];unfold a3B;rw[h'.1.1];rfl
  ·exact h'.1.2 c z
theorem B0.word{x:Str}(h:B0 x):b2V x:=⟨fun z=>b4n (h.signs 32 z) rfl,by have:=h.len;omega⟩
theorem a3L{n:Int}(j:0<=n)(h1:n < 10 ^ 60):(Str.ofString (toString n)).cps.toList=(Nat.toDigits 10 n.toNat).map Char.toNat/\(Nat.toDigits 10 n.toNat).length<=60:=by
 have e:n=((n.toNat:Nat):Int):=by omega
 constructor
 ·have h:=text_ofNat n.toNat
  rw[show Int.ofNat n.toNat=n from e.symm]at h
  rw[h]
 ·exact digits10_le (by decide) (by omega)
inductive b0q:List Expr->List Str->Prop
 | nil:b0q [] []
 | cons {x:Str} {j pos} {es:List Expr} {ys:List Str} (h:b0q es ys):b0q (.Constant (.str x) j pos::es) (x::ys)
section
variable{X:Cx}
theorem b5o{es:List Expr}{ys:List Str}(h:b0q es ys):PA X es (fun _ H Q=>Q (ys.map V.str) H):=by
 induction h with
 | nil=>exact G4
 | @cons x j pos es ys h q=>
  exact G0 (es:=es) (R7 (x:=x) (j:=j) (pos:=pos)) q rfl
end
end L2
namespace L2
open PySem PySem.Spec PyProof.Rows
noncomputable def a1k (cells:List (Str×Addr)):List (Str×NameKind)->List (Str×Addr)->List (Str×Addr)
 | [],cs=>cs
 | (n,k)::r,cs=>a1k cells r (if k== .free then(n,(cells.lookup n).getD 0)::cs else cs)
theorem a9O{cells:List (Str×Addr)}{env:Env}(U:env.cells=cells):∀(l:List (Str×NameKind))(j:List (Str×Addr)),(∀y∈l,y.2= .free->∃c,cells.lookup y.1=some c)->
  (forIn l j fun p j=>(do if p.2== .free then(do let a<-cellOf env p.1;pure (ForInStep.yield ((p.1,a)::j)))else pure (ForInStep.yield j):Sem (ForInStep (List (Str×Addr)))))=pure (a1k cells l j):=by
 intro l
 induction l with
 | nil=>intro j _;rfl
 | cons p r G=>
  intro j h
  obtain⟨n,k⟩:=p
  rw[List.forIn_cons]
  have D:∀y∈r,y.2= .free->∃c,cells.lookup y.1=some c:=fun y O=>h y (AK _ O)
  by_cases J:k= .free
  ·subst J
   obtain⟨c,B⟩:=h (n,.free) AM rfl
   have q:env.cells.lookup n=some c:=by rw[U];exact B
   have e:cellOf env n=pure c:=by unfold cellOf;rw[q]
   simp only[beq_self_eq_true,if_true,e,pure_bind]
   rw[G _ D]
   unfold a1k
   rw[if_pos (by simp),show(cells.lookup n).getD 0=c by rw[show cells.lookup n=some c from B];rfl]
   conv=>rhs;unfold a1k
  ·have F:(k==NameKind.free)=false:=by simpa using J
   simp only[F,Bool.false_eq_true,if_false,pure_bind]
   rw[G _ D]
   conv=>rhs;unfold a1k
   rw[if_neg (by rw[F];exact AH)]
theorem a3J{cells:List (Str×Addr)}{x:Str}{c:Addr}:∀(l:List (Str×NameKind))(B:List (Str×Addr)),(∀y∈l,y.2= .free->∃c,cells.lookup y.1=some c)->(a1k cells l B).lookup x=some c->cells.lookup x=some c\/B.lookup x=some c
 | [],B,_,h=> .inr h
 | (n,k)::r,B,D,h=>by
  unfold a1k at h
  rcases a3J r _ (fun y q=>D y (AK _ q)) h with h | h
  ·exact .inl h
  ·by_cases F:k= .free
   ·subst F
    obtain⟨c',j⟩:=D (n,.free) AM rfl
    have j:cells.lookup n=some c':=j
    rw[if_pos (by simp),List.lookup_cons]at h
    split at h
    ·rename_i e
     have G:x=n:=by simpa using e
     subst G
     rw[j]at h
     cases h
     exact .inl j
    ·exact .inr h
   ·rw[if_neg (by simpa using F)]at h
    exact .inr h
theorem a5J{cells:List (Str×Addr)}{x:Str}:∀(l:List (Str×NameKind))(j:List (Str×Addr)),(∃c,j.lookup x=some c)->∃c,(a1k cells l j).lookup x=some c
 | [],_,h=>h
 | (n,k)::r,j,h=>by
  unfold a1k
  refine a5J r _ ?_
  split
  ·rw[List.lookup_cons]
   split
   ·exact⟨_,rfl⟩
   ·exact h
  ·exact h
theorem a4K{cells:List (Str×Addr)}{x:Str}:∀(l:List (Str×NameKind))(j:List (Str×Addr)),(x,NameKind.free)∈l->∃c,(a1k cells l j).lookup x=some c
 | (n,k)::r,j,h=>by
  unfold a1k
  rcases List.mem_cons.mp h with e | h
  ·cases e
   refine a5J r _ ?_
   rw[if_pos (by simp),List.lookup_cons]
   simp
  ·exact a4K r _ h
theorem a4g{sc:Scope}{env:Env}(h:∀y∈sc.names,y.2= .free->∃c,env.cells.lookup y.1=some c):closureFor sc env=pure (a1k env.cells sc.names []):=by
 have:=a9O (env:=env) rfl sc.names [] h
 unfold closureFor
 simp only[bind_pure]
 exact this
theorem a3Z{env:Env}{x:Str}:∀{names:List (Str×NameKind)},names.lookup x=some .free->
  (names.map fun(n,k)=>if(k==NameKind.free && env.scope.kind== .function && env.kindOf n==some .cell)then(n,NameKind.cell)else(n,k)).lookup x=some .cell\/
  (names.map fun(n,k)=>if(k==NameKind.free && env.scope.kind== .function && env.kindOf n==some .cell)then(n,NameKind.cell)else(n,k)).lookup x=some .free
 | [],h=>by simp at h
 | (n,k)::r,h=>by
  have j:=@a3Z env x r
  simp only[List.map_cons]
  by_cases q:(k==NameKind.free && env.scope.kind== .function && env.kindOf n==some .cell)=true
  ·rw[if_pos q]
   simp only[List.lookup_cons]at h⊢
   cases hx:x==n with
   | true=>exact .inl rfl
   | false=>simp only[hx]at h⊢;exact j h
  ·rw[if_neg q]
   simp only[List.lookup_cons]at h⊢
   cases hx:x==n with
   | true=>simp only[hx]at h⊢;exact .inr h
   | false=>simp only[hx]at h⊢;exact j h
theorem a3P{env:Env}{x:Str}:∀{names:List (Str×NameKind)},
  (names.map fun(n,k)=>if(k==NameKind.free && env.scope.kind== .function && env.kindOf n==some .cell)then(n,NameKind.cell)else(n,k)).lookup x=some .cell\/
  (names.map fun(n,k)=>if(k==NameKind.free && env.scope.kind== .function && env.kindOf n==some .cell)then(n,NameKind.cell)else(n,k)).lookup x=some .free->
  (x,NameKind.free)∈names\/(x,NameKind.cell)∈names
 | [],h=>by simp at h
 | (n,k)::r,h=>by
  have B:=@a3P env x r
  simp only[List.map_cons]at h
  have tl:(x,NameKind.free)∈r\/(x,NameKind.cell)∈r->(x,NameKind.free)∈(n,k)::r\/(x,NameKind.cell)∈(n,k)::r:=fun q=>q.imp (AK _) (AK _)
  by_cases j:(k==NameKind.free && env.scope.kind== .function && env.kindOf n==some .cell)=true
  ·rw[if_pos j]at h
   have D:k= .free:=by
    simp only[Bool.and_eq_true]at j
    simpa using j.1.1
   simp only[List.lookup_cons]at h
   cases hx:x==n with
   | true=>
    have e:x=n:=by simpa using hx
    subst e D
    exact .inl AM
   | false=>simp only[hx]at h;exact tl (B h)
  ·rw[if_neg j]at h
   simp only[List.lookup_cons]at h
   cases hx:x==n with
   | true=>
    have e:x=n:=by simpa using hx
    subst e
    simp only[hx]at h
    rcases h with h | h
    ·cases h;exact .inr AM
    ·cases h;exact .inl AM
   | false=>simp only[hx]at h;exact tl (B h)
structure a2Q(osc:Scope)(N:List Str)(sc:Scope)(M:List Str)(ρ:List (Option Nat)):Prop where
 kind:sc.kind= .function
 nocell:∀y∈sc.names,y.2≠ .cell
 own:∀y∈sc.names,y.2= .local->sc.names.lookup y.1=some .local
 fre:∀y∈sc.names,y.2= .free->osc.names.lookup y.1=some .cell\/osc.names.lookup y.1=some .free
 len:ρ.length=M.length
 ren:∀p∈ρ.zip M,(match p.1 with | none=>true | some i=>decide (N[i]?=some p.2/\sc.names.lookup p.2=some .free))=true
 nd:M.Nodup
noncomputable def b1n (ρ:List (Option Nat)) (σ:St):St:=ρ.map fun o=>match o with | none=>none | some i=>(σ[i]?).join
noncomputable def B7 (X:Cx) (sc:Scope) (cl:List (Str×Addr)) (C:Addr) (M:List Str) (s:Shared) (H:Hp) (fp:List Addr) (xe:Value->Shared->Prop):Cx where
 prog:=X.prog
 w:=X.w
 K:=X.K
 mg:=X.mg
 base:=X.base
 A:=X.A
 N:=M
 s₀:=s
 H₀:=H
 env:=compEnvC sc cl C X.env
 outer:=X.stack
 stack:=X.stack
 ex:=fp
 fn:=fun _=>false
 calm:=X.calm
 pn:=[]
 xe:=xe
theorem b1t{P:Program}{w:World}{A:Around}{R:Result->Shared->Prop}{s:Shared}{elt tg iter:Expr}{ifs:List Expr}{sc:Scope}{pos:Pos}{it j:Value}{env:Env}(J:Nat->Shared->Prop)
  (q:∀n s,J n s->wpAny (model P w) A (pyNext it) (fun r D=>match r with
   | none=>R (.ok .next) D
   | some v=>wpAny (model P w) A (letOwnedTupleGo tg it v) (fun _ G=>wpAny (model P w) A (assign tg env v) (fun _ O=>
     wpAny (model P w) A (forIn ifs true fun c r=>if r=true then do let ok<-isTrue c env (eval c env);pure (ForInStep.yield ok)else pure (ForInStep.yield r)) (fun ok B=>
      if ok=true then wpAny (model P w) A (eval elt env) (fun x Y=>wpAny (model P w) A (call (.builtin "list.append") [j,x]) (fun _ F=>∃m,m < n/\J m F) (notedBy (model P w) A env fun e s'=>R (.error e) s') Y)
       (notedBy (model P w) A env fun e s'=>R (.error e) s') B
      else∃m,m < n/\J m B) (notedBy (model P w) A env fun e s'=>R (.error e) s') O) (notedBy (model P w) A env fun e s'=>R (.error e) s') G) (notedBy (model P w) A env fun e s'=>R (.error e) s') D)
   (notedBy (model P w) A env fun e s'=>R (.error e) s') s)
  (n:Nat)(h:J n s):codeAny (model P w) A (.compLoop (.ListComp elt [⟨tg,iter,ifs,0⟩] sc pos) 0 it j env) R s:=by
 refine codeAny_loop rfl J (fun n s hJ=>?_) n h
 show wpAny (model P w) A ((compTurn (.ListComp elt [⟨tg,iter,ifs,0⟩] sc pos) 0 it j env).onRaise fun x=>do noteFrame x env;theTreesLotGoes x) _ _ s
 refine wpAny_noted ?_
 rw[compTurn_list]
 refine AA (wpAny_standAt (AA (thn (q n s hJ) fun r D h1=>?_)))
 cases r with
 | none=>exact AB h1
 | some v=>
  refine AA (thn h1 fun _ G h2=>AA (thn h2 fun _ O Z=>AA (thn Z fun ok B U=>?_)))
  cases ok with
  | false=>exact AB ⟨rfl,U⟩
  | true=>exact AA (AA (thn U fun x Y h5=>AA (thn h5 fun _ F h6=>AB (AB ⟨rfl,h6⟩))))
noncomputable def PTs (X:Cx) (ifs:List Expr) (t:TT):Prop:=
 ∀(pins:List (Addr×Obj))(s:Shared)(σ:St)(H:Hp)(Q:Bool->Hp->Prop),Inv X pins σ H s->t σ H Q->
  wpAny (model X.prog X.w) X.A (forIn ifs true fun c r=>if r=true then do let ok<-isTrue c X.env (eval c X.env);pure (ForInStep.yield ok)else pure (ForInStep.yield r)) (TP X pins σ Q) X.xe s
noncomputable def b0A:TT:=fun _ H Q=>Q true H
theorem ntG{i:Nat}{v:V}{σ:St}{H:Hp}{A B:St->Hp->Prop}(h:A (σ.set i (some v)) H):M3 i v σ H (fun j D=>b0A j D fun b q=>if b=true then A j q else B j q):=by
 show if true=true then A (σ.set i (some v)) H else B (σ.set i (some v)) H
 exact B9 h
theorem a1W{X:Cx}:PTs X [] b0A:=fun _ _ _ H _ I h=>wpAny_tests_nil ⟨H,I,h⟩
theorem b4o{X:Cx}{c:Expr}{t:TT}(h:PT X c t):PTs X [c] t:=fun pins s σ H Q I q=>wpAny_tests_one (h pins s σ H Q I q)
noncomputable def b5D (wi:TI) (ρ:List (Option Nat)) (g:TG) (tt:TT) (te:TE):TE:=fun σ H Q=>wi σ H fun J H1=>∀D,H1 D=none->∃W:Nat->Nat->St->Hp->Prop,(∃m,W 0 m (b1n ρ σ) (upd H1 D (.lst [])))/\∀i m σ2 H2,W i m σ2 H2->
 (J.stop i H2/\Q (.ref D) H2)\/(J.go i H2/\∃N:St->Hp->Prop,(∀σ' H',N σ' H'->∃m',m' < m/\W (i+1) m' σ' H')/\∀x H3,J.yld i H2 x H3->g x σ2 H3 fun σ4 H4=>tt σ4 H4 fun b H5=>
  if b=true then te σ4 H5 fun y H6=>∃ys,H6 D=some (.lst ys)/\ys.length < sizeLine/\N σ4 (upd H6 D (.lst (ys++[y])))
  else N σ4 H5)
theorem a5f{J:It}{g:TG}{tt:TT}{te:TE}{Q:Hp->Prop}{σ:St}{H:Hp}{D:Addr}(n:Nat)(B:Nat->St->Hp->Prop)(h0:B 0 σ (upd H D (.lst [])))
  (hs:∀i j H2,i < n->B i j H2->J.go i H2/\∀x U,J.yld i H2 x U->g x j U fun q Z=>tt q Z fun b G=>
   if b=true then te q G fun y O=>∃ys,O D=some (.lst ys)/\ys.length < sizeLine/\B (i+1) q (upd O D (.lst (ys++[y])))else B (i+1) q G)
  (hd:∀j H2,B n j H2->J.stop n H2/\Q H2):
  ∃W:Nat->Nat->St->Hp->Prop,(∃m,W 0 m σ (upd H D (.lst [])))/\∀i m j H2,W i m j H2->
   (J.stop i H2/\Q H2)\/(J.go i H2/\∃N:St->Hp->Prop,(∀F H',N F H'->∃m',m' < m/\W (i+1) m' F H')/\∀x U,J.yld i H2 x U->g x j U fun q Z=>tt q Z fun b G=>
    if b=true then te q G fun y O=>∃ys,O D=some (.lst ys)/\ys.length < sizeLine/\N q (upd O D (.lst (ys++[y])))else N q G):=by
 refine⟨fun i m σ H=>m=n - i/\i<=n/\B i σ H,⟨n,by simp,Nat.zero_le _,h0⟩,?_⟩
 rintro i m j H2 ⟨rfl,hi,p⟩
 by_cases Y:i < n
 ·obtain⟨h1,h2⟩:=hs i j H2 Y p
  exact .inr ⟨h1,B (i+1),fun F H' p'=>⟨n - (i+1),by omega,rfl,Y,p'⟩,h2⟩
 ·have e:i=n:=by omega
  subst e
  exact .inl (hd j H2 p)
section
variable{X:Cx}{tg elt iter:Expr}{ifs:List Expr}{sc:Scope}{pos:Pos}{M:List Str}{ρ:List (Option Nat)}{wi:TI}{g:TG}{tt:TT}{te:TE}
theorem a5P(hH:Scope)(hY:X.env.scope=hH)(N:List Str)(hN:X.N=N)(S:a2Q hH N sc M ρ)(hc:X.calm=true)
  (hg:∀cl C s H fp xe,PG (B7 X sc cl C M s H fp xe) tg g)(ht:∀cl C s H fp xe,PTs (B7 X sc cl C M s H fp xe) ifs tt)(he:∀cl C s H fp xe,PE (B7 X sc cl C M s H fp xe) elt te)
  {pins:List (Addr×Obj)}{σ:St}{H:Hp}{s:Shared}{hU:Value}{Q:VK}{RR:Value->Addr->Result->Shared->Prop}(I:Inv X pins σ H s)
  (h2:PIE X pins σ tg (fun J H1=>∀D,H1 D=none->∃W:Nat->Nat->St->Hp->Prop,(∃m,W 0 m (b1n ρ σ) (upd H1 D (.lst [])))/\∀i m hJ H2,W i m hJ H2->
   (J.stop i H2/\Q (.ref D) H2)\/(J.go i H2/\∃N:St->Hp->Prop,(∀U H',N U H'->∃m',m' < m/\W (i+1) m' U H')/\∀x H3,J.yld i H2 x H3->g x hJ H3 fun hq H4=>tt hq H4 fun b H5=>
    if b=true then te hq H5 fun y H6=>∃ys,H6 D=some (.lst ys)/\ys.length < sizeLine/\N hq (upd H6 D (.lst (ys++[y])))
    else N hq H5)) hU s)
  (hR:∀(D C:Addr)(H':Hp)(s':Shared)(mC:Str->Option Value),Inv X pins σ H' s'->s'.heap.Ns C mC->a3m X pins H' C->Q (.ref D) H'->RR (.ref D) C (.ok .next) s'):
  wpAny (model X.prog X.w) X.A (newList []) (fun hV s3=>wpAny (model X.prog X.w) X.A (newFunctionEnv sc X.env.globals (a1k X.env.cells sc.names []) [] X.env.qual none .none (some X.env)) (fun hw s4=>
   codeAny (model X.prog X.w) X.A (.compStart (.ListComp elt [⟨tg,iter,ifs,0⟩] sc pos) 0 hU hV {hw with scope:=relabel sc X.env}) (RR hV hw.locals) s4) X.xe s3) X.xe s:=by
 subst hY hN
 obtain⟨it,fp,tn,J,H2,rfl,I2,T,hE,f2,q2⟩:=h2
 have hh:∀y∈sc.names,y.2= .free->∃c,X.env.cells.lookup y.1=some c:=fun y hy hf=>I2.ok.has y.1 (S.fre y hy hf)
 have B:∀{x c},(a1k X.env.cells sc.names []).lookup x=some c->X.env.cells.lookup x=some c:=fun{x c}e=>(a3J _ _ hh e).elim id fun z=>by simp at z
 generalize hQ:a1k X.env.cells sc.names []=cl at B⊢
 refine wpAny_newObj_type (wpAny_newFunctionEnv S.nocell (by intro y hy;simp at hy) (fun h1 hB hs=>?_) S.kind)
 dsimp only at hB hs⊢
 generalize hG:s.heap.push {cls:= .type "list",dict:=none,data:= .seq ([]:List Value).toArray}=G at hB hs⊢
 have hC:G.objs.size=s.heap.objs.size+1:=by rw[<-hG,Heap.size_push]
 have old:∀b o,s.heap.get? b=some o->h1.get? b=some o:=fun b o e=>
  hs.extBut b o (BF (by rw[hC];exact Nat.lt_succ_of_lt (AU e))) (AF _ (hG▸AF _ e))
 have se:h1.get? s.heap.objs.size=some {cls:= .type "list",dict:=none,data:= .seq ([]:List Value).toArray}:=
  hs.extBut _ _ (by rw[hC];exact BF (Nat.lt_succ_self _)) (AF _ (hG▸AJ _ rfl))
 have hL:H2 s.heap.objs.size=none:=I2.hok.fresh (AI _)
 obtain⟨W,⟨m0,w0⟩,hW⟩:=q2 s.heap.objs.size hL
 have Y:s.heap.objs.size<=G.objs.size:=by rw[hC];exact BM _
 have sd:G.objs.size≠s.heap.objs.size:=by rw[hC];exact Nat.succ_ne_self _
 generalize hZ:notedBy (model X.prog X.w) X.A (compEnvC sc cl G.objs.size X.env) (fun e s'=>RR (.ref s.heap.objs.size) G.objs.size (.error e) s')=xe
 have hK:∀b∈fp,b≠G.objs.size:=fun b O=>by
  obtain⟨o,e,_⟩:=T.obj 0 _ hE b O
  have:=AU e
  exact BF (BG this Y)
 have hI:∀b∈fp,b∉frs X.stack:=fun b O z=>by
  obtain⟨f0,f1,f3,_⟩:=f2 b O
  rcases List.mem_cons.mp (I2.stkSub b z)with e | e
  ·exact f1 e
  ·exact f3 e
 have hok:(B7 X sc cl G.objs.size M s H2 fp xe).Ok:=by
  refine⟨I2.ok.mod,S.kind,I2.ok.glob,I2.ok.blt,Y,fun x y c e1 e2=>I2.ok.inj x y c (B e1) (B e2),fun x hx=>?_,(fun x c e _=>absurd (show false=true from e) AH),I2.ok.hd,I2.ok.frames,.inl rfl,fun b O=>⟨hK b O,fun x c e=>(f2 b O).2.2.2.2.1 x c (B e)⟩,
   I2.bs,Nat.le_trans I2.ok.bsz I2.sz,fun b o e O=>?_,hI,I2.stack,I2.stkFree⟩
  ·rcases a3P (names:=sc.names) (env:=X.env) hx with q | q
   ·rw[<-hQ];exact a4K _ _ q
   ·exact absurd rfl (S.nocell _ q)
  ·rcases(f2 b O).2.2.2.1 with z | z
   ·exact I2.ok.noex b o e z
   ·exact absurd (BG (AU e) (Nat.le_trans I2.ok.bsz z)) (Nat.lt_irrefl _)
 have I4:Inv (B7 X sc cl G.objs.size M s H2 fp xe) [] (b1n ρ σ) (upd H2 s.heap.objs.size (.lst [])) {s with heap:=h1,toks:=s.toks+([]:List (Str×Value)).length}:=by
  refine⟨hok,rfl,I2.bare,Un.laid old (AI _) hL,⟨_,hB,fun j x v e1 e2 _=>?_⟩,fun x c e=>?_,?_,fun x c e=>?_,fun p hp=>absurd (show p∈([]:List (Addr×Obj))from hp) (by simp),I2.hok.laid old (AI _) ⟨by show 0<=sizeLine;decide,[],0,.nil,se⟩,?_⟩
  ·unfold b1n at e2
   rw[List.getElem?_map]at e2
   cases q:ρ[j]? with
   | none=>rw[q]at e2;cases e2
   | some o=>
    rw[q]at e2
    cases o with
    | none=>cases e2
    | some i=>
     have Z:(σ[i]?).join=some v:=Option.some.inj e2
     have e3:σ[i]?=some (some v):=by
      cases z:σ[i]? with
      | none=>rw[z]at Z;cases Z
      | some y=>rw[z]at Z;cases y with
       | none=>cases Z
       | some y=>cases Z;rfl
     have hz:(ρ.zip M)[j]?=some (some i,x):=List.getElem?_zip_eq_some.mpr ⟨q,e1⟩
     have hr:=S.ren (some i,x) (AD hz)
     obtain⟨r1,r2⟩:=of_decide_eq_true hr
     obtain⟨m,hn,hl⟩:=I2.loc
     have hO:=S.fre _ (PySem.mem_of_lookup r2) rfl
     obtain⟨u,ru,lk⟩:=hl i x v r1 e3 (hO.elim (fun z=> .inr (.inl z)) fun z=> .inr (.inr z))
     refine⟨u,ru,?_⟩
     rcases lk with⟨k,_⟩ | ⟨_,c,si,cell⟩
     ·have k':X.env.scope.names.lookup x=some .local:=k
      rcases hO with z | z
      ·rw[k']at z;cases z
      ·rw[k']at z;cases z
     ·obtain⟨c',hD⟩:=a4K (cells:=X.env.cells) sc.names [] (PySem.mem_of_lookup r2)
      rw[hQ]at hD
      have:=B hD
      rw[si]at this
      cases this
      obtain⟨oc,ho,hd⟩:=cell
      exact .inr ⟨a3Z r2,_,hD,oc,old _ _ ho,hd⟩
  ·obtain⟨v,oc,ho,hd⟩:=I2.cell x c (B e)
   exact⟨v,oc,old _ _ ho,hd⟩
  ·show upd H2 s.heap.objs.size (.lst []) G.objs.size=none
   rw[G8 sd]
   exact I2.hok.fresh Y
  ·show upd H2 s.heap.objs.size (.lst []) c=none
   obtain⟨v,oc,ho,hd⟩:=I2.cell x c (B e)
   rw[G8 (BF (AU ho))]
   exact I2.freeC x c (B e)
  ·show(b1n ρ σ).length=M.length
   unfold b1n
   rw[List.length_map,S.len]
 have hP:tn 0 h1:=T.keep 0 _ _ hE fun b _ o e=>old b o e
 have sf:∀b∈fp,upd H2 s.heap.objs.size (.lst []) b=none:=fun b O=>by
  obtain⟨o,e,_⟩:=T.obj 0 _ hE b O
  rw[G8 (BF (AU e))]
  exact(f2 b O).1
 have ha:∀{H':Hp},(∀b∈fp,H' b=none)->∀b∈fp,a3m (B7 X sc cl G.objs.size M s H2 fp xe) [] H' b:=fun hn b O=>
  ⟨hn b O,hK b O,hI b O,.inl O,fun x c e=>(f2 b O).2.2.2.2.1 x c (B e),fun p hp=>absurd (show p∈([]:List (Addr×Obj))from hp) (by simp)⟩
 have hu:codeAny (model X.prog X.w) X.A (.compLoop (.ListComp elt [⟨tg,iter,ifs,0⟩] sc pos) 0 (.ref it) (.ref s.heap.objs.size) (compEnvC sc cl G.objs.size X.env)) (RR (.ref s.heap.objs.size) G.objs.size)
   {s with heap:=h1,toks:=s.toks+([]:List (Str×Value)).length}:=by
  refine b1t (fun n s'=>∃i U H',Inv (B7 X sc cl G.objs.size M s H2 fp xe) [] U H' s'/\tn i s'.heap/\(∀b∈fp,H' b=none)/\W i n U H') ?_ m0 ⟨0,_,_,I4,hP,sf,w0⟩
  rw[hZ]
  rintro n s3 ⟨i,hj,H3,I3,hT,hX,w3⟩
  rcases hW i n hj H3 w3 with⟨stop,qn⟩ | ⟨go,N,hN,step⟩
  ·refine thn (T.done (B7 X sc cl G.objs.size M s H2 fp xe) rfl rfl rfl hc i [] s3 hj H3 xe I3 (ha hX) hT stop) fun r s4⟨hr,I5⟩=>?_
   subst hr
   obtain⟨mC,nC,_⟩:=I5.loc
   have I6:Inv X pins σ H3 s4:=I2.call' I5.os I5.base I5.hok I5.bare fun b O=>⟨(f2 b O).2.2.2.1,(f2 b O).2.1,(f2 b O).2.2.2.2.1,(f2 b O).2.2.2.2.2⟩
   exact hR _ _ H3 s4 mC I6 nC (I2.fpOk Y I5.free) qn
  ·refine thn (T.item (B7 X sc cl G.objs.size M s H2 fp xe) rfl rfl rfl hc i [] s3 hj H3 xe I3 (ha hX) hT go) fun r s4⟨u,hr,h4⟩=>?_
   subst hr
   refine thn h4 fun _ s5⟨x,H5,I5,r5,y5,hA,sj⟩=>?_
   have sb:=I5.pinned (ha sj) (T.obj _ _ hA)
   refine thn (hg cl G.objs.size s H2 fp xe _ s5 hj H5 x u _ sb r5 (step x H5 y5)) fun _ s6⟨hM,H6,I6,q6⟩=>?_
   have fin:∀{s7:Shared}{hk:St}{H7:Hp},Inv (B7 X sc cl G.objs.size M s H2 fp xe) ([]++a5s fp s5.heap) hk H7 s7->(∃m',m' < n/\W (i+1) m' hk H7)->
     ∃m,m < n/\∃i U H',Inv (B7 X sc cl G.objs.size M s H2 fp xe) [] U H' s7/\tn i s7.heap/\(∀b∈fp,H' b=none)/\W i m U H':=fun{s7 hk H7}I7⟨m',hm,w7⟩=>by
    refine⟨m',hm,i+1,hk,H7,I7.unpinned,T.keep _ _ _ hA fun b O o e=>(I7.pin (b,o) (AV _ (AV _ (a1T O e)))).1,fun b O=>?_,w7⟩
    obtain⟨o,e,d⟩:=T.obj _ _ hA b O
    exact(I7.pin (b,o) (AV _ (AV _ (a1T O e)))).2.1
   refine thn (ht cl G.objs.size s H2 fp xe _ s6 hM H6 _ I6 q6) fun ok s7⟨H7,I7,q7⟩=>?_
   cases ok with
   | false=>
    rw[if_neg AH]at q7⊢
    exact fin I7 (hN _ _ q7)
   | true=>
    rw[if_pos rfl]at q7⊢
    refine thn (he cl G.objs.size s H2 fp xe _ s7 hM H7 _ I7 q7) fun y s8⟨yv,H8,I8,r8,ys,hF,sk,q8⟩=>?_
    obtain⟨z,hS,k,rv,hl,e⟩:=I8.lstM hF
    refine call_meets F.slot_list_append ⟨_,e,rfl⟩ F.entry_list_append (F.args_list_append_2 _ _) (PySem.list_append _ hS.toArray k y (by rw[List.size_toArray];omega)) ⟨e,?_⟩
    exact fin (I8.lset (its':=hS++[y]) hF e (by simp) (rv.append (.cons r8 .nil)) (by rw[List.length_append,List.length_singleton];omega)) (hN _ _ q8)
 exact codeAny_compStart_list hu (T.self X.A 0 _ _ _ hP hu)
theorem a5e(F:Scope)(N:List Str)(S:a2Q F N sc M ρ)(hi:PI X tg iter wi)(hg:∀cl C s H fp xe,PG (B7 X sc cl C M s H fp xe) tg g)(ht:∀cl C s H fp xe,PTs (B7 X sc cl C M s H fp xe) ifs tt)
  (he:∀cl C s H fp xe,PE (B7 X sc cl C M s H fp xe) elt te)(B:X.env.scope=F:=by rfl)(hN:X.N=N:=by rfl)(J:X.calm=true:=by rfl)(hs:∀x,foldedSetIterable iter X.env x=pure x:=by intro _;rfl):
  PE X (.ListComp elt [⟨tg,iter,ifs,0⟩] sc pos) (b5D wi ρ g tt te):=by
 intro pins s σ H Q I h
 have j:∀y∈sc.names,y.2= .free->∃c,X.env.cells.lookup y.1=some c:=fun y Y hf=>I.ok.has y.1 (by show X.env.scope.names.lookup y.1=_\/X.env.scope.names.lookup y.1=_;rw[B];exact S.fre y Y hf)
 rw[eval_ListComp]
 refine wpAny_comprehension_free (M:=model X.prog X.w) (A:=X.A) (E:=X.xe) (e:= .ListComp elt [⟨tg,iter,ifs,0⟩] sc pos) rfl hs (a4g j) S.kind S.own (thn (hi pins s σ H _ I h) fun v s1 h1=>thn h1 fun ha s2 h2=>?_)
 obtain⟨_,_,_,_,_,_,I2,_⟩:=id h2
 refine a5P (RR:=fun G C=>compPost (model X.prog X.w) X.A X.xe none (EP X pins σ Q) G C) F B N hN S J hg ht he I2 h2 fun D C H' s' O I' U fC q=>?_
 refine⟨O,U,fun h' sb=>?_⟩
 obtain⟨f0,f1,_,f3,f4,f5⟩:=fC
 exact⟨.ref D,H',I'.turned (t':=s'.toks) (fun b o Z e=>(sb.2 b Z).trans e) f0 f1 f3 f4 f5,rfl,q⟩
theorem a5d{j:Nat}{x:Str}{O F:Pos}(J:Scope)(N:List Str)(S:a2Q J N sc M ρ)(hk:X.N.Nodup)(hj:X.N[j]?=some x)(hx:Loc X.env.scope x)(hi:PI X tg iter wi)(hg:∀cl C s H fp xe,PG (B7 X sc cl C M s H fp xe) tg g)
  (ht:∀cl C s H fp xe,PTs (B7 X sc cl C M s H fp xe) ifs tt)(he:∀cl C s H fp xe,PE (B7 X sc cl C M s H fp xe) elt te)
  (Z:swapsWith (.ListComp elt [⟨tg,iter,ifs,0⟩] sc pos) (some (.Name x O)) F.line X.env=pure true:=by rfl)(G:X.env.scope=J:=by rfl)(hN:X.N=N:=by rfl)(hc:X.calm=true:=by rfl)(hs:∀x,foldedSetIterable iter X.env x=pure x:=by intro _;rfl)
  (hf:X.fn x=true\/X.env.scope.names.lookup x=some .local:=by first | exact .inl rfl | exact .inr rfl | assumption):
  PS X (.Assign [.Name x O] (.ListComp elt [⟨tg,iter,ifs,0⟩] sc pos) F) (b1m (b5D wi ρ g tt te) (M3 j)):=by
 intro pins s σ H D I h
 have B:∀y∈sc.names,y.2= .free->∃c,X.env.cells.lookup y.1=some c:=fun y hy hf=>I.ok.has y.1 (by show X.env.scope.names.lookup y.1=_\/X.env.scope.names.lookup y.1=_;rw[G];exact S.fre y hy hf)
 rw[exec_Assign_Name_used _ _ _ _ Z]
 refine AA (wpAny_standAt (AA ?_))
 show wpAny (model X.prog X.w) X.A (do let _<-comprehension (.ListComp elt [⟨tg,iter,ifs,0⟩] sc pos) sc X.env (firstIterPos [⟨tg,iter,ifs,0⟩] pos) (newList []) false (eval iter X.env) (some (assign (.Name x O) X.env))) _ X.xe s
 refine AA (thn (Q:=fun _ s'=>SP X pins D .next s') (wpAny_comprehension_free (M:=model X.prog X.w) (A:=X.A) (E:=X.xe) (e:= .ListComp elt [⟨tg,iter,ifs,0⟩] sc pos) (use:=some (assign (.Name x O) X.env)) rfl hs (a4g B) S.kind S.own
  (thn (hi pins s σ H _ I h) fun v s1 h1=>thn h1 fun hm s2 h2=>?_)) fun _ s' hq=>AB (AB hq))
 obtain⟨_,_,_,_,_,_,I2,_⟩:=id h2
 refine a5P (Q:=fun v H'=>M3 j v σ H' D.nx) (RR:=fun hh C=>compPost (model X.prog X.w) X.A X.xe (some (assign (.Name x O) X.env)) (fun _ s'=>SP X pins D .next s') hh C) J G N hN S hc hg ht he I2 h2 fun D' C H' s' mC I' nC fC q=>?_
 show wpAny _ _ (assign (.Name x O) X.env (.ref D')) _ _ s'
 refine wpAny_assign_Name (a6H I' hk hj hx (v:= .ref D') rfl (fun s3 I3⟨a,sb,ha⟩=>?_) hf)
 have U:C≠a:=by
  rcases ha with e | e
  ·rw[e];exact fC.2.1
  ·exact fun z=>fC.2.2.2.2.1 x a e z.symm
 refine⟨mC,nC.sameBut sb U,fun h' Y=>?_⟩
 obtain⟨f0,f1,_,f3,f4,f5⟩:=fC
 exact⟨_,H',I3.turned (t':=s3.toks) (fun b o hb e=>(Y.2 b hb).trans e) f0 f1 f3 f4 f5,q⟩
end
end L2
namespace L2
open PySem PySem.Spec PyProof.Rows
section
variable{X:Cx}{tg:Expr}
theorem b4a{K:W.Frag}(h:X.K=K):IxR X (b7x K):=h▸J5
theorem a5S{K:W.Frag}(h:X.K=K):a1u X (.type "tuple") (fun xs H Q=>∃p ys,xs=[.ref p]/\((SqL K H p ys/\∀l,H l=none->Q (.ref l) (upd H l (.tup ys)))\/(SqT K H p ys/\Q (.ref p) H))):=h▸E2
theorem a2N{K:W.Frag}{pos:Pos}{es:List Expr}{k:Nat}{t:TGs}{n:Nat}(D:X.K=K)(q:X.calm=true)(h:PGs X es t)(B:(assignEach es X.env).length=n:=by rfl)(j:(assignEach es X.env).findIdx? (·.1)=none:=by rfl):PG X (.Tuple es k pos) (b7F K n t):=D▸E7 q h B j
end
end L2
namespace L2
open PySem PySem.Spec PyProof.Rows
noncomputable def a7y (H:Hp) (v:V) (d:Str×Str):Prop:=∃p,v= .ref p/\H p=some (.tup [.str d.1,.str d.2])/\B0 d.1/\B0 d.2
noncomputable abbrev a6z (H:Hp):List V->List (Str×Str)->Prop:=Paired (a7y H)
theorem a7y.mono{H H':Hp}(s:J9 H H'){v:V}{t:Str×Str}(h:a7y H v t):a7y H' v t:=by
 obtain⟨p,e,h,o⟩:=h
 exact⟨p,e,s p _ h,o⟩
theorem a6z.mono{H H':Hp}(s:J9 H H'){vs:List V}{ts:List (Str×Str)}(h:a6z H vs ts):a6z H' vs ts:=Paired.mapP h fun _ _ q=>q.mono s
structure a0B(H:Hp)(t:Addr)(ps:List (Str×Str)):Prop where
 ex:∃vs,H t=some (.tup vs)/\a6z H vs ps
 hi:ps.length<=6
theorem a0B.mono{H H':Hp}(s:J9 H H'){t:Addr}{ts:List (Str×Str)}(h:a0B H t ts):a0B H' t ts:=by
 obtain⟨⟨j,h1,h2⟩,hi⟩:=h
 exact⟨⟨j,s t _ h1,h2.mono s⟩,hi⟩
noncomputable def a1h:Option Str->V
 | none=> .non
 | some x=> .str x
structure a8I(ts:List (Int×Th)):Prop where
 lo:1<=ts.length
 hi:ts.length<=6
 th:∀p∈ts,b0K p.2
 sg:∀p∈ts,p.1=1\/p.1= -1
 hd:∀p,ts.head?=some p->p.1=1
inductive Rw where
 | bring (p:Str) (ps:List (Str×Str))
 | give (o g:Str)
 | set (o:Str) (ts:List (Int×Th))
 | take (o:Str)
 | say (ts:List (Int×Th)) (w:Option Str)
 | need (ts:List (Int×Th))
 | ask (p:Str) (w:Option Str)
 | part (p:Str)
 | doo (p:Str)
noncomputable def a0U (H:Hp) (r:Addr):Rw->Prop
 | .bring p ps=>∃t,H r=some (.tup [.str "bring",.str p,.ref t])/\a0B H t ps
 | .give o g=>H r=some (.tup [.str "give",.str o,.str g])
 | .set o ts=>∃t,H r=some (.tup [.str "set",.str o,.ref t])/\a1a H t ts
 | .take o=>H r=some (.tup [.str "take",.str o])
 | .say ts w=>∃t,H r=some (.tup [.str "say",.ref t,a1h w])/\a1a H t ts
 | .need ts=>∃t,H r=some (.tup [.str "need",.ref t])/\a1a H t ts
 | .ask p w=>H r=some (.tup [.str "ask",.str p,a1h w])
 | .part p=>H r=some (.tup [.str "part",.str p])
 | .doo p=>H r=some (.tup [.str "do",.str p])
theorem a0U.mono{H H':Hp}(s:J9 H H'){r:Addr}{rw:Rw}(h:a0U H r rw):a0U H' r rw:=by
 cases rw with
 | bring p ps=>obtain⟨t,h1,h2⟩:=h;exact⟨t,s _ _ h1,h2.mono s⟩
 | give o g=>exact s _ _ h
 | set o ts=>obtain⟨t,h1,h2⟩:=h;exact⟨t,s _ _ h1,h2.mono s⟩
 | take o=>exact s _ _ h
 | say ts w=>obtain⟨t,h1,h2⟩:=h;exact⟨t,s _ _ h1,h2.mono s⟩
 | need ts=>obtain⟨t,h1,h2⟩:=h;exact⟨t,s _ _ h1,h2.mono s⟩
 | ask p w=>exact s _ _ h
 | part p=>exact s _ _ h
 | doo p=>exact s _ _ h
end L2
namespace L2
open PySem PySem.Spec PyProof.Rows
section
variable{X:Cx}{elts:List Expr}{k:Nat}{tpos:Pos}
end
end L2
namespace L2
open PySem PySem.Spec PyProof.Rows
theorem b0b(a b:Str):(a++b).cps.toList=a.cps.toList++b.cps.toList:=by
 show(a.cps++b.cps).toList=_
 simp
noncomputable abbrev Pt:=Str×List Rw
noncomputable def b8e (H:Hp) (v:V) (rw:Rw):Prop:=∃r,v= .ref r/\a0U H r rw
noncomputable abbrev a1o (H:Hp):List V->List Rw->Prop:=Paired (b8e H)
theorem a1o.mono{H H':Hp}(s:J9 H H'){vs:List V}{rs:List Rw}(h:a1o H vs rs):a1o H' vs rs:=Paired.mapP h fun _ _⟨r,e,q⟩=>⟨r,e,q.mono s⟩
noncomputable def a3v (H:Hp) (v:V) (p:Pt):Prop:=∃t u vs,v= .ref t/\H t=some (.tup [.str p.1,.ref u])/\H u=some (.tup vs)/\a1o H vs p.2
theorem a3v.mono{H H':Hp}(s:J9 H H'){v:V}{p:Pt}(h:a3v H v p):a3v H' v p:=by
 obtain⟨t,u,j,e,h1,h2,q⟩:=h
 exact⟨t,u,j,e,s _ _ h1,s _ _ h2,q.mono s⟩
end L2
namespace L2
open PySem PySem.Spec PyProof.Rows
section
variable{κ:Type}[DecidableEq κ]
noncomputable def W2 (kvs:List (κ×V)) (k:κ):Option V:=(kvs.find? fun kv=>decide (kv.1=k)).map (·.2)
noncomputable def U7 (kvs:List (κ×V)) (k:κ) (v:V):List (κ×V):=
 if(kvs.any fun kv=>decide (kv.1=k))=true then kvs.map (fun kv=>if kv.1=k then(kv.1,v)else kv)else kvs++[(k,v)]
theorem b3y{k:κ}:W2 ([]:List (κ×V)) k=none:=rfl
theorem F5{p:κ×V}{r:List (κ×V)}{k:κ}(e:p.1=k):W2 (p::r) k=some p.2:=by simp[W2,List.find?_cons,e]
theorem E9{p:κ×V}{r:List (κ×V)}{k:κ}(e:¬p.1=k):W2 (p::r) k=W2 r k:=by simp[W2,List.find?_cons,e]
theorem a2K(k:κ):∀kvs:List (κ×V),(kvs.any fun j=>decide (j.1=k))=(W2 kvs k).isSome
 | []=>rfl
 | p::r=>by
  rw[List.any_cons]
  by_cases e:p.1=k
  ·simp only[F5 e,decide_eq_true e,Bool.true_or,Option.isSome_some]
  ·rw[E9 e,AZ e,Bool.false_or];exact a2K k r
theorem a7Y(k j:κ)(y:V):∀kvs:List (κ×V),W2 (kvs.map fun q=>if q.1=k then(q.1,y)else q) j=(W2 kvs j).map fun x=>if j=k then y else x
 | []=>rfl
 | p::r=>by
  have B:=a7Y k j y r
  rw[List.map_cons]
  by_cases h:p.1=k
  ·rw[if_pos h]
   by_cases e:p.1=j
   ·rw[F5 (p:=(p.1,y)) e,F5 e,Option.map_some,if_pos (e.symm.trans h)]
   ·rw[E9 (p:=(p.1,y)) e,E9 e,B]
  ·rw[if_neg h]
   by_cases e:p.1=j
   ·rw[F5 (p:=p) e,F5 e,Option.map_some,if_neg (fun z=>h (e.trans z))]
   ·rw[E9 (p:=p) e,E9 e,B]
theorem a6C(k j:κ)(y:V):∀kvs:List (κ×V),W2 kvs k=none->W2 (kvs++[(k,y)]) j=if j=k then some y else W2 kvs j
 | [],_=>by
  by_cases e:k=j
  ·rw[if_pos e.symm];exact F5 (p:=(k,y)) e
  ·rw[if_neg (fun z=>e z.symm)];exact E9 (p:=(k,y)) e
 | p::r,q=>by
  rw[List.cons_append]
  have B:¬p.1=k:=fun z=>by rw[F5 z]at q;cases q
  rw[E9 B]at q
  have D:=a6C k j y r q
  by_cases e:p.1=j
  ·rw[F5 e,F5 e,if_neg (fun z=>B (e.trans z))]
  ·rw[E9 e,E9 e,D]
theorem O1(kvs:List (κ×V))(k j:κ)(y:V):W2 (U7 kvs k y) j=if j=k then some y else W2 kvs j:=by
 unfold U7
 by_cases a:(kvs.any fun B=>decide (B.1=k))=true
 ·rw[if_pos a,a7Y]
  rw[a2K]at a
  by_cases e:j=k
  ·obtain⟨x,hx⟩:=Option.isSome_iff_exists.mp a
   rw[if_pos e,e,hx,Option.map_some,if_pos rfl]
  ·rw[if_neg e]
   cases W2 kvs j with
   | none=>rfl
   | some x=>rw[Option.map_some,if_neg e]
 ·rw[if_neg a]
  refine a6C k j y kvs ?_
  rw[a2K]at a
  cases q:W2 kvs k with
  | none=>rfl
  | some x=>rw[q]at a;exact(a rfl).elim
theorem F3(kvs:List (κ×V))(k:κ)(v:V):(U7 kvs k v).length<=kvs.length+1:=by
 unfold U7
 split
 ·rw[List.length_map];omega
 ·rw[List.length_append,List.length_cons,List.length_nil];omega
theorem a5O.isSome_eq{o:Option V}{u:Option Value}(r:a5O o u):o.isSome=u.isSome:=by
 cases o with
 | none=>cases u with
  | none=>rfl
  | some _=>exact(show False from r).elim
 | some _=>cases u with
  | none=>exact(show False from r).elim
  | some _=>rfl
theorem KV.val{kvs:List (κ×V)}{vs:List (κ×Value)}(r:KV kvs vs)(k:κ):a5O (W2 kvs k) (valueAt vs k):=by
 unfold KV at r
 induction r with
 | nil=>exact True.intro
 | @cons p q ps j h t D=>
  obtain⟨h1,h2⟩:=h
  by_cases e:p.1=k
  ·have B:q.1=k:=h1.symm.trans e
   have b:valueAt (q::j) k=some q.2:=by simp[valueAt,List.find?_cons,B]
   rw[F5 e,b];exact h2
  ·have B:¬q.1=k:=fun z=>e (h1.trans z)
   have b:valueAt (q::j) k=valueAt j k:=by simp[valueAt,List.find?_cons,B]
   rw[E9 e,b];exact D
theorem KV.any{kvs:List (κ×V)}{vs:List (κ×Value)}(r:KV kvs vs)(k:κ):(kvs.any fun j=>decide (j.1=k))=vs.any fun j=>decide (j.1=k):=by
 unfold KV at r
 induction r with
 | nil=>rfl
 | cons h t q=>rw[List.any_cons,List.any_cons,q,h.1]
theorem KV.repl{kvs:List (κ×V)}{vs:List (κ×Value)}(r:KV kvs vs)(k:κ){y:V}{u:Value}(D:W9 y u):
  KV (kvs.map fun j=>if j.1=k then(j.1,y)else j) (vs.map fun j=>if j.1=k then(j.1,u)else j):=by
 unfold KV at r⊢
 induction r with
 | nil=>exact .nil
 | @cons p q ps F h t B=>
  rw[List.map_cons,List.map_cons]
  refine .cons ?_ B
  obtain⟨h1,h2⟩:=h
  by_cases e:p.1=k
  ·rw[if_pos e,if_pos (h1.symm.trans e)];exact⟨h1,D⟩
  ·rw[if_neg e,if_neg (fun z=>e (h1.trans z))];exact⟨h1,h2⟩
theorem KV.put{kvs:List (κ×V)}{vs:List (κ×Value)}(r:KV kvs vs)(k:κ){y:V}{u:Value}(j:W9 y u):KV (U7 kvs k y) (stored vs k u):=by
 unfold U7 stored
 rw[r.any k]
 by_cases e:(vs.any fun q=>decide (q.1=k))=true
 ·rw[if_pos e,if_pos e];exact r.repl k j
 ·rw[if_neg e,if_neg e];exact Paired.snoc r ⟨rfl,j⟩
theorem KV.length{kvs:List (κ×V)}{vs:List (κ×Value)}(r:KV kvs vs):kvs.length=vs.length:=AE r
end
theorem a6O{P:Program}{w:World}{k:Key}{u:Value}(r:W9 (kV k) u):(Z8 P w).is k u=true:=by
 cases k with
 | inl i=>obtain⟨t,e⟩:=(show∃t,u=Value.int i t from r);subst e;exact a8D P w i t
 | inr x=>obtain⟨t,e⟩:=(show∃t,u=Value.str x t from r);subst e;exact a4S P w x t
theorem a6q{P:Program}{w:World}:∀{ks:List Key}{us:List Value},W6 (ks.map kV) us->ItemsAre (Z8 P w) ks us
 | [],_,r=>by rw[List.map_nil]at r;cases r;exact .nil
 | k::ks,_,r=>by
  rw[List.map_cons]at r
  cases r with
  | cons h t=>exact .cons (a6O h) (a6q t)
noncomputable abbrev KT (H:Hp):List (List Key×V)->List (List Key×Addr×Value)->Prop:=Paired fun p q=>p.1=q.1/\H q.2.1=some (.tup (p.1.map kV))/\W9 p.2 q.2.2
theorem KT.val{H:Hp}{kvs:List (List Key×V)}{xs:List (List Key×Addr×Value)}(r:KT H kvs xs)(k:List Key):a5O (W2 kvs k) ((atKey xs k).map (·.2)):=by
 induction r with
 | nil=>exact True.intro
 | @cons p q ps j h t D=>
  obtain⟨h1,_,h2⟩:=h
  by_cases e:p.1=k
  ·have B:q.1=k:=h1.symm.trans e
   have b:atKey (q::j) k=some q.2:=by simp[atKey,List.find?_cons,B]
   rw[F5 e,b];exact h2
  ·have B:¬q.1=k:=fun z=>e (h1.trans z)
   have b:atKey (q::j) k=atKey j k:=by simp[atKey,List.find?_cons,B]
   rw[E9 e,b];exact D
theorem KT.repl{H:Hp}{kvs:List (List Key×V)}{xs:List (List Key×Addr×Value)}(r:KT H kvs xs)(k:List Key){y:V}{u:Value}(F:W9 y u):
  KT H (kvs.map fun j=>if j.1=k then(j.1,y)else j) (xs.map (putAt k u)):=by
 induction r with
 | nil=>exact .nil
 | @cons p q ps G h t D=>
  rw[List.map_cons,List.map_cons]
  refine .cons ?_ D
  obtain⟨h1,h2,B⟩:=h
  unfold putAt
  by_cases e:p.1=k
  ·rw[if_pos e,if_pos (h1.symm.trans e)];exact⟨h1,h2,F⟩
  ·rw[if_neg e,if_neg (fun z=>e (h1.trans z))];exact⟨h1,h2,B⟩
theorem KT.put{H:Hp}{kvs:List (List Key×V)}{xs:List (List Key×Addr×Value)}(r:KT H kvs xs)(k:List Key){b:Addr}{y:V}{u:Value}(B:H b=some (.tup (k.map kV)))(j:W9 y u):
  KT H (U7 kvs k y) (storedH xs k b u):=by
 have e:(kvs.any fun D=>decide (D.1=k))=(atKey xs k).isSome:=by
  rw[a2K,(r.val k).isSome_eq,Option.isSome_map]
 unfold U7 storedH
 rw[e]
 by_cases q:(atKey xs k).isSome=true
 ·rw[if_pos q,if_pos q];exact r.repl k j
 ·rw[if_neg q,if_neg q];exact Paired.snoc r ⟨rfl,B,j⟩
theorem KT.keeps{H H':Hp}{kvs:List (List Key×V)}{xs:List (List Key×Addr×Value)}(r:KT H kvs xs)(ht:∀b ys,H b=some (.tup ys)->H' b=some (.tup ys)):KT H' kvs xs:=
 Paired.mapP r fun _ _ z=>⟨z.1,ht _ _ z.2.1,z.2.2⟩
section
variable{P:Program}{w:World}{H:Hp}{h:Heap}{a:Addr}
theorem b5B{u:HO}(ok:HOk P w H h)(e:Rd H a u):O5 P w H h a u:=e.ok ok
theorem a6Q{kvs:List (Key×V)}(ok:HOk P w H h)(e:Rd H a (.dK kvs)):kvs.length<=sizeLine/\(a==sysModules)=false/\∃vs,KV kvs vs/\h.DictOf (Z8 P w) a vs:=
 show O5 P w H h a (.dK kvs)from b5B ok e
theorem b3L{kvs:List (Key×V)}(ok:HOk P w H h)(e:H a=some (.dK kvs)):kvs.length<=sizeLine/\(a==sysModules)=false/\∃vs,KV kvs vs/\h.DictOf (Z8 P w) a vs:=a6Q ok (.inl e)
theorem a5K{ks:List Key}(ok:HOk P w H h)(e:H a=some (.tup (ks.map kV))):(tupleKind (Z8 P w)).is h ks a:=by
 obtain⟨_,j,r,o,h1,h2,n,q⟩:=(show O5 P w H h a (.tup (ks.map kV))from ok a _ e)
 exact⟨o,j.toArray,n,h1,h2,q,by simpa using a6q r⟩
theorem a6T{kvs:List (List Key×V)}(ok:HOk P w H h)(e:Rd H a (.dT kvs)):kvs.length<=sizeLine/\(a==sysModules)=false/\
  ∃xs,KT H kvs xs/\h.DictOfH (tupleKind (Z8 P w)) a xs:=by
 obtain⟨z,y,xs,r,o,es,ep,h1,h2,B,G,D⟩:=(show O5 P w H h a (.dT kvs)from b5B ok e)
 refine⟨z,y,xs,r,o,es,ep,h1,h2,B,G,fun x hx=>?_,D⟩
 have all:∀{l:List (List Key×V)}{m:List (List Key×Addr×Value)},KT H l m->∀x∈m,(tupleKind (Z8 P w)).is h x.1 x.2.1:=by
  intro l m q
  induction q with
  | nil=>intro x hx;exact nomatch hx
  | @cons p q ps J j t F=>
   intro x hx
   rcases List.mem_cons.mp hx with e | hx
   ·subst e
    exact a5K ok (by rw[<-j.1];exact j.2.1)
   ·exact F x hx
 exact all r x hx
theorem b7c{kvs:List (List Key×V)}(ok:HOk P w H h)(e:H a=some (.dT kvs)):kvs.length<=sizeLine/\(a==sysModules)=false/\
  ∃xs,KT H kvs xs/\h.DictOfH (tupleKind (Z8 P w)) a xs:=a6T ok (.inl e)
end
noncomputable def E3 (H:Hp) (a:Addr) (y:V) (r:Option V):Prop:=
 (∃kvs k,Rd H a (.dK kvs)/\y=kV k/\r=W2 kvs k)\/∃kvs k b,Rd H a (.dT kvs)/\y= .ref b/\H b=some (.tup (k.map kV))/\r=W2 kvs k
noncomputable def a0z (H:Hp) (a:Addr) (y v:V) (H':Hp):Prop:=
 (∃kvs k,H a=some (.dK kvs)/\y=kV k/\kvs.length < sizeLine/\H'=upd H a (.dK (U7 kvs k v)))\/
 ∃kvs k b,H a=some (.dT kvs)/\y= .ref b/\H b=some (.tup (k.map kV))/\kvs.length < sizeLine/\H'=upd H a (.dT (U7 kvs k v))
theorem E3.k{H:Hp}{a:Addr}{kvs:List (Key×V)}{k:Key}(e:H a=some (.dK kvs)):E3 H a (kV k) (W2 kvs k):= .inl ⟨kvs,k,.inl e,rfl,rfl⟩
theorem E3.t{H:Hp}{a b:Addr}{kvs:List (List Key×V)}{k:List Key}(e:H a=some (.dT kvs))(j:H b=some (.tup (k.map kV))):E3 H a (.ref b) (W2 kvs k):= .inr ⟨kvs,k,b,.inl e,rfl,j,rfl⟩
theorem a0z.k{H:Hp}{a:Addr}{kvs:List (Key×V)}{k:Key}{v:V}(e:H a=some (.dK kvs))(hl:kvs.length < sizeLine):a0z H a (kV k) v (upd H a (.dK (U7 kvs k v))):= .inl ⟨kvs,k,e,rfl,hl,rfl⟩
theorem a0z.t{H:Hp}{a b:Addr}{kvs:List (List Key×V)}{k:List Key}{v:V}(e:H a=some (.dT kvs))(j:H b=some (.tup (k.map kV)))(hl:kvs.length < sizeLine):
  a0z H a (.ref b) v (upd H a (.dT (U7 kvs k v))):= .inr ⟨kvs,k,b,e,rfl,j,hl,rfl⟩
section
variable{X:Cx}{pins:List (Addr×Obj)}{σ:St}{H:Hp}{s:Shared}{a:Addr}{y v:V}{u r:Value}{o:Option V}{A:Around}{E:Value->Shared->Prop}
theorem Inv.big(I:Inv X pins σ H s):sysModules < s.heap.objs.size:=by
 have h:mainGlobals < s.heap.objs.size:=(I.mod.glob.keeps I.bk).lt
 exact Nat.lt_trans (by decide) h
theorem b1o{Q:Value->Shared->Prop}(J:A.units+1 < cLine)(I:Inv X pins σ H s)(g:E3 H a y (some v))(G:W9 y u)(h:∀B s',Inv X pins σ H s'->W9 v B->Q B s'):
  wpAny (model X.prog X.w) A (getItem (.ref a) u) Q E s:=by
 rcases g with⟨kvs,k,e,ey,l⟩ | ⟨kvs,k,b,e,ey,U,l⟩
 ·subst ey
  obtain⟨z,hd,O,j,D⟩:=a6Q I.hok e
  obtain⟨B,hw,q⟩:=a5O.some_of (v:=v) (o:=valueAt O k) (by rw[l];exact j.val k)
  exact wpAny_getItem_of (a6O G) D.mapOf hw (h B _ (I.tok _) q)
 ·subst ey
  cases(show u=Value.ref b from G)
  obtain⟨z,hd,xs,j,D⟩:=a6T I.hok e
  obtain⟨B,hw,q⟩:=a5O.some_of (v:=v) (o:=(atKey xs k).map (·.2)) (by rw[l];exact j.val k)
  obtain⟨p,Y,F⟩:=Option.map_eq_some_iff.mp hw
  refine wpAny_getItem_heap (tupleKind_room_in1 J) (a5K I.hok U) D Y ?_
  rw[F]
  exact h B _ (I.tok _) q
theorem b8n{Q:Value->Shared->Prop}(F:A.units+1 < cLine)(I:Inv X pins σ H s)(g:E3 H a y o)(D:W9 y u)(h:∀s',Inv X pins σ H s'->Q (.bool o.isSome) s'):
  wpAny (model X.prog X.w) A (compareOp .In u (.ref a)) Q E s:=by
 rcases g with⟨kvs,k,e,ey,l⟩ | ⟨kvs,k,b,e,ey,G,l⟩
 ·subst ey
  obtain⟨z,hd,J,j,B⟩:=a6Q I.hok e
  refine wpAny_in_of (a6O D) hd B.mapOf ?_
  rw[<-(j.val k).isSome_eq,<-l]
  exact h _ (I.tok _)
 ·subst ey
  cases(show u=Value.ref b from D)
  obtain⟨z,hd,xs,j,B⟩:=a6T I.hok e
  refine wpAny_in_heap (tupleKind_room_in1 F) (a5K I.hok G) hd B ?_
  have q:=(j.val k).isSome_eq
  rw[Option.isSome_map]at q
  rw[<-q,<-l]
  exact h _ (I.tok _)
theorem b4d{Q:Value->Shared->Prop}(F:A.units+1 < cLine)(I:Inv X pins σ H s)(g:E3 H a y o)(D:W9 y u)(h:∀s',Inv X pins σ H s'->Q (.bool (!o.isSome)) s'):
  wpAny (model X.prog X.w) A (compareOp .NotIn u (.ref a)) Q E s:=by
 rcases g with⟨kvs,k,e,ey,l⟩ | ⟨kvs,k,b,e,ey,G,l⟩
 ·subst ey
  obtain⟨z,hd,J,j,B⟩:=a6Q I.hok e
  refine wpAny_notIn_of (a6O D) hd B.mapOf ?_
  rw[<-(j.val k).isSome_eq,<-l]
  exact h _ (I.tok _)
 ·subst ey
  cases(show u=Value.ref b from D)
  obtain⟨z,hd,xs,j,B⟩:=a6T I.hok e
  refine wpAny_notIn_heap (tupleKind_room_in1 F) (a5K I.hok G) hd B ?_
  have q:=(j.val k).isSome_eq
  rw[Option.isSome_map]at q
  rw[<-q,<-l]
  exact h _ (I.tok _)
theorem a5g{h':Heap}{t':Nat}{j:HO}(I:Inv X pins σ H s)(B:Mut (H a))(F:Heap.SameBut a s.heap h')(G:∃q,h'.get? a=some q)(new:O5 X.prog X.w (upd H a j) h' a j):
  Inv X pins σ (upd H a j) {s with heap:=h',toks:=t'}:=
 I.write (x:=a) (e:=a) B (.inl rfl) (fun b q D z=>(F.2 b D).trans z) G new
theorem a8Y{P:Program}{w:World}{H':Hp}{h':Heap}{kvs:List (Key×V)}{vs:List (Key×Value)}(z:kvs.length<=sizeLine)(hd:(a==sysModules)=false)(j:KV kvs vs)(q:h'.DictOf (Z8 P w) a vs):
  O5 P w H' h' a (.dK kvs):=⟨z,hd,vs,j,q⟩
theorem b1R{H':Hp}{Q:Unit->Shared->Prop}(hu:A.units+1 < cLine)(I:Inv X pins σ H s)(g:a0z H a y v H')(ry:W9 y u)(Y:W9 v r)(h:∀s',Inv X pins σ H' s'->Q () s'):
  wpAny (model X.prog X.w) A (setItem (.ref a) u r) Q E s:=by
 rcases g with⟨kvs,k,e,ey,l,J⟩ | ⟨kvs,k,b,e,ey,Z,l,J⟩
 ·subst ey J
  obtain⟨z,hd,vs,j,O⟩:=b3L I.hok e
  have F:vs.length<=sizeLine:=by rw[<-j.length];exact z
  have hl:(U7 kvs k v).length<=sizeLine:=by have:=F3 kvs k v;omega
  refine wpAny_setItem_pairs (hsz:=F) (a6O ry) O fun h' B G=>h _ ?_
  have he:∃q,h'.get? a=some q:=let⟨q,_,_,D,_⟩:=B;⟨q,D⟩
  exact a5g I (by rw[e];exact True.intro) G he (a8Y hl hd (j.put k Y) B)
 ·subst ey J
  cases(show u=Value.ref b from ry)
  obtain⟨z,hd,xs,j,O⟩:=b7c I.hok e
  have F:xs.length<=sizeLine:=by rw[<-AE j];exact z
  have hl:(U7 kvs k v).length<=sizeLine:=by have:=F3 kvs k v;omega
  refine wpAny_setItem_heap (hsz:=F) (tupleKind_room_in1 hu) (a5K I.hok Z) O fun h' B G=>h _ ?_
  obtain⟨q,es,ep,D,h2,h3,h4,_,h5⟩:=B
  refine a5g I (by rw[e];exact True.intro) G ⟨q,D⟩ ⟨hl,hd,_,(j.put k Z Y).keeps fun c ys U=>?_,q,es,ep,D,h2,h3,h4,h5⟩
  rw[G8 (a5p U e (fun z=>nomatch z))]
  exact U
end
section
variable{X:Cx}{pins:List (Addr×Obj)}{σ:St}{H:Hp}{s:Shared}{a:Addr}{kvs:List (Key×V)}{k:Key}{u:Value}{A:Around}{E:Value->Shared->Prop}
end
noncomputable def b6O (i:Expr):Prop:=∀ov iv,subscripted i false ov iv=operate [ov,iv] (getItem ov iv)
theorem b4S{prog:Program}{w:World}{A:Around}{E:Value->Shared->Prop}{s:Shared}{env:Env}{value j:Expr}{pos:Pos}{T id:String}{Q:Value->Shared->Prop}
  (hl:typeLookup (.type T) "__getitem__"=pure (some (.builtin id)))(O:b6O j)
  (h:wpAny (model prog w) A (eval value env) (fun o F=>wpAny (model prog w) A (eval j env) (fun i q=>q.TypeIs o T/\wpAny (model prog w) A (getItem o i) Q E q) E F) E s):
  wpAny (model prog w) A (eval (.Subscript value j pos) env) Q E s:=by
 refine Subscript_ (wpAny_mono h (fun o F J=>wpAny_mono J (fun i q B=>?_) fun _ _ x=>x) fun _ _ x=>x)
 obtain⟨hT,B⟩:=B
 unfold subscriptTail
 refine AA ?_
 rw[getitemInPython_of_ne hT.not_modules]
 refine AA (wpAny_specialOf hT hl ?_)
 have fin:wpAny (model prog w) A (subscripted j false o i) (fun r D=>wpAny (model prog w) A (letTemporaryGo value o r >>= fun _=>pure r) Q E D) E q:=by
  rw[O o i]
  exact wpAny_operating (wpAny_mono B (fun r D G=>AA (wpAny_letTemporaryGo (AB G))) fun _ _ x=>x)
 first
  | exact AB (AA fin)
  | exact AA (AB (AA fin))
  | exact AA fin
theorem a8P{X:Cx}{pins:List (Addr×Obj)}{σ:St}{H:Hp}{s:Shared}{a:Addr}{y:V}{o:Option V}(I:Inv X pins σ H s)(g:E3 H a y o):s.TypeIs (.ref a) "dict":=by
 rcases g with⟨kvs,k,e,_,_⟩ | ⟨kvs,k,b,e,_,_,_⟩
 ·obtain⟨_,_,q,_,j⟩:=a6Q I.hok e
  exact j.typeIs
 ·obtain⟨_,_,xs,_,j⟩:=a6T I.hok e
  exact j.typeIs
noncomputable def b7I (td ty:TE):TE:=fun σ H Q=>td σ H fun x H1=>ty σ H1 fun y H2=>∃a v,x= .ref a/\E3 H2 a y (some v)/\Q v H2
noncomputable def b8f (ty td:TE):TE:=fun σ H Q=>ty σ H fun y H1=>td σ H1 fun x H2=>∃a o,x= .ref a/\E3 H2 a y o/\Q (.bl o.isSome) H2
noncomputable def b5m (ty td:TE):TE:=fun σ H Q=>ty σ H fun y H1=>td σ H1 fun x H2=>∃a o,x= .ref a/\E3 H2 a y o/\Q (.bl (!o.isSome)) H2
noncomputable def b7p (td ty tv:TE):TS:=fun D σ H=>tv σ H fun v H1=>td σ H1 fun x H2=>ty σ H2 fun y H3=>∃a H4,x= .ref a/\a0z H3 a y v H4/\D.nx σ H4
section
variable{X:Cx}{o i e value:Expr}{pos pos' tpos:Pos}{td ty tv:TE}
theorem Z4(G:X.A.units+1 < cLine)(O:PE X o td)(hi:PE X i ty)(U:b6O i):PE X (.Subscript o i pos) (b7I td ty):=by
 intro pins s σ H Q I h
 refine b4S PySem.F.slot_dict_getitem.lookup U (thn (O pins s σ H _ I h) fun u D⟨x,H1,I1,J,B⟩=>thn (hi pins D σ H1 _ I1 B) fun iv s2⟨y,H2,I2,Z,a,v,ex,g,q⟩=>?_)
 subst ex
 obtain rfl:u=Value.ref a:=J
 exact⟨a8P I2 g,b1o G I2 g Z fun w' s3 Y j=>⟨v,H2,Y,j,q⟩⟩
theorem b3m(F:X.A.units+1 < cLine)(hi:PE X i ty)(J:PE X o td):PC X .In i o (b8f ty td):=by
 intro pins s σ H Q I h
 refine thn (hi pins s σ H _ I h) fun Y B⟨y,H1,I1,U,q⟩=>thn (J pins B σ H1 _ I1 q) fun u Z⟨x,H2,I2,G,a,D,ex,g,j⟩=>?_
 subst ex
 obtain rfl:u=Value.ref a:=G
 exact b8n F I2 g U fun s3 O=>⟨.bl D.isSome,H2,O,rfl,j⟩
theorem a1M(F:X.A.units+1 < cLine)(hi:PE X i ty)(J:PE X o td):PC X .NotIn i o (b5m ty td):=by
 intro pins s σ H Q I h
 refine thn (hi pins s σ H _ I h) fun Y B⟨y,H1,I1,U,q⟩=>thn (J pins B σ H1 _ I1 q) fun u Z⟨x,H2,I2,G,a,D,ex,g,j⟩=>?_
 subst ex
 obtain rfl:u=Value.ref a:=G
 exact b4d F I2 g U fun s3 O=>⟨.bl (!D.isSome),H2,O,rfl,j⟩
theorem E5(J:X.A.units+1 < cLine)(U:PE X o td)(hi:PE X i ty)(hv:PE X value tv)(hs:swapsWith value (some (.Subscript o i pos')) pos.line X.env=pure false):
  PS X (.Assign [.Subscript o i pos'] value pos) (b7p td ty tv):=by
 intro pins s σ H D I h
 refine wpAny_Assign_Subscript (thn (hv pins s σ H _ I h) fun r F⟨v,H1,I1,rv,B⟩=>thn (U pins F σ H1 _ I1 B) fun u Y⟨x,H2,I2,O,j⟩=>thn (hi pins Y σ H2 _ I2 j) fun iv s3⟨y,H3,I3,ry,a,G,ex,g,q⟩=>?_) hs
 subst ex
 obtain rfl:u=Value.ref a:=O
 exact b1R J I3 g ry rv fun s4 Z=>⟨σ,G,Z,q⟩
end
theorem a6a{P:Program}{w:World}{H:Hp}(h:Heap)(j:sysModules < h.objs.size):O5 P w H (h.push {cls:= .type "dict",data:= .dict #[]}) h.objs.size (.dK []):=
 ⟨Nat.zero_le _,beq_eq_false_iff_ne.mpr (Ne.symm (BF j)),[],.nil,Heap.DictOf.new h⟩
theorem b3o{P:Program}{w:World}{H:Hp}(h:Heap)(j:sysModules < h.objs.size):O5 P w H (h.push {cls:= .type "dict",data:= .dict #[]}) h.objs.size (.dT []):=
 ⟨Nat.zero_le _,beq_eq_false_iff_ne.mpr (Ne.symm (BF j)),[],.nil,_, #[],0,AJ _ rfl,⟨rfl,rfl,rfl⟩,rfl,rfl,List.nodup_nil⟩
noncomputable def b6o:TE:=fun _ H Q=>∀p,H p=none->Q (.ref p) (upd H p (.dK []))
noncomputable def b6p:TE:=fun _ H Q=>∀p,H p=none->Q (.ref p) (upd H p (.dT []))
section
variable{X:Cx}{pos:Pos}
theorem a3W:PE X (.Dict [] [] pos) b6o:=fun pins s σ H Q I h=>
 wpAny_Dict_empty ⟨.ref s.heap.objs.size,_,I.laid (a:=s.heap.objs.size) (o:= .dK []) (t':=s.toks) (fun _ _ q=>AF _ q) (AI _) (a6a s.heap I.big),rfl,h _ (I.hok.fresh (AI _))⟩
theorem M8:PE X (.Dict [] [] pos) b6p:=fun pins s σ H Q I h=>
 wpAny_Dict_empty ⟨.ref s.heap.objs.size,_,I.laid (a:=s.heap.objs.size) (o:= .dT []) (t':=s.toks) (fun _ _ q=>AF _ q) (AI _) (b3o s.heap I.big),rfl,h _ (I.hok.fresh (AI _))⟩
end
noncomputable def a8V:List (TE×TE)->St->Hp->(List (V×V)->Hp->Prop)->Prop
 | [],_,H,Q=>Q [] H
 | (tk,tv)::r,σ,H,Q=>tk σ H fun x H1=>tv σ H1 fun y H2=>a8V r σ H2 fun ps H3=>Q ((x,y)::ps) H3
noncomputable abbrev VV:List (V×V)->List (Value×Value)->Prop:=Paired fun p q=>W9 p.1 q.1/\W9 p.2 q.2
noncomputable def PPs (X:Cx) (pos:Pos) (keys:List (Option Expr)) (values:List Expr) (trs:List (TE×TE)):Prop:=
 ∀(pins:List (Addr×Obj))(s:Shared)(σ:St)(H:Hp)(Q:List (V×V)->Hp->Prop),Inv X pins σ H s->a8V trs σ H Q->
  wpAny (model X.prog X.w) X.A (evalPairs (pairTrees keys values X.env pos)) (fun vs s'=>∃ps H',Inv X pins σ H' s'/\VV ps vs/\Q ps H') X.xe s
theorem b4L{X:Cx}{pos:Pos}:PPs X pos [] [] []:=fun pins s σ H Q I h=>pairTrees_nil_walk ⟨[],H,I,.nil,h⟩
theorem b2U{X:Cx}{pos:Pos}{k v:Expr}{ks:List (Option Expr)}{vs:List Expr}{tk tv:TE}{j:List (TE×TE)}(hk:PE X k tk)(hv:PE X v tv)(D:PPs X pos ks vs j):
  PPs X pos (some k::ks) (v::vs) ((tk,tv)::j):=fun pins s σ H Q I h=>
 pairTrees_cons_walk (thn (hk pins s σ H _ I h) fun u J⟨x,H1,I1,O,G⟩=>thn (hv pins J σ H1 _ I1 G) fun w2 U⟨y,H2,I2,ry,B⟩=>
  thn (D pins U σ H2 _ I2 B) fun ws s3⟨ps,Y,Z,q,F⟩=>⟨(x,y)::ps,Y,Z,.cons ⟨O,ry⟩ q,F⟩)
noncomputable def a2n (kvs more:List (Key×V)):List (Key×V):=more.foldl (fun acc kv=>U7 acc kv.1 kv.2) kvs
theorem KV.merge:∀{j:List (Key×V)}{rs:List (Key×Value)}{kvs:List (Key×V)}{vs:List (Key×Value)},KV j rs->KV kvs vs->KV (a2n kvs j) (merged vs rs):=by
 intro j rs kvs vs r
 unfold KV at r
 induction r generalizing kvs vs with
 | nil=>intro q;exact q
 | @cons p q ps D h t B=>
  intro r0
  have e:KV (U7 kvs p.1 p.2) (stored vs q.1 q.2):=by
   have:=r0.put p.1 h.2
   rw[<-h.1];exact this
  exact B e
theorem a3f:∀(j kvs:List (Key×V)),(a2n kvs j).length<=kvs.length+j.length
 | [],kvs=>by show kvs.length<=kvs.length+0;omega
 | p::r,kvs=>by
  have h1:=a3f r (U7 kvs p.1 p.2)
  have h2:=F3 kvs p.1 p.2
  show(a2n (U7 kvs p.1 p.2) r).length<=_
  rw[List.length_cons];omega
theorem a5X{P:Program}{w:World}:∀{kvs:List (Key×V)}{B:List (Value×Value)},VV (kvs.map fun j=>(kV j.1,j.2)) B->∃rs,Carries (Z8 P w) B rs/\KV kvs rs
 | [],_,r=>by rw[List.map_nil]at r;cases r;exact⟨[],True.intro,.nil⟩
 | p::kvs,_,r=>by
  rw[List.map_cons]at r
  cases r with
  | @cons a b as bs h t=>
   obtain⟨rs,c,q⟩:=a5X (P:=P) (w:=w) t
   obtain⟨F,D⟩:=b
   exact⟨(p.1,D)::rs,⟨a6O h.1,rfl,c⟩,.cons ⟨rfl,h.2⟩ q⟩
noncomputable def b7J (trs:List (TE×TE)):TE:=fun σ H Q=>∀p,H p=none->a8V trs σ (upd H p (.dK [])) fun ps H2=>H2 p=some (.dK [])/\∃kvs:List (Key×V),ps=kvs.map (fun kv=>(kV kv.1,kv.2))/\kvs.length<=15/\Q (.ref p) (upd H2 p (.dK (a2n [] kvs)))
theorem b5s{X:Cx}{pos:Pos}{keys:List (Option Expr)}{j:List Expr}{B:List (TE×TE)}(h:PPs X pos keys j B)(D:keys.all (·.isSome)=true)(hl:keys.length=j.length)(h0:keys≠[])
  (G:keys.length<=15):PE X (.Dict keys j pos) (b7J B):=by
 intro pins s σ H Q I q
 have hn:=I.hok.fresh (AI s.heap.objs.size)
 have I1:=I.laid (a:=s.heap.objs.size) (o:= .dK []) (h':=s.heap.push {cls:= .type "dict",data:= .dict #[]}) (t':=s.toks) (fun _ _ q=>AF _ q) (AI _) (a6a s.heap I.big)
 refine wpAny_Dict_walk (knd:=Z8 X.prog X.w) D hl h0 G (thn (h pins _ σ _ _ I1 (q _ hn)) fun ws s2⟨ps,H2,I2,J,e,kvs,ep,lk,O⟩=>?_)
 subst ep
 obtain⟨rs,c,rk⟩:=a5X (P:=X.prog) (w:=X.w) J
 obtain⟨z,hd,U,r0,dd⟩:=b3L I2.hok e
 cases r0
 refine⟨rs,c,dd,fun h' F hs=>⟨.ref s.heap.objs.size,_,?_,rfl,O⟩⟩
 have hz:(a2n [] kvs).length<=sizeLine:=by
  have h1:=a3f kvs []
  rw[List.length_nil]at h1
  rw[sizeLine_eq];omega
 have Z:∃q,h'.get? s.heap.objs.size=some q:=let⟨q,_,_,Y,_⟩:=F;⟨q,Y⟩
 exact a5g I2 (by rw[e];exact True.intro) hs Z (a8Y hz hd (rk.merge .nil) F)
section
variable{X:Cx}{pins:List (Addr×Obj)}{σ:St}{H:Hp}{s:Shared}{a:Addr}{y d:V}{u r:Value}{o:Option V}{A:Around}{E:Value->Shared->Prop}
end
section
variable{X:Cx}{o e f:Expr}{apos cpos:Pos}{td ty tx:TE}
end
section
variable{X:Cx}{pins:List (Addr×Obj)}{σ:St}{H:Hp}{s:Shared}{a:Addr}{kvs:List (Key×V)}{A:Around}{E:Value->Shared->Prop}
end
section
variable{X:Cx}{pins:List (Addr×Obj)}{σ:St}{H:Hp}{s:Shared}{a:Addr}{y:V}{u:Value}{A:Around}{E:Value->Shared->Prop}
end
end L2
namespace L2
open PySem PySem.Spec PyProof.Rows
section
variable{X:Cx}
end
section
variable{κ:Type}[DecidableEq κ]
theorem b0C{kvs:List (κ×V)}{k:κ}{v:V}(h:W2 kvs k=some v):k∈kvs.map (·.1):=by
 have q:(kvs.any fun j=>decide (j.1=k))=true:=by
  rw[a2K,h]
  all_goals rfl
 obtain⟨p,B,e⟩:=List.any_eq_true.mp q
 exact AO.mpr ⟨p,B,of_decide_eq_true e⟩
end
end L2
namespace L2
open PySem PySem.Spec PyProof.Rows
theorem b1Y{prog:Program}{w:World}{A:Around}{E:Value->Shared->Prop}{s:Shared}{a:Addr}{j:Array Value}{Q:Option Value->Shared->Prop}(hL:s.heap.IsTuple a j)(hn:∀o,s.heap.get? a=some o->o.dict=none)(Y:A.handled=none)
  (h:∀h' tk,(∀b O,s.heap.get? b=some O->h'.get? b=some O)->Q none {s with heap:=h',toks:=tk}):wpAny (model prog w) A (getAttr? (.ref a) "keys") Q E s:=by
 obtain⟨⟨c,ha,Z,U⟩,hx,J,k,hd⟩:=hL
 have G:=hn _ hx
 simp only at J hd G
 subst J hd G
 obtain⟨hp,g,d,tk,os⟩:=s
 have hT:∀B,(⟨hp,g,d,B,os⟩:Shared).TypeIs (.ref a) "tuple":=fun _=>⟨_,hx,rfl⟩
 have f1:=sub_AttributeError
 have f3:=F.slot_tuple_getattribute.lookup
 have f4:=F.slot_tuple_getattribute.bind (.ref a)
 have f5:=am_tuple_getattr_none
 have q:typeLookup (.type "tuple") "keys"=pure none:=am_miss_of_fast (by decide +kernel)
 unfold getAttr? getAttrBy? getAttrBy
 repeat (any_goals (first | assumption | exact hT _ | ((with_reducible show wpAny _ _ (call (Value.builtin "tuple.__getattribute__") _ _) _ _ _);refine call_meets F.slot_tuple_getattribute (hT _) am_entry_tuple_getattribute (F.args_tuple_getattribute_2 _ _) (meets_getattribute_miss_tuple a j k U "keys" _ q (by decide +kernel) (by decide +kernel)) ⟨hx,Y,fun h' B e D=>?_⟩) | wp_step))
 obtain⟨t',u',he⟩:=D.there
 show wpAny _ _ (getattributeRaised _ _ _ _ _ _ _) _ _ _
 unfold getattributeRaised
 repeat (any_goals (first | assumption | wp_step))
 exact h _ _ D.keeps
theorem a6x:entryFor table "dict.update.loop"=some Builtin.«dict.update.loop»:=entryFor_of_fast (by kernel_rfl)
theorem a2Z:plainId "dict.update.loop"=true:=by decide +kernel
section
variable{X:Cx}
noncomputable def b7H (t:TA):TE:=fun σ H Q=>t σ H fun xs H1=>xs.length<=sizeLine/\∀p(o:Obj),H1 p=none->o.dict=none->Q (.ref p) (upd H1 p (.frz o (.tup xs)))
theorem b4W{x1}{es:List Expr}{t:TA}{pos:Pos}(h:PA X es t):PE X (.Tuple es x1 pos) (b7H t):=by
 intro pins s σ H Q I B
 refine wpAny_Tuple_spliced (thn (h pos pins s σ H _ I B) fun us j⟨xs,H1,I1,r,z,q⟩=>⟨by rw[<-r.length];exact z,?_⟩)
 have hf:H1 j.heap.objs.size=none:=I1.hok.fresh (AI _)
 refine⟨.ref j.heap.objs.size,_,I1.laid (t':=j.toks) (fun b u e=>AF _ e) (AI _) ?_,rfl,q _ {cls:= .type "tuple",data:= .seq us.toArray} hf rfl⟩
 exact⟨AJ _ rfl,z,us,r,⟨_,AJ _ rfl,rfl,_,rfl⟩⟩
noncomputable def a0f (ps:List (Str×V)) (m:List (Key×V)):List (Key×V):=ps.foldl (fun m p=>U7 m (Sum.inr p.1) p.2) m
theorem b1b(hc:X.calm=true){A:Around}(hA:A.handled=none){pins:List (Addr×Obj)}{σ:St}{H0:Hp}{Q:VK}{a d it:Addr}{vs:List V}(F:d≠a)(hit:it≠a)(ha:d≠it):
  ∀(n i:Nat)(s:Shared)(m:List (Key×V))(ps:List (Str×V))(j:Int)(tk:Tok),n=vs.length - i->Inv X pins σ (upd H0 d (.dK m)) s->s.heap.IsTupleIter it a i->a3m X pins (upd H0 d (.dK m)) it->SqT X.K (upd H0 d (.dK m)) a vs->
   Paired (fun v(p:Str×V)=>∃t,v= .ref t/\t≠d/\SqT X.K H0 t [.str p.1,p.2]) (vs.drop i) ps->m.length+ps.length<=1000->H0 it=none->
   Q (.ref d) (upd H0 d (.dK (a0f ps m)))->codeAny (model X.prog X.w) A (.builtin "dict.update.loop" ⟨[.ref d,.ref it,.int j tk,.none],[]⟩) (wants (fun u s'=>u= .none/\∃H',Inv X pins σ H' s'/\Q (.ref d) H') (fun _ _=>False)) s:=by
 intro n
 induction n with
 | zero=>
  intro i s m ps j tk hn I st fp D hp B G q
  have hd:vs.drop i=[]:=List.drop_eq_nil_of_le (by omega)
  rw[hd]at hp
  cases hp
  obtain⟨O,rv,pt,hz⟩:=I.tuple D
  have hl:=rv.length
  obtain⟨f0,f1,f2,f3,f4,f5⟩:=fp
  refine codeAny_builtin a6x ?_
  rw[Around.under_plainId a2Z _]
  show wpAny _ A.in1 (pyNext (.ref it) >>= _) _ _ s
  refine AA (wpAny_pyNext_tuple_end (A:=A.in1) hA st (show s.heap.IsTuple a O.toArray from pt) (by simp;omega) fun h' eb=>?_)
  have I':Inv X pins σ (upd H0 d (.dK m)) {s with heap:=h'}:=I.turned (t':=s.toks) (fun b o hb e=>eb b o hb e) f0 f1 f3 f4 f5
  show wpAny _ _ (Builtin.Dict.addKeywords d [] >>= _) _ _ _
  exact AA (AB (AB ⟨rfl,_,I',q⟩))
 | succ n ih=>
  intro i s m ps j tk hn I st fp D hp B G q
  have hi:i < vs.length:=by omega
  have hH:vs.drop i=vs[i]::vs.drop (i+1):=List.drop_eq_getElem_cons hi
  rw[hH]at hp
  cases hp with
  | @cons _ p _ hm h1 U=>
  obtain⟨t,e,hg,ht⟩:=h1
  obtain⟨O,rv,pt,hz⟩:=I.tuple D
  have hl:=rv.length
  have hx:vs[i]?=some (V.ref t):=by simp[hi,e]
  obtain⟨u,hu,ru⟩:=rv.get hx
  cases ru
  obtain⟨f0,f1,f2,f3,f4,f5⟩:=id fp
  refine codeAny_builtin a6x ?_
  rw[Around.under_plainId a2Z _]
  show wpAny _ A.in1 (pyNext (.ref it) >>= _) _ _ s
  refine AA (wpAny_pyNext_tuple_item (A:=A.in1) st (show s.heap.IsTuple a O.toArray from pt) (x:= .ref t) (by simpa using hu) fun h' hG sb=>?_)
  have I':Inv X pins σ (upd H0 d (.dK m)) {s with heap:=h'}:=I.turned (t':=s.toks) (fun b o hb e=>(sb.2 b hb).trans e) f0 f1 f3 f4 f5
  have hF:SqT X.K (upd H0 d (.dK m)) t [.str p.1,p.2]:=by
   rcases ht with(ht | ⟨o,ht⟩) | ht
   ·exact .inl (.inl (by rw[G8 hg];exact ht))
   ·exact .inl (.inr ⟨o,by rw[G8 hg];exact ht⟩)
   ·exact .inr ht
  obtain⟨kv,hI,Z,_⟩:=I'.tuple hF
  cases hI with
  | @cons _ ku _ _ rk rr=>
  cases rr with
  | @cons _ vu _ _ hw rr=>
  cases rr
  obtain⟨Y,rfl⟩:=rk
  have hr:(⟨h',s.gens,s.drawn,s.toks,s.os⟩:Shared).TypeIs (.ref t) "tuple":=by obtain⟨o,ho,hC,_⟩:=Z;exact⟨o,ho,hC⟩
  dsimp only
  obtain⟨ot,hE,hJ,kt,J⟩:=Z
  obtain⟨z,hy,ws,hf,dd⟩:=b3L I'.hok (G1 (H:=H0) (a:=d) (o:= .dK m))
  have hD:ws.length<=sizeLine:=by rw[<-hf.length];exact z
  refine AA (wpAny_holding (AA (wpAny_tryCatch ?_)))
  unfold Builtin.Dict.pairItems
  refine AA (wpAny_typeOf hr ?_)
  rw[if_pos (by decide)]
  refine AA (wpAny_seqItems hE J (AB ?_))
  show wpAny _ _ (holding [Value.str p.1 Y,vu] (dictSet d (Value.str p.1 Y) vu)) _ _ _
  refine wpAny_holding (wpAny_dictSet_pairs (knd:=Z8 X.prog X.w) (k:=Sum.inr p.1) (a4S X.prog X.w p.1 Y) dd (fun h2 hj hk=>?_) hD)
  have hs:(U7 m (Sum.inr p.1) p.2).length<=sizeLine:=by
   have h3:=F3 m (Sum.inr p.1) p.2
   have:sizeLine=16777216:=sizeLine_eq
   simp only[List.length_cons]at B
   omega
  have he:∃q,h2.get? d=some q:=let⟨q,_,_,hq,_⟩:=hj;⟨q,hq⟩
  have I2:Inv X pins σ (upd (upd H0 d (.dK m)) d (.dK (U7 m (Sum.inr p.1) p.2))) {heap:=h2,gens:=s.gens,drawn:=s.drawn,toks:=s.toks+1,os:=s.os}:=
   a5g (s:={heap:=h',gens:=s.gens,drawn:=s.drawn,toks:=s.toks,os:=s.os}) (t':=s.toks+1) I' (by rw[G1];exact True.intro) hk he (a8Y hs hy (hf.put _ hw) hj)
  rw[b4c]at I2
  refine AB ⟨plainId_quiet a2Z _,?_⟩
  have hh:SqT X.K (upd H0 d (.dK (U7 m (Sum.inr p.1) p.2))) a vs:=by
   rcases D with(h | ⟨o,h⟩) | h
   ·rw[G8 F.symm]at h;exact .inl (.inl (by rw[G8 F.symm];exact h))
   ·rw[G8 F.symm]at h;exact .inl (.inr ⟨o,by rw[G8 F.symm];exact h⟩)
   ·exact .inr h
  refine ih (i+1) _ (U7 m (Sum.inr p.1) p.2) hm (j+1) _ (by omega) I2 ?_ ⟨by rw[G8 ha.symm];exact G,f1,f2,f3,f4,f5⟩ hh U ?_ G q
  ·obtain⟨oi,hB,r⟩:=hG
   exact⟨oi,(hk.2 it ha.symm).trans hB,r⟩
  ·have h3:=F3 m (Sum.inr p.1) p.2
   simp only[List.length_cons]at B
   omega
theorem a3l(hc:X.calm=true):a1u X (.type "dict") (fun xs H Q=>∃(a:Addr)(o:Obj)(vs:List V)(ps:List (Str×V)),xs=[.ref a]/\H a=some (.frz o (.tup vs))/\o.dict=none/\Paired (fun v(p:Str×V)=>∃t,v= .ref t/\SqT X.K H t [.str p.1,p.2]) vs ps/\ps.length<=1000/\
  ∀d,H d=none->Q (.ref d) (upd H d (.dK (a0f ps [])))):=by
 intro pins s σ H xs us Q I r h
 obtain⟨a,o,vs,ps,rfl,ha,hn,hp,hg,q⟩:=h
 obtain⟨u,rfl,ru⟩:=a3H r
 cases ru
 have ho:SqT X.K H a vs:= .inl (.inr ⟨o,ha⟩)
 obtain⟨hb,rv,pt,hz⟩:=I.tuple ho
 have hf:s.heap.get? a=some o:=(I.hok a _ ha).1
 have hm:H s.heap.objs.size=none:=I.hok.fresh (AI _)
 refine callType_codes (Q₁:=fun obj G=>obj= .ref s.heap.objs.size/\G={s with heap:=s.heap.push {cls:= .type "dict",data:= .dict #[]}}) F.kt_called_dict (F.kt_typeCall_dict_1 _) F.entry_dict_init (kt_code_dict_new _ ⟨rfl,rfl⟩) ?_
 rintro obj G ⟨rfl,rfl⟩
 have I1:Inv X pins σ (upd H s.heap.objs.size (.dK [])) {s with heap:=s.heap.push {cls:= .type "dict",data:= .dict #[]}}:=
  I.laid (a:=s.heap.objs.size) (o:= .dK []) (t':=s.toks) (fun _ _ q=>AF _ q) (AI _) (a6a s.heap I.big)
 have D:(s.heap.push {cls:= .type "dict",data:= .dict #[]}).DictOf (Z8 X.prog X.w) s.heap.objs.size []:=Heap.DictOf.new s.heap
 refine⟨D.typeIs,F.args_dict_init_2 _ _,?_⟩
 unfold Builtin.«dict.__init__»
 refine AA ?_
 unfold Builtin.Dict.selfAndRest
 refine AA (wpAny_notOrdered_dict D.typeIs ?_)
 show wpAny _ _ (pure (s.heap.objs.size,[Value.ref a])) _ _ _
 refine AB ?_
 show wpAny _ _ (Builtin.Dict.updateFrom "dict.__init__" s.heap.objs.size (.ref a) [] .none) _ _ _
 have hj:s.heap.objs.size≠a:=Ne.symm (Y8 ha hm)
 have J:(s.heap.push {cls:= .type "dict",data:= .dict #[]}).get? a=some o:=AF _ hf
 have O:(s.heap.push {cls:= .type "dict",data:= .dict #[]}).IsTuple a hb.toArray:=by
  obtain⟨U,h1,h2⟩:=pt
  exact⟨U,AF _ h1,h2⟩
 unfold Builtin.Dict.updateFrom
 refine AA (wpAny_typeOf (s:={s with heap:=s.heap.push {cls:= .type "dict",data:= .dict #[]}}) (T:="tuple") (by obtain⟨U,h1,h2,_⟩:=O;exact⟨U,h1,h2⟩) ?_)
 rw[if_pos (by decide)]
 refine AA (b1Y O (fun U h2=>by rw[J]at h2;cases h2;exact hn) (I.ok.hd hc) fun h' tk hk=>?_)
 rw[if_pos (show(none:Option Value).isNone=true from rfl)]
 refine AA (wpAny_rule ?_)
 have I2:Inv X pins σ (upd H s.heap.objs.size (.dK [])) {s with heap:=h',toks:=tk}:=I1.kept hk
 have Z:h'.IsTuple a hb.toArray:=by
  obtain⟨U,h1,h2⟩:=O
  exact⟨U,hk _ _ h1,h2⟩
 refine AA (wpAny_pyIter_tuple (s:={s with heap:=h',toks:=tk}) Z ?_)
 refine AB ⟨plainId_quiet a2Z _,?_⟩
 have I3:=I2.kept (h':=h'.push {cls:= .type "tuple_iterator",data:= .fields #[.ref a,.int 0 0]}) (t':=tk) fun b ob e=>AF _ e
 have B:upd H s.heap.objs.size (.dK []) h'.objs.size=none:=I2.hok.fresh (AI _)
 have he:s.heap.objs.size≠h'.objs.size:=by
  intro z
  rw[<-z,G1]at B
  cases B
 have j:H h'.objs.size=none:=by rw[G8 he.symm]at B;exact B
 have hq:h'.objs.size≠a:=fun z=>by
  rw[z,ha]at j
  cases j
 have hh:SqT X.K (upd H s.heap.objs.size (.dK [])) a vs:= .inl (.inr ⟨o,by rw[G8 hj.symm];exact ha⟩)
 have L:=b1b (X:=X) hc (A:=X.A.in1) (I.ok.hd hc) (pins:=pins) (σ:=σ) (H0:=H) (Q:=Q) (a:=a) (d:=s.heap.objs.size) (it:=h'.objs.size) (vs:=vs) hj hq he vs.length 0 _ [] ps 0 0 (by omega) I3 ⟨_,AJ _ rfl,rfl,rfl⟩ (I2.fpOk (AI _) B) hh
  (Paired.mapP hp fun v p⟨t,e,ht⟩=>⟨t,e,fun z=>?_,ht⟩) (by simpa using hg) j (q _ hm)
 ·refine codeAny_mono L fun r s' Y=>?_
  cases r with
  | error e=>exact False.elim Y
  | ok f=>
   cases f with
   | ret v=>
    obtain⟨e,H',I',q'⟩:=Y
    exact⟨e,.ref s.heap.objs.size,H',I',rfl,q'⟩
   | next=>exact False.elim Y
   | brk=>exact False.elim Y
   | cont=>exact False.elim Y
 ·obtain⟨hs,_,⟨U,h2,_⟩,_⟩:=I.tuple ht
  rw[z]at h2
  exact absurd (AU h2) (Nat.lt_irrefl _)
end
end L2
namespace L2
open PySem PySem.Spec PyProof.Rows PySem.W
section
variable{prog:Program}{w:World}{A:Around}{E:Value->Shared->Prop}{s:Shared}{T:String}{r d:Addr}{n:Nat}{P:Nat->Value->Prop}{OK:Heap->Prop}
theorem a8C{Q:List Value->Shared->Prop}(K:KdlSrc prog w T r d n P OK)(Z:A.handled=none)(hok:OK s.heap)(hn:n<=sizeLine)
  (Y:∀(h':Heap)(tk:Nat)(O:Array Value),(∀b o,s.heap.get? b=some o->h'.get? b=some o)->ItemsOf P O n->Q O.toList {s with heap:=h',toks:=tk}):wpAny (model prog w) A (collect (.ref r)) Q E s:=by
 unfold collect
 refine AA (wpAny_runValue (codeAny_builtin F.entry_proto_collect ?_))
 rw[Around.under_plainId F.plain_proto_collect _]
 show wpAny _ A.in1 (newList [] >>= fun l=>again (.builtin "list.__iadd__" ⟨[l,.ref r],[]⟩)) _ _ s
 refine AA (wpAny_newObj_type ?_)
 refine AB ⟨plainId_quiet F.plain_list_iadd _,codeAny_builtin F.entry_list_iadd ?_⟩
 rw[Around.under_plainId F.plain_list_iadd _]
 have hS:(s.heap.push {cls:= .type "list",data:= .seq ([]:List Value).toArray}).get? s.heap.objs.size=some {cls:= .type "list",data:= .seq #[] 0}:=AJ _ rfl
 have J:=K.there _ hok
 show wpAny _ A.in1 (Builtin.List.listExtendWith (.ref s.heap.objs.size) (.ref r) (.ref s.heap.objs.size)) _ _ _
 have D:∀(h':Heap)(tk c':Nat)(j:Array Value),(∀b o,b≠s.heap.objs.size->(s.heap.push {cls:= .type "list",data:= .seq ([]:List Value).toArray}).get? b=some o->h'.get? b=some o)->h'.get? s.heap.objs.size=some {cls:= .type "list",dict:=none,data:= .seq j c',slots:= #[]}->ItemsOf P j n->
   wpAny (model prog w) A (match Value.ref s.heap.objs.size with
   | Value.ref a=>do
    match(<-load a).data with
     | Data.seq xs _=>pure xs.toList
     | _=>unsupported "internal:collect"
   | _=>unsupported "internal:collect") Q E {s with heap:=h',toks:=tk}:=by
  intro h' tk c' j G B q
  show wpAny _ A (load s.heap.objs.size >>= _) _ _ _
  refine AA (wpAny_load B ?_)
  exact AB (Y h' tk j (fun b o e=>G b o (BF (AU e)) (AF _ e)) q)
 refine wpAny_mono (kdl_extend (A:=A) (R:=fun r s'=>∃(h':Heap)(tk c':Nat)(j:Array Value),r= .ok (.ret (.ref s.heap.objs.size))/\s'={s with heap:=h',toks:=tk}/\(∀b o,b≠s.heap.objs.size->(s.heap.push {cls:= .type "list",data:= .seq ([]:List Value).toArray}).get? b=some o->h'.get? b=some o)/\h'.get? s.heap.objs.size=some {cls:= .type "list",dict:=none,data:= .seq j c',slots:= #[]}/\ItemsOf P j n)
  (s:={s with heap:=s.heap.push {cls:= .type "list",data:= .seq ([]:List Value).toArray}}) K Z (K.keep _ _ hok fun b _ o e=>AF _ e) s.heap.objs.size (Nat.ne_of_gt J.1) (Nat.ne_of_gt J.2) (.ref s.heap.objs.size) 0 hS (fun h' tk j c' G B q=>⟨h',tk,c',j,rfl,rfl,G,B,q⟩) hn) (fun fin s' h=>?_) (fun e s' h=>?_)
 ·cases fin with
  | done f=>
   obtain⟨h',tk,c',j,e,rfl,G,B,q⟩:=h
   cases e
   exact D h' tk c' j G B q
  | again c'=>exact⟨h.1,codeAny_mono h.2 fun r ha U=>by obtain⟨h',tk,c',j,rfl,rfl,G,B,q⟩:=U;exact D h' tk c' j G B q⟩
 ·obtain⟨h',tk,c',j,e,_⟩:=h
  cases e
theorem a3j{Q₁:Value->Shared->Prop}(K:KdlSrc prog w "dict" r d n P OK)(U:A.handled=none)(hok:OK s.heap)
  (h:∀(h':Heap)(tk:Nat)(j:Array Value),(∀b o,s.heap.get? b=some o->h'.get? b=some o)->ItemsOf P j n->Q₁ (.ref h'.objs.size) {s with heap:=h'.push {cls:= .type "tuple",data:= .seq j},toks:=tk})(hsz:n<=sizeLine):
  codeAny (model prog w) A (.call (.builtin "tuple.__new__") ⟨[.type "tuple",.ref r],[]⟩) (wants Q₁ E) s:=by
 refine codeAny_of_tree ?_
 show wpAny _ A.in1 (do checkBuiltinCall "tuple.__new__" ⟨[.type "tuple",.ref r],[]⟩;again (.builtin "tuple.__new__" ⟨[.type "tuple",.ref r],[]⟩)) _ _ s
 refine AA (BI (F.newCall_tuple_1 _) (AB ⟨plainId_quiet F.plain_tuple_new _,codeAny_builtin F.entry_tuple_new ?_⟩))
 rw[Around.under_plainId F.plain_tuple_new _]
 have J:=sub_tuple_self
 have B:=init_tuple_lookup
 have Y:=madeHere_tuple
 have G:=K.type s hok
 have D:A.in1.handled=none:=U
 wp_walk using wpAny_typeOf G,a8C (A:=A.in1) K D hok hsz
 intro h' tk j O q
 show wpAny _ _ (Builtin.Tuple.tupleExact j.toList.toArray >>= fun v=>ret v) _ _ _
 unfold Builtin.Tuple.tupleExact
 refine AA (wpAny_newObj_type ?_ (by show j.toList.toArray.size<=sizeLine;simp only[Array.toArray_toList];rw[q.1];exact hsz))
 refine AB ?_
 have e:j.toList.toArray=j:=by simp
 rw[e]
 exact h h' tk j O q
theorem a6h{Q:Value->Shared->Prop}(K:KdlSrc prog w "dict" r d n P OK)(J:A.handled=none)(hok:OK s.heap)(hsz:n<=sizeLine)
  (O:∀(h':Heap)(tk:Nat)(B:Array Value),(∀b o,s.heap.get? b=some o->h'.get? b=some o)->ItemsOf P B n->Q (.ref h'.objs.size) {s with heap:=h'.push {cls:= .type "tuple",data:= .seq B},toks:=tk}):
  wpAny (model prog w) A (call (.type "tuple") [.ref r]) Q E s:=by
 refine callType_codes (Q₁:=fun obj j=>j.TypeIs obj "tuple"/\Q obj j) F.called_tuple (F.typeCall_tuple_1 _) F.entry_object_init
  (a3j K J hok (fun h' tk B G D=>⟨⟨_,AJ _ rfl,rfl⟩,O h' tk B G D⟩) hsz) fun obj j q=>?_
 exact⟨q.1,F.args_object_init_2 obj _,object_init_meets F.called_tuple.init.lookup F.called_tuple.made (by decide) prog w A.in1 _ j ⟨q.1,rfl,q.2⟩⟩
end
theorem b7h{P:Program}{w:World}{k:Key}{u:Value}(h:(Z8 P w).is k u=true):W9 (kV k) u:=by
 rcases F2 (show a5W k u=true from h)with⟨i,t,rfl,rfl⟩ | ⟨x,t,rfl,rfl⟩
 ·exact⟨t,rfl⟩
 ·exact⟨t,rfl⟩
noncomputable def a4U (kvs:List (Key×V)):List V:=kvs.map fun kv=>kV kv.1
theorem a7H(kvs:List (Key×V)):(a4U kvs).length=kvs.length:=List.length_map _
theorem a6y{P:Program}{w:World}:∀{kvs:List (Key×V)}{vs:List (Key×Value)}{us:List Value},KV kvs vs->us.length=vs.length->(∀(j:Nat)(u:Value),us[j]?=some u->∃k x,vs[j]?=some (k,x)/\(Z8 P w).is k u=true)->W6 (a4U kvs) us
 | _,_,[],.nil,_,_=> .nil
 | _,_,_::_,.nil,hl,_=>by simp at hl
 | _,_,[],.cons _ _,hl,_=>by simp at hl
 | _,_,u::us,.cons (a:=p) (b:=q) h D,hl,hv=>by
  obtain⟨k,x,e,F⟩:=hv 0 u rfl
  simp only[List.getElem?_cons_zero,Option.some.injEq]at e
  subst e
  have h1:p.1=k:=h.1
  refine .cons (by show W9 (kV p.1) u;rw[h1];exact b7h F) (a6y D (by simpa using hl) fun j v B=>by simpa using hv (j+1) v (by simpa using B))
section
variable{X:Cx}
theorem a4X(O:X.calm=true):a1u X (.type "tuple") (fun xs H Q=>∃a kvs,xs=[.ref a]/\Rd H a (.dK kvs)/\∀l,H l=none->Q (.ref l) (upd H l (.tup (a4U kvs)))):=by
 intro pins s σ H xs us Q I r h
 obtain⟨a,kvs,rfl,Y,q⟩:=h
 obtain⟨u,rfl,ru⟩:=a3H r
 cases ru
 obtain⟨z,G,U,F,Z⟩:=a6Q I.hok Y
 have hl:=F.length
 obtain⟨ep,J⟩:=Z.dictAt
 refine a6h (kdl_dict (knd:=Z8 X.prog X.w) (kvs:=U) (ep:=ep) G) (I.ok.hd O) J (by omega) fun h' tk B hk D=>?_
 have I1:Inv X pins σ H {s with heap:=h',toks:=tk}:=I.kept (t':=tk) hk
 have hv:W6 (a4U kvs) B.toList:=a6y F (by rw[Array.length_toList];exact D.1) fun j u e=>D.2 j u (by rw[<-BR];exact e)
 have I2:Inv X pins σ (upd H h'.objs.size (.tup (a4U kvs))) {s with heap:=h'.push {cls:= .type "tuple",data:= .seq B},toks:=tk}:=
  I1.laid (t':=tk) (fun b o e=>AF _ e) (AI _) (show O5 X.prog X.w _ _ _ (.tup (a4U kvs))from⟨by rw[a7H];exact z,B.toList,hv,by
   have:=IsTup.new h' B
   simpa using this⟩)
 exact⟨.ref h'.objs.size,_,I2,rfl,q _ (I1.hok.fresh (AI _))⟩
end
end L2
namespace L2
open PySem PySem.Spec PyProof.Rows
noncomputable def R4:Rw->Str
 | .bring _ _=>"bring"
 | .give _ _=>"give"
 | .set _ _=>"set"
 | .take _=>"take"
 | .say _ _=>"say"
 | .need _=>"need"
 | .ask _ _=>"ask"
 | .part _=>"part"
 | .doo _=>"do"
noncomputable def Z2 (k:Str):Rw->Option Str
 | .bring p _=>if("bring":Str)=k then some p else none
 | .ask p _=>if("ask":Str)=k then some p else none
 | _=>none
noncomputable def a1m (l:List Str) (x:Str):List Str:=if x∈l then l else l++[x]
noncomputable def a2x (k:Str) (l:List Str) (r:Rw):List Str:=match Z2 k r with
 | none=>l
 | some x=>a1m l x
noncomputable def B3 (k:Str) (rs:List Rw):List Str:=rs.foldl (a2x k) []
theorem a3K(k:Str)(rs:List Rw)(r:Rw):B3 k (rs++[r])=a2x k (B3 k rs) r:=by
 unfold B3;rw[List.foldl_append];rfl
theorem b2K(l:List Str)(x:Str):(a1m l x).length<=l.length+1:=by
 unfold a1m;split<;>simp
theorem b1z(k:Str)(l:List Str)(r:Rw):(a2x k l r).length<=l.length+1:=by
 unfold a2x
 split
 ·omega
 ·exact b2K _ _
theorem a2E(k:Str):∀(rs:List Rw)(l:List Str),(rs.foldl (a2x k) l).length<=l.length+rs.length
 | [],l=>by simp
 | r::rs,l=>by
  have h1:=a2E k rs (a2x k l r)
  have h2:=b1z k l r
  simp only[List.foldl_cons,List.length_cons];omega
noncomputable def F7 (l:List Str):List (Key×V):=l.map fun x=>(Sum.inr x,.bl true)
theorem a3M(l:List Str):(F7 l).length=l.length:=List.length_map _
theorem a6W(l:List Str):a4U (F7 l)=l.map V.str:=by
 unfold a4U F7
 rw[List.map_map]
 rfl
theorem b2M(l:List Str)(x:Str):((F7 l).any fun j=>decide (j.1=Sum.inr x))=decide (x∈l):=by
 induction l with
 | nil=>simp[F7]
 | cons a r q=>
  have:F7 (a::r)=(Sum.inr a,.bl true)::F7 r:=rfl
  rw[this,List.any_cons,q]
  by_cases e:a=x
  ·subst e;simp
  ·have h1:¬(Sum.inr a:Key)=Sum.inr x:=fun z=>e (Sum.inr.inj z)
   have h2:¬x=a:=fun z=>e z.symm
   simp[e,h2]
theorem a5T(l:List Str)(x:Str):U7 (F7 l) (Sum.inr x) (.bl true)=F7 (a1m l x):=by
 unfold U7
 rw[b2M]
 unfold a1m
 by_cases e:x∈l
 ·rw[if_pos (by simpa using e),if_pos e]
  unfold F7
  rw[List.map_map]
  refine List.map_congr_left fun a _=>?_
  show(if(Sum.inr a:Key)=Sum.inr x then((Sum.inr a:Key),V.bl true)else(Sum.inr a,V.bl true))=_
  split<;>rfl
 ·rw[if_neg (by simpa using e),if_neg e]
  unfold F7
  rw[AG]
  rfl
noncomputable def D6 (H:Hp) (a:Addr) (ps:List Pt):Prop:=∃o vs,H a=some (.frz o (.tup vs))/\o.dict=none/\Paired (a3v H) vs ps
theorem G5.partsF{H H':Hp}(s:G5 H H'){a:Addr}{ps:List Pt}(h:D6 H a ps):D6 H' a ps:=by
 obtain⟨o,j,h1,h2,B⟩:=h
 exact⟨o,j,s _ _ h1,h2,Paired.mapP B fun _ _ q=>q.mono s.tups⟩
theorem a2T:∀(ps:List (Str×V))(m:List (Key×V))(n:Str)(v:V),(ps.map (·.1)).Nodup->((n,v)∈ps\/((∀p∈ps,p.1≠n)/\W2 m (Sum.inr n)=some v))->W2 (a0f ps m) (Sum.inr n)=some v
 | [],m,n,v,_,h=>by
  rcases h with h | h
  ·simp at h
  ·exact h.2
 | p::ps,m,n,v,j,h=>by
  rw[List.map_cons,BK]at j
  show W2 (a0f ps (U7 m (Sum.inr p.1) p.2)) _=_
  refine a2T ps _ n v j.2 ?_
  rcases h with h | ⟨h1,h2⟩
  ·rcases List.mem_cons.mp h with e | e
   ·refine .inr ⟨fun q B z=>j.1 ?_,?_⟩
    ·rw[<-e];show n∈_;rw[<-z];exact AS B
    ·rw[<-e]
     show W2 (U7 m (Sum.inr n) v) (Sum.inr n)=_
     rw[O1,if_pos rfl]
   ·exact .inl e
  ·refine .inr ⟨fun q B=>h1 q (AK _ B),?_⟩
   rw[O1,if_neg (fun z=>h1 p AM (Sum.inr.inj z).symm)]
   exact h2
theorem a0U.kind{H:Hp}{r:Addr}{rw:Rw}(h:a0U H r rw):∃x rest,H r=some (.tup (.str (R4 rw)::x::rest)):=by
 cases rw with
 | bring p ps=>obtain⟨t,h1,h2⟩:=h;exact⟨_,_,h1⟩
 | give o g=>exact⟨_,_,h⟩
 | set o ts=>obtain⟨t,h1,h2⟩:=h;exact⟨_,_,h1⟩
 | take o=>exact⟨_,_,h⟩
 | say ts w=>obtain⟨t,h1,h2⟩:=h;exact⟨_,_,h1⟩
 | need ts=>obtain⟨t,h1,h2⟩:=h;exact⟨_,_,h1⟩
 | ask p w=>exact⟨_,_,h⟩
 | part p=>exact⟨_,_,h⟩
 | doo p=>exact⟨_,_,h⟩
theorem a0U.named{H:Hp}{r:Addr}{rw:Rw}{k:Str}(h:a0U H r rw)(j:k="bring" \/k="ask"):(R4 rw=k/\∃p rest,Z2 k rw=some p/\H r=some (.tup (.str k:: .str p::rest)))\/(R4 rw≠k/\Z2 k rw=none):=by
 rcases j with rfl | rfl
 ·cases rw with
  | bring p ps=>obtain⟨t,h1,h2⟩:=h;exact .inl ⟨rfl,p,_,by simp[Z2],h1⟩
  | ask p w=>exact .inr ⟨by simp only[R4];decide +kernel,by simp only[Z2];rw[if_neg (by decide +kernel)]⟩
  | _=>exact .inr ⟨by simp only[R4];decide +kernel,rfl⟩
 ·cases rw with
  | ask p w=>exact .inl ⟨rfl,p,_,by simp[Z2],h⟩
  | bring p ps=>exact .inr ⟨by simp only[R4];decide +kernel,by simp only[Z2];rw[if_neg (by decide +kernel)]⟩
  | _=>exact .inr ⟨by simp only[R4];decide +kernel,rfl⟩
end L2
namespace L2
open PySem PySem.Spec PyProof.Rows
section
variable{X:Cx}
theorem a8R(c:Nat):∀(n:Nat)(j:List Nat),(List.replicate n #[c]).foldl (· ++ ·) j.toArray=(j++List.replicate n c).toArray
 | 0,j=>by simp
 | n+1,j=>by
  rw[List.replicate_succ,List.foldl_cons,List.replicate_succ]
  have:j.toArray++ #[c]=(j++[c]).toArray:=by simp
  rw[this,a8R c n (j++[c])]
  simp
theorem b0E:OpR X (binaryOp .Mult) (fun x y H Q=>∃(c:Nat)(k:Int),x= .str ⟨#[c]⟩/\y= .int k/\1<=k/\k<=1000/\Q (.str ⟨(List.replicate k.toNat c).toArray⟩) H):=by
 intro pins s σ H x y v u Q I B D h
 obtain⟨c,k,rfl,rfl,h1,h2,q⟩:=h
 obtain⟨t,rfl⟩:=B
 obtain⟨t',rfl⟩:=D
 have hl:(⟨#[c]⟩:Str).length=1:=rfl
 refine PySem.P.mul_str (by rw[AZ (by omega),AZ (by omega)];rfl) (fun _ _=>?_) (fun _ _=>?_) ?_
 ·rw[hl]
  have:(2 ^ 63 - 1)/k≥1:=by
   rw[ge_iff_le,Int.le_ediv_iff_mul_le (by omega)];omega
  omega
 ·rw[hl,Nat.one_mul]
  unfold Builtin.Str.tooLong
  have:sizeLine=16777216:=sizeLine_eq
  simp;omega
 ·rw[if_neg (by omega)]
  by_cases e:k=1
  ·subst e
   rw[if_pos (by simp)]
   exact⟨.str ⟨(List.replicate (1:Int).toNat c).toArray⟩,H,I,⟨t,rfl⟩,q⟩
  ·rw[if_neg (by rw[hl];simp[e])]
   have j:=a8R c k.toNat []
   rw[List.nil_append]at j
   rw[show(List.replicate k.toNat (⟨#[c]⟩:Str).cps).foldl (· ++ ·) #[]=(List.replicate k.toNat c).toArray from j]
   exact⟨by show(List.replicate k.toNat c).toArray.size<=_;simp;have:sizeLine=16777216:=sizeLine_eq;omega,.str ⟨(List.replicate k.toNat c).toArray⟩,H,I.tok _,⟨_,rfl⟩,q⟩
end
noncomputable def a8B:Str:="abcdefghijklmnopqrstuvwxyz"
noncomputable def a0u (i:Int):Nat:=a8B.cps.toList.getD i.toNat 0
noncomputable def b6N (i:Int):Nat:=("abcdefghijklmnopqrstuvwxyz0123456789":Str).cps.toList.getD i.toNat 0
theorem b3g:∀i:Nat,i < 26->a3U (a8B.cps.toList.getD i 0)=true:=by decide +kernel
theorem b2e:∀i:Nat,i < 26->∀j:Nat,j < 26->a8B.cps.toList.getD i 0=a8B.cps.toList.getD j 0->i=j:=by decide +kernel
theorem a3Y:a8B.cps.toList.length=26:=by decide +kernel
theorem a6Z{i j:Int}(hi:0<=i)(q:i < 26)(D:0<=j)(B:j < 26)(h:a0u i=a0u j):i=j:=by
 have:=b2e i.toNat (by omega) j.toNat (by omega) h
 omega
noncomputable def a2l (b k:Int):Int:=(k*([1,5,7,11,13,23].getD (b % 6).toNat 0)+b/6) % 24
noncomputable def nm3 (b k z:Int):Nat->List Nat
 | 0=> []
 | j+1=>nm3 b k z j++[if(j:Int)=b/32 % z then a0u ((b/(256+11*j*j)+k) % 26)else if(j:Int)=0 then a0u (b/(256+11*j*j) % 26)else b6N (b/(256+11*j*j) % 36)]
noncomputable def Y7 (b k:Int):Str:=
 let k':=a2l b k
 let b':=b/144
 if b' % 4=0 then⟨(List.replicate (1+k' % 8).toNat (a0u ((b'/4+k'/8) % 26))).toArray⟩
 else if b' % 4=1 then⟨(List.replicate (1+b'/104 % 6).toNat (a0u (b'/4 % 26))).toArray⟩++Str.ofString (toString k')
 else⟨(nm3 b' k' (1+b'/4 % 8) (1+b'/4 % 8).toNat).toArray⟩
theorem a3b(b k:Int):0<=a2l b k/\a2l b k < 24:=by unfold a2l;omega
theorem b0Y{b k l:Int}(B:0<=b)(F:0<=k)(j:k < 24)(hl:0<=l)(q:l < 24)(h:a2l b k=a2l b l):k=l:=by
 unfold a2l at h
 have G:0<=b % 6:=by omega
 have D:b % 6 < 6:=by omega
 have:(b % 6).toNat=0\/(b % 6).toNat=1\/(b % 6).toNat=2\/(b % 6).toNat=3\/(b % 6).toNat=4\/(b % 6).toNat=5:=by omega
 rcases this with e | e | e | e | e | e<;>rw[e]at h<;>simp only[List.getD_cons_zero,List.getD_cons_succ]at h<;>omega
theorem a2X(b k z:Int):∀n,(nm3 b k z n).length=n
 | 0=>rfl
 | n+1=>by
  show(nm3 b k z n++[_]).length=_
  rw[List.length_append,a2X b k z n];rfl
theorem a5j(b k z:Int):∀(n j:Nat),j < n->(nm3 b k z n)[j]?=some (if(j:Int)=b/32 % z then a0u ((b/(256+11*j*j)+k) % 26)else if(j:Int)=0 then a0u (b/(256+11*j*j) % 26)else b6N (b/(256+11*j*j) % 36))
 | 0,j,h=>by omega
 | n+1,j,h=>by
  show(nm3 b k z n++[_])[j]?=_
  by_cases e:j < n
  ·rw[List.getElem?_append_left (by rw[a2X];exact e)]
   exact a5j b k z n j e
  ·have:j=n:=by omega
   subst this
   rw[BS (by rw[a2X];exact AI _),a2X]
   simp
theorem b1P:∀i:Nat,i < 24->∀j:Nat,j < 24->Str.ofString (toString (i:Int))=Str.ofString (toString (j:Int))->i=j:=by decide +kernel
theorem a2r{a x y:Str}(h:a++x=a++y):x=y:=by
 have h2:(a++x).cps.toList=(a++y).cps.toList:=by rw[h]
 rw[b0b,b0b]at h2
 have j:=List.append_cancel_left h2
 cases x;cases y
 congr
 exact Array.toList_inj.mp j
theorem a4C{b k l:Int}(hb:0<=b)(hk:0<=k)(G:k < 24)(hl:0<=l)(O:l < 24)(h:Y7 b k=Y7 b l):k=l:=by
 refine b0Y hb hk G hl O ?_
 obtain⟨r1,r2⟩:=a3b b k
 obtain⟨r3,r4⟩:=a3b b l
 unfold Y7 at h
 generalize a2l b k=B at*
 generalize a2l b l=D at*
 have ha:0<=b/144:=by omega
 generalize b/144=j at*
 simp only at h
 split at h
 ·have h2:List.replicate (1+B % 8).toNat (a0u ((j/4+B/8) % 26))=List.replicate (1+D % 8).toNat (a0u ((j/4+D/8) % 26)):=by
   injection h with h
   exact congrArg Array.toList h
  have Z:=congrArg List.length h2
  simp only[List.length_replicate]at Z
  have U:=congrArg List.head? h2
  rw[show(1+B % 8).toNat=(B % 8).toNat+1 by omega,show(1+D % 8).toNat=(D % 8).toNat+1 by omega,List.replicate_succ,List.replicate_succ]at U
  simp only[List.head?_cons,Option.some.injEq]at U
  have h5:=a6Z (by omega) (by omega) (by omega) (by omega) U
  omega
 ·split at h
  ·have h2:=a2r h
   have J:((B.toNat:Nat):Int)=B:=by omega
   have e2:((D.toNat:Nat):Int)=D:=by omega
   rw[<-J,<-e2]at h2
   have:=b1P B.toNat (by omega) D.toNat (by omega) h2
   omega
  ·have h2:nm3 j B (1+j/4 % 8) (1+j/4 % 8).toNat=nm3 j D (1+j/4 % 8) (1+j/4 % 8).toNat:=by
    injection h with h
    exact congrArg Array.toList h
   have hz:0 < 1+j/4 % 8:=by omega
   generalize 1+j/4 % 8=z at*
   have hc:0<=j/32 % z:=Int.emod_nonneg _ (by omega)
   have he:j/32 % z < z:=Int.emod_lt_of_pos _ hz
   have J:(((j/32 % z).toNat:Nat):Int)=j/32 % z:=by omega
   have F:=a5j j B z z.toNat (j/32 % z).toNat (by omega)
   have Y:=a5j j D z z.toNat (j/32 % z).toNat (by omega)
   rw[J,if_pos rfl]at F Y
   rw[h2,Y]at F
   injection F with F
   have h5:=a6Z (by omega) (by omega) (by omega) (by omega) F
   generalize j/(256+11*(j/32 % z)*(j/32 % z))=q at*
   omega
end L2
namespace L2
open PySem PySem.Spec PyProof.Rows
section
variable{X:Cx}
theorem b3h{xs:List V}{its:List Value}(r:W6 xs its){y:V}{u:Value}(j:W9 y u)(k:Nat):W6 (xs.take k++y::xs.drop k) (its.take k++u::its.drop k):=
 (r.take k).append (.cons j (r.drop k))
noncomputable def b5w:V->List V->Hp->VK->Prop:=fun x vs H Q=>∃(l:Addr)(xs:List V)(i:Int)(y:V),x= .ref l/\vs=[.int i,y]/\H l=some (.lst xs)/\0<=i/\i<=xs.length/\xs.length < sizeLine/\Q .non (upd H l (.lst (xs.take i.toNat++y::xs.drop i.toNat)))
theorem a1H:MtM X "list.insert" b5w:=by
 intro pins s σ H x Y v us Q I O B h
 obtain⟨l,xs,i,y,rfl,rfl,J,h0,h1,hz,q⟩:=h
 cases O
 cases B with
 | @cons _ Z _ _ r1 B=>
 cases B with
 | @cons _ G _ _ r2 B=>
 cases B
 obtain⟨t,rfl⟩:=r1
 obtain⟨z,j,n,r,hl,e⟩:=I.lstM J
 have hs:sizeLine=16777216:=sizeLine_eq
 have D:¬(!Builtin.List.listFitsIndex i)=true:=by
  rw[fitsIndex_both (by omega) (by omega)]
  exact AH
 refine call_meets F.slot_list_insert ⟨_,e,rfl⟩ F.entry_list_insert (F.args_list_insert_3 _ _ _) (PySem.AutoSeq1.list_insert_list_int_val_1 l j.toArray n i t G D (by rw[List.size_toArray];omega)) ⟨e,?_⟩
 refine⟨.non,_,I.lset (its':=j.take i.toNat++G::j.drop i.toNat) J e ?_ (b3h r r2 i.toNat) ?_,rfl,q⟩
 ·show(have k:=if i < 0 then(i+((j.toArray.size:Nat):Int)).toNat else min i.toNat j.toArray.size;(j.toArray.extract 0 k).push G++j.toArray.extract k)=_
  have U:min i.toNat j.toArray.size=i.toNat:=by rw[List.size_toArray];omega
  simp only[if_neg (show¬i < 0 by omega),U]
  apply Array.toList_inj.mp
  simp
  exact List.take_of_length_le (by rw[List.length_drop];exact AI _)
 ·rw[List.length_append,List.length_cons,AY,List.length_drop];omega
theorem a1j(G:X.A.units < cLine):OpR X (compareOp .NotEq) (fun x y H Q=>∃a b xs,x= .ref a/\y= .ref b/\SqL X.K H a xs/\SqL X.K H b []/\Q (.bl (!xs.isEmpty)) H):=by
 intro pins s σ H x y v u Q I U Z h
 obtain⟨a,b,xs,rfl,rfl,Y,J,q⟩:=h
 cases U
 cases Z
 obtain⟨O,r1,D,_⟩:=I.list Y
 obtain⟨F,r2,p2,_⟩:=I.list J
 cases r2
 cases xs with
 | nil=>
  cases r1
  exact SeqAt.RcNeAt.lists (e:=fun _=>true) D.isList p2.isList rfl G (fun j h1 _=>absurd h1 (by simp)) _ _ _ _ ⟨.bl false,H,I,rfl,q⟩
 | cons c r=>
  have B:=r1.length
  exact SeqAt.RcNeAt.lists_lengths D.isList p2.isList (by rw[bne_iff_ne];intro z;simp only[List.size_toArray,List.length_nil,List.length_cons]at z B;omega) G _ _ _ _ ⟨.bl true,H,I,rfl,q⟩
end
end L2
namespace L2
open PySem PySem.Spec PyProof.Rows
noncomputable def b3v (K:W.Frag) (a b:Addr):It:=
 ⟨fun i H=>∃xs ys x y,SqL K H a xs/\SqL K H b ys/\xs[i]?=some x/\ys[i]?=some y,
   fun i H x H'=>∃p u v,(∀xs,SqL K H a xs->xs[i]?=some u)/\(∀ys,SqL K H b ys->ys[i]?=some v)/\H p=none/\x= .ref p/\H'=upd H p (.tup [u,v]),
   fun i H=>∃xs ys,SqL K H a xs/\SqL K H b ys/\xs.length=i/\ys.length=i⟩
noncomputable def a6v (n a b:Addr) (i:Nat) (h:Heap):Prop:=IsZip h (n+4) (n+2) (n+3) .none/\IsPair h (n+2) (.ref n) (.ref (n+1))/\(∃x y,IsPair h (n+3) x y)/\h.IsListIter n a i/\h.IsListIter (n+1) b i
noncomputable def a0T (n:Addr):List Addr:=[n+4,n+2,n+3,n,n+1]
theorem a6v.obj{n a b:Addr}{i:Nat}{h:Heap}(st:a6v n a b i h):∀c∈a0T n,∃o,h.get? c=some o/\∀v,o.data≠ .cell v:=by
 obtain⟨h1,h2,⟨x,y,q⟩,⟨D,F,Y,O⟩,⟨J,G,U,B⟩⟩:=st
 intro c j
 simp only[a0T,List.mem_cons,List.not_mem_nil,or_false]at j
 rcases j with rfl | rfl | rfl | rfl | rfl
 ·exact⟨_,h1,fun v z=>nomatch z⟩
 ·exact⟨_,h2,fun v z=>nomatch z⟩
 ·exact⟨_,q,fun v z=>nomatch z⟩
 ·exact⟨D,F,fun v z=>by rw[O]at z;cases z⟩
 ·exact⟨J,G,fun v z=>by rw[B]at z;cases z⟩
theorem a6v.keep{n a b:Addr}{i:Nat}{h h':Heap}(st:a6v n a b i h)(j:∀c∈a0T n,∀o,h.get? c=some o->h'.get? c=some o):a6v n a b i h':=by
 obtain⟨h1,h2,⟨x,y,B⟩,⟨D,F,q⟩,⟨O,J,G⟩⟩:=st
 exact⟨j _ (by simp[a0T]) _ h1,j _ (by simp[a0T]) _ h2,⟨x,y,j _ (by simp[a0T]) _ B⟩,⟨D,j _ (by simp[a0T]) _ F,q⟩,⟨O,j _ (by simp[a0T]) _ J,G⟩⟩
theorem b1U{P:Program}{w:World}{K:W.Frag}{elts:List Expr}{k:Nat}{pos:Pos}(n a b:Addr)(ha:a < n)(hb:b < n):
  a8N P w K (.Tuple elts k pos) (b3v K a b) (a0T n) (n+4) (a6v n a b)where
 mem:=by simp[a0T]
 obj:=fun i h st=>st.obj
 keep:=fun i h h' st kk=>st.keep kk
 item:=by
  intro X hP hw hK B i pins s σ H E I hf st hg
  subst hP hw hK
  obtain⟨xs,ys,x,y,J,G,hx,hy⟩:=hg
  obtain⟨q,Y,p1,hs⟩:=I.list J
  obtain⟨j,U,p2,hz⟩:=I.list G
  obtain⟨u1,hj,hD⟩:=Y.get hx
  obtain⟨u2,hq,hC⟩:=U.get hy
  have W:=WalksT.zip2 (prog:=X.prog) (w:=X.w) (A:=X.A) (I.ok.hd B) (n+4) (n+2) (n+3) n (n+1) a b (W.ktu_apart n a b ha hb) q.toArray j.toArray
  have g1:=(List.getElem?_eq_some_iff.mp hj).1
  have g2:=(List.getElem?_eq_some_iff.mp hq).1
  have D:∀c,c∈[n+4,n+3,n,n+1]->c∈a0T n:=fun c B=>by
   simp only[a0T,List.mem_cons,List.not_mem_nil,or_false]at B⊢
   rcases B with z | z | z | z<;>simp[z]
  have hm:∀c∈[n+4,n+3,n,n+1],a3m X pins H c:=fun c B=>hf c (D c B)
  refine W.item i s _ _ (by simp only[List.size_toArray];omega) ⟨st.1,st.2.1,st.2.2.1,st.2.2.2.1,st.2.2.2.2,p1.isList,p2.isList⟩ fun T hF h' tk hA hT hh hM hk=>?_
  obtain⟨w1,w2,hu,ht,rfl⟩:=hA
  have e1:w1=u1:=by
   have:q[i]?=some w1:=by simpa using hu
   rw[hj]at this
   exact(Option.some.inj this).symm
  have e2:w2=u2:=by
   have:j[i]?=some w2:=by simpa using ht
   rw[hq]at this
   exact(Option.some.inj this).symm
  subst e1 e2
  have I1:Inv X pins σ H {s with heap:=h',toks:=tk}:=I.turnedL hk hm
  have hr:H T=none:=I.hok.fresh hT
  have fT:a3m X pins H T:=I.fpOk hT hr
  refine⟨_,rfl,W.go elts k pos i T {s with heap:=h',toks:=tk} _ _ hM fun h2 F Z=>?_⟩
  have hB:=I1.turnedL (h':=h2) (t':=tk) Z hm
  have I2:Inv X pins σ H {s with heap:=h2,toks:=tk}:=hB
  have hE:h2.IsTuple T #[w1,w2]:=by
   obtain⟨o,ho,r⟩:=hh
   exact⟨o,Z T o (W.apart i T h' hM) ho,r⟩
  have I3:Inv X pins σ (upd H T (.tup [x,y])) {s with heap:=h2,toks:=tk}:=
   I2.track fT ⟨by show 2<=sizeLine;decide,[w1,w2],.cons hD (.cons hC .nil),hE⟩
  refine⟨.ref T,_,I3,rfl,⟨T,x,y,fun zs O=>by rw[I.list_inj O J];exact hx,fun zs O=>by rw[I.list_inj O G];exact hy,hr,rfl,rfl⟩,⟨F.1,F.2.1,F.2.2.1,F.2.2.2.1,F.2.2.2.2.1⟩,fun c he=>?_⟩
  obtain⟨o,ho,_⟩:=st.obj c he
  have hn:=AU ho
  rw[G8 (fun z=>by rw[z]at hn;exact absurd hn (Nat.not_lt.mpr hT))]
  exact(hf c he).1
 done:=by
  intro X hP hw hK B i pins s σ H E I hf st hg
  subst hP hw hK
  obtain⟨xs,ys,J,G,hx,hy⟩:=hg
  obtain⟨q,Y,p1,hs⟩:=I.list J
  obtain⟨j,U,p2,hz⟩:=I.list G
  have W:=WalksT.zip2 (prog:=X.prog) (w:=X.w) (A:=X.A) (I.ok.hd B) (n+4) (n+2) (n+3) n (n+1) a b (W.ktu_apart n a b ha hb) q.toArray j.toArray
  have l1:=Y.length
  have l2:=U.length
  have hp:min q.toArray.size j.toArray.size=i:=by simp only[List.size_toArray];omega
  rw[hp]at W
  have D:∀c,c∈[n+4,n+3,n,n+1]->c∈a0T n:=fun c B=>by
   simp only[a0T,List.mem_cons,List.not_mem_nil,or_false]at B⊢
   rcases B with z | z | z | z<;>simp[z]
  refine W.done s _ _ ⟨st.1,st.2.1,st.2.2.1,st.2.2.2.1,st.2.2.2.2,p1.isList,p2.isList⟩ fun h' tk hk=>⟨rfl,?_⟩
  exact I.turnedL hk fun c B=>hf c (D c B)
 self:=fun _ _ _ _ _ st h=>wpAny_pyIter_zip st.1 h
section
variable{X:Cx}{elts:List Expr}{k:Nat}{tpos:Pos}
noncomputable def b7v (K:W.Frag) (ta:TA):TI:=fun σ H R=>ta σ H fun vs H1=>∃a b,vs=[.ref a,.ref b]/\(∃xs,SqL K H1 a xs)/\(∃ys,SqL K H1 b ys)/\R (b3v K a b) H1
theorem b4N{F D:Expr}{ta:TA}{p pos:Pos}(hg:Gl X "zip")(hm:X.mg "zip"=none)(ha:PA X [F,D] ta)(hs:starEach [F,D] X.env=(false,eval F X.env)::starEach [D] X.env:=by rfl)(G:∀pos,(backTo pos (starEach [D] X.env)).any (·.1)=false:=by intro _;rfl):
  PI X (.Tuple elts k tpos) (.Call (.Name "zip" p) [F,D] [] pos) (b7v X.K ta):=by
 intro pins s σ H R I h
 refine Call_ (a1i I hg hm boot_zip (PyProof.Rows.callWith_type1 (thn (ha pos pins s σ H _ I h) fun us j⟨vs,H1,I1,r1,q1⟩=>?_) hs (G _)))
 obtain⟨a,b,e,⟨xs,O⟩,⟨ys,Y⟩,q⟩:=q1
 subst e
 cases r1 with
 | cons ra U=>
 cases U with
 | cons rb U=>
  cases U
  cases ra
  cases rb
  obtain⟨Z,hj,p1,he⟩:=I1.list O
  obtain⟨hb,hh,p2,hf⟩:=I1.list Y
  have la:a < j.heap.objs.size:=by obtain⟨o,J,_⟩:=p1.isList;exact AU J
  have lb:b < j.heap.objs.size:=by obtain⟨o,J,_⟩:=p2.isList;exact AU J
  refine call_zip_2 p1.isList p2.isList fun h' z1 z2 z3 z4 z5 z6 hk=>?_
  have I2:Inv X pins σ H1 {j with heap:=h'}:=I1.kept (t':=j.toks) hk
  refine wpAny_pyIter_zip z1 ⟨j.heap.objs.size+4,a0T j.heap.objs.size,_,_,H1,rfl,I2,b1U j.heap.objs.size a b la lb,⟨z1,z2,⟨_,_,z3⟩,z4,z5⟩,fun c hc=>?_,q⟩
  have B:j.heap.objs.size<=c:=by
   simp only[a0T,List.mem_cons,List.not_mem_nil,or_false]at hc
   rcases hc with z | z | z | z | z<;>rw[z]<;>first | exact AI _ | exact Nat.le_add_right _ _
  exact I1.fpOk B (I1.hok.fresh B)
end
theorem b2J{K:W.Frag}{a b:Addr}{xs ys:List V}{g:TG}{tb:TS}{D:a0m}{σ:St}{H:Hp}(j:Nat->St->Hp->Prop)(J:xs.length=ys.length)(h0:j 0 σ H)(hl:∀i σ H,i<=xs.length->j i σ H->SqL K H a xs/\SqL K H b ys)
  (hs:∀i x y p σ H,xs[i]?=some x->ys[i]?=some y->j i σ H->H p=none->g (.ref p) σ (upd H p (.tup [x,y])) fun B H2=>tb {D with nx:=j (i+1),ct:=j (i+1),bk:=D.nx} B H2)(hd:∀σ H,j xs.length σ H->D.nx σ H):
  ∃W:Nat->Nat->St->Hp->Prop,(∃m,W 0 m σ H)/\∀i m σ H,W i m σ H->
   ((b3v K a b).stop i H/\D.nx σ H)\/((b3v K a b).go i H/\∃N:St->Hp->Prop,(∀F H',N F H'->∃U,U < m/\W (i+1) U F H')/\∀x H',(b3v K a b).yld i H x H'->g x σ H' fun B H2=>tb {D with nx:=N,ct:=N,bk:=D.nx} B H2):=by
 refine⟨fun i m σ H=>m=xs.length - i/\i<=xs.length/\j i σ H,⟨xs.length,by simp,Nat.zero_le _,h0⟩,?_⟩
 rintro i m σ H ⟨rfl,hi,p⟩
 have q:=hl i σ H hi p
 by_cases O:i < xs.length
 ·have G:i < ys.length:=by omega
  refine .inr ⟨⟨xs,ys,xs[i],ys[i],q.1,q.2,by simp[O],by simp[G]⟩,j (i+1),fun F H' p'=>⟨xs.length - (i+1),by omega,rfl,O,p'⟩,fun x H' y=>?_⟩
  obtain⟨pp,u,v,Y,Z,hn,e1,e2⟩:=y
  subst e1 e2
  exact hs i u v pp σ _ (Y xs q.1) (Z ys q.2) p hn
 ·have e:i=xs.length:=by omega
  subst e
  exact .inl ⟨⟨xs,ys,q.1,q.2,rfl,J.symm⟩,hd σ H p⟩
end L2
namespace L2
open PySem PySem.Spec PyProof.Rows
inductive Pr where
 | own (k n:Str) (xs:List Int)
 | bring (j:Nat) (ps:List (Str×Str)) (xs:List Int)
 | give (o g:Str) (xs:List Int)
 | ask (j:Nat) (xs:List Int)
 | sum (k:Str) (xs:List Int)
structure Pp where
 rows:List Pr
 owns:List Str
 gives:List Str
 sh:Int
noncomputable def a7N (H:Hp) (F:Addr->Prop) (x:Addr) (xs:List Int):Prop:=H x=some (.lst (xs.map V.int))/\¬F x
noncomputable def a7n (H:Hp) (F:Addr->Prop) (v:V):Pr->Prop
 | .own k n xs=>∃t x,v= .ref t/\H t=some (.tup [.str k,.str n,.ref x])/\a7N H F x xs
 | .bring j ps xs=>∃t u q x,v= .ref t/\H t=some (.tup [.str "bring",.ref u,.ref x])/\H u=some (.tup [.int j,.ref q])/\a0B H q ps/\a7N H F x xs
 | .give o g xs=>∃t u x,v= .ref t/\H t=some (.tup [.str "give",.ref u,.ref x])/\H u=some (.tup [.str o,.str g])/\a7N H F x xs
 | .ask j xs=>∃t x,v= .ref t/\H t=some (.tup [.str "ask",.int j,.ref x])/\a7N H F x xs
 | .sum k xs=>∃t x,v= .ref t/\H t=some (.tup [.str k,.non,.ref x])/\a7N H F x xs
theorem a7n.keep{H H':Hp}{F D:Addr->Prop}(ht:J9 H H')(G:∀x xs,¬F x->H x=some (.lst xs)->H' x=some (.lst xs)/\¬D x){v:V}{pr:Pr}(h:a7n H F v pr):a7n H' D v pr:=by
 have X:∀{x xs},a7N H F x xs->a7N H' D x xs:=fun{x xs}z=>G x _ z.2 z.1
 cases pr with
 | own k n xs=>obtain⟨t,x,e,h1,h2⟩:=h;exact⟨t,x,e,ht _ _ h1,X h2⟩
 | bring j ps xs=>obtain⟨t,u,q,x,e,h1,h2,B,J⟩:=h;exact⟨t,u,q,x,e,ht _ _ h1,ht _ _ h2,B.mono ht,X J⟩
 | give o g xs=>obtain⟨t,u,x,e,h1,h2,B⟩:=h;exact⟨t,u,x,e,ht _ _ h1,ht _ _ h2,X B⟩
 | ask j xs=>obtain⟨t,x,e,h1,h2⟩:=h;exact⟨t,x,e,ht _ _ h1,X h2⟩
 | sum k xs=>obtain⟨t,x,e,h1,h2⟩:=h;exact⟨t,x,e,ht _ _ h1,X h2⟩
structure Q4 where
 p:Addr
 r:Addr
 o:Addr
 g:Addr
noncomputable def Q4.nth (q:Q4):Nat->Addr
 | 0=>q.p
 | 1=>q.r
 | 2=>q.o
 | _=>q.g
noncomputable def inH (l:Addr) (A:List Q4) (ex:List Addr) (a:Addr):Prop:=a=l\/a∈ex\/∃(i:Nat)(q:Q4)(x:Nat),A[i]?=some q/\x < 4/\q.nth x=a
structure b2E(H:Hp)(F:Addr->Prop)(q:Q4)(pp:Pp):Prop where
 p:H q.p=some (.lst [.ref q.r,.ref q.o,.ref q.g,.int pp.sh])
 r:∃vs,H q.r=some (.lst vs)/\Paired (a7n H F) vs pp.rows
 o:H q.o=some (.lst (pp.owns.map V.str))
 g:H q.g=some (.lst (pp.gives.map V.str))
structure U4(H:Hp)(l:Addr)(A:List Q4)(ex:List Addr)(hs:List Pp):Prop where
 ll:H l=some (.lst (A.map fun q=>V.ref q.p))
 len:A.length=hs.length
 pt:∀(i:Nat)(q:Q4)(pp:Pp),A[i]?=some q->hs[i]?=some pp->b2E H (inH l A ex) q pp
 nl:∀(i:Nat)(q:Q4)(x:Nat),A[i]?=some q->x < 4->q.nth x≠l
 xl:∀d∈ex,d≠l/\∀(i:Nat)(q:Q4)(x:Nat),A[i]?=some q->x < 4->q.nth x≠d
 ap:∀(i j:Nat)(q u:Q4)(x y:Nat),A[i]?=some q->A[j]?=some u->x < 4->y < 4->q.nth x=u.nth y->i=j/\x=y
theorem b2E.keep{H H':Hp}{F:Addr->Prop}{q:Q4}{B:Pp}(ht:J9 H H')(D:∀x xs,¬F x->H x=some (.lst xs)->H' x=some (.lst xs))(j:∀x,x < 4->H' (q.nth x)=H (q.nth x))(h:b2E H F q B):b2E H' F q B where
 p:=(j 0 (by omega)).trans h.p
 r:=by
  obtain⟨G,h1,h2⟩:=h.r
  exact⟨G,(j 1 (by omega)).trans h1,Paired.mapP h2 fun _ _ z=>z.keep ht fun x xs hx hv=>⟨D x xs hx hv,hx⟩⟩
 o:=(j 2 (by omega)).trans h.o
 g:=(j 3 (by omega)).trans h.g
theorem U4.same{H H':Hp}{l:Addr}{A:List Q4}{ex:List Addr}{j:List Pp}(h:U4 H l A ex j)(s:G5 H H'):U4 H' l A ex j where
 ll:=s _ _ h.ll
 len:=h.len
 pt:=fun i q F B G=>by
  have z:=h.pt i q F B G
  obtain⟨D,h1,h2⟩:=z.r
  exact⟨s _ _ z.p,⟨D,s _ _ h1,Paired.mapP h2 fun _ _ y=>y.keep s.tups fun x xs hx hv=>⟨s _ _ hv,hx⟩⟩,s _ _ z.o,s _ _ z.g⟩
 nl:=h.nl
 xl:=h.xl
 ap:=h.ap
theorem U4.put{H:Hp}{l:Addr}{A:List Q4}{ex:List Addr}{Z:List Pp}(h:U4 H l A ex Z){i:Nat}{q:Q4}{pp J:Pp}{x:Nat}{B:List V}(F:A[i]?=some q)(e2:Z[i]?=some pp)(hx:x < 4)
  (hn:∀H',H'=upd H (q.nth x) (.lst B)->J9 H H'->(∀y ys,¬inH l A ex y->H y=some (.lst ys)->H' y=some (.lst ys))->(∀y,y < 4->y≠x->H' (q.nth y)=H (q.nth y))->b2E H' (inH l A ex) q J)(hl:∃xs,H (q.nth x)=some (.lst xs)):
  U4 (upd H (q.nth x) (.lst B)) l A ex (Z.set i J):=by
 obtain⟨xs,hl⟩:=hl
 have T:J9 H (upd H (q.nth x) (.lst B)):=J9.lst hl
 have K:∀y ys,¬inH l A ex y->H y=some (.lst ys)->upd H (q.nth x) (.lst B) y=some (.lst ys):=fun y ys G hv=>by
  rw[G8 (fun z=>G (Or.inr (Or.inr ⟨i,q,x,F,hx,z.symm⟩)))]
  exact hv
 refine⟨?_,by rw[List.length_set];exact h.len,fun j u up U O=>?_,h.nl,h.xl,h.ap⟩
 ·rw[G8 (h.nl i q x F hx).symm]
  exact h.ll
 ·by_cases D:i=j
  ·subst D
   rw[F]at U
   cases U
   rw[BP ((List.getElem?_eq_some_iff.mp e2).1)]at O
   cases O
   refine hn _ rfl T K fun y G Y=>?_
   rw[G8 (fun z=>Y (h.ap i i q q y x F F G hx z).2)]
  ·rw[List.getElem?_set_ne D]at O
   refine(h.pt j u up U O).keep T K fun y G=>?_
   rw[G8 (fun z=>D (h.ap j i u q y x U F G hx z).1.symm)]
theorem U4.add{H J:Hp}{l:Addr}{A:List Q4}{hs:List Pp}(h:U4 H l A [] hs){q:Q4}{c:Int}(s:G5 H J)(G:∀x,x < 4->H (q.nth x)=none)(Y:∀x y,x < 4->y < 4->q.nth x=q.nth y->x=y)
  (hp:J q.p=some (.lst [.ref q.r,.ref q.o,.ref q.g,.int c]))(hr:J q.r=some (.lst []))(ho:J q.o=some (.lst []))(hg:J q.g=some (.lst [])):
  U4 (upd J l (.lst ((A.map fun q=>V.ref q.p)++[.ref q.p]))) l (A++[q]) [] (hs++[⟨[],[],[],c⟩]):=by
 have hb:∀x,x < 4->q.nth x≠l:=fun x hx z=>by
  have:=G x hx
  rw[z,h.ll]at this
  cases this
 have ha:∀(i:Nat)(u:Q4)(x y:Nat),A[i]?=some u->x < 4->y < 4->u.nth y≠q.nth x:=fun i u x y e hx Z z=>by
  have h1:=G x hx
  rw[<-z]at h1
  have hi:=(List.getElem?_eq_some_iff.mp e).1
  have hc:i < hs.length:=by rw[<-h.len];exact hi
  have U:hs[i]?=some hs[i]:=by simp[hc]
  have P:=h.pt i u _ e U
  obtain⟨vs,r1,_⟩:=P.r
  have:y=0\/y=1\/y=2\/y=3:=by omega
  rcases this with rfl | rfl | rfl | rfl
  ·rw[show H (u.nth 0)=_ from P.p]at h1;cases h1
  ·rw[show H (u.nth 1)=_ from r1]at h1;cases h1
  ·rw[show H (u.nth 2)=_ from P.o]at h1;cases h1
  ·rw[show H (u.nth 3)=_ from P.g]at h1;cases h1
 have T:J9 H (upd J l (.lst ((A.map fun q=>V.ref q.p)++[.ref q.p]))):=s.tups.trans (J9.lst (s _ _ h.ll))
 have B:∀(i:Nat)(u:Q4),(A++[q])[i]?=some u->(A[i]?=some u)\/(i=A.length/\u=q):=fun i u e=>by
  by_cases hi:i < A.length
  ·rw[List.getElem?_append_left hi]at e
   exact .inl e
  ·rw[BS (by omega)]at e
   have h0:i - A.length=0:=by
    have:=(List.getElem?_eq_some_iff.mp e).1
    simp only[List.length_singleton]at this
    omega
   rw[h0]at e
   simp only[List.getElem?_cons_zero,Option.some.injEq]at e
   exact .inr ⟨by omega,e.symm⟩
 refine⟨?_,by rw[List.length_append,List.length_append,h.len];rfl,fun i u pp e1 U=>?_,fun i u x e hx=>?_,fun d hd=>by simp at hd,fun i j u v x y e1 U hx Z z=>?_⟩
 ·rw[G1,AG];rfl
 ·rcases B i u e1 with F | ⟨F,rfl⟩
  ·have hi:=(List.getElem?_eq_some_iff.mp F).1
   rw[List.getElem?_append_left (by rw[<-h.len];exact hi)]at U
   have P:=h.pt i u pp F U
   have D:∀x,x < 4->upd J l (.lst ((A.map fun q=>V.ref q.p)++[.ref q.p])) (u.nth x)=J (u.nth x):=fun x hx=>G8 (h.nl i u x F hx)
   obtain⟨vs,r1,r2⟩:=P.r
   refine⟨(D 0 (by omega)).trans (s _ _ P.p),⟨vs,(D 1 (by omega)).trans (s _ _ r1),Paired.mapP r2 fun _ _ y=>y.keep T fun x xs hx hv=>⟨?_,?_⟩⟩,(D 2 (by omega)).trans (s _ _ P.o),(D 3 (by omega)).trans (s _ _ P.g)⟩
   ·rw[G8 (fun z=>hx (Or.inl z))]
    exact s _ _ hv
   ·rintro(z | z | ⟨j,v,y,O,g2,g3⟩)
    ·exact hx (Or.inl z)
    ·simp at z
    ·rcases B j v O with O | ⟨O,rfl⟩
     ·exact hx (Or.inr (Or.inr ⟨j,v,y,O,g2,g3⟩))
     ·have:=G y g2
      rw[g3,hv]at this
      cases this
  ·rw[F,h.len,BS (AI _),Nat.sub_self]at U
   simp only[List.getElem?_cons_zero,Option.some.injEq]at U
   subst U
   have D:∀x,x < 4->upd J l (.lst ((A.map fun q=>V.ref q.p)++[.ref u.p])) (u.nth x)=J (u.nth x):=fun x hx=>G8 (hb x hx)
   exact⟨(D 0 (by omega)).trans hp,⟨[],(D 1 (by omega)).trans hr,.nil⟩,(D 2 (by omega)).trans ho,(D 3 (by omega)).trans hg⟩
 ·rcases B i u e with F | ⟨F,rfl⟩
  ·exact h.nl i u x F hx
  ·exact hb x hx
 ·rcases B i u e1 with F | ⟨F,rfl⟩
  ·rcases B j v U with O | ⟨O,rfl⟩
   ·exact h.ap i j u v x y F O hx Z z
   ·exact absurd z (ha i u y x F Z hx)
  ·rcases B j v U with O | ⟨O,rfl⟩
   ·exact absurd z.symm (ha j v x y O hx Z)
   ·exact⟨by omega,Y x y hx Z z⟩
theorem U4.there{H:Hp}{l:Addr}{A:List Q4}{ex:List Addr}{j:List Pp}(h:U4 H l A ex j){i:Nat}{q:Q4}{x:Nat}(e:A[i]?=some q)(hx:x < 4):∃xs,H (q.nth x)=some (.lst xs):=by
 have hi:=(List.getElem?_eq_some_iff.mp e).1
 have B:i < j.length:=by rw[<-h.len];exact hi
 have P:=h.pt i q j[i] e (by simp[B])
 obtain⟨D,r1,_⟩:=P.r
 have:x=0\/x=1\/x=2\/x=3:=by omega
 rcases this with rfl | rfl | rfl | rfl
 ·exact⟨_,P.p⟩
 ·exact⟨_,r1⟩
 ·exact⟨_,P.o⟩
 ·exact⟨_,P.g⟩
theorem U4.aside{H:Hp}{l d:Addr}{A:List Q4}{ex:List Addr}{B:List Pp}(h:U4 H l A ex B)(hd:H d=none):U4 H l A (d::ex) B where
 ll:=h.ll
 len:=h.len
 pt:=fun i q J F O=>by
  have P:=h.pt i q J F O
  obtain⟨G,r1,r2⟩:=P.r
  refine⟨P.p,⟨G,r1,Paired.mapP r2 fun _ _ y=>y.keep (J9.refl H) fun x xs hx hv=>⟨hv,?_⟩⟩,P.o,P.g⟩
  rintro(z | z | z)
  ·exact hx (Or.inl z)
  ·rcases List.mem_cons.mp z with z | z
   ·rw[z,hd]at hv;cases hv
   ·exact hx (Or.inr (Or.inl z))
  ·exact hx (Or.inr (Or.inr z))
 nl:=h.nl
 xl:=fun c D=>by
  rcases List.mem_cons.mp D with z | z
  ·rw[z]
   refine⟨fun y=>?_,fun i q x e hx y=>?_⟩
   ·rw[y,h.ll]at hd;cases hd
   ·obtain⟨xs,j⟩:=h.there e hx
    rw[y,hd]at j;cases j
  ·exact h.xl c z
 ap:=h.ap
theorem U4.back{H:Hp}{l d:Addr}{A:List Q4}{ex:List Addr}{j:List Pp}(h:U4 H l A (d::ex) j):U4 H l A ex j where
 ll:=h.ll
 len:=h.len
 pt:=fun i q G D J=>by
  have P:=h.pt i q G D J
  obtain⟨F,r1,r2⟩:=P.r
  refine⟨P.p,⟨F,r1,Paired.mapP r2 fun _ _ y=>y.keep (J9.refl H) fun x xs hx hv=>⟨hv,?_⟩⟩,P.o,P.g⟩
  rintro(z | z | z)
  ·exact hx (Or.inl z)
  ·exact hx (Or.inr (Or.inl (AK _ z)))
  ·exact hx (Or.inr (Or.inr z))
 nl:=h.nl
 xl:=fun c B=>h.xl c (AK _ B)
 ap:=h.ap
theorem U4.other{H:Hp}{l d:Addr}{A:List Q4}{ex:List Addr}{B:List Pp}{xs ys:List V}(h:U4 H l A ex B)(hd:d∈ex)(hx:H d=some (.lst xs)):U4 (upd H d (.lst ys)) l A ex B where
 ll:=by rw[G8 (h.xl d hd).1.symm];exact h.ll
 len:=h.len
 pt:=fun i q D j G=>(h.pt i q D j G).keep (J9.lst hx) (fun x zs F hv=>by rw[G8 (fun z=>F (Or.inr (Or.inl (by rw[z];exact hd))))];exact hv) fun x hx=>G8 ((h.xl d hd).2 i q x j hx)
 nl:=h.nl
 xl:=h.xl
 ap:=h.ap
end L2
namespace L2
open PySem PySem.Spec PyProof.Rows
theorem b6z:∀i:Nat,i < 36->a3B (("abcdefghijklmnopqrstuvwxyz0123456789":Str).cps.toList.getD i 0)=true:=by decide +kernel
theorem a0i{i:Int}(j:0<=i)(h1:i < 26):a3U (a0u i)=true:=b3g i.toNat (by omega)
theorem b5r{i:Int}(j:0<=i)(h1:i < 36):a3B (b6N i)=true:=b6z i.toNat (by omega)
theorem a7o{c:Nat}(h:a3U c=true):a3B c=true:=by unfold a3B;rw[h];rfl
theorem a4L{l:List Nat}{c:Nat}{r:List Nat}(e:l=c::r)(j:a3U c=true)(q:∀x∈r,a3B x=true)(hl:r.length<=7):B0 ⟨l.toArray⟩:=by
 subst e
 show(a3U c && r.all a3B && decide (r.length<=7))=true
 rw[j,List.all_eq_true.mpr q,decide_eq_true hl]
 rfl
theorem b3b:∀i:Nat,i < 24->(∀c∈(Str.ofString (toString (i:Int))).cps.toList,a3B c=true)/\(Str.ofString (toString (i:Int))).cps.toList.length<=2:=by decide +kernel
theorem b2k(b k z:Int)(q:0<=b)(B:0<=k):∀n,∀c∈nm3 b k z n,a3B c=true
 | 0,c,j=>by simp[nm3]at j
 | n+1,c,j=>by
  rcases AL.mp (show c∈nm3 b k z n++[_]from j)with h | h
  ·exact b2k b k z q B n c h
  ·rw[AC.mp h]
   split
   ·exact a7o (a0i (by omega) (by omega))
   ·split
    ·exact a7o (a0i (by omega) (by omega))
    ·exact b5r (by omega) (by omega)
theorem a8O{b k:Int}(O:0<=b):B0 (Y7 b k):=by
 obtain⟨r1,r2⟩:=a3b b k
 unfold Y7
 generalize a2l b k=q at*
 have B:0<=b/144:=by omega
 generalize b/144=j at*
 simp only
 split
 ·refine a4L (r:=List.replicate (q % 8).toNat (a0u ((j/4+q/8) % 26))) (c:=a0u ((j/4+q/8) % 26)) ?_ (a0i (by omega) (by omega)) (fun x hx=>?_) ?_
  ·rw[show(1+q % 8).toNat=(q % 8).toNat+1 by omega,List.replicate_succ]
  ·rw[(List.mem_replicate.mp hx).2]
   exact a7o (a0i (by omega) (by omega))
  ·rw[List.length_replicate];omega
 ·split
  ·obtain⟨d1,J⟩:=b3b q.toNat (by omega)
   rw[show((q.toNat:Nat):Int)=q by omega]at d1 J
   have e:(⟨(List.replicate (1+j/104 % 6).toNat (a0u (j/4 % 26))).toArray⟩:Str)++Str.ofString (toString q)=⟨(List.replicate (1+j/104 % 6).toNat (a0u (j/4 % 26))++(Str.ofString (toString q)).cps.toList).toArray⟩:=by
    show(⟨(List.replicate (1+j/104 % 6).toNat (a0u (j/4 % 26))).toArray++(Str.ofString (toString q)).cps⟩:Str)=_
    congr 1
    apply Array.toList_inj.mp
    simp
   rw[e]
   refine a4L (c:=a0u (j/4 % 26)) (r:=List.replicate (j/104 % 6).toNat (a0u (j/4 % 26))++(Str.ofString (toString q)).cps.toList) ?_ (a0i (by omega) (by omega)) (fun x hx=>?_) ?_
   ·rw[show(1+j/104 % 6).toNat=(j/104 % 6).toNat+1 by omega,List.replicate_succ];rfl
   ·rcases AL.mp hx with h | h
    ·rw[(List.mem_replicate.mp h).2]
     exact a7o (a0i (by omega) (by omega))
    ·exact d1 x h
   ·rw[List.length_append,List.length_replicate];omega
  ·have U:0 < 1+j/4 % 8:=by omega
   have G:1+j/4 % 8<=8:=by omega
   generalize 1+j/4 % 8=z at*
   have hl:=a2X j q z z.toNat
   have F:=b2k j q z B r1 z.toNat
   have D:=a5j j q z z.toNat 0 (by omega)
   cases e:nm3 j q z z.toNat with
   | nil=>rw[e]at hl;simp at hl;omega
   | cons c r=>
    rw[e]at hl F D
    refine a4L rfl ?_ (fun x hx=>F x (AK _ hx)) (by simp only[List.length_cons]at hl;omega)
    simp only[List.getElem?_cons_zero,Option.some.injEq]at D
    rw[D]
    split
    ·exact a0i (by omega) (by omega)
    ·rw[if_pos (by rfl)]
     exact a0i (by omega) (by omega)
noncomputable def Y0 (b sh:Int) (n:Nat):List Str:=(List.range n).map fun(j:Nat)=>Y7 b (((j:Int)+sh) % 24)
theorem a1l(b sh:Int)(n:Nat):(Y0 b sh n).length=n:=by unfold Y0;simp
theorem a1w(b sh:Int)(n:Nat):Y0 b sh (n+1)=Y0 b sh n++[Y7 b (((n:Int)+sh) % 24)]:=by
 unfold Y0;rw[List.range_succ,AG];rfl
theorem a4o{b sh:Int}{n:Nat}(q:0<=b):∀x∈Y0 b sh n,B0 x:=fun x hx=>by
 obtain⟨j,_,rfl⟩:=AO.mp hx
 exact a8O q
end L2
namespace L2
open PySem PySem.Spec PyProof.Rows
section
variable{P:Program}{w:World}{A:Around}{E:Value->Shared->Prop}{s:Shared}{z TI TO i1 i2 l1 l2:Addr}{xs ys:Array Value}{I1 I2:Nat->Heap->Prop}{S1 S2:Heap->Prop}
end
section
variable{X:Cx}{elts:List Expr}{k:Nat}{tpos:Pos}
end
end L2
namespace L2
open PySem PySem.Spec PyProof.Rows PySem.W
noncomputable def a0F (h:Heap) (d:Addr) (es:Array DictEntry) (ep:Nat):Prop:=∃o,h.get? d=some o/\o.ExactDict/\o.data= .dict es ep
theorem a0F.move{h h':Heap}{d:Addr}{es:Array DictEntry}{ep:Nat}(r:a0F h d es ep)(k:∀o,h.get? d=some o->h'.get? d=some o):a0F h' d es ep:=by
 obtain⟨j,e,c⟩:=r
 exact⟨j,k j e,c⟩
theorem a0F.lt{h:Heap}{d:Addr}{es:Array DictEntry}{ep:Nat}(r:a0F h d es ep):d < h.objs.size:=by
 obtain⟨j,e,_⟩:=r
 exact AU e
section
variable{P:Program}{w:World}{A:Around}{E:Value->Shared->Prop}{s:Shared}{d:Addr}{es:Array DictEntry}{ep:Nat}
theorem a0F.ty(r:a0F s.heap d es ep):s.TypeIs (.ref d) "dict":=by
 obtain⟨j,e,c,_⟩:=r
 exact⟨j,e,c.1⟩
theorem a8m{Q:Value->Shared->Prop}(lo:(d==sysModules)=false)(r:a0F s.heap d es ep)
  (q:Q (.ref s.heap.objs.size) {s with heap:=s.heap.push {cls:= .type "dict_keyiterator",data:= .fields #[.ref d,.int 0 0,.int es.size 0,.int ep 0]}}):wpAny (model P w) A (pyIter (.ref d)) Q E s:=by
 have ty:=r.ty
 obtain⟨D,j,G,B⟩:=r
 refine wpAny_pyIter_slot ty F.slot_dict_iter (wpAny_call_entry F.slot_dict_iter ty F.entry_dict_iter ?_ (F.args_dict_iter_1 _))
 unfold Builtin.«dict.__iter__» Builtin.Dict.dictSlotNone
 refine AA (AA (wpAny_notOrdered_dict ty ?_))
 show wpAny _ _ (pure (Value.ref d)) _ _ s
 refine AB ?_
 show wpAny _ _ (Builtin.Dict.showsAll d >>= _) _ _ s
 unfold Builtin.Dict.showsAll
 rw[if_neg (fun z=>by rw[lo]at z;exact AH z)]
 refine AA (AB (AA (wpAny_dictEntries j B (AA (wpAny_dictEpoch j B ?_)))))
 refine AA (wpAny_newObj_type (AB ⟨_,rfl,"dict_keyiterator",_,⟨_,AJ _ rfl,rfl⟩,F.slot_dict_keyiterator_next.lookup,?_⟩))
 simpa [rawInt]using q
theorem a8x{it:Addr}{i:Nat}{e:DictEntry}{Q:Option Value->Shared->Prop}(hi:s.heap.IsKeyIter it d i es.size ep)(r:a0F s.heap d es ep)(O:es[i]?=some e)
  (q:∀h',h'.IsKeyIter it d (i+1) es.size ep->Heap.SameBut it s.heap h'->Q (some e.key) {s with heap:=h'}):wpAny (model P w) A (pyNext (.ref it)) Q E s:=by
 obtain⟨Z,D,U,B⟩:=id hi
 obtain⟨Y,G,cb,J⟩:=r
 unfold pyNext
 refine AA (wpAny_attempt (wpAny_callSpecial?_slot (name:=Str.ofString "__next__") hi.typeIs F.slot_dict_keyiterator_next (wpAny_call_entry F.slot_dict_keyiterator_next hi.typeIs F.entry_dict_keyiterator_next ?_ (F.args_dict_keyiterator_next_1 _))))
 refine AA (AB (AA (AA ?_)))
 first | refine AA (wpAny_typeNameOfWhole_keyiter hi.typeIs (AB (AA (wpAny_fieldsOf D B ?_)))) | refine AA (wpAny_typeNameOf_keyiter hi.typeIs (AB (AA (wpAny_fieldsOf D B ?_))))
 simp only[show Builtin.Dict_items.ownsTuple "dict_keyiterator"=false by decide,Bool.false_eq_true,if_false]
 show wpAny _ _ (ite ((Value.ref d==Value.none)=true) _ _) _ _ s
 rw[if_neg (by exact AH)]
 refine AA (AB (AA (wpAny_dictEntries G J ?_)))
 rw[if_neg (by simp)]
 refine AA (AB (AA (wpAny_dictEpoch G J ?_)))
 rw[if_neg (by simp)]
 refine AB ?_
 simp only[show¬((i:Int) < 0)from by omega,if_false,Int.toNat_natCast,O]
 refine AA ?_
 first | refine AA (wpAny_typeNameOfWhole_keyiter hi.typeIs (AB (AA (wpAny_isOneOf_keyiter hi.typeIs ?_)))) | refine AA (wpAny_typeNameOf_keyiter hi.typeIs (AB (AA (wpAny_isOneOf_keyiter hi.typeIs ?_))))
 show wpAny _ _ (setField (Value.ref it) 1 (rawInt ((i:Int)+1)) >>= _) _ _ s
 refine AA (wpAny_setField D B (by simp) ?_)
 have j:(s.heap.update it (Obj.mapFields (·.setIfInBounds 1 (rawInt ((i:Int)+1))))).IsKeyIter it d (i+1) es.size ep:=⟨_,BL _ D (Obj.isFreed_of_fields (Obj.data_mapFields B _)),(Obj.cls_mapFields ..).trans U,by
  rw[Obj.data_mapFields B]
  simp[rawInt]⟩
 refine AA (wpAny_holding (AA (wpAny_isOneOf_keyiter (s:={s with heap:=s.heap.update it (Obj.mapFields (·.setIfInBounds 1 (rawInt ((i:Int)+1))))}) j.typeIs ?_)))
 show wpAny _ _ (pure e.key) _ _ _
 exact AB (AB ⟨_,rfl,AB (q _ j (Heap.SameBut.update ..))⟩)
theorem a8b{it:Addr}{i:Nat}{Q:Option Value->Shared->Prop}(J:A.handled=none)(hi:s.heap.IsKeyIter it d i es.size ep)(r:a0F s.heap d es ep)(O:es[i]?=none)
  (q:∀h',Heap.ExtBut it s.heap h'->Q none {s with heap:=h'}):wpAny (model P w) A (pyNext (.ref it)) Q E s:=by
 obtain⟨Y,j,ci,B⟩:=id hi
 obtain⟨U,D,Z,G⟩:=r
 unfold pyNext
 refine AA (wpAny_attempt (wpAny_callSpecial?_slot (name:=Str.ofString "__next__") hi.typeIs F.slot_dict_keyiterator_next (wpAny_call_entry F.slot_dict_keyiterator_next hi.typeIs F.entry_dict_keyiterator_next ?_ (F.args_dict_keyiterator_next_1 _))))
 refine AA (AB (AA (AA ?_)))
 first | refine AA (wpAny_typeNameOfWhole_keyiter hi.typeIs (AB (AA (wpAny_fieldsOf j B ?_)))) | refine AA (wpAny_typeNameOf_keyiter hi.typeIs (AB (AA (wpAny_fieldsOf j B ?_))))
 simp only[show Builtin.Dict_items.ownsTuple "dict_keyiterator"=false by decide,Bool.false_eq_true,if_false]
 show wpAny _ _ (ite ((Value.ref d==Value.none)=true) _ _) _ _ s
 rw[if_neg (by exact AH)]
 refine AA (AB (AA (wpAny_dictEntries D G ?_)))
 rw[if_neg (by simp)]
 refine AA (AB (AA (wpAny_dictEpoch D G ?_)))
 rw[if_neg (by simp)]
 refine AB ?_
 simp only[show¬((i:Int) < 0)from by omega,if_false,Int.toNat_natCast,O]
 refine AA ?_
 first | refine AA (wpAny_typeNameOfWhole_keyiter hi.typeIs (AB ?_)) | refine AA (wpAny_typeNameOf_keyiter hi.typeIs (AB ?_))
 show wpAny _ _ (setField (Value.ref it) 0 .none >>= _) _ _ s
 refine AA (wpAny_setField j B (by simp) ?_)
 show wpAny _ _ (newExc (Value.type "StopIteration") [] >>= _) _ _ _
 refine AA ?_
 simp only[newTuple,newExc]
 refine AA (wpAny_newObj_type (AA (m:=firstArgMember _ _) (BI (a:=Value.none) (by first | rfl | (simp only[firstArgMember];rfl)) (wpAny_newObj_type ?_ (by size_fits)))) (by size_fits))
 simp only[raiseNew]
 refine AA (wpAny_handled ?_)
 rw[show A.in1.handled=none from J]
 refine AA (AB (wpAny_throw ?_))
 exact AA (wpAny_isInstance (T:="StopIteration") (b:=true) ⟨_,AJ _ rfl,rfl⟩ isSubtype_stop (AB (q _ (((Heap.SameBut.update ..).extBut.push _).push _))))
theorem b1W(G:A.handled=none)(I:Addr)(D:d≠I):Walks P w A I [I,d] [I] es.size (fun i v=>∃e,es[i]?=some e/\v=e.key) (fun i h=>h.IsKeyIter I d i es.size ep/\a0F h d es ep)where
 sub:=fun b j=>by
  have e:b=I:=by simpa using j
  simp[e]
 frame:=fun _ _ _ st k=>⟨st.1.at fun o e=>k I (by simp) o e,st.2.move fun o e=>k d (by simp) o e⟩
 item:=fun i s Q E B st q=>by
  refine a8x st.1 st.2 (e:=es[i]) (by simp[B]) fun h' k1 F=>?_
  exact q _ h' s.toks ⟨es[i],by simp[B],rfl⟩ ⟨k1,st.2.move fun o e=>F.extBut _ o D e⟩ fun b o j e=>F.extBut b o (fun z=>j (by simp[z])) e
 done:=fun s Q E st q=>a8b G st.1 st.2 (by simp) fun h' k=>q h' s.toks fun b o j e=>k b o (fun z=>j (by simp[z])) e
 self:=fun _ _ _ _ st q=>wpAny_pyIter_keyiter st.1 q
theorem b3W(lo:(d==sysModules)=false):KdlSrc P w "dict" d d es.size (fun i v=>∃e,es[i]?=some e/\v=e.key) (fun h=>a0F h d es ep)where
 type:=fun s r=>r.ty
 there:=fun _ r=>⟨r.lt,r.lt⟩
 keep:=fun _ _ r k=>r.move fun o e=>k d (.inl rfl) o e
 notList:=by decide
 notTuple:=by decide
 hint:=fun _ _ s _ r q=>kdl_hint_dict r.ty q
 iter:=fun _ s j r=>⟨_,_,(fun _ _ q=>a8m lo r q),b1W j _ (BF r.lt),⟨⟨_,AJ _ rfl,rfl,rfl⟩,r.move fun o e=>AF _ e⟩⟩
end
noncomputable def a4c (H:Hp) (v:V) (kv:List Key×V):Prop:=∃b,v= .ref b/\H b=some (.tup (kv.1.map kV))
theorem a8Q{P:Program}{w:World}{H:Hp}{knd:HeapKind P w (List Key)}:∀{kvs:List (List Key×V)}{xs:List (List Key×Addr×Value)}{us:List Value},KT H kvs xs->us.length=xs.length->(∀(j:Nat)(u:Value),us[j]?=some u->∃e,(xs.map (entryOfKey knd))[j]?=some e/\u=e.key)->∃vs,W6 vs us/\Paired (a4c H) vs kvs
 | _,_,[],.nil,_,_=>⟨[],.nil,.nil⟩
 | _,_,_::_,.nil,hl,_=>by simp at hl
 | _,_,[],.cons _ _,hl,_=>by simp at hl
 | _,_,u::us,.cons (a:=p) (b:=q) h F,hl,hv=>by
  obtain⟨e,B,G⟩:=hv 0 u rfl
  simp only[List.map_cons,List.getElem?_cons_zero,Option.some.injEq]at B
  obtain⟨vs,h1,h2⟩:=a8Q (knd:=knd) F (by simpa using hl) fun j v D=>by simpa using hv (j+1) v (by simpa using D)
  refine⟨.ref q.2.1::vs,.cons ?_ h1,.cons ⟨q.2.1,rfl,h.2.1⟩ h2⟩
  rw[G,<-B]
  rfl
section
variable{X:Cx}
theorem a8X(Y:X.calm=true):a1u X (.type "list") (fun xs H Q=>∃a kvs,xs=[.ref a]/\Rd H a (.dT kvs)/\∀l vs,H l=none->Paired (a4c H) vs kvs->Q (.ref l) (upd H l (.lst vs))):=by
 intro pins s σ H xs us Q I r h
 obtain⟨a,kvs,rfl,ha,q⟩:=h
 obtain⟨u,rfl,ru⟩:=a3H r
 cases ru
 obtain⟨z,lo,ts,D,o,es,ep,h1,h2,h3,U,_⟩:=a6T I.hok ha
 have hl:kvs.length=ts.length:=AE D
 have G:es.size=ts.length:=by rw[<-Array.length_toList,U,List.length_map]
 refine kdl_call (b3W (es:=es) (ep:=ep) lo) (I.ok.hd Y) ⟨o,h1,h2,h3⟩ (by omega) fun h' tk F c hk hS B=>?_
 obtain⟨vs,O,Z⟩:=a8Q (us:=F.toList) D (by rw[Array.length_toList,B.1,G]) fun j u e=>by
  obtain⟨e',J,hu⟩:=B.2 j u (by rw[<-BR];exact e)
  refine⟨e',?_,hu⟩
  rw[<-U,BR]
  exact J
 exact⟨.ref s.heap.objs.size,_,I.laid (t':=tk) hk (AI _) (show O5 X.prog X.w _ h' _ (.lst vs)from⟨by rw[O.length,Array.length_toList,B.1];omega,F.toList,c,O,by simpa using hS⟩),rfl,q _ vs (I.hok.fresh (AI _)) Z⟩
end
end L2
namespace L2
open PySem PySem.Spec PyProof.Rows
section
variable{X:Cx}
end
end L2
namespace L2
open PySem PySem.Spec PyProof.Rows PySem.W
section
variable{X:Cx}{pins:List (Addr×Obj)}{σ:List (Option V)}{H:Hp}{s:Shared}
theorem Inv.freeze{d:Addr}{o:Obj}{u:HO}(I:Inv X pins σ H s)(h:H d=some u)(n1:∀xs,u≠ .tup xs)(U:∀o' G,u≠ .frz o' G)(Z:∀ps,u≠ .tbl ps)(Y:∀a,u≠ .own a)(O:s.heap.get? d=some o):Inv X pins σ (upd H d (.frz o u)) s:=by
 have ne:∀{b:Addr}{v:HO},H b=some v->v≠u->b≠d:=fun{b v}e hv z=>by
  rw[z,h]at e
  exact hv (Option.some.inj e).symm
 have B:∀(b:Addr)(xs:List V),H b=some (.tup xs)->upd H d (.frz o u) b=some (.tup xs):=fun b xs e=>by
  rw[G8 (ne e fun z=>n1 xs z.symm)]
  exact e
 have F:∀(a b:Addr),H b=some (.own a)->upd H d (.frz o u) b=some (.own a):=fun a b e=>by
  rw[G8 (ne e fun z=>Y a z.symm)]
  exact e
 refine I.step (h':=s.heap) (g':=s.gens) (d':=s.drawn) (t':=s.toks) (ch:=[]) (fun _ z=>nomatch z) (fun b j _ _ _ e _=>e) (fun b j _ _ _ e _=>⟨j.slots,e⟩)
  (fun b j _ _ n=>by rw[G8 (fun z=>by rw[z,h]at n;cases n)];exact n) (fun b j _ e=>⟨j,e⟩) B
  (fun b j v e=>by rw[G8 (ne e fun z=>U j v z.symm)];exact e) (fun b ps e=>⟨#[],by rw[G8 (ne e fun z=>Z ps z.symm),e];simp⟩) (fun m J=>J) (fun b v e=>?_) I.bare
 by_cases D:b=d
 ·subst D
  rw[G1]at e
  cases e
  exact⟨O,(I.hok b u h).stay (fun c w _ q=>q) (fun c q=>F b c q) B⟩
 ·rw[G8 D]at e
  exact(I.hok b v e).stay (fun c w _ q=>q) (fun c q=>F b c q) B
end
noncomputable def ItD (d:Addr) (o:Obj) (u:HO) (ks:List V):It:=⟨fun i H=>H d=some (.frz o u)/\i < ks.length,fun i H x H'=>H'=H/\ks[i]?=some x,fun i H=>H d=some (.frz o u)/\ks.length<=i⟩
theorem b1T{P:Program}{w:World}{K:W.Frag}{tg:Expr}{d it:Addr}{o:Obj}{u:HO}{ks:List V}{es:Array DictEntry}{ep:Nat}(hx:o.ExactDict)(hd:o.data= .dict es ep)(hl:ks.length=es.size)(hk:∀(i:Nat)(k:V),ks[i]?=some k->∃e:DictEntry,es[i]?=some e/\W9 k e.key):
  a8N P w K tg (ItD d o u ks) [it] it (fun i h=>h.IsKeyIter it d i es.size ep)where
 mem:=by simp
 obj:=fun i h st b j=>by
  have z:b=it:=by simpa using j
  subst z
  obtain⟨oi,ei,ci,O⟩:=st
  exact⟨oi,ei,fun v y=>by rw[O]at y;cases y⟩
 keep:=fun i h h' st kp=>st.at fun G e=>kp it (by simp) G e
 item:=by
  intro X J hw hK hc i pins s σ H E I hf st hg
  subst J hw hK
  obtain⟨q,hi⟩:=hg
  have B:s.heap.get? d=some o:=(show O5 X.prog X.w H s.heap d (.frz o u)from I.hok d _ q).1
  obtain⟨k,F⟩:∃k,ks[i]?=some k:=⟨ks[i],by simp[hi]⟩
  obtain⟨e,he,hr⟩:=hk i k F
  obtain⟨f0,Y,f2,f3,Z,U⟩:=hf it (by simp)
  refine a8x st ⟨o,B,hx,hd⟩ he fun h' D sb=>?_
  have I1:Inv X pins σ H {s with heap:=h'}:=I.turned (t':=s.toks) (fun b G j e=>(sb.2 b j).trans e) f0 Y f3 Z U
  obtain⟨oi,ei,ci,O⟩:=id D
  exact⟨e.key,rfl,b0o (s:={s with heap:=h'}) ei ci O (by decide) ⟨k,H,I1,hr,⟨rfl,F⟩,D,fun b j=>(hf b j).1⟩⟩
 done:=by
  intro X J hw hK hc i pins s σ H E I hf st hg
  subst J hw hK
  obtain⟨q,hi⟩:=hg
  have B:s.heap.get? d=some o:=(show O5 X.prog X.w H s.heap d (.frz o u)from I.hok d _ q).1
  obtain⟨f0,Y,f2,f3,Z,U⟩:=hf it (by simp)
  exact a8b (I.ok.hd hc) st ⟨o,B,hx,hd⟩ (by simp;omega) fun h' eb=>⟨rfl,I.turned (t':=s.toks) (fun b G j e=>eb b G j e) f0 Y f3 Z U⟩
 self:=fun _ _ _ _ _ st h=>wpAny_pyIter_keyiter st h
section
variable{X:Cx}{tg:Expr}
theorem b1E{H:Hp}{h:Heap}{d:Addr}{kvs:List (List Key×V)}(ok:O5 X.prog X.w H h d (.dT kvs)):∃(o:Obj)(es:Array DictEntry)(ep:Nat)(vs:List V),h.get? d=some o/\o.ExactDict/\o.data= .dict es ep/\(d==sysModules)=false/\Paired (a4c H) vs kvs/\vs.length=es.size/\∀(i:Nat)(k:V),vs[i]?=some k->∃e:DictEntry,es[i]?=some e/\W9 k e.key:=by
 obtain⟨z,lo,xs,q,o,es,ep,h1,h2,F,D,O⟩:=ok
 have j:KT H kvs xs:=q
 have l1:kvs.length=xs.length:=AE q
 have l2:es.size=xs.length:=by rw[<-Array.length_toList,D,List.length_map]
 have B:∀i,es[i]?=(xs[i]?).map (entryOfKey (tupleKind (Z8 X.prog X.w))):=fun i=>by
  rw[<-BR,D,List.getElem?_map]
 refine⟨o,es,ep,xs.map fun x=>V.ref x.2.1,h1,h2,F,lo,?_,by rw[List.length_map,l2],fun i k e=>?_⟩
 ·have:∀{kvs:List (List Key×V)}{xs:List (List Key×Addr×Value)},KT H kvs xs->Paired (a4c H) (xs.map fun x=>V.ref x.2.1) kvs:=by
   intro kvs xs r
   induction r with
   | nil=>exact .nil
   | cons a _ G=>exact .cons ⟨_,rfl,a.2.1⟩ G
  exact this j
 ·rw[List.getElem?_map]at e
  cases hx:xs[i]? with
  | none=>rw[hx]at e;cases e
  | some x=>
   rw[hx]at e
   have J:V.ref x.2.1=k:=Option.some.inj e
   refine⟨entryOfKey (tupleKind (Z8 X.prog X.w)) x,by rw[B,hx];rfl,?_⟩
   rw[<-J]
   rfl
noncomputable def b6v (te:TE):TI:=fun σ H R=>te σ H fun x H1=>∃d kvs,x= .ref d/\H1 d=some (.dT kvs)/\∀o vs,Paired (a4c H1) vs kvs->R (ItD d o (.dT kvs) vs) (upd H1 d (.frz o (.dT kvs)))
theorem a8S{l:Expr}{tl:TE}(hl:PE X l tl):PI X tg l (b6v tl):=by
 intro pins s σ H R I h
 refine thn (hl pins s σ H _ I h) fun v B⟨x,H1,I1,r1,G⟩=>?_
 obtain⟨d,kvs,e,hd,q⟩:=G
 subst e
 cases r1
 obtain⟨o,es,ep,O,h1,h2,F,lo,U,j,D⟩:=b1E (X:=X) (I1.hok d _ hd)
 have I2:=I1.freeze hd (fun _ z=>nomatch z) (fun _ _ z=>nomatch z) (fun _ z=>nomatch z) (fun _ z=>nomatch z) h1
 refine a8m lo ⟨o,h1,h2,F⟩ ?_
 refine⟨B.heap.objs.size,[B.heap.objs.size],_,_,_,rfl,I2.kept (t':=B.toks) fun b Y e=>AF _ e,b1T h2 F j D,⟨_,AJ _ rfl,rfl,rfl⟩,fun b J=>?_,q o O U⟩
 have z:b=B.heap.objs.size:=by simpa using J
 subst z
 exact I2.fpOk (AI _) (I2.hok.fresh (AI _))
end
theorem a7W{d:Addr}{o:Obj}{u:HO}{ks:List V}{g:TG}{tb:TS}{D:a0m}{σ:St}{H:Hp}(j:Nat->St->Hp->Prop)(Z:j 0 σ H)(hl:∀i σ H,i<=ks.length->j i σ H->H d=some (.frz o u))(U:∀(i:Nat)(k:V)σ H,ks[i]?=some k->j i σ H->g k σ H fun B H2=>tb {D with nx:=j (i+1),ct:=j (i+1),bk:=D.nx} B H2)(hd:∀σ H,j ks.length σ H->D.nx σ H):
  ∃W:Nat->Nat->St->Hp->Prop,(∃m,W 0 m σ H)/\∀i m σ H,W i m σ H->
   ((ItD d o u ks).stop i H/\D.nx σ H)\/((ItD d o u ks).go i H/\∃N:St->Hp->Prop,(∀F H',N F H'->∃J,J < m/\W (i+1) J F H')/\∀y H',(ItD d o u ks).yld i H y H'->g y σ H' fun B H2=>tb {D with nx:=N,ct:=N,bk:=D.nx} B H2):=by
 refine⟨fun i m σ H=>m=ks.length - i/\i<=ks.length/\j i σ H,⟨_,rfl,Nat.zero_le _,Z⟩,?_⟩
 rintro i m σ H ⟨rfl,hi,p⟩
 have q:=hl i σ H hi p
 by_cases G:i < ks.length
 ·refine .inr ⟨⟨q,G⟩,j (i+1),fun F H' Y=>⟨ks.length - (i+1),by omega,rfl,G,Y⟩,?_⟩
  rintro y H' ⟨rfl,O⟩
  exact U i y σ _ O p
 ·have e:i=ks.length:=by omega
  subst e
  exact .inl ⟨⟨q,AI _⟩,hd σ H p⟩
end L2
namespace L2
open PySem PySem.Spec PyProof.Rows PySem.W
section
variable{prog:Program}{w:World}{KT:Type}[DecidableEq KT]{knd:KeyKind prog w KT}{A:Around}{E:Value->Shared->Prop}{s:Shared}{r d:Addr}{kvs:List (KT×Value)}{ep:Nat}
end
section
variable{X:Cx}{o:Expr}{to:TE}{apos cpos:Pos}
end
end L2
namespace L2
open PySem PySem.Spec PyProof.Rows PySem.W
section
variable{X:Cx}{o:Expr}{to:TE}{apos cpos:Pos}{elts:List Expr}{k:Nat}{tpos:Pos}
end
section
variable{X:Cx}{o e f:Expr}{apos cpos:Pos}{td ty tx:TE}
end
end L2
namespace L2
open PySem PySem.Spec PyProof.Rows PySem.W
section
variable{P:Program}{w:World}{A:Around}{E:Value->Shared->Prop}{s:Shared}{d:Addr}{es:Array DictEntry}{ep:Nat}
theorem a8W(hd:(d==sysModules)=false):MeetsIn P w (Builtin.«dict.items» ⟨[.ref d],[]⟩) (fun _ R s=>a0F s.heap d es ep/\R (.ok (.ret (.ref s.heap.objs.size))) {s with heap:=s.heap.push {cls:= .type "dict_items",data:= .fields #[.ref d]}}):=
 .of_wp fun A R s⟨r,q⟩=>by
  unfold Builtin.«dict.items» Builtin.Dict.noArgs
  refine AA (AA (wpAny_notOrdered_dict r.ty ?_))
  show wpAny _ _ (pure d) _ _ s
  refine AB ?_
  show wpAny _ _ (Builtin.Dict.showsAll d >>= _) _ _ s
  unfold Builtin.Dict.showsAll
  rw[if_neg (fun z=>by rw[hd]at z;exact AH z)]
  exact AA (AB (AA (wpAny_newObj_type (AB ⟨_,rfl,q⟩))))
theorem b0W{v:Addr}{Q:Value->Shared->Prop}(hv:s.heap.IsItemsView v d)(r:a0F s.heap d es ep)
  (q:Q (.ref s.heap.objs.size) {s with heap:=s.heap.push {cls:= .type "dict_itemiterator",data:= .fields #[.none,.bool false,.ref d,.int 0 0,.int es.size 0,.int ep 0,.none,.none]}}):wpAny (model P w) A (pyIter (.ref v)) Q E s:=by
 have ty:=hv.typeIs (s:=s)
 obtain⟨O,G,U,D⟩:=hv
 obtain⟨J,j,Y,B⟩:=r
 refine wpAny_pyIter_slot ty F.slot_dict_items_iter (wpAny_call_entry F.slot_dict_items_iter ty F.entry_dict_items_iter ?_ (F.args_dict_items_iter_1 _))
 unfold Builtin.«dict_items.__iter__»
 refine AA (AB (AA ?_))
 unfold Builtin.Dict_items.dictOf
 refine AA (wpAny_field G D (x:= .ref d) rfl (AB (AA ?_)))
 unfold Builtin.Dict_items.newIterator
 refine AA (wpAny_dictEntries j B (AA (wpAny_dictEpoch j B ?_)))
 simp only[show Builtin.Dict_items.ownsTuple "dict_itemiterator"=true by decide,if_true]
 refine wpAny_newObj_type (AB ⟨_,rfl,"dict_itemiterator",_,⟨_,AJ _ rfl,rfl⟩,F.slot_dict_itemiterator_next.lookup,?_⟩) (by simp only[sizeOk,Builtin.Dict_items.ownedTupleFields,List.size_toArray,List.length_append,List.length_cons,List.length_nil,sizeLine_eq];omega)
 simpa [rawInt,Builtin.Dict_items.ownedTupleFields]using q
theorem b1a{it:Addr}{i:Nat}{e:DictEntry}{ok D:Value}{Q:Option Value->Shared->Prop}(hi:IsItemIter s.heap it d i es.size ep ok D)(r:a0F s.heap d es ep)(he:es[i]?=some e)
  (q:∀h',IsItemIterOut h' it d (i+1) es.size ep e.key e.val s.heap.objs.size->h'.get? s.heap.objs.size=some {cls:= .type "tuple",data:= .seq #[e.key,e.val]}->(∀b o,b≠it->s.heap.get? b=some o->h'.get? b=some o)->Q (some (.ref s.heap.objs.size)) {s with heap:=h'}):wpAny (model P w) A (pyNext (.ref it)) Q E s:=by
 obtain⟨B,g,G,tk,os⟩:=s
 obtain⟨ob,eb,cb,Y⟩:=r
 have ty:Shared.TypeIs ⟨B,g,G,tk,os⟩ (.ref it) "dict_itemiterator":=⟨_,hi,rfl⟩
 unfold pyNext
 refine AA (wpAny_attempt (wpAny_callSpecial?_slot (name:=Str.ofString "__next__") ty F.slot_dict_itemiterator_next (wpAny_call_entry F.slot_dict_itemiterator_next ty F.entry_dict_itemiterator_next ?_ (F.args_dict_itemiterator_next_1 _))))
 refine AA (AB (AA (AA ?_)))
 first | refine AA (wpAny_typeNameOfWhole_itemiter ty (AB (AA (wpAny_fieldsOf hi rfl ?_)))) | refine AA (wpAny_typeNameOf_itemiter ty (AB (AA (wpAny_fieldsOf hi rfl ?_))))
 simp only[show Builtin.Dict_items.ownsTuple "dict_itemiterator"=true by decide,if_true]
 show wpAny _ _ (ite ((Value.ref d==Value.none)=true) _ _) _ _ _
 rw[if_neg (by exact AH)]
 refine AA (AB (AA (wpAny_dictEntries eb Y ?_)))
 rw[if_neg (by simp)]
 refine AA (AB (AA (wpAny_dictEpoch eb Y ?_)))
 rw[if_neg (by simp)]
 refine AB ?_
 simp only[show¬((i:Int) < 0)from by omega,if_false,Int.toNat_natCast,he]
 refine AA ?_
 first | refine AA (wpAny_typeNameOfWhole_itemiter ty (AB (AA (wpAny_isOneOf_itemiter ty ?_)))) | refine AA (wpAny_typeNameOf_itemiter ty (AB (AA (wpAny_isOneOf_itemiter ty ?_))))
 show wpAny _ _ (setField (Value.ref it) 3 (rawInt ((i:Int)+1)) >>= _) _ _ ⟨B,g,G,tk,os⟩
 refine AA (wpAny_setField_rec hi (by simp) fun h1 e1 s1=>?_)
 have x1:IsItemIter h1 it d (i+1) es.size ep ok D:=by
  unfold IsItemIter
  rw[show((i+1:Nat):Int)=(i:Int)+1 by omega]
  simpa [rawInt]using e1
 have k1:Heap.SameBut it B h1:=s1
 have t1:Shared.TypeIs ⟨h1,g,G,tk,os⟩ (.ref it) "dict_itemiterator":=⟨_,x1,rfl⟩
 refine AA (wpAny_holding (AA (wpAny_isOneOf_itemiter t1 (AA (wpAny_isOneOf_itemiter t1 ?_)))))
 show wpAny _ _ (Builtin.Dict_items.pairFromOwner (Value.ref it) 6 e.key e.val) _ _ ⟨h1,g,G,tk,os⟩
 unfold Builtin.Dict_items.pairFromOwner
 refine AA (wpAny_newTuple ?_)
 have hz:h1.objs.size=B.objs.size:=k1.1
 obtain⟨h2,O⟩:∃h2,h2=h1.push {cls:= .type "tuple",data:= .seq #[e.key,e.val]}:=⟨_,rfl⟩
 have J:IsItemIter h2 it d (i+1) es.size ep ok D:=by
  rw[O]
  exact AF _ x1
 have tp:h2.get? B.objs.size=some {cls:= .type "tuple",data:= .seq #[e.key,e.val]}:=by
  rw[O,<-hz]
  exact AJ _ rfl
 have kp:∀b o,b≠it->B.get? b=some o->h2.get? b=some o:=fun b o j z=>by
  rw[O]
  exact AF _ (k1.extBut b o j z)
 have nt:B.objs.size≠it:=Nat.ne_of_gt (AU hi)
 show wpAny _ _ (Builtin.Dict_items.ownedTupleIsFree (.ref it) >>= _) _ _ ⟨h1.push {cls:= .type "tuple",data:= .seq #[e.key,e.val]},g,G,tk,os⟩
 rw[<-O,hz]
 refine AA ?_
 unfold Builtin.Dict_items.ownedTupleIsFree
 refine AA (wpAny_field J rfl (x:= .none) rfl (AB ?_))
 simp only[if_true]
 refine AA (wpAny_field J rfl (x:=ok) rfl (AA (wpAny_field J rfl (x:=D) rfl (AA (wpAny_setField_rec J (by simp) fun h3 e3 s3=>?_)))))
 have x3:IsItemIter h3 it d (i+1) es.size ep e.key D:=e3
 refine AA (wpAny_setField_rec x3 (by simp) fun h4 e4 s4=>?_)
 have x4:IsItemIter h4 it d (i+1) es.size ep e.key e.val:=e4
 refine AA (wpAny_setField_rec x4 (by simp) fun h5 e5 s5=>?_)
 have x5:IsItemIterOut h5 it d (i+1) es.size ep e.key e.val B.objs.size:=e5
 refine AA (wpAny_setField_rec x5 (by simp) fun U e6 s6=>?_)
 have x6:IsItemIterOut U it d (i+1) es.size ep e.key e.val B.objs.size:=e6
 have Z:∀b o,b≠it->h2.get? b=some o->U.get? b=some o:=fun b o j z=>s6.extBut b o j (s5.extBut b o j (s4.extBut b o j (s3.extBut b o j z)))
 exact AA (wpAny_letGo (AB (AB ⟨_,rfl,AB (q U x6 (Z _ _ nt tp) fun b o j z=>Z b o j (kp b o j z))⟩)))
theorem b0P{it:Addr}{i:Nat}{ok D:Value}{Q:Option Value->Shared->Prop}(G:A.handled=none)(hi:IsItemIter s.heap it d i es.size ep ok D)(r:a0F s.heap d es ep)(J:es[i]?=none)
  (q:∀h',Heap.ExtBut it s.heap h'->Q none {s with heap:=h'}):wpAny (model P w) A (pyNext (.ref it)) Q E s:=by
 have ty:s.TypeIs (.ref it) "dict_itemiterator":=⟨_,hi,rfl⟩
 obtain⟨O,j,U,B⟩:=r
 unfold pyNext
 refine AA (wpAny_attempt (wpAny_callSpecial?_slot (name:=Str.ofString "__next__") ty F.slot_dict_itemiterator_next (wpAny_call_entry F.slot_dict_itemiterator_next ty F.entry_dict_itemiterator_next ?_ (F.args_dict_itemiterator_next_1 _))))
 refine AA (AB (AA (AA ?_)))
 first | refine AA (wpAny_typeNameOfWhole_itemiter ty (AB (AA (wpAny_fieldsOf hi rfl ?_)))) | refine AA (wpAny_typeNameOf_itemiter ty (AB (AA (wpAny_fieldsOf hi rfl ?_))))
 simp only[show Builtin.Dict_items.ownsTuple "dict_itemiterator"=true by decide,if_true]
 show wpAny _ _ (ite ((Value.ref d==Value.none)=true) _ _) _ _ s
 rw[if_neg (by exact AH)]
 refine AA (AB (AA (wpAny_dictEntries j B ?_)))
 rw[if_neg (by simp)]
 refine AA (AB (AA (wpAny_dictEpoch j B ?_)))
 rw[if_neg (by simp)]
 refine AB ?_
 simp only[show¬((i:Int) < 0)from by omega,if_false,Int.toNat_natCast,J]
 refine AA ?_
 first | refine AA (wpAny_typeNameOfWhole_itemiter ty (AB ?_)) | refine AA (wpAny_typeNameOf_itemiter ty (AB ?_))
 show wpAny _ _ (setField (Value.ref it) 2 .none >>= _) _ _ s
 refine AA (wpAny_setField hi rfl (by simp) ?_)
 show wpAny _ _ (newExc (Value.type "StopIteration") [] >>= _) _ _ _
 refine AA ?_
 simp only[newTuple,newExc]
 refine AA (wpAny_newObj_type (AA (m:=firstArgMember _ _) (BI (a:=Value.none) (by first | rfl | (simp only[firstArgMember];rfl)) (wpAny_newObj_type ?_ (by size_fits)))) (by size_fits))
 simp only[raiseNew]
 refine AA (wpAny_handled ?_)
 rw[show A.in1.handled=none from G]
 refine AA (AB (wpAny_throw ?_))
 exact AA (wpAny_isInstance (T:="StopIteration") (b:=true) ⟨_,AJ _ rfl,rfl⟩ isSubtype_stop (AB (q _ (((Heap.SameBut.update ..).extBut.push _).push _))))
end
noncomputable def b5d (H:Hp) (p:V×V) (kv:List Key×V):Prop:=a4c H p.1 kv/\p.2=kv.2
noncomputable def ItT (d:Addr) (o:Obj) (u:HO) (ps:List (V×V)):It:=
 ⟨fun i H=>H d=some (.frz o u)/\i < ps.length,fun i H x H'=>∃p kv,ps[i]?=some kv/\H p=none/\x= .ref p/\H'=upd H p (.tup [kv.1,kv.2]),fun i H=>H d=some (.frz o u)/\ps.length<=i⟩
theorem a8c{P:Program}{w:World}{K:W.Frag}{elts:List Expr}{k:Nat}{pos:Pos}{d it:Addr}{o:Obj}{u:HO}{ps:List (V×V)}{es:Array DictEntry}{ep:Nat}(hx:o.ExactDict)(hd:o.data= .dict es ep)(hl:ps.length=es.size)(hk:∀(i:Nat)(p:V×V),ps[i]?=some p->∃e:DictEntry,es[i]?=some e/\W9 p.1 e.key/\W9 p.2 e.val):
  a8N P w K (.Tuple elts k pos) (ItT d o u ps) [it] it (fun i h=>∃ok B,IsItemIter h it d i es.size ep ok B)where
 mem:=by simp
 obj:=fun i h st b q=>by
  have z:b=it:=by simpa using q
  subst z
  obtain⟨ok,B,j⟩:=st
  exact⟨_,j,fun v z=>by
   have z':Data.fields _=Data.cell v:=z
   cases z'⟩
 keep:=fun i h h' st kk=>by
  obtain⟨ok,B,j⟩:=st
  exact⟨ok,B,kk it (by simp) _ j⟩
 item:=by
  intro X hP hw hK hc i pins s σ H E I hf st hg
  subst hP hw hK
  obtain⟨D,hi⟩:=hg
  obtain⟨ok,B,j⟩:=st
  have F:s.heap.get? d=some o:=(show O5 X.prog X.w H s.heap d (.frz o u)from I.hok d _ D).1
  obtain⟨p,hp⟩:∃p,ps[i]?=some p:=⟨ps[i],by simp[hi]⟩
  obtain⟨e,hj,r1,r2⟩:=hk i p hp
  obtain⟨f0,Z,f2,f3,f4,Y⟩:=hf it (by simp)
  refine b1a j ⟨o,F,hx,hd⟩ hj fun h' ho hT ha=>?_
  have I1:Inv X pins σ H {s with heap:=h'}:=I.turned (t':=s.toks) (fun b O q e=>ha b O q e) f0 Z f3 f4 Y
  have J:H s.heap.objs.size=none:=I.hok.fresh (AI _)
  have fT:a3m X pins H s.heap.objs.size:=I.fpOk (AI _) J
  have U:s.heap.objs.size≠it:=Nat.ne_of_gt (AU j)
  refine⟨_,rfl,wpAny_letOwnedTupleGo_items (s:={s with heap:=h'}) ho fun h2 hh G=>?_⟩
  have I2:Inv X pins σ H {s with heap:=h2}:=I1.turned (t':=s.toks) (fun b O q e=>G.extBut b O q e) f0 Z f3 f4 Y
  have hm:=G.extBut _ _ U hT
  have I3:Inv X pins σ (upd H s.heap.objs.size (.tup [p.1,p.2])) {s with heap:=h2}:=
   I2.track fT ⟨by show 2<=sizeLine;decide,[e.key,e.val],.cons r1 (.cons r2 .nil),⟨_,hm,rfl,0,rfl⟩⟩
  refine⟨.ref s.heap.objs.size,_,I3,rfl,⟨s.heap.objs.size,p,hp,J,rfl,rfl⟩,⟨_,_,hh⟩,fun b q=>?_⟩
  have z:b=it:=by simpa using q
  rw[z,G8 U.symm]
  exact(hf it (by simp)).1
 done:=by
  intro X hP hw hK hc i pins s σ H E I hf st hg
  subst hP hw hK
  obtain⟨D,hi⟩:=hg
  obtain⟨ok,B,j⟩:=st
  have F:s.heap.get? d=some o:=(show O5 X.prog X.w H s.heap d (.frz o u)from I.hok d _ D).1
  obtain⟨f0,Z,f2,f3,f4,Y⟩:=hf it (by simp)
  exact b0P (I.ok.hd hc) j ⟨o,F,hx,hd⟩ (by simp;omega) fun h' eb=>⟨rfl,I.turned (t':=s.toks) (fun b O q e=>eb b O q e) f0 Z f3 f4 Y⟩
 self:=fun _ _ _ _ _ st h=>by
  obtain⟨ok,B,j⟩:=st
  exact kcp_self j h
section
variable{X:Cx}{o:Expr}{to:TE}{apos cpos:Pos}{elts:List Expr}{k:Nat}{tpos:Pos}
theorem a9a{H:Hp}{h:Heap}{d:Addr}{kvs:List (List Key×V)}(ok:O5 X.prog X.w H h d (.dT kvs)):∃(o:Obj)(es:Array DictEntry)(ep:Nat)(ps:List (V×V)),h.get? d=some o/\o.ExactDict/\o.data= .dict es ep/\(d==sysModules)=false/\Paired (b5d H) ps kvs/\ps.length=es.size/\∀(i:Nat)(p:V×V),ps[i]?=some p->∃e:DictEntry,es[i]?=some e/\W9 p.1 e.key/\W9 p.2 e.val:=by
 obtain⟨z,lo,xs,F,o,es,ep,h1,h2,U,J,h5⟩:=ok
 have j:KT H kvs xs:=F
 have l2:es.size=xs.length:=by rw[<-Array.length_toList,J,List.length_map]
 have q:∀i,es[i]?=(xs[i]?).map (entryOfKey (tupleKind (Z8 X.prog X.w))):=fun i=>by
  rw[<-BR,J,List.getElem?_map]
 have mk:∀{kvs:List (List Key×V)}{xs:List (List Key×Addr×Value)},KT H kvs xs->∃ps:List (V×V),Paired (b5d H) ps kvs/\ps.length=xs.length/\∀(i:Nat)(p:V×V),ps[i]?=some p->∃x,xs[i]?=some x/\p.1=V.ref x.2.1/\W9 p.2 x.2.2:=by
  intro kvs xs r
  induction r with
  | nil=>exact⟨[],.nil,rfl,fun i p e=>by cases i<;>cases e⟩
  | @cons Y x kvs' O a _ ih=>
   obtain⟨ps,D,G,B⟩:=ih
   refine⟨(V.ref x.2.1,Y.2)::ps,.cons ⟨⟨_,rfl,a.2.1⟩,rfl⟩ D,by rw[List.length_cons,List.length_cons,G],fun i p e=>?_⟩
   cases i with
   | zero=>cases e;exact⟨x,rfl,rfl,a.2.2⟩
   | succ i=>exact B i p e
 obtain⟨ps,D,G,B⟩:=mk j
 refine⟨o,es,ep,ps,h1,h2,U,lo,D,by omega,fun i p e=>?_⟩
 obtain⟨x,hx,Z,e2⟩:=B i p e
 refine⟨entryOfKey (tupleKind (Z8 X.prog X.w)) x,by rw[q,hx];rfl,?_,e2⟩
 rw[Z]
 rfl
noncomputable def b4m (te:TE):TI:=fun σ H R=>te σ H fun x H1=>∃d kvs,x= .ref d/\H1 d=some (.dT kvs)/\∀ob ps,Paired (b5d H1) ps kvs->R (ItT d ob (.dT kvs) ps) (upd H1 d (.frz ob (.dT kvs)))
theorem b1O(ho:PE X o to)(D:attributeBase o "items" X.env (eval o X.env)=eval o X.env:=by rfl)(B:(apos.endLine==cpos.line)=true:=by rfl):PI X (.Tuple elts k tpos) (.Call (.Attribute o "items" apos) [] [] cpos) (b4m to):=by
 intro pins s σ H R I h
 refine wpAny_Call_method0_late D B (thn (ho pins s σ H _ I h) fun v j⟨x,H1,I1,r1,d,kvs,ex,Z,q1⟩=>?_)
 subst ex
 obtain rfl:v=Value.ref d:=r1
 obtain⟨G,es,ep,ps,h1,h2,Y,lo,hp,J,O⟩:=a9a (X:=X) (I1.hok d _ Z)
 have q:a0F j.heap d es ep:=⟨G,h1,h2,Y⟩
 refine⟨"dict","dict.items",PySem.F.plainAttrs_dict,PySem.F.slot_dict_items,PySem.F.type_dict_items,q.ty,fun b e=>?_,Calls.callWith_builtin rfl (PySem.evalArgs_none ?_)⟩
 ·injection e with e
  subst e
  exact⟨G,h1,h2.2.1⟩
 refine call_meetsIn PySem.F.slot_dict_items q.ty PySem.F.entry_dict_items (PySem.F.args_dict_items_1 _) (a8W (es:=es) (ep:=ep) lo) ⟨q,?_⟩
 have hv:(j.heap.push {cls:= .type "dict_items",data:= .fields #[.ref d]}).IsItemsView j.heap.objs.size d:=⟨_,AJ _ rfl,rfl,rfl⟩
 have I2:=I1.freeze Z (fun _ z=>nomatch z) (fun _ _ z=>nomatch z) (fun _ z=>nomatch z) (fun _ z=>nomatch z) h1
 have U:Inv X pins σ (upd H1 d (.frz G (.dT kvs))) {j with heap:=j.heap.push {cls:= .type "dict_items",data:= .fields #[.ref d]}}:=I2.kept (t':=j.toks) fun b w e=>AF _ e
 refine b0W (s:={j with heap:=j.heap.push {cls:= .type "dict_items",data:= .fields #[.ref d]}}) hv (q.move fun o e=>AF _ e) ?_
 refine⟨_,[_],_,_,_,rfl,U.kept (t':=j.toks) fun b w e=>AF _ e,a8c (o:=G) h2 Y J O,⟨_,_,AJ _ rfl⟩,fun b hb=>?_,q1 G ps hp⟩
 have z:b=(j.heap.push {cls:= .type "dict_items",data:= .fields #[.ref d]}).objs.size:=by simpa using hb
 subst z
 exact U.fpOk (AI _) (U.hok.fresh (AI _))
end
theorem a9j{d:Addr}{o:Obj}{u:HO}{ps:List (V×V)}{g:TG}{tb:TS}{D:a0m}{σ:St}{H:Hp}(j:Nat->St->Hp->Prop)(h0:j 0 σ H)(hl:∀i σ H,i<=ps.length->j i σ H->H d=some (.frz o u))
  (Y:∀(i:Nat)(G:V×V)p σ H,ps[i]?=some G->j i σ H->H p=none->g (.ref p) σ (upd H p (.tup [G.1,G.2])) fun B H2=>tb {D with nx:=j (i+1),ct:=j (i+1),bk:=D.nx} B H2)(hd:∀σ H,j ps.length σ H->D.nx σ H):
  ∃W:Nat->Nat->St->Hp->Prop,(∃m,W 0 m σ H)/\∀i m σ H,W i m σ H->
   ((ItT d o u ps).stop i H/\D.nx σ H)\/((ItT d o u ps).go i H/\∃N:St->Hp->Prop,(∀F H',N F H'->∃O,O < m/\W (i+1) O F H')/\∀y H',(ItT d o u ps).yld i H y H'->g y σ H' fun B H2=>tb {D with nx:=N,ct:=N,bk:=D.nx} B H2):=by
 refine⟨fun i m σ H=>m=ps.length - i/\i<=ps.length/\j i σ H,⟨_,rfl,Nat.zero_le _,h0⟩,?_⟩
 rintro i m σ H ⟨rfl,hi,p⟩
 have q:=hl i σ H hi p
 by_cases J:i < ps.length
 ·refine .inr ⟨⟨q,J⟩,j (i+1),fun F H' p'=>⟨ps.length - (i+1),by omega,rfl,J,p'⟩,?_⟩
  rintro y H' ⟨a,G,U,Z,rfl,rfl⟩
  exact Y i G a σ _ U p Z
 ·have e:i=ps.length:=by omega
  subst e
  exact .inl ⟨⟨q,AI _⟩,hd σ H p⟩
end L2
namespace L2
open PySem PySem.Spec PyProof.Rows PySem.W
theorem a6R{xs:List V}{us:List Value}(r:W6 xs us):∀(B:List Nat),∃ys,W6 ys (B.filterMap fun j=>us[j]?)/\ys=B.filterMap fun j=>xs[j]?
 | []=>⟨[],.nil,rfl⟩
 | j::B=>by
  obtain⟨ys,h1,h2⟩:=a6R r B
  have hl:=r.length
  cases e:us[j]? with
  | none=>
   have G:xs[j]?=none:=List.getElem?_eq_none (by rw[hl];exact List.getElem?_eq_none_iff.mp e)
   exact⟨ys,by rw[BA,e];exact h1,by rw[BA,G,h2]⟩
  | some u=>
   have D:=(List.getElem?_eq_some_iff.mp e).1
   obtain⟨x,hx⟩:∃x,xs[j]?=some x:=⟨xs[j]'(by rw[hl];exact D),by simp[hl,D]⟩
   obtain⟨J,q,F⟩:=Paired.get? r hx
   rw[e]at q
   cases q
   exact⟨x::ys,by rw[BA,e];exact .cons F h1,by rw[BA,hx,h2]⟩
section
variable{X:Cx}{e:Expr}{te:TE}{lo hi:Option Expr}{st:Expr}{tl th tk:TO}{pos p2:Pos}
end
end L2
namespace L2
open PySem PySem.Spec PyProof.Rows
section
variable{X:Cx}
end
end L2
namespace L2
open PySem PySem.Spec PyProof.Rows
section
variable{X:Cx}
end
end L2
namespace L2
open PySem PySem.Spec PyProof.Rows
section
variable{prog:Program}{w:World}{A:Around}{E:Value->Shared->Prop}{s:Shared}
end
section
variable{X:Cx}
end
end L2
namespace L2
open PySem PySem.Spec PyProof.Rows
section
variable{X:Cx}
end
end L2
namespace RV
open PySem PySem.Spec PyProof.Rows
theorem a9E:Manifest.owners.lookup (String.ofList ['d', 'e', 's', 'r', 'e', 'v', 'e', 'r'].reverse)=some Manifest.sig_reversed:=by kernel_rfl
theorem a3z:Slot "reversed" "__next__" "reversed.__next__":=
 .of (owner:="reversed") (n:="__next__") (by rw[typeLookup_type,builtinLookup_eq_fast];kernel_rfl) (by decide +kernel) (by decide +kernel) (by decide +kernel)
  (by first | exact .inl (by decide +kernel) | exact .inr (by decide +kernel)) (by rw[isSubtype_type];kernel_rfl)
theorem b0y:Slot "reversed" "__iter__" "reversed.__iter__":=
 .of (owner:="reversed") (n:="__iter__") (by rw[typeLookup_type,builtinLookup_eq_fast];kernel_rfl) (by decide +kernel) (by decide +kernel) (by decide +kernel)
  (by first | exact .inl (by decide +kernel) | exact .inr (by decide +kernel)) (by rw[isSubtype_type];kernel_rfl)
theorem a7i:Slot "reversed" "__length_hint__" "reversed.__length_hint__":=
 .of (owner:="reversed") (n:="__length_hint__") (by rw[typeLookup_type,builtinLookup_eq_fast];kernel_rfl) (by decide +kernel) (by decide +kernel) (by decide +kernel)
  (by first | exact .inl (by decide +kernel) | exact .inr (by decide +kernel)) (by rw[isSubtype_type];kernel_rfl)
theorem a4k:entryFor table "reversed.__next__"=some Builtin.«reversed.__next__»:=entryFor_of_tree (by kernel_rfl)
theorem b4R:entryFor table "reversed.__length_hint__"=some Builtin.«reversed.__length_hint__»:=entryFor_of_tree (by kernel_rfl)
theorem a7B:entryFor table "reversed.__iter__"=some Builtin.«dict_keyiterator.__iter__»:=
 entryFor_alias (id':="dict_keyiterator.__iter__") (by kernel_rfl) (by first | rfl | decide +kernel | (unfold String.splitOn;simp +decide [String.splitOnAux])) (by decide +kernel) (by kernel_rfl)
theorem a4b(a:Value):argsOk "reversed.__next__" ⟨[a],[]⟩:=by
 unfold argsOk;rw[signature?_of (id:="reversed.__next__") (n:=['_', '_', 't', 'x', 'e', 'n', '_', '_']) (o:=['d', 'e', 's', 'r', 'e', 'v', 'e', 'r']) (by kernel_rfl) a9E];kernel_rfl
theorem a7p(a:Value):argsOk "reversed.__iter__" ⟨[a],[]⟩:=by
 unfold argsOk;rw[signature?_of (id:="reversed.__iter__") (n:=['_', '_', 'r', 'e', 't', 'i', '_', '_']) (o:=['d', 'e', 's', 'r', 'e', 'v', 'e', 'r']) (by kernel_rfl) a9E];kernel_rfl
theorem b4t(a:Value):argsOk "reversed.__length_hint__" ⟨[a],[]⟩:=by
 unfold argsOk;rw[signature?_of (id:="reversed.__length_hint__") (n:=['_', '_', 't', 'n', 'i', 'h', '_', 'h', 't', 'g', 'n', 'e', 'l', '_', '_']) (o:=['d', 'e', 's', 'r', 'e', 'v', 'e', 'r']) (by kernel_rfl) a9E];kernel_rfl
theorem b6q:typeLookup (.type "tuple") "__reversed__"=pure none:=by rw[typeLookup_type,builtinLookup_eq_fast];kernel_rfl
theorem a9s:typeLookup (.type "reversed") "__len__"=pure none:=by rw[typeLookup_type,builtinLookup_eq_fast];kernel_rfl
theorem b2C:isSubtype (.type "tuple") (.type "dict")=pure false:=by rw[isSubtype_type];kernel_rfl
theorem b5G:isSubtype (.type "reversed") (.type "reversed")=pure true:=by rw[isSubtype_type];kernel_rfl
theorem b5c:Slot "reversed" "__init__" "object.__init__":=
 .of (owner:="object") (n:="__init__") (by rw[typeLookup_type,builtinLookup_eq_fast];kernel_rfl) (by decide +kernel) (by decide +kernel) (by decide +kernel)
  (by first | exact .inl (by decide +kernel) | exact .inr (by decide +kernel)) (by rw[isSubtype_type];kernel_rfl)
theorem a4u:TypeCalled "reversed" "reversed.__new__" "object.__init__":=
 ⟨by decide +kernel,by decide +kernel,⟨_,_,F.mro_reversed⟩,F.made_reversed,by decide +kernel,b5G,b5c⟩
end RV
namespace RV
open PySem PySem.Spec PyProof.Rows
noncomputable def a9B (t:Addr) (i:Int):Obj:={cls:= .type "reversed",data:= .fields #[.ref t,rawInt i]}
noncomputable def a0S (h:Heap) (a t:Addr) (i:Int):Prop:=∃o,h.get? a=some o/\o.cls= .type "reversed"/\o.data= .fields #[.ref t,rawInt i]
theorem a0S.move{h h':Heap}{a t:Addr}{i:Int}(x:a0S h a t i)(e:∀o,h.get? a=some o->h'.get? a=some o):a0S h' a t i:=by
 obtain⟨o,j,r⟩:=x
 exact⟨o,e o j,r⟩
section
variable{prog:Program}{w:World}{A:Around}{E:Value->Shared->Prop}{s:Shared}
theorem a0S.ty{a t:Addr}{i:Int}(x:a0S s.heap a t i):s.TypeIs (.ref a) "reversed":=by
 obtain⟨o,q,j,_⟩:=x
 exact⟨o,q,j⟩
theorem IsTup.move{h h':Heap}{t:Addr}{its:Array Value}(x:IsTup h t its)(e:∀o,h.get? t=some o->h'.get? t=some o):IsTup h' t its:=by
 obtain⟨o,j,r⟩:=x
 exact⟨o,e o j,r⟩
theorem b2W{t:Addr}{its:Array Value}{Q₁:Value->Shared->Prop}(ht:IsTup s.heap t its)(hz:its.size<=sizeLine)
  (q:∀tk,Q₁ (.ref s.heap.objs.size) {s with heap:=s.heap.push (a9B t ((its.size:Int) - 1)),toks:=tk}):
  codeAny (model prog w) A (.call (.builtin "reversed.__new__") ⟨[.type "reversed",.ref t],[]⟩) (wants Q₁ E) s:=by
 refine codeAny_of_tree ?_
 show wpAny _ A.in1 (checkBuiltinCall "reversed.__new__" ⟨[.type "reversed",.ref t],[]⟩ >>= fun _=>again (.builtin "reversed.__new__" ⟨[.type "reversed",.ref t],[]⟩)) _ _ s
 refine AA (BI (F.newCall_reversed_1 _) (AB ⟨plainId_quiet F.plain_reversed_new _,codeAny_builtin F.entry_reversed_new ?_⟩))
 rw[Around.under_plainId F.plain_reversed_new _]
 unfold Builtin.«reversed.__new__»
 refine AA (BI (newClass_reversed _) ?_)
 try dsimp only
 refine AA (BI (a:=()) (by first | rfl | kernel_rfl) ?_)
 refine AA (BI (a:=()) (by first | rfl | kernel_rfl) ?_)
 try dsimp only
 refine AA (wpAny_specialOf ht.typeIs b6q ?_)
 try dsimp only
 refine AA (AA (wpAny_isInstance ht.typeIs b2C ?_))
 rw[if_neg AH]
 refine AA (wpAny_specialOf ht.typeIs slot_tuple_getitem.lookup ?_)
 show wpAny _ _ (if(["tuple.__getitem__","str.__getitem__","bytes.__getitem__","bytearray.__getitem__","memoryview.__getitem__","numpy.ndarray.__getitem__","sqlite3.Row.__getitem__"].contains "tuple.__getitem__")=true then pure true else _) _ _ s
 rw[if_pos (by decide +kernel)]
 refine AB ?_
 rw[if_neg (by decide)]
 have j:(its.size:Int) < 2 ^ 63:=by have:sizeLine=16777216:=sizeLine_eq;omega
 refine AA (len_tuple ht j ?_)
 refine AA (BI (a:=some (its.size:Int)) rfl ?_)
 show wpAny _ _ (newObj (Value.type "reversed") (.fields #[Value.ref t,rawInt ((its.size:Int) - 1)]) >>= _) _ _ _
 refine AA (wpAny_newObj_type (AB ?_))
 exact q _
theorem b2m{t:Addr}{its:Array Value}{Q:Value->Shared->Prop}(ht:IsTup s.heap t its)(hz:its.size<=sizeLine)
  (q:∀tk,Q (.ref s.heap.objs.size) {s with heap:=s.heap.push (a9B t ((its.size:Int) - 1)),toks:=tk}):wpAny (model prog w) A (call (.type "reversed") [.ref t]) Q E s:=by
 refine callType_codes (Q₁:=fun obj j=>j.TypeIs obj "reversed"/\Q obj j) a4u (F.typeCall_reversed_1 _) F.entry_object_init (b2W ht hz fun tk=>⟨⟨_,AJ _ rfl,rfl⟩,q tk⟩) fun obj j B=>?_
 exact⟨B.1,F.args_object_init_2 obj _,object_init_meets a4u.init.lookup a4u.made (by decide) prog w A.in1 _ j ⟨B.1,rfl,B.2⟩⟩
theorem a4s{it t:Addr}{i:Nat}{its:Array Value}{x:Value}{Q:Option Value->Shared->Prop}(hit:a0S s.heap it t (i:Int))(ht:IsTup s.heap t its)(hx:its[i]?=some x)(hz:its.size<=sizeLine)
  (q:∀h' tk,a0S h' it t ((i:Int) - 1)->Heap.SameBut it s.heap h'->Q (some x) {s with heap:=h',toks:=tk}):wpAny (model prog w) A (pyNext (.ref it)) Q E s:=by
 obtain⟨o,B,F,hd⟩:=id hit
 have hi:i < its.size:=by
  obtain⟨z,_⟩:=Array.getElem?_eq_some_iff.mp hx
  exact z
 have G:sizeLine=16777216:=sizeLine_eq
 have j:¬((i:Int) < 0):=by omega
 have D:seqIndex? (i:Int) its.size=some i:=by simp[seqIndex?,j,hi]
 unfold pyNext
 refine AA (wpAny_attempt (wpAny_callSpecial?_slot (name:=Str.ofString "__next__") hit.ty a3z (wpAny_call_entry a3z hit.ty a4k ?_ (a4b _))))
 unfold Builtin.«reversed.__next__»
 refine AA (BI (a:=(Value.ref it,[])) rfl ?_)
 try dsimp only
 refine AA (wpAny_field B hd (x:= .ref t) rfl ?_)
 refine AA (wpAny_field B hd (x:=rawInt (i:Int)) rfl ?_)
 show wpAny _ _ (if(i:Int) < 0 then _ else _) _ _ s
 rw[if_neg (by omega)]
 refine AA (wpAny_specialOf ht.typeIs slot_tuple_getitem.lookup ?_)
 rw[if_neg (by simp)]
 refine AA (wpAny_mkInt ?_)
 refine AA (wpAny_attempt (getItem_tuple (s:={s with toks:=s.toks+1}) ht (by omega) (by omega) D hx ?_))
 show wpAny _ _ (field (Value.ref it) 1 >>= _) _ _ _
 refine AA (wpAny_field (s:={s with toks:=s.toks+1}) B hd (x:=rawInt (i:Int)) rfl ?_)
 show wpAny _ _ (setField (Value.ref it) 1 (rawInt ((i:Int) - 1)) >>= _) _ _ _
 refine AA (wpAny_setField (s:={s with toks:=s.toks+1}) B hd (by simp) ?_)
 refine AB ⟨x,rfl,AB (q _ _ ?_ (Heap.SameBut.update ..))⟩
 exact⟨_,BL _ B (Obj.isFreed_of_fields (Obj.data_mapFields hd _)),(Obj.cls_mapFields ..).trans F,by
  rw[Obj.data_mapFields hd]
  simp⟩
theorem a5v{it t:Addr}{Q:Option Value->Shared->Prop}(B:A.handled=none)(hit:a0S s.heap it t (-1))
  (q:∀h' tk,Heap.ExtBut it s.heap h'->Q none {s with heap:=h',toks:=tk}):wpAny (model prog w) A (pyNext (.ref it)) Q E s:=by
 obtain⟨o,j,D,hd⟩:=id hit
 unfold pyNext
 refine AA (wpAny_attempt (wpAny_callSpecial?_slot (name:=Str.ofString "__next__") hit.ty a3z (wpAny_call_entry a3z hit.ty a4k ?_ (a4b _))))
 unfold Builtin.«reversed.__next__»
 refine AA (BI (a:=(Value.ref it,[])) rfl ?_)
 try dsimp only
 refine AA (wpAny_field j hd (x:= .ref t) rfl ?_)
 refine AA (wpAny_field j hd (x:=rawInt (-1)) rfl ?_)
 show wpAny _ _ (if(-1:Int) < 0 then _ else _) _ _ s
 rw[if_pos (by decide)]
 refine AA (wpAny_rule ?_)
 refine AA (AA (wpAny_setField j hd (by simp) ?_))
 have h1:=BL (Obj.mapFields (·.setIfInBounds 1 (rawInt (-1)))) j (Obj.isFreed_of_fields (Obj.data_mapFields hd _))
 refine wpAny_setField h1 (Obj.data_mapFields hd _) (by simp) ?_
 refine AA ?_
 show wpAny _ _ (newExc (Value.type "StopIteration") [] >>= _) _ _ _
 refine AA ?_
 simp only[newTuple,newExc]
 refine AA (wpAny_newObj_type (AA (m:=firstArgMember _ _) (BI (a:=Value.none) (by first | rfl | (simp only[firstArgMember];rfl)) (wpAny_newObj_type ?_ (by size_fits)))) (by size_fits))
 simp only[raiseNew]
 refine AA (wpAny_handled ?_)
 rw[show A.in1.handled=none from B]
 refine AA (AB (wpAny_throw ?_))
 exact AA (wpAny_isInstance (T:="StopIteration") (b:=true) ⟨_,AJ _ rfl,rfl⟩ isSubtype_stop (AB (q _ _ ((((Heap.SameBut.update ..).trans (Heap.SameBut.update ..)).extBut.push _).push _))))
theorem a1K{it t:Addr}{i:Int}{Q:Value->Shared->Prop}(hit:a0S s.heap it t i)(h:Q (.ref it) s):wpAny (model prog w) A (pyIter (.ref it)) Q E s:=by
 refine wpAny_pyIter_slot hit.ty b0y (wpAny_call_entry b0y hit.ty a7B ?_ (a7p _))
 show wpAny _ _ (ret (.ref it)) _ _ s
 exact AB ⟨_,rfl,"reversed",_,hit.ty,a3z.lookup,h⟩
end
end RV
namespace RV
open PySem PySem.Spec PyProof.Rows
section
variable{prog:Program}{w:World}{A:Around}{E:Value->Shared->Prop}{s:Shared}
theorem b1A(J:A.handled=none)(I t:Addr)(F:t≠I)(its:Array Value)(hz:its.size<=sizeLine):
  Walks prog w A I [I,t] [I] its.size (fun i v=>its[its.size - 1 - i]?=some v) (fun i h=>i<=its.size/\a0S h I t ((its.size:Int) - 1 - (i:Int))/\IsTup h t its)where
 sub:=fun b D=>by
  have e:b=I:=by simpa using D
  simp[e]
 frame:=fun _ _ _ st k=>⟨st.1,st.2.1.move fun o e=>k I (by simp) o e,IsTup.move st.2.2 fun o e=>k t (by simp) o e⟩
 item:=fun i s Q E hi st q=>by
  have G:(its.size:Int) - 1 - (i:Int)=((its.size - 1 - i:Nat):Int):=by omega
  have hit:=st.2.1
  rw[G]at hit
  have hx:its[its.size - 1 - i]?=some (its[its.size - 1 - i]'(by omega)):=Array.getElem?_eq_getElem (by omega)
  refine a4s hit st.2.2 hx hz fun h' tk j same=>?_
  have U:((its.size - 1 - i:Nat):Int) - 1=(its.size:Int) - 1 - ((i+1:Nat):Int):=by omega
  rw[U]at j
  exact q _ h' tk hx ⟨hi,j,IsTup.move st.2.2 fun o B=>(same.2 t F).trans B⟩ fun b o D B=>same.extBut b o (fun z=>D (by simp[z])) B
 done:=fun s Q E st q=>by
  have G:(its.size:Int) - 1 - (its.size:Int)= -1:=by omega
  have hit:=st.2.1
  rw[G]at hit
  exact a5v J hit fun h' tk O=>q h' tk fun b o D B=>O b o (fun z=>D (by simp[z])) B
 self:=fun _ _ _ _ st q=>a1K st.2.1 q
theorem b3a{I t:Addr}{its:Array Value}{Q:Bool->Shared->Prop}(B:a0S s.heap I t ((its.size:Int) - 1))(ht:IsTup s.heap t its)(hz:its.size<=sizeLine)(q:∀b tk,Q b {s with toks:=tk}):wpAny (model prog w) A (Builtin.List.listLengthHint (.ref I)) Q E s:=by
 unfold Builtin.List.listLengthHint
 refine AA (wpAny_specialOf B.ty a9s ?_)
 try dsimp only
 refine wpAny_ite_split (fun h=>absurd h (by decide)) (fun _=>?_)
 refine wpAny_ite_split (fun h=>absurd h (by decide)) (fun _=>?_)
 refine AA (wpAny_specialOf B.ty a7i.lookup ?_)
 generalize j:("reversed.__length_hint__":String)=F
 wp_delta
 rw[show splitId F=some ("reversed","__length_hint__")from by subst j;decide +kernel]
 subst j
 refine AA (wpAny_isInstance (T:="reversed") (b:=true) B.ty b5G ?_)
 refine wpAny_ite_split (fun h=>absurd h (by decide)) (fun _=>?_)
 refine wpAny_ite_split (fun h=>absurd h (by decide +kernel)) (fun _=>?_)
 refine AA (wpAny_rule ?_)
 refine AA (BI (a7i.bind _) ?_)
 have J:sizeLine=16777216:=sizeLine_eq
 have D:(its.size:Int) < 2 ^ 63:=by omega
 obtain⟨o,G,O,hd⟩:=id B
 refine AA (wpAny_attempt (wpAny_call_entry a7i B.ty b4R ?_ (b4t _)))
 unfold Builtin.«reversed.__length_hint__»
 refine AA (BI (a:=Value.ref I) rfl ?_)
 refine AA (wpAny_field G hd (x:= .ref t) rfl ?_)
 rw[if_neg (by exact AH)]
 refine AA (len_tuple ht D ?_)
 refine AA (BI (a:=some (its.size:Int)) rfl ?_)
 try dsimp only
 refine AA (wpAny_field (s:={s with toks:=s.toks+1+1}) G hd (x:=rawInt ((its.size:Int) - 1)) rfl ?_)
 show wpAny _ _ (if(its.size:Int) < (its.size:Int) - 1+1 then _ else _) _ _ _
 rw[if_neg (by omega)]
 refine AA (wpAny_mkInt (AB ⟨_,rfl,?_⟩))
 refine AA (BI (a:=some ((its.size:Int) - 1+1)) rfl ?_)
 try dsimp only
 refine wpAny_ite_split (fun h=>absurd h ?_) (fun _=>?_)
 ·unfold Builtin.List.listFitsIndex
  simp
  omega
 refine wpAny_ite_split (fun h=>absurd h (by omega)) (fun _=>?_)
 refine wpAny_ite_split (fun h=>absurd h ?_) (fun _=>?_)
 ·unfold Builtin.List.listTooLong
  simp
  omega
 exact AB (q _ _)
end
end RV
namespace RV
open PySem PySem.Spec PyProof.Rows
section
variable{prog:Program}{w:World}{A:Around}{E:Value->Shared->Prop}{s:Shared}
noncomputable def StR (I t:Addr) (its:Array Value) (i:Nat) (h:Heap):Prop:=i<=its.size/\a0S h I t ((its.size:Int) - 1 - (i:Int))/\IsTup h t its
noncomputable def PR (its:Array Value) (i:Nat) (v:Value):Prop:=its[its.size - 1 - i]?=some v
theorem StR.move{I t:Addr}{its:Array Value}{i:Nat}{h h':Heap}(x:StR I t its i h)(k:∀b o,b=I\/b=t->h.get? b=some o->h'.get? b=some o):StR I t its i h':=
 ⟨x.1,x.2.1.move fun o e=>k I o (.inl rfl) e,IsTup.move x.2.2 fun o e=>k t o (.inr rfl) e⟩
theorem a8Z{R:Result->Shared->Prop}(hh:A.handled=none){I t S:Addr}{its:Array Value}{res:Value}{D:Nat}(Z:t≠I)(G:S≠I)(O:S≠t)(hz:its.size<=sizeLine)(st:StR I t its 0 s.heap)
  (hS:s.heap.get? S=some {cls:= .type "list",data:= .seq #[] D})
  (q:∀h' tk B c,(∀b o,b≠S->b≠I->s.heap.get? b=some o->h'.get? b=some o)->h'.get? S=some {cls:= .type "list",dict:=none,data:= .seq B c,slots:= #[]}->ItemsOf (PR its) B its.size->R (.ok (.ret res)) {s with heap:=h',toks:=tk}):
  wpAny (model prog w) A.in1 (Builtin.List.listExtendWith (.ref S) (.ref I) res)
   (fun fin s'=>match fin with | .done f=>R (.ok f) s' | .again c'=>c'.quiet=true/\codeAny (model prog w) A c' R s') (fun e s'=>R (.error e) s') s:=by
 have W:=(b1A (prog:=prog) (w:=w) (A:=A.in1) hh I t Z its hz).toS
 have ha:S∉ [I,t]:=by simp[G,O]
 have ty:s.TypeIs (.ref I) "reversed":=st.2.1.ty
 have rest:∀(h:Heap)(c tk:Nat),StR I t its 0 h->(∀b o,b≠S->s.heap.get? b=some o->h.get? b=some o)->h.get? S=some {cls:= .type "list",data:= .seq #[] c}->codeAny (model prog w) A (.builtin "list.extend.loop" ⟨[.ref S,.ref I,res],[]⟩) R {s with heap:=h,toks:=tk}:=fun h c tk he keep hc=>by
  refine codeAny_extend_loopS W hz S ha res its.size 0 _ #[] c rfl (Nat.zero_le _) he hc (ItemsOf.nil _) fun s' B c' hm j Y=>?_
  rw[Moved.eq_with hm]
  refine q s'.heap s'.toks B c' (fun b o J hf e=>hm.heap b o (fun z=>?_) (keep b o J e)) j Y
  rcases List.mem_cons.mp z with z | z
  ·exact J z
  ·exact hf (AC.mp z)
 unfold Builtin.List.listExtendWith
 refine AA (wpAny_typeOf ty ?_)
 have n1:Builtin.List.listSameRef (.ref S) (.ref I)=false:=by simp[Builtin.List.listSameRef,G]
 have n2:(Value.type "reversed"==Value.type "list")=false:=by decide
 have n3:(Value.type "reversed"==Value.type "tuple")=false:=by decide
 simp only[n1,n2,n3,Bool.or_false,Bool.false_eq_true,if_false]
 refine AA (a1K st.2.1 ?_)
 refine AA (wpAny_holding (b3a (its:=its) (by have:=st.2.1;simpa using this) st.2.2 hz fun b tk=>?_))
 refine wpAny_ite_split (fun _=>?_) (fun _=>AB ⟨plainId_quiet PySem.F.plain_extend_loop _,rest _ D _ st (fun b o _ e=>e) hS⟩)
 refine AA (wpAny_rule (AA ?_))
 show wpAny _ _ (updateSeq S (·.push .none) >>= fun _=>updateSeq S (·.pop)) _ _ _
 refine AA (wpAny_updateSeq (s:={s with toks:=tk}) hS rfl ?_)
 have j:=BL (Obj.mapSeq (·.push Value.none)) hS rfl
 refine wpAny_updateSeq (hz:=by seq_fits) j rfl ?_
 have hg:=BL (Obj.mapSeq (·.pop)) j rfl
 have U:∀b o,b≠S->s.heap.get? b=some o->((s.heap.update S (Obj.mapSeq (·.push Value.none))).update S (Obj.mapSeq (·.pop))).get? b=some o:=fun b o J e=>
  (Heap.get?_update_other _ _ (Ne.symm J)).trans ((Heap.get?_update_other _ _ (Ne.symm J)).trans e)
 refine AB ⟨plainId_quiet PySem.F.plain_extend_loop _,rest _ _ _ (st.move fun b o J e=>U b o (fun z=>?_) e) U hg⟩
 rcases J with y | y
 ·exact G (z.symm.trans y)
 ·exact O (z.symm.trans y)
theorem b2Y{R:Result->Shared->Prop}(hh:A.handled=none){I t S:Addr}{its:Array Value}(O:t≠I)(F:S≠I)(D:S≠t)(hz:its.size<=sizeLine)(st:StR I t its 0 s.heap)
  (Z:s.heap.get? S=some {cls:= .type "list",data:= .seq #[]})
  (q:∀h' tk j c,(∀b o,b≠S->b≠I->s.heap.get? b=some o->h'.get? b=some o)->h'.get? S=some {cls:= .type "list",dict:=none,data:= .seq j c,slots:= #[]}->ItemsOf (PR its) j its.size->R (.ok (.ret .none)) {s with heap:=h',toks:=tk}):
  wpAny (model prog w) A.in1 (Builtin.«list.__init__» ⟨[.ref S,.ref I],[]⟩)
   (fun fin s'=>match fin with | .done f=>R (.ok f) s' | .again c'=>c'.quiet=true/\codeAny (model prog w) A c' R s') (fun e s'=>R (.error e) s') s:=by
 show wpAny _ A.in1 (Builtin.List.listItems (.ref S) >>= fun old=>Builtin.List.listUpdate (.ref S) (fun _=>#[]) >>= fun _=>letGo old.toList.reverse >>= fun _=>Builtin.List.listExtendWith (.ref S) (.ref I) .none) _ _ s
 unfold Builtin.List.listItems
 refine AA (AA (wpAny_seqItems Z rfl (AB ?_)))
 show wpAny _ A.in1 (updateSeq S (fun _=>#[]) >>= fun _=>letGo (#[]:Array Value).toList.reverse >>= fun _=>Builtin.List.listExtendWith (.ref S) (.ref I) .none) _ _ s
 refine AA (wpAny_updateSeq Z rfl (AA (wpAny_letGo ?_)))
 have G:∀b o,b≠S->s.heap.get? b=some o->(s.heap.update S (Obj.mapSeq (fun _=>(#[]:Array Value)))).get? b=some o:=fun b o B e=>(Heap.get?_update_other _ _ (Ne.symm B)).trans e
 refine a8Z hh O F D hz (st.move fun b o B e=>G b o (fun z=>?_) e) (BL (Obj.mapSeq (fun _=>(#[]:Array Value))) Z rfl) fun h' tk j c keep U J=>q h' tk j c (fun b o B Y e=>keep b o B Y (G b o B e)) U J
 rcases B with y | y
 ·exact F (z.symm.trans y)
 ·exact D (z.symm.trans y)
theorem b3H{I t:Addr}{its:Array Value}{Q:Value->Shared->Prop}(Z:A.handled=none)(J:t≠I)(hz:its.size<=sizeLine)(st:StR I t its 0 s.heap)
  (q:∀h' tk j c,(∀b o,b≠I->s.heap.get? b=some o->h'.get? b=some o)->h'.get? s.heap.objs.size=some {cls:= .type "list",dict:=none,data:= .seq j c,slots:= #[]}->ItemsOf (PR its) j its.size->Q (.ref s.heap.objs.size) {s with heap:=h',toks:=tk}):
  wpAny (model prog w) A (call (.type "list") [.ref I]) Q E s:=by
 have hI:I < s.heap.objs.size:=by
  obtain⟨o,e,_⟩:=st.2.1
  exact AU e
 have ht:t < s.heap.objs.size:=by
  obtain⟨o,e,_⟩:=st.2.2
  exact AU e
 refine callType_codes (Q₁:=fun obj B=>obj= .ref s.heap.objs.size/\B={s with heap:=s.heap.push {cls:= .type "list",data:= .seq #[]}}) F.called_list (F.typeCall_list_1 _) F.entry_list_init (code_list_new _ ⟨rfl,rfl⟩) fun obj B G=>?_
 obtain⟨rfl,rfl⟩:=G
 have U:(s.heap.push {cls:= .type "list",data:= .seq #[]}).get? s.heap.objs.size=some {cls:= .type "list",data:= .seq #[]}:=AJ _ rfl
 refine⟨⟨_,U,rfl⟩,F.args_list_init_2 _ _,b2Y (A:=A.in1) Z J (Nat.ne_of_gt hI) (Nat.ne_of_gt ht) hz (st.move fun b o _ e=>AF _ e) U fun h' tk j c keep O D=>?_⟩
 exact⟨rfl,q h' tk j c (fun b o Y e=>keep b o (BF (AU e)) Y (AF _ e)) O D⟩
end
end RV
namespace L2
open PySem PySem.Spec PyProof.Rows PySem.W RV
theorem a7Q:∀{xs:List V}{its:List Value}{i:Nat}{v:Value},W6 xs its->its[i]?=some v->∃x,xs[i]?=some x/\W9 x v
 | _,_,_,_,.nil,e=>by simp at e
 | _,_,0,_,.cons r _,e=>by simp at e;subst e;exact⟨_,rfl,r⟩
 | _,_,i+1,_,.cons _ t,e=>by
  obtain⟨x,h1,h2⟩:=a7Q (i:=i) t (by simpa using e)
  exact⟨x,by simpa using h1,h2⟩
theorem a7k:∀{xs:List V}{us:List Value},us.length=xs.length->(∀(j:Nat)(u:Value),us[j]?=some u->∃x,xs[j]?=some x/\W9 x u)->W6 xs us
 | [],[],_,_=> .nil
 | [],_::_,h,_=>by simp at h
 | _::_,[],h,_=>by simp at h
 | x::xs,u::us,h,k=>by
  obtain⟨y,e,r⟩:=k 0 u rfl
  have q:x=y:=by simpa using e
  subst q
  exact .cons r (a7k (by simpa using h) fun j v B=>by simpa using k (j+1) v (by simpa using B))
theorem b3s{xs:List V}{its:Array Value}{q:Array Value}(hv:W6 xs its.toList)(B:ItemsOf (PR its) q its.size):W6 xs.reverse q.toList:=by
 have hl:xs.length=its.size:=by rw[hv.length,Array.length_toList]
 refine a7k (by rw[Array.length_toList,B.1,BO,hl]) fun j u e=>?_
 have F:j < its.size:=by
  rw[<-B.1,<-Array.length_toList]
  exact(List.getElem?_eq_some_iff.mp e).1
 have D:its[its.size - 1 - j]?=some u:=B.2 j u (by rw[<-BR];exact e)
 obtain⟨x,h1,h2⟩:=a7Q (i:=its.size - 1 - j) hv (by rw[BR];exact D)
 refine⟨x,?_,h2⟩
 rw[List.getElem?_reverse (by omega),hl]
 exact h1
section
variable{X:Cx}{e:Expr}{te:TE}{pos pos2 p p2:Pos}
noncomputable def b7q (K:W.Frag) (te:TE):TE:=fun σ H Q=>te σ H fun x H1=>∃a xs,x= .ref a/\SqT K H1 a xs/\∀l,H1 l=none->Q (.ref l) (upd H1 l (.lst xs.reverse))
theorem b5S(O:PE X e te)(U:Gl X "reversed")(G:X.mg "reversed"=none)(F:starEach [e] X.env=[(false,eval e X.env)]:=by rfl)
  {pins:List (Addr×Obj)}{s:Shared}{σ:St}{H:Hp}{R:VK}{Q:Value->Shared->Prop}(I:Inv X pins σ H s)(h:te σ H R)
  (k:∀x H1 q a xs its tk,Inv X pins σ H1 q->R x H1->x= .ref a->W6 xs its->IsTup q.heap a its.toArray->its.toArray.size<=sizeLine->SqT X.K H1 a xs->Q (.ref q.heap.objs.size) {q with heap:=q.heap.push (a9B a ((its.toArray.size:Int) - 1)),toks:=tk})
  (J:∀x H1,R x H1->∃a xs,x= .ref a/\SqT X.K H1 a xs):
  wpAny (model X.prog X.w) X.A (eval (.Call (.Name "reversed" p2) [e] [] pos2) X.env) Q X.xe s:=by
 refine wpAny_Call_Name_kw (a1i I U G boot_reversed ?_ (by decide) (by decide))
 refine PyProof.Rows.callWith_type1 ?_ F (by rfl)
 rw[F]
 refine Calls.spliced_cons (thn (O pins s σ H _ I h) fun u q⟨x,H1,I1,r1,D⟩=>?_)
 obtain⟨a,xs,rfl,ht⟩:=J x H1 D
 cases r1
 obtain⟨its,hv,j,Y⟩:=I1.tuple ht
 have B:its.toArray.size<=sizeLine:=by have:=hv.length;simp;omega
 refine Calls.spliced_nil ?_
 exact b2m j B fun tk=>k _ H1 q a xs its tk I1 D rfl hv j B ht
theorem b4i(hc:X.calm=true)(he:PE X e te)(gL:Gl X "list")(mL:X.mg "list"=none)(gR:Gl X "reversed")(mR:X.mg "reversed"=none)(hs:starEach [e] X.env=[(false,eval e X.env)]:=by rfl)(G:starEach [.Call (.Name "reversed" p2) [e] [] pos2] X.env=[(false,eval (.Call (.Name "reversed" p2) [e] [] pos2) X.env)]:=by rfl):
  PE X (.Call (.Name "list" p) [.Call (.Name "reversed" p2) [e] [] pos2] [] pos) (b7q X.K te):=by
 intro pins s σ H Q I h
 refine wpAny_Call_Name_kw (a1i I gL mL boot_list ?_ (by decide) (by decide))
 refine PyProof.Rows.callWith_type1 ?_ G (by rfl)
 rw[G]
 refine Calls.spliced_cons (b5S he gR mR hs I h (fun x H1 D a xs j tk I1 q1 ex hv B hz ht=>?_) fun x H1 q=>by obtain⟨a,xs,U,e2,_⟩:=q;exact⟨a,xs,U,e2⟩)
 obtain⟨a',ys,U,e2,q⟩:=q1
 have ea:a=a':=V.ref.inj (ex.symm.trans U)
 subst ea
 have O:=I1.tuple_inj ht e2
 subst O
 refine Calls.spliced_nil ?_
 have J:a≠D.heap.objs.size:=BF B.lt
 have st:StR D.heap.objs.size a j.toArray 0 (D.heap.push (a9B a ((j.toArray.size:Int) - 1))):=⟨Nat.zero_le _,⟨_,AJ _ rfl,rfl,by simp[a9B]⟩,B.push _⟩
 refine b3H (s:={D with heap:=D.heap.push (a9B a ((j.toArray.size:Int) - 1)),toks:=tk}) (I1.ok.hd hc) J hz st fun h' Y ha c keep hS F=>?_
 have hk:∀b u,D.heap.get? b=some u->h'.get? b=some u:=fun b u e=>keep b u (BF (AU e)) (AF _ e)
 have Z:W6 xs j.toArray.toList:=by simpa using hv
 have hr:=b3s Z F
 have hp:D.heap.objs.size<=(D.heap.push (a9B a ((j.toArray.size:Int) - 1))).objs.size:=by rw[Heap.size_push];omega
 refine⟨.ref _,_,I1.laid (t':=Y) hk hp (show O5 X.prog X.w _ h' _ (.lst xs.reverse)from⟨?_,ha.toList,c,hr,by simpa using hS⟩),rfl,q _ (I1.hok.fresh hp)⟩
 rw[hr.length,Array.length_toList,F.1]
 exact hz
end
end L2
namespace L2
open PySem PySem.Spec PyProof.Rows
section
variable{X:Cx}
end
end L2
namespace RG
open PySem PySem.Spec PyProof.Rows
section
variable{prog:Program}{w:World}{A:Around}{E:Value->Shared->Prop}{s:Shared}
variable{I:Addr}{fp:List Addr}{n:Nat}{P:Nat->Value->Prop}{St:Nat->Heap->Prop}{T:String}
end
end RG
namespace RG
open PySem PySem.Spec PyProof.Rows
section
variable{prog:Program}{w:World}{A:Around}{E:Value->Shared->Prop}{s:Shared}
end
end RG
namespace L2
open PySem PySem.Spec PyProof.Rows PySem.W RG
section
variable{X:Cx}{e:Expr}{te:TE}{pos pos2 pos3 p p2 p3:Pos}
end
end L2
namespace L2
open PySem PySem.Spec PyProof.Rows PySem.W RG
open AutoSeq1 (wpAny_loadPart')
section
variable{prog:Program}{w:World}{A:Around}{E:Value->Shared->Prop}{s:Shared}
end
section
variable{X:Cx}{e:Expr}{te:TE}{pos pos3 p p3:Pos}
end
end L2
namespace L2
open PySem PySem.Spec PyProof.Rows PySem.W
section
variable{X:Cx}{e:Expr}{te:TE}{pos pos3 p p3:Pos}
end
end L2
namespace L2
open PySem PySem.Spec PyProof.Rows PySem.W
section
variable{prog:Program}{w:World}{A:Around}{R:Result->Shared->Prop}{it best:Addr}{fp wr:List Addr}{n:Nat}{P:Nat->Value->Prop}{St:Nat->Heap->Prop}
end
section
variable{X:Cx}
end
end L2
namespace L2
open PySem PySem.Spec PyProof.Rows
section
variable{X:Cx}
end
end L2
namespace L2
open PySem PySem.Spec PyProof.Rows
theorem b3p{xs:List V}{its:List Value}(r:W6 xs its){j:Nat}{x:V}(h:xs[j]?=some x)(B:j < its.toArray.size):W9 x its.toArray[j]:=by
 obtain⟨F,D,q⟩:=r.get h
 have:its[j]?=some its.toArray[j]:=by simp at B;simp[B]
 rw[D]at this
 rw[<-Option.some.inj this]
 exact q
end L2
namespace L2
open PySem PySem.Spec PyProof.Rows
section
variable{X:Cx}{elts:List Expr}{k:Nat}{tpos:Pos}
end
end L2
namespace L2
open PySem PySem.Spec PyProof.Rows PySem.W
theorem b0V(lo hi:Option Int){k:Int}(j:0 < k)(n:Nat):Builtin.Slice.sliceAdjust lo hi k (n:Int)=(((HT.sIx n 0 lo:Nat):Int),((HT.sIx n n hi:Nat):Int)):=by
 have h1:¬k < 0:=by omega
 unfold Builtin.Slice.sliceAdjust
 simp only[h1,if_false]
 refine Prod.ext ?_ ?_
 ·cases lo with
  | none=>rfl
  | some v=>exact HT.b0s v n 0
 ·cases hi with
  | none=>rfl
  | some v=>exact HT.b0s v n n
theorem b1V{i j n:Nat}{k:Int}(q:0 < k)(B:j<=n):Builtin.Slice.slicePlaces (i:Int) (j:Int) k<=n:=by
 unfold Builtin.Slice.slicePlaces
 rw[if_pos (show k > 0 from q)]
 by_cases h:(i:Int) < (j:Int)
 ·rw[if_pos h]
  have h2:((j:Int) - i - 1)/k<=(j:Int) - i - 1:=Int.ediv_le_self _ (by omega)
  omega
 ·rw[if_neg h]
  omega
section
variable{prog:Program}{w:World}{A:Around}{E:Value->Shared->Prop}{s:Shared}
theorem a3x{t Z:Addr}{B:Array Value}{U vu Y:Value}{lo hi:Option Int}{k:Int}{Q:Value->Shared->Prop}(ht:IsTup s.heap t B)(hs:s.heap.IsSliceOf Z U vu Y)(pl:IsPart U lo)(pu:IsPart vu hi)(pk:IsPart Y (some k))(hk:0 < k)(hsz:B.size<=sizeLine)(h0:Q (.ref t) s)
  (h:∀js:List Nat,js.length<=B.size->Q (.ref s.heap.objs.size) {s with heap:=s.heap.push {cls:= .type "tuple",data:= .seq (js.filterMap fun j=>B[j]?).toArray}}):wpAny (model prog w) A (getItem (.ref t) (.ref Z)) Q E s:=by
 obtain⟨os,F,ha,G⟩:=id hs
 have O:s.TypeIs (.ref Z) "slice":=⟨os,F,ha⟩
 have hj:HT.sIx B.size B.size hi<=B.size:=HT.b6t _ _ (AI _) hi
 unfold getItem
 try with_reducible refine wpAny_holding ?_
 first | refine AA (AB ?_) | skip
 refine AA (wpAny_sequenceKey ht.typeIs (by decide) ?_)
 refine AA (wpAny_callSpecial?_slot (name:=Str.ofString "__getitem__") ht.typeIs PyProof.Rows.slot_tuple_getitem
  (wpAny_call_entry PyProof.Rows.slot_tuple_getitem ht.typeIs entry_tuple_getitem ?_ (args_tuple_getitem _ _)))
 show wpAny _ _ (Builtin.Tuple.tupleItemsOf (.ref t) >>= _) _ _ s
 refine AA (tupleItemsOf_ ht (AA (wpAny_typeOf O ?_)))
 rw[if_pos (by decide)]
 unfold Builtin.Slice.sliceApplied Builtin.Slice.sliceFields
 refine AA (AA (AA (wpAny_field F G (x:=U) rfl (AA (wpAny_field F G (x:=vu) rfl (AA (wpAny_field F G (x:=Y) rfl (AB ?_))))))))
 refine AA (HT.a3r pk ?_)
 show wpAny _ _ (if(k==0)=true then _ else _) _ _ s
 rw[if_neg (by simp;omega)]
 refine AA (HT.a3r pl (AA (HT.a3r pu (AA (AB ?_)))))
 show wpAny _ _ (match Builtin.Slice.sliceAdjust lo hi k (B.size:Int)with | (lo,hi)=>pure (lo,k,Builtin.Slice.slicePlaces lo hi k)) _ _ s
 rw[b0V lo hi hk]
 refine AB ?_
 have hn:=b1V (i:=HT.sIx B.size 0 lo) hk hj
 dsimp only
 generalize hb:Builtin.Slice.slicePlaces ((HT.sIx B.size 0 lo:Nat):Int) ((HT.sIx B.size B.size hi:Nat):Int) k=N at hn⊢
 generalize ((HT.sIx B.size 0 lo:Nat):Int)=J
 have q:=h ((List.range N).map fun(m:Nat)=>(J+(m:Int)*k).toNat) (by rw[List.length_map,List.length_range];exact hn)
 have e:((List.range N).map fun(m:Nat)=>(J+(m:Int)*k).toNat).filterMap (fun j=>B[j]?)=(List.range N).filterMap fun(m:Nat)=>B[(J+(m:Int)*k).toNat]?:=by rw[List.filterMap_map];rfl
 rw[e]at q
 have D:sizeOk (.seq ((List.range N).filterMap fun(m:Nat)=>B[(J+(m:Int)*k).toNat]?).toArray):=by
  show((List.range N).filterMap fun(m:Nat)=>B[(J+(m:Int)*k).toNat]?).toArray.size<=sizeLine
  rw[List.size_toArray]
  have:=List.length_filterMap_le (fun(m:Nat)=>B[(J+(m:Int)*k).toNat]?) (List.range N)
  rw[List.length_range]at this
  omega
 by_cases hw:(J==0 && k==1 && N==B.size)=true
 ·rw[if_pos hw]
  unfold Builtin.Tuple.tupleIsExact
  refine AA (AA (wpAny_typeOf ht.typeIs (AB ?_)))
  rw[if_pos (by decide)]
  refine AA (wpAny_rule ?_)
  first
   | exact AB ⟨_,rfl,AB h0⟩
   | exact AA (AB ⟨_,rfl,AB h0⟩)
   | exact AA (AB (AB ⟨_,rfl,AB h0⟩))
 ·rw[if_neg hw]
  first
   | exact AA (m:=Builtin.Tuple.tupleExact _) (wpAny_newObj_type (AB ⟨_,rfl,AB q⟩) D)
   | exact AA (m:=Builtin.Tuple.tupleExact _) (wpAny_newObj_type (AA (AB (AB ⟨_,rfl,AB q⟩))) D)
   | exact AA (AA (m:=Builtin.Tuple.tupleExact _) (wpAny_newObj_type (AB (AB ⟨_,rfl,AB q⟩)) D))
   | exact AA (AA (m:=Builtin.Tuple.tupleExact _) (wpAny_newObj_type (AB ⟨_,rfl,AB q⟩) D))
end
section
variable{X:Cx}{e:Expr}{te:TE}{lo hi:Option Expr}{st:Expr}{tl th tk:TO}{pos p2:Pos}
end
end L2
namespace RL
open PySem PySem.Spec PyProof.Rows
theorem b2I:Manifest.owners.lookup (String.ofList ['r', 'o', 't', 'a', 'r', 'e', 't', 'i', 'e', 's', 'r', 'e', 'v', 'e', 'r', '_', 't', 's', 'i', 'l'].reverse)=some Manifest.sig_list_reverseiterator:=by kernel_rfl
theorem a3A:Slot "list_reverseiterator" "__next__" "list_reverseiterator.__next__":=
 .of (owner:="list_reverseiterator") (n:="__next__") (by rw[typeLookup_type,builtinLookup_eq_fast];kernel_rfl) (by decide +kernel) (by decide +kernel) (by decide +kernel)
  (by first | exact .inl (by decide +kernel) | exact .inr (by decide +kernel)) (by rw[isSubtype_type];kernel_rfl)
theorem b0B:Slot "list_reverseiterator" "__iter__" "list_reverseiterator.__iter__":=
 .of (owner:="list_reverseiterator") (n:="__iter__") (by rw[typeLookup_type,builtinLookup_eq_fast];kernel_rfl) (by decide +kernel) (by decide +kernel) (by decide +kernel)
  (by first | exact .inl (by decide +kernel) | exact .inr (by decide +kernel)) (by rw[isSubtype_type];kernel_rfl)
theorem a4k:entryFor table "list_reverseiterator.__next__"=some Builtin.«list_reverseiterator.__next__»:=entryFor_of_tree (by kernel_rfl)
theorem a7B:entryFor table "list_reverseiterator.__iter__"=some Builtin.«dict_keyiterator.__iter__»:=
 entryFor_alias (id':="dict_keyiterator.__iter__") (by kernel_rfl) (by first | rfl | decide +kernel | (unfold String.splitOn;simp +decide [String.splitOnAux])) (by decide +kernel) (by kernel_rfl)
theorem a4b(a:Value):argsOk "list_reverseiterator.__next__" ⟨[a],[]⟩:=by
 unfold argsOk;rw[signature?_of (id:="list_reverseiterator.__next__") (n:=['_', '_', 't', 'x', 'e', 'n', '_', '_']) (o:=['r', 'o', 't', 'a', 'r', 'e', 't', 'i', 'e', 's', 'r', 'e', 'v', 'e', 'r', '_', 't', 's', 'i', 'l']) (by kernel_rfl) b2I];kernel_rfl
theorem a7p(a:Value):argsOk "list_reverseiterator.__iter__" ⟨[a],[]⟩:=by
 unfold argsOk;rw[signature?_of (id:="list_reverseiterator.__iter__") (n:=['_', '_', 'r', 'e', 't', 'i', '_', '_']) (o:=['r', 'o', 't', 'a', 'r', 'e', 't', 'i', 'e', 's', 'r', 'e', 'v', 'e', 'r', '_', 't', 's', 'i', 'l']) (by kernel_rfl) b2I];kernel_rfl
theorem b6y:isSubtype (.type "list_reverseiterator") (.type "reversed")=pure false:=by rw[isSubtype_type];kernel_rfl
noncomputable def a9n (t:Addr) (i:Int):Obj:={cls:= .type "list_reverseiterator",data:= .fields #[.ref t,rawInt i]}
noncomputable def a0N (h:Heap) (a t:Addr) (i:Int):Prop:=∃o,h.get? a=some o/\o.cls= .type "list_reverseiterator"/\o.data= .fields #[.ref t,rawInt i]
theorem a0N.move{h h':Heap}{a t:Addr}{i:Int}(x:a0N h a t i)(e:∀o,h.get? a=some o->h'.get? a=some o):a0N h' a t i:=by
 obtain⟨o,j,r⟩:=x
 exact⟨o,e o j,r⟩
section
variable{prog:Program}{w:World}{A:Around}{E:Value->Shared->Prop}{s:Shared}
theorem a0N.ty{a t:Addr}{i:Int}(x:a0N s.heap a t i):s.TypeIs (.ref a) "list_reverseiterator":=by
 obtain⟨o,q,j,_⟩:=x
 exact⟨o,q,j⟩
theorem b0Q{r:Addr}{its:Array Value}{Q:Value->Shared->Prop}(B:s.heap.IsList r its)
  (q:Q (.ref s.heap.objs.size) {s with heap:=s.heap.push (a9n r ((its.size:Int) - 1))}):wpAny (model prog w) A (call (.type "reversed") [.ref r]) Q E s:=by
 have ty:s.TypeIs (.ref r) "list":=B.typeIs
 refine callType_other (U:="list_reverseiterator") (Q₁:=fun obj j=>obj= .ref s.heap.objs.size/\j={s with heap:=s.heap.push (a9n r ((its.size:Int) - 1))}) (by decide +kernel) F.create_reversed ⟨_,_,F.mro_reversed⟩ F.made_reversed b6y (F.typeCall_reversed_1 _) ?_ ?_
 ·refine codeAny_of_tree ?_
  show wpAny _ A.in1.in1 (checkBuiltinCall "reversed.__new__" ⟨[.type "reversed",.ref r],[]⟩ >>= fun _=>again (.builtin "reversed.__new__" ⟨[.type "reversed",.ref r],[]⟩)) _ _ s
  refine AA (BI (F.newCall_reversed_1 _) (AB ⟨plainId_quiet F.plain_reversed_new _,codeAny_builtin F.entry_reversed_new ?_⟩))
  rw[Around.under_plainId F.plain_reversed_new _]
  unfold Builtin.«reversed.__new__»
  refine AA (BI (newClass_reversed _) ?_)
  try dsimp only
  refine AA (BI (a:=()) (by first | rfl | kernel_rfl) ?_)
  refine AA (BI (a:=()) (by first | rfl | kernel_rfl) ?_)
  try dsimp only
  refine AA (wpAny_specialOf ty F.slot_list_reversed.lookup ?_)
  try dsimp only
  refine AA (BI (F.slot_list_reversed.bind _) ?_)
  try dsimp only
  rw[if_neg (show¬((Value.builtin "list.__reversed__"==Value.none)=true)from AH)]
  refine AA (wpAny_rule ?_)
  refine AA (m:=runValue (.call (.builtin "list.__reversed__") ⟨[.ref r],[]⟩)) (show wpAny _ _ (call (.builtin "list.__reversed__") [.ref r]) _ _ _ from wpAny_call_entry F.slot_list_reversed ty F.entry_list_reversed ?_ (F.args_list_reversed_1 _))
  unfold Builtin.«list.__reversed__»
  refine AA (BI (a:=Value.ref r) rfl ?_)
  obtain⟨o,D,G,n,hd⟩:=id B
  refine AA (wpAny_listItems D hd ?_)
  refine AA (wpAny_newObj_type (AB ⟨_,rfl,?_⟩))
  exact AB ⟨rfl,rfl⟩
 ·rintro obj j ⟨rfl,rfl⟩
  exact⟨⟨_,AJ _ rfl,rfl⟩,q⟩
theorem a4s{it t:Addr}{i:Nat}{its:Array Value}{x:Value}{Q:Option Value->Shared->Prop}(hit:a0N s.heap it t (i:Int))(ht:s.heap.IsList t its)(hx:its[i]?=some x)
  (q:∀h' tk,a0N h' it t ((i:Int) - 1)->Heap.SameBut it s.heap h'->Q (some x) {s with heap:=h',toks:=tk}):wpAny (model prog w) A (pyNext (.ref it)) Q E s:=by
 obtain⟨o,j,F,hd⟩:=id hit
 obtain⟨O,B,G,J,D⟩:=id ht
 unfold pyNext
 refine AA (wpAny_attempt (wpAny_callSpecial?_slot (name:=Str.ofString "__next__") hit.ty a3A (wpAny_call_entry a3A hit.ty a4k ?_ (a4b _))))
 unfold Builtin.«list_reverseiterator.__next__»
 refine AA (BI (a:=(Value.ref it,[])) rfl ?_)
 try dsimp only
 refine AA (wpAny_field j hd (x:=rawInt (i:Int)) rfl ?_)
 show wpAny _ _ (if(i:Int) < 0 then _ else _) _ _ s
 rw[if_neg (by omega)]
 refine AA (wpAny_field j hd (x:= .ref t) rfl ?_)
 refine AA (wpAny_seqItems B D ?_)
 try dsimp only
 rw[Int.toNat_natCast,hx]
 try dsimp only
 refine AA (wpAny_setField j hd (by simp) ?_)
 refine AB ⟨x,rfl,AB (q _ _ ?_ (Heap.SameBut.update ..))⟩
 exact⟨_,BL _ j (Obj.isFreed_of_fields (Obj.data_mapFields hd _)),(Obj.cls_mapFields ..).trans F,by
  rw[Obj.data_mapFields hd]
  simp⟩
theorem a5v{it t:Addr}{Q:Option Value->Shared->Prop}(j:A.handled=none)(hit:a0N s.heap it t (-1))
  (q:∀h' tk,Heap.ExtBut it s.heap h'->Q none {s with heap:=h',toks:=tk}):wpAny (model prog w) A (pyNext (.ref it)) Q E s:=by
 obtain⟨o,B,D,hd⟩:=id hit
 unfold pyNext
 refine AA (wpAny_attempt (wpAny_callSpecial?_slot (name:=Str.ofString "__next__") hit.ty a3A (wpAny_call_entry a3A hit.ty a4k ?_ (a4b _))))
 unfold Builtin.«list_reverseiterator.__next__»
 refine AA (BI (a:=(Value.ref it,[])) rfl ?_)
 try dsimp only
 refine AA (wpAny_field B hd (x:=rawInt (-1)) rfl ?_)
 show wpAny _ _ (if(-1:Int) < 0 then _ else _) _ _ s
 rw[if_pos (by decide)]
 refine AA (wpAny_rule ?_)
 refine AA ?_
 show wpAny _ _ (newExc (Value.type "StopIteration") [] >>= _) _ _ _
 refine AA ?_
 simp only[newTuple,newExc]
 refine AA (wpAny_newObj_type (AA (m:=firstArgMember _ _) (BI (a:=Value.none) (by first | rfl | (simp only[firstArgMember];rfl)) (wpAny_newObj_type ?_ (by size_fits)))) (by size_fits))
 simp only[raiseNew]
 refine AA (wpAny_handled ?_)
 rw[show A.in1.handled=none from j]
 refine AA (AB (wpAny_throw ?_))
 exact AA (wpAny_isInstance (T:="StopIteration") (b:=true) ⟨_,AJ _ rfl,rfl⟩ isSubtype_stop (AB (q _ _ (((Heap.SameBut.refl _ _).extBut.push _).push _))))
theorem a1K{it t:Addr}{i:Int}{Q:Value->Shared->Prop}(hit:a0N s.heap it t i)(h:Q (.ref it) s):wpAny (model prog w) A (pyIter (.ref it)) Q E s:=by
 refine wpAny_pyIter_slot hit.ty b0B (wpAny_call_entry b0B hit.ty a7B ?_ (a7p _))
 show wpAny _ _ (ret (.ref it)) _ _ s
 exact AB ⟨_,rfl,"list_reverseiterator",_,hit.ty,a3A.lookup,h⟩
end
end RL
namespace L2
open PySem PySem.Spec PyProof.Rows PySem.W RL
end L2
namespace RL
open PySem PySem.Spec PyProof.Rows
theorem b4u:Slot "list_reverseiterator" "__length_hint__" "list_reverseiterator.__length_hint__":=
 .of (owner:="list_reverseiterator") (n:="__length_hint__") (by rw[typeLookup_type,builtinLookup_eq_fast];kernel_rfl) (by decide +kernel) (by decide +kernel) (by decide +kernel)
  (by first | exact .inl (by decide +kernel) | exact .inr (by decide +kernel)) (by rw[isSubtype_type];kernel_rfl)
theorem a9s:typeLookup (.type "list_reverseiterator") "__len__"=pure none:=by rw[typeLookup_type,builtinLookup_eq_fast];kernel_rfl
theorem b7l:isSubtype (.type "list_reverseiterator") (.type "list_reverseiterator")=pure true:=by rw[isSubtype_type];kernel_rfl
section
variable{prog:Program}{w:World}{A:Around}{E:Value->Shared->Prop}{s:Shared}
theorem a9y(J:A.handled=none)(I t:Addr)(F:t≠I)(its:Array Value)(hz:its.size<=sizeLine):
  Walks prog w A I [I,t] [I] its.size (fun i v=>its[its.size - 1 - i]?=some v) (fun i h=>i<=its.size/\a0N h I t ((its.size:Int) - 1 - (i:Int))/\h.IsList t its)where
 sub:=fun b D=>by
  have e:b=I:=by simpa using D
  simp[e]
 frame:=fun _ _ _ st k=>⟨st.1,st.2.1.move fun o e=>k I (by simp) o e,Heap.IsList.at st.2.2 fun o e=>k t (by simp) o e⟩
 item:=fun i s Q E hi st q=>by
  have G:(its.size:Int) - 1 - (i:Int)=((its.size - 1 - i:Nat):Int):=by omega
  have hit:=st.2.1
  rw[G]at hit
  have hx:its[its.size - 1 - i]?=some (its[its.size - 1 - i]'(by omega)):=Array.getElem?_eq_getElem (by omega)
  refine a4s hit st.2.2 hx fun h' tk j same=>?_
  have U:((its.size - 1 - i:Nat):Int) - 1=(its.size:Int) - 1 - ((i+1:Nat):Int):=by omega
  rw[U]at j
  exact q _ h' tk hx ⟨hi,j,Heap.IsList.at st.2.2 fun o B=>(same.2 t F).trans B⟩ fun b o D B=>same.extBut b o (fun z=>D (by simp[z])) B
 done:=fun s Q E st q=>by
  have G:(its.size:Int) - 1 - (its.size:Int)= -1:=by omega
  have hit:=st.2.1
  rw[G]at hit
  exact a5v J hit fun h' tk O=>q h' tk fun b o D B=>O b o (fun z=>D (by simp[z])) B
 self:=fun _ _ _ _ st q=>a1K st.2.1 q
theorem b1w{I t:Addr}{its:Array Value}{Q:Bool->Shared->Prop}(D:a0N s.heap I t ((its.size:Int) - 1))(ht:s.heap.IsList t its)(hz:its.size<=sizeLine)(q:∀b tk,Q b {s with toks:=tk}):wpAny (model prog w) A (Builtin.List.listLengthHint (.ref I)) Q E s:=by
 unfold Builtin.List.listLengthHint
 refine AA (wpAny_specialOf D.ty a9s ?_)
 try dsimp only
 refine wpAny_ite_split (fun h=>absurd h (by decide)) (fun _=>?_)
 refine wpAny_ite_split (fun h=>absurd h (by decide)) (fun _=>?_)
 refine AA (wpAny_specialOf D.ty b4u.lookup ?_)
 generalize j:("list_reverseiterator.__length_hint__":String)=B
 wp_delta
 rw[show splitId B=some ("list_reverseiterator","__length_hint__")from by subst j;decide +kernel]
 subst j
 refine AA (wpAny_isInstance (T:="list_reverseiterator") (b:=true) D.ty b7l ?_)
 refine wpAny_ite_split (fun h=>absurd h (by decide)) (fun _=>?_)
 refine wpAny_ite_split (fun _=>?_) (fun h=>absurd (by decide +kernel) h)
 refine wpAny_ite_split (fun h=>absurd h (by decide +kernel)) (fun _=>?_)
 exact AB (q false s.toks)
end
section
variable{prog:Program}{w:World}{A:Around}{E:Value->Shared->Prop}{s:Shared}
noncomputable def StL (I t:Addr) (its:Array Value) (i:Nat) (h:Heap):Prop:=i<=its.size/\a0N h I t ((its.size:Int) - 1 - (i:Int))/\h.IsList t its
noncomputable def PRl (its:Array Value) (i:Nat) (v:Value):Prop:=its[its.size - 1 - i]?=some v
theorem StL.move{I t:Addr}{its:Array Value}{i:Nat}{h h':Heap}(x:StL I t its i h)(k:∀b o,b=I\/b=t->h.get? b=some o->h'.get? b=some o):StL I t its i h':=
 ⟨x.1,x.2.1.move fun o e=>k I o (.inl rfl) e,Heap.IsList.at x.2.2 fun o e=>k t o (.inr rfl) e⟩
theorem a8L{R:Result->Shared->Prop}(hh:A.handled=none){I t S:Addr}{its:Array Value}{res:Value}{D:Nat}(Z:t≠I)(G:S≠I)(O:S≠t)(hz:its.size<=sizeLine)(st:StL I t its 0 s.heap)
  (hS:s.heap.get? S=some {cls:= .type "list",data:= .seq #[] D})
  (q:∀h' tk B c,(∀b o,b≠S->b≠I->s.heap.get? b=some o->h'.get? b=some o)->h'.get? S=some {cls:= .type "list",dict:=none,data:= .seq B c,slots:= #[]}->ItemsOf (PRl its) B its.size->R (.ok (.ret res)) {s with heap:=h',toks:=tk}):
  wpAny (model prog w) A.in1 (Builtin.List.listExtendWith (.ref S) (.ref I) res)
   (fun fin s'=>match fin with | .done f=>R (.ok f) s' | .again c'=>c'.quiet=true/\codeAny (model prog w) A c' R s') (fun e s'=>R (.error e) s') s:=by
 have W:=(a9y (prog:=prog) (w:=w) (A:=A.in1) hh I t Z its hz).toS
 have ha:S∉ [I,t]:=by simp[G,O]
 have ty:s.TypeIs (.ref I) "list_reverseiterator":=st.2.1.ty
 have rest:∀(h:Heap)(c tk:Nat),StL I t its 0 h->(∀b o,b≠S->s.heap.get? b=some o->h.get? b=some o)->h.get? S=some {cls:= .type "list",data:= .seq #[] c}->codeAny (model prog w) A (.builtin "list.extend.loop" ⟨[.ref S,.ref I,res],[]⟩) R {s with heap:=h,toks:=tk}:=fun h c tk he keep hc=>by
  refine codeAny_extend_loopS W hz S ha res its.size 0 _ #[] c rfl (Nat.zero_le _) he hc (ItemsOf.nil _) fun s' B c' hm j Y=>?_
  rw[Moved.eq_with hm]
  refine q s'.heap s'.toks B c' (fun b o J hf e=>hm.heap b o (fun z=>?_) (keep b o J e)) j Y
  rcases List.mem_cons.mp z with z | z
  ·exact J z
  ·exact hf (AC.mp z)
 unfold Builtin.List.listExtendWith
 refine AA (wpAny_typeOf ty ?_)
 have n1:Builtin.List.listSameRef (.ref S) (.ref I)=false:=by simp[Builtin.List.listSameRef,G]
 have n2:(Value.type "list_reverseiterator"==Value.type "list")=false:=by decide
 have n3:(Value.type "list_reverseiterator"==Value.type "tuple")=false:=by decide
 simp only[n1,n2,n3,Bool.or_false,Bool.false_eq_true,if_false]
 refine AA (a1K st.2.1 ?_)
 refine AA (wpAny_holding (b1w (its:=its) (by have:=st.2.1;simpa using this) st.2.2 hz fun b tk=>?_))
 refine wpAny_ite_split (fun _=>?_) (fun _=>AB ⟨plainId_quiet PySem.F.plain_extend_loop _,rest _ D _ st (fun b o _ e=>e) hS⟩)
 refine AA (wpAny_rule (AA ?_))
 show wpAny _ _ (updateSeq S (·.push .none) >>= fun _=>updateSeq S (·.pop)) _ _ _
 refine AA (wpAny_updateSeq (s:={s with toks:=tk}) hS rfl ?_)
 have j:=BL (Obj.mapSeq (·.push Value.none)) hS rfl
 refine wpAny_updateSeq (hz:=by seq_fits) j rfl ?_
 have hg:=BL (Obj.mapSeq (·.pop)) j rfl
 have U:∀b o,b≠S->s.heap.get? b=some o->((s.heap.update S (Obj.mapSeq (·.push Value.none))).update S (Obj.mapSeq (·.pop))).get? b=some o:=fun b o J e=>
  (Heap.get?_update_other _ _ (Ne.symm J)).trans ((Heap.get?_update_other _ _ (Ne.symm J)).trans e)
 refine AB ⟨plainId_quiet PySem.F.plain_extend_loop _,rest _ _ _ (st.move fun b o J e=>U b o (fun z=>?_) e) U hg⟩
 rcases J with y | y
 ·exact G (z.symm.trans y)
 ·exact O (z.symm.trans y)
theorem b1q{R:Result->Shared->Prop}(hh:A.handled=none){I t S:Addr}{its:Array Value}(O:t≠I)(F:S≠I)(D:S≠t)(hz:its.size<=sizeLine)(st:StL I t its 0 s.heap)
  (Z:s.heap.get? S=some {cls:= .type "list",data:= .seq #[]})
  (q:∀h' tk j c,(∀b o,b≠S->b≠I->s.heap.get? b=some o->h'.get? b=some o)->h'.get? S=some {cls:= .type "list",dict:=none,data:= .seq j c,slots:= #[]}->ItemsOf (PRl its) j its.size->R (.ok (.ret .none)) {s with heap:=h',toks:=tk}):
  wpAny (model prog w) A.in1 (Builtin.«list.__init__» ⟨[.ref S,.ref I],[]⟩)
   (fun fin s'=>match fin with | .done f=>R (.ok f) s' | .again c'=>c'.quiet=true/\codeAny (model prog w) A c' R s') (fun e s'=>R (.error e) s') s:=by
 show wpAny _ A.in1 (Builtin.List.listItems (.ref S) >>= fun old=>Builtin.List.listUpdate (.ref S) (fun _=>#[]) >>= fun _=>letGo old.toList.reverse >>= fun _=>Builtin.List.listExtendWith (.ref S) (.ref I) .none) _ _ s
 unfold Builtin.List.listItems
 refine AA (AA (wpAny_seqItems Z rfl (AB ?_)))
 show wpAny _ A.in1 (updateSeq S (fun _=>#[]) >>= fun _=>letGo (#[]:Array Value).toList.reverse >>= fun _=>Builtin.List.listExtendWith (.ref S) (.ref I) .none) _ _ s
 refine AA (wpAny_updateSeq Z rfl (AA (wpAny_letGo ?_)))
 have G:∀b o,b≠S->s.heap.get? b=some o->(s.heap.update S (Obj.mapSeq (fun _=>(#[]:Array Value)))).get? b=some o:=fun b o B e=>(Heap.get?_update_other _ _ (Ne.symm B)).trans e
 refine a8L hh O F D hz (st.move fun b o B e=>G b o (fun z=>?_) e) (BL (Obj.mapSeq (fun _=>(#[]:Array Value))) Z rfl) fun h' tk j c keep U J=>q h' tk j c (fun b o B Y e=>keep b o B Y (G b o B e)) U J
 rcases B with y | y
 ·exact F (z.symm.trans y)
 ·exact D (z.symm.trans y)
theorem b1k{I t:Addr}{its:Array Value}{Q:Value->Shared->Prop}(Z:A.handled=none)(J:t≠I)(hz:its.size<=sizeLine)(st:StL I t its 0 s.heap)
  (q:∀h' tk j c,(∀b o,b≠I->s.heap.get? b=some o->h'.get? b=some o)->h'.get? s.heap.objs.size=some {cls:= .type "list",dict:=none,data:= .seq j c,slots:= #[]}->ItemsOf (PRl its) j its.size->Q (.ref s.heap.objs.size) {s with heap:=h',toks:=tk}):
  wpAny (model prog w) A (call (.type "list") [.ref I]) Q E s:=by
 have hI:I < s.heap.objs.size:=by
  obtain⟨o,e,_⟩:=st.2.1
  exact AU e
 have ht:t < s.heap.objs.size:=by
  obtain⟨o,e,_⟩:=st.2.2
  exact AU e
 refine callType_codes (Q₁:=fun obj B=>obj= .ref s.heap.objs.size/\B={s with heap:=s.heap.push {cls:= .type "list",data:= .seq #[]}}) F.called_list (F.typeCall_list_1 _) F.entry_list_init (code_list_new _ ⟨rfl,rfl⟩) fun obj B G=>?_
 obtain⟨rfl,rfl⟩:=G
 have U:(s.heap.push {cls:= .type "list",data:= .seq #[]}).get? s.heap.objs.size=some {cls:= .type "list",data:= .seq #[]}:=AJ _ rfl
 refine⟨⟨_,U,rfl⟩,F.args_list_init_2 _ _,b1q (A:=A.in1) Z J (Nat.ne_of_gt hI) (Nat.ne_of_gt ht) hz (st.move fun b o _ e=>AF _ e) U fun h' tk j c keep O D=>?_⟩
 exact⟨rfl,q h' tk j c (fun b o Y e=>keep b o (BF (AU e)) Y (AF _ e)) O D⟩
end
end RL
namespace L2
open PySem PySem.Spec PyProof.Rows PySem.W RL
theorem b1p{xs:List V}{its:Array Value}{q:Array Value}(hv:W6 xs its.toList)(B:ItemsOf (PRl its) q its.size):W6 xs.reverse q.toList:=by
 have hl:xs.length=its.size:=by rw[hv.length,Array.length_toList]
 refine a7k (by rw[Array.length_toList,B.1,BO,hl]) fun j u e=>?_
 have F:j < its.size:=by
  rw[<-B.1,<-Array.length_toList]
  exact(List.getElem?_eq_some_iff.mp e).1
 have D:its[its.size - 1 - j]?=some u:=B.2 j u (by rw[<-BR];exact e)
 obtain⟨x,h1,h2⟩:=a7Q (i:=its.size - 1 - j) hv (by rw[BR];exact D)
 refine⟨x,?_,h2⟩
 rw[List.getElem?_reverse (by omega),hl]
 exact h1
section
variable{X:Cx}{e:Expr}{te:TE}{pos pos2 p p2:Pos}
noncomputable def b6H (K:W.Frag) (te:TE):TE:=fun σ H Q=>te σ H fun x H1=>∃a xs,x= .ref a/\SqL K H1 a xs/\∀l,H1 l=none->Q (.ref l) (upd H1 l (.lst xs.reverse))
theorem b4X(O:PE X e te)(U:Gl X "reversed")(G:X.mg "reversed"=none)(F:starEach [e] X.env=[(false,eval e X.env)]:=by rfl)
  {pins:List (Addr×Obj)}{s:Shared}{σ:St}{H:Hp}{R:VK}{Q:Value->Shared->Prop}(I:Inv X pins σ H s)(h:te σ H R)
  (k:∀x H1 q a xs its tk,Inv X pins σ H1 q->R x H1->x= .ref a->W6 xs its->q.heap.IsList a its.toArray->its.toArray.size<=sizeLine->SqL X.K H1 a xs->Q (.ref q.heap.objs.size) {q with heap:=q.heap.push (a9n a ((its.toArray.size:Int) - 1)),toks:=tk})
  (J:∀x H1,R x H1->∃a xs,x= .ref a/\SqL X.K H1 a xs):
  wpAny (model X.prog X.w) X.A (eval (.Call (.Name "reversed" p2) [e] [] pos2) X.env) Q X.xe s:=by
 refine wpAny_Call_Name_kw (a1i I U G boot_reversed ?_ (by decide) (by decide))
 refine PyProof.Rows.callWith_type1 ?_ F (by rfl)
 rw[F]
 refine Calls.spliced_cons (thn (O pins s σ H _ I h) fun u q⟨x,H1,I1,r1,D⟩=>?_)
 obtain⟨a,xs,rfl,ht⟩:=J x H1 D
 cases r1
 obtain⟨its,hv,j,Y⟩:=I1.list ht
 have B:its.toArray.size<=sizeLine:=by have:=hv.length;simp;omega
 refine Calls.spliced_nil ?_
 exact b0Q j.isList (k _ H1 q a xs its q.toks I1 D rfl hv j.isList B ht)
theorem a8E(hc:X.calm=true)(he:PE X e te)(gL:Gl X "list")(mL:X.mg "list"=none)(gR:Gl X "reversed")(mR:X.mg "reversed"=none)(hs:starEach [e] X.env=[(false,eval e X.env)]:=by rfl)(G:starEach [.Call (.Name "reversed" p2) [e] [] pos2] X.env=[(false,eval (.Call (.Name "reversed" p2) [e] [] pos2) X.env)]:=by rfl):
  PE X (.Call (.Name "list" p) [.Call (.Name "reversed" p2) [e] [] pos2] [] pos) (b6H X.K te):=by
 intro pins s σ H Q I h
 refine wpAny_Call_Name_kw (a1i I gL mL boot_list ?_ (by decide) (by decide))
 refine PyProof.Rows.callWith_type1 ?_ G (by rfl)
 rw[G]
 refine Calls.spliced_cons (b4X he gR mR hs I h (fun x H1 D a xs j tk I1 q1 ex hv B hz ht=>?_) fun x H1 q=>by obtain⟨a,xs,U,e2,_⟩:=q;exact⟨a,xs,U,e2⟩)
 obtain⟨a',ys,U,e2,q⟩:=q1
 have ea:a=a':=V.ref.inj (ex.symm.trans U)
 subst ea
 have O:=I1.list_inj ht e2
 subst O
 refine Calls.spliced_nil ?_
 have J:a≠D.heap.objs.size:=BF (by obtain⟨o,ho,_⟩:=B;exact AU ho)
 have st:StL D.heap.objs.size a j.toArray 0 (D.heap.push (a9n a ((j.toArray.size:Int) - 1))):=⟨Nat.zero_le _,⟨_,AJ _ rfl,rfl,by simp[a9n]⟩,B.push _⟩
 refine b1k (s:={D with heap:=D.heap.push (a9n a ((j.toArray.size:Int) - 1)),toks:=tk}) (I1.ok.hd hc) J hz st fun h' Y ha c keep hS F=>?_
 have hk:∀b u,D.heap.get? b=some u->h'.get? b=some u:=fun b u e=>keep b u (BF (AU e)) (AF _ e)
 have Z:W6 xs j.toArray.toList:=by simpa using hv
 have hr:=b1p Z F
 have hp:D.heap.objs.size<=(D.heap.push (a9n a ((j.toArray.size:Int) - 1))).objs.size:=by rw[Heap.size_push];omega
 refine⟨.ref _,_,I1.laid (t':=Y) hk hp (show O5 X.prog X.w _ h' _ (.lst xs.reverse)from⟨?_,ha.toList,c,hr,by simpa using hS⟩),rfl,q _ (I1.hok.fresh hp)⟩
 rw[hr.length,Array.length_toList,F.1]
 exact hz
end
end L2
namespace L2
open PySem PySem.Spec PyProof.Rows
noncomputable def EqM (K:W.Frag) (H:Hp):Nat->V->V->Prop
 | 0,x,y=>x=y/\a1L x=true
 | n+1,x,y=>(x=y/\a1L x=true)\/∃a b xs ys,x= .ref a/\y= .ref b/\((SqT K H a xs/\SqT K H b ys)\/(SqL K H a xs/\SqL K H b ys))/\Paired (EqM K H n) xs ys
theorem a4t{X:Cx}{s:Shared}{H:Hp}{A:Around}{n:Nat}{xs ys:List V}{B q:List Value}(O:Paired (EqM X.K H n) xs ys)(G:W6 xs B)(F:W6 ys q)
  (Y:∀x y v u,EqM X.K H n x y->W9 x v->W9 y u->SeqAt.EqAt A s v u true):∀j(D:j < B.toArray.size)(J:j < q.toArray.size),SeqAt.EqAt A s B.toArray[j] q.toArray[j] true:=by
 intro j D J
 have Z:=G.length
 have m2:=F.length
 have k1:j < xs.length:=by simp at D;omega
 obtain⟨y,U,hd⟩:=Paired.get? O (AQ k1)
 exact Y _ _ _ _ hd (b3p G (AQ k1) D) (b3p F U J)
theorem a9g{X:Cx}{pins:List (Addr×Obj)}{s:Shared}{σ:St}{H:Hp}(I:Inv X pins σ H s):∀(n:Nat)(A:Around),A.units+n < cLine->∀x y v u,EqM X.K H n x y->W9 x v->W9 y u->SeqAt.EqAt A s v u true
 | 0,A,hu,x,y,v,u,h,J,O=>by
  obtain⟨rfl,f⟩:=h
  have:=a9Q (A:=A) (s:=s) J O f f
  rw[a8a f]at this
  exact this
 | n+1,A,hu,x,y,v,u,h,J,O=>by
  rcases h with⟨rfl,f⟩ | ⟨a,b,xs,ys,rfl,rfl,Z,U⟩
  ·have:=a9Q (A:=A) (s:=s) J O f f
   rw[a8a f]at this
   exact this
  ·cases J
   cases O
   by_cases e:a=b
   ·subst e
    exact SeqAt.EqAt.same _
   ·have hl:=AE U
    rcases Z with⟨ha,Y⟩ | ⟨ha,Y⟩
    ·obtain⟨D,G,B,_⟩:=I.tuple ha
     obtain⟨j,F,q,_⟩:=I.tuple Y
     have m1:=G.length
     have m2:=F.length
     have R:=SeqAt.RcAt.tuples (A:=A) (e:=fun _=>true) (show s.heap.IsTuple a D.toArray from B) (show s.heap.IsTuple b j.toArray from q) (by omega) (a4t (X:=X) U G F (a9g I n A.in1 (by show A.units+1+n < cLine;omega)))
     have e2:((List.range (min D.toArray.size j.toArray.size)).all (fun _=>true) && D.toArray.size==j.toArray.size)=true:=by
      have:D.toArray.size=j.toArray.size:=by simp;omega
      simp[this]
     rw[e2]at R
     exact SeqAt.EqAt.of_refs e R
    ·obtain⟨D,G,B,_⟩:=I.list ha
     obtain⟨j,F,q,_⟩:=I.list Y
     have m1:=G.length
     have m2:=F.length
     have R:=SeqAt.RcAt.lists (A:=A) (e:=fun _=>true) B.isList q.isList (by simp;omega) (by omega) (a4t (X:=X) U G F (a9g I n A.in1 (by show A.units+1+n < cLine;omega)))
     have e2:((List.range D.toArray.size).all (fun _=>true))=true:=by simp
     rw[e2]at R
     exact SeqAt.EqAt.of_refs e R
theorem b5W{X:Cx}(n:Nat)(J:X.A.units+1+n < cLine):OpR X (compareOp .NotEq) (fun x y H Q=>∃a b xs ys,x= .ref a/\y= .ref b/\SqT X.K H a xs/\SqT X.K H b ys/\Paired (EqM X.K H n) xs ys/\Q (.bl false) H):=by
 intro pins s σ H x y v u Q I O ry h
 obtain⟨a,b,xs,ys,rfl,rfl,Y,G,D,q⟩:=h
 cases O
 cases ry
 obtain⟨B,r1,F,_⟩:=I.tuple Y
 obtain⟨j,r2,p2,_⟩:=I.tuple G
 have U:=r1.length
 have Z:=r2.length
 have hl:=AE D
 refine SeqAt.RcNeAt.tuples (e:=fun _=>true) (show s.heap.IsTuple a B.toArray from F) (show s.heap.IsTuple b j.toArray from p2) (by omega) (a4t (X:=X) D r1 r2 (a9g I n X.A.in1 J)) X.prog X.w _ _ ?_
 have e:(!((List.range (min B.toArray.size j.toArray.size)).all (fun _=>true) && B.toArray.size==j.toArray.size))=false:=by
  have:B.toArray.size=j.toArray.size:=by simp;omega
  simp[this]
 rw[e]
 exact⟨.bl false,H,I,rfl,q⟩
end L2
namespace L2
open PySem PySem.Spec PyProof PyProof.Rows
section
variable{prog:Program}{w:World}{A:Around}{E:Value->Shared->Prop}{s:Shared}
theorem a6L{it t:Addr}{j:Array Value}(G:t≠it):∀(n i:Nat)(s:Shared)(Q:List Value->Shared->Prop),s.heap.IsListIter it t i->s.heap.IsList t j->i+n<=j.size->
  (∀h',h'.IsListIter it t (i+n)->Heap.SameBut it s.heap h'->Q ((j.toList.drop i).take n) {s with heap:=h'})->wpAny (model prog w) A (draw (.ref it) n) Q E s
 | 0,i,s,Q,hit,_,_,U=>by
  show wpAny _ _ (pure []) Q E s
  exact AB (by simpa using U s.heap hit (Heap.SameBut.refl ..))
 | n+1,i,s,Q,hit,ht,Z,U=>by
  have O:i < j.size:=by omega
  show wpAny _ _ (pyNext (.ref it) >>= _) Q E s
  refine AA (wpAny_pyNext_list_item hit ht (x:=j[i]) (by simp[O]) fun Y B q=>?_)
  refine AA (wpAny_holding (a6L G n (i+1) _ _ B (ht.extBut q.extBut G) (by omega) fun J D F=>AB ?_))
  have hd:j.toList.drop i=j[i]::j.toList.drop (i+1):=by simp[List.drop_eq_getElem_cons,O]
  have:=U J (by rw[show i+(n+1)=i+1+n by omega];exact D) (q.trans F)
  rw[hd,List.take_succ_cons]at this
  exact this
theorem a4D{t:Addr}{j:Array Value}{Q:List Value->Shared->Prop}(hh:A.handled=none)(ht:s.heap.IsList t j)
  (Z:∀h',Heap.ExtBut s.heap.objs.size s.heap h'->Q j.toList {s with heap:=h'}):wpAny (model prog w) A (unpackItems (.ref t) j.size none) Q E s:=by
 have U:t≠s.heap.objs.size:=by obtain⟨o,ho,_⟩:=ht;exact BF (AU ho)
 unfold unpackItems
 refine AA ?_
 ·unfold notIterableAtAll
  refine AA (wpAny_specialOf ht.typeIs slot_list_iter.lookup ?_)
  refine AB ?_
  simp only[Bool.false_eq_true,if_false]
  refine AA (wpAny_holding (wpAny_pyIter_list ht ?_))
  refine AA (wpAny_holding (a6L U j.size 0 _ _ ⟨_,AJ _ rfl,rfl,rfl⟩ (ht.push _) (by omega) fun J B q=>?_))
  have O:List.take j.size (List.drop 0 j.toList)=j.toList:=by
   rw[List.drop_zero];exact List.take_of_length_le (by simp)
  rw[O]
  rw[if_neg (by simp)]
  have D:J.IsList t j:=(ht.push _).extBut q.extBut U
  refine AA (wpAny_holding (wpAny_pyNext_list_end hh B D (by simp) fun G F=>?_))
  simp only[Option.isSome_none,Bool.false_eq_true,if_false]
  refine AB (Z G fun b o Y e=>F b o Y (q.extBut b o Y (AF _ e)))
theorem a8e{t:Addr}{q:Array Value}{j:List (Bool×(Value->Sem Unit))}{Q:Unit->Shared->Prop}(F:A.handled=none)(ht:s.heap.IsList t q)
  (D:j.length=q.size)(B:j.findIdx? (·.1)=none)
  (h:∀h',Heap.ExtBut s.heap.objs.size s.heap h'->wpAny (model prog w) A (assignInOrder (j.map (·.2)) q.toList) Q E {s with heap:=h'}):
  wpAny (model prog w) A (unpack (.ref t) j) Q E s:=by
 unfold unpack
 rw[D,B]
 exact AA (wpAny_holding (a4D F ht h))
theorem a3I{env:Env}{elts:List Expr}{x1}{pos:Pos}{t:Addr}{j:Array Value}{Q:Unit->Shared->Prop}(D:A.handled=none)(ht:s.heap.IsList t j)
  (B:(assignEach elts env).length=j.size)(q:(assignEach elts env).findIdx? (·.1)=none)
  (h:∀h',Heap.ExtBut s.heap.objs.size s.heap h'->wpAny (model prog w) A (assignInOrder ((assignEach elts env).map (·.2)) j.toList) Q E {s with heap:=h'}):
  wpAny (model prog w) A (assign (.Tuple elts x1 pos) env (.ref t)) Q E s:=by
 rw[assign_Tuple]
 exact AA (wpAny_standAt (a8e D ht B q h))
end
variable{X:Cx}{pos:Pos}
noncomputable def b7E (K:W.Frag) (n:Nat) (t:TGs):TG:=fun v σ H Q=>∃a xs,v= .ref a/\SqL K H a xs/\xs.length=n/\t xs σ H Q
theorem b4G{es:List Expr}{k:Nat}{t:TGs}{n:Nat}(B:X.calm=true)(h:PGs X es t)
  (J:(assignEach es X.env).length=n:=by rfl)(j:(assignEach es X.env).findIdx? (·.1)=none:=by rfl):PG X (.Tuple es k pos) (b7E X.K n t):=by
 intro pins s σ H v u Q I r hw
 obtain⟨a,xs,D,G,hl,hw⟩:=hw
 subst D
 cases r
 obtain⟨F,q,ht,O⟩:=I.list G
 refine a3I (I.ok.hd B) ht.isList (by simp[J,<-hl,q.length]) j fun h' hx=>?_
 have I1:Inv X pins σ H {s with heap:=h'}:=I.kept (t':=s.toks) fun b o e=>hx b o (BF (AU e)) e
 exact h pins _ σ H xs _ Q I1 (by simpa using q) hw
end L2
namespace K45
open PySem L2 PyProof.Rows
noncomputable def top (i:Nat):Stmt:=zP.main.body.getD i (.Pass ⟨0,0,0,0⟩)
noncomputable abbrev a1C:Stmt:=top 5
theorem D7:U3 ["parts","found","part","rows","number","row"] ["parts"] (J4 a1C):=⟨rfl,rfl,rfl,by decide +kernel,rfl,by decide +kernel,by decide +kernel⟩
noncomputable abbrev a2b:Stmt:=top 6
theorem M6:U3 ["parts","owns","part","number","row"] ["parts"] (J4 a2b):=⟨rfl,rfl,rfl,by decide +kernel,rfl,by decide +kernel,by decide +kernel⟩
noncomputable abbrev a7z:Stmt:=top 7
theorem a0M:U3 ["parts","owns","onward","part","number","row","given","own"] ["parts"] (J4 a7z):=⟨rfl,rfl,rfl,by decide +kernel,rfl,by decide +kernel,by decide +kernel⟩
noncomputable abbrev a6g:Stmt:=top 8
theorem a0j:U3 ["parts","found","onward","start","way","here","name"] ["parts"] (J4 a6g):=⟨rfl,rfl,rfl,by decide +kernel,rfl,by decide +kernel,by decide +kernel⟩
noncomputable abbrev a9A:Stmt:=top 9
theorem a0D:U3 ["parts","found","part","number","row"] ["parts"] (J4 a9A):=⟨rfl,rfl,rfl,by decide +kernel,rfl,by decide +kernel,by decide +kernel⟩
noncomputable abbrev a5r:Stmt:=top 10
theorem b1B:U3 ["parts","part"] ["parts","part"] (J4 a5r):=⟨rfl,rfl,rfl,by decide +kernel,rfl,by decide +kernel,by decide +kernel⟩
noncomputable abbrev a1y:Stmt:=top 11
theorem a1d:U3 ["parts","part","kind","found","row"] ["parts","part","kind"] (J4 a1y):=⟨rfl,rfl,rfl,by decide +kernel,rfl,by decide +kernel,by decide +kernel⟩
noncomputable abbrev a7c:Stmt:=top 12
theorem a3F:U3 ["parts","root","begun","waiting","part"] ["parts","root"] (J4 a7c):=⟨rfl,rfl,rfl,by decide +kernel,rfl,by decide +kernel,by decide +kernel⟩
noncomputable abbrev a2s:Stmt:=top 14
theorem F0:U3 ["parts","owns","used","part","own","found","new"] ["parts"] (J4 a2s):=⟨rfl,rfl,rfl,by decide +kernel,rfl,by decide +kernel,by decide +kernel⟩
noncomputable abbrev a3n:Stmt:=top 15
theorem a2q:U3 ["own","used","number"] ["own","used"] (J4 a3n):=⟨rfl,rfl,rfl,by decide +kernel,rfl,by decide +kernel,by decide +kernel⟩
noncomputable abbrev a1f:Stmt:=top 16
theorem Z9:U3 ["parts","places","news","part","own","new","found","name","place"] ["parts"] (J4 a1f):=⟨rfl,rfl,rfl,by decide +kernel,rfl,by decide +kernel,by decide +kernel⟩
noncomputable abbrev a1E:Stmt:=top 17
theorem a2D:U3 ["part","row","news","kind"] ["part","row","news"] (J4 a1E):=⟨rfl,rfl,rfl,by decide +kernel,rfl,by decide +kernel,by decide +kernel⟩
noncomputable abbrev a0C:Stmt:=top 18
theorem a5w:U3 ["part","terms","news"] ["part","terms","news"] (J4 a0C):=⟨rfl,rfl,rfl,by decide +kernel,rfl,by decide +kernel,by decide +kernel⟩
noncomputable abbrev a0O:Stmt:=top 19
theorem a4E:U3 ["part","thing","news"] ["part","thing","news"] (J4 a0O):=⟨rfl,rfl,rfl,by decide +kernel,rfl,by decide +kernel,by decide +kernel⟩
noncomputable abbrev a1n:Stmt:=top 20
theorem a4Y:U3 ["part","when","news"] ["part","when","news"] (J4 a1n):=⟨rfl,rfl,rfl,by decide +kernel,rfl,by decide +kernel,by decide +kernel⟩
noncomputable abbrev a5C:Stmt:=top 22
theorem a3y:U3 ["parts","root","news","work","rows","origins"] ["parts","root"] (J4 a5C):=⟨rfl,rfl,rfl,by decide +kernel,rfl,by decide +kernel,by decide +kernel⟩
noncomputable abbrev a1B:Stmt:=top 23
theorem B6:U3 ["parts","root","rows","part","number","row"] ["parts","root"] (J4 a1B):=⟨rfl,rfl,rfl,by decide +kernel,rfl,by decide +kernel,by decide +kernel⟩
noncomputable abbrev a0Q:Stmt:=top 24
theorem O8:U3 ["parts","root","rows","begun","waiting","work","step","row"] ["parts","root"] (J4 a0Q):=⟨rfl,rfl,rfl,by decide +kernel,rfl,by decide +kernel,by decide +kernel⟩
noncomputable abbrev a0X:Stmt:=top 25
theorem a3h:U3 ["part","rows","steps"] ["part","rows"] (J4 a0X):=⟨rfl,rfl,rfl,by decide +kernel,rfl,by decide +kernel,by decide +kernel⟩
noncomputable abbrev a1x:Stmt:=top 27
theorem a5D:U3 ["_law_script","_law_k"] ["_law_script","_law_k"] (J4 a1x):=⟨rfl,rfl,rfl,by decide +kernel,rfl,by decide +kernel,by decide +kernel⟩
noncomputable abbrev a2c:Stmt:=top 28
theorem M9:U3 ["_law_cell","_law_k","_law_found","_law_number","_law_by"] ["_law_cell","_law_k"] (J4 a2c):=⟨rfl,rfl,rfl,by decide +kernel,rfl,by decide +kernel,by decide +kernel⟩
noncomputable abbrev a3w:Stmt:=top 29
theorem E4:U3 ["_law_base","_law_k","_law_letters","_law_size","_law_name_here","_law_j","_law_step"] ["_law_base","_law_k"] (J4 a3w):=⟨rfl,rfl,rfl,by decide +kernel,rfl,by decide +kernel,by decide +kernel⟩
noncomputable abbrev a3o:Stmt:=top 30
theorem a8s:U3 ["_law_script","_law_k"] ["_law_script","_law_k"] (J4 a3o):=⟨rfl,rfl,rfl,by decide +kernel,rfl,by decide +kernel,by decide +kernel⟩
noncomputable abbrev a2v:Stmt:=top 31
theorem M2:U3 ["_law_script","_law_first","_law_many","_law_house","_law_k"] ["_law_script"] (J4 a2v):=⟨rfl,rfl,rfl,by decide +kernel,rfl,by decide +kernel,by decide +kernel⟩
noncomputable abbrev a2z:Stmt:=top 32
theorem a7O:U3 ["_law_part","_law_pool_here","_law_k"] ["_law_part","_law_pool_here","_law_k"] (J4 a2z):=⟨rfl,rfl,rfl,by decide +kernel,rfl,by decide +kernel,by decide +kernel⟩
noncomputable abbrev a2L:Stmt:=top 33
theorem B8:U3 ["_law_house","_law_pools_here","_law_here","_law_other","_law_xs","_law_part","_law_given","_law_pairs_here","_law_t","_law_own"] ["_law_house","_law_pools_here","_law_here","_law_other","_law_xs"] (J4 a2L):=⟨rfl,rfl,rfl,by decide +kernel,rfl,by decide +kernel,by decide +kernel⟩
noncomputable abbrev a2w:Stmt:=top 34
theorem F1:U3 ["_law_house","_law_pools_here","_law_xs","_law_here","_law_part","_law_at","_law_kind","_law_other","_law_own","_law_given"] ["_law_house","_law_pools_here","_law_xs"] (J4 a2w):=⟨rfl,rfl,rfl,by decide +kernel,rfl,by decide +kernel,by decide +kernel⟩
noncomputable abbrev a4M:Stmt:=top 35
theorem a0d:U3 ["_law_owns","_law_xs","_law_terms","_law_t","_law_number","_law_thing"] ["_law_owns","_law_xs"] (J4 a4M):=⟨rfl,rfl,rfl,by decide +kernel,rfl,by decide +kernel,by decide +kernel⟩
noncomputable abbrev a4m:Stmt:=top 36
theorem a0c:U3 ["_law_row_here","_law_owns","_law_names","_law_kind","_law_one","_law_xs","_law_when","_law_terms"] ["_law_row_here","_law_owns","_law_names"] (J4 a4m):=⟨rfl,rfl,rfl,by decide +kernel,rfl,by decide +kernel,by decide +kernel⟩
noncomputable abbrev a1v:Stmt:=top 37
theorem a7t:U3 ["_law_row_here"] ["_law_row_here"] (J4 a1v):=⟨rfl,rfl,rfl,by decide +kernel,rfl,by decide +kernel,by decide +kernel⟩
noncomputable abbrev a0n:Stmt:=top 38
theorem Z0:U3 ["_law_house","_law_pool_here","_law_near","_law_names","_law_parts_here","_law_name_here","_law_part","_law_rows","_law_above","_law_row_here"] ["_law_house","_law_pool_here","_law_near"] (J4 a0n):=⟨rfl,rfl,rfl,by decide +kernel,rfl,by decide +kernel,by decide +kernel⟩
noncomputable abbrev a2J:Stmt:=top 39
theorem a0Y:U3 ["_law_script","_law_first","_law_own","_law_other"] ["_law_script"] (J4 a2J):=⟨rfl,rfl,rfl,by decide +kernel,rfl,by decide +kernel,by decide +kernel⟩
noncomputable abbrev a2t:Stmt:=top 40
theorem a0W:U3 ["_law_script","_law_house","_law_pools_here","_law_k"] ["_law_script"] (J4 a2t):=⟨rfl,rfl,rfl,by decide +kernel,rfl,by decide +kernel,by decide +kernel⟩
noncomputable abbrev a3k:Stmt:=top 41
theorem a0H:U3 ["_law_parts_here","_law_made_here","_law_name_here","_law_rows","_law_k"] ["_law_parts_here"] (J4 a3k):=⟨rfl,rfl,rfl,by decide +kernel,rfl,by decide +kernel,by decide +kernel⟩
noncomputable abbrev a2h:Stmt:=top 42
theorem W3:U3 ["_law_parts_here","_law_makers_here","_law_given","_law_steps","_law_name_here","_law_rows","_law_row_here","_law_handed","_law_own","_law_spot","_law_last"] ["_law_parts_here"] (J4 a2h):=⟨rfl,rfl,rfl,by decide +kernel,rfl,by decide +kernel,by decide +kernel⟩
noncomputable abbrev a2a:Stmt:=top 43
theorem D3:U3 ["_law_terms","_law_at","_law_part","_law_makers_here","_law_values","_law_amount","_law_k","_law_sign","_law_thing"] ["_law_terms","_law_at","_law_part","_law_makers_here","_law_values"] (J4 a2a):=⟨rfl,rfl,rfl,by decide +kernel,rfl,by decide +kernel,by decide +kernel⟩
noncomputable abbrev a1e:Stmt:=top 44
theorem a0b:U3 ["_law_row_here","_law_spot","_law_makers_here","_law_values","_law_left","_law_deeds","_law_kind","_law_amount","_law_word"] ["_law_row_here","_law_spot","_law_makers_here","_law_values","_law_left","_law_deeds"] (J4 a1e):=⟨rfl,rfl,rfl,by decide +kernel,rfl,by decide +kernel,by decide +kernel⟩
noncomputable abbrev a4y:Stmt:=top 45
theorem O0:U3 ["_law_parts_here","_law_root","_law_numbers_here","_law_makers_here","_law_rows_by","_law_name_here","_law_rows","_law_begun_here","_law_amid","_law_values","_law_deeds","_law_left","_law_fault","_law_at","_law_row_here"] ["_law_parts_here","_law_root","_law_numbers_here"] (J4 a4y):=⟨rfl,rfl,rfl,by decide +kernel,rfl,by decide +kernel,by decide +kernel⟩
noncomputable abbrev a1z:Stmt:=top 46
theorem a0r:U3 ["_law_script","_law_most","_law_found","_law_cell","_law_way"] ["_law_script","_law_most"] (J4 a1z):=⟨rfl,rfl,rfl,by decide +kernel,rfl,by decide +kernel,by decide +kernel⟩
noncomputable abbrev a4J:Stmt:=top 47
theorem B5:U3 ["_law_done","_law_origins","_law_deeds","_law_kind","_law_amount","_law_name_here","_law_number","_law_fault"] ["_law_done","_law_origins"] (J4 a4J):=⟨rfl,rfl,rfl,by decide +kernel,rfl,by decide +kernel,by decide +kernel⟩
noncomputable abbrev a8q:Stmt:=top 48
theorem a1V:U3 ["_law_script","_law_parts_here","_law_numbers_here","_law_step","_law_name_here","_law_rows","_law_laid","_law_origins","_law_found"] ["_law_script"] (J4 a8q):=⟨rfl,rfl,rfl,by decide +kernel,rfl,by decide +kernel,by decide +kernel⟩
structure Txt(K:W.Frag)(mg:Str->Option Value):Prop where
 n_len:mg "len"=none
 n_range:mg "range"=none
 n_str:mg "str"=none
 n_tuple:mg "tuple"=none
 n_list:mg "list"=none
 n_dict:mg "dict"=none
 n_enumerate:mg "enumerate"=none
 n_isinstance:mg "isinstance"=none
 n_min:mg "min"=none
 n_max:mg "max"=none
 n_zip:mg "zip"=none
 n_int:mg "int"=none
 n_bool:mg "bool"=none
 n_reversed:mg "reversed"=none
 d_placed_rows:W1 K mg "placed_rows" a1C
 d_given_owns:W1 K mg "given_owns" a2b
 d_links:W1 K mg "links" a7z
 d_makers:W1 K mg "makers" a6g
 d_made:W1 K mg "made" a9A
 d_brings:W1 K mg "brings" a5r
 d_named_parts:W1 K mg "named_parts" a1y
 d_order:W1 K mg "order" a7c
 d_new_names:W1 K mg "new_names" a2s
 d_numbered:W1 K mg "numbered" a3n
 d_makers_names:W1 K mg "makers_names" a1f
 d_renamed_row:W1 K mg "renamed_row" a1E
 d_renamed_sum:W1 K mg "renamed_sum" a0C
 d_renamed_thing:W1 K mg "renamed_thing" a0O
 d_renamed_when:W1 K mg "renamed_when" a1n
 d_flat:W1 K mg "flat" a5C
 d_refuse_asks:W1 K mg "refuse_asks" a1B
 d_work_in_order:W1 K mg "work_in_order" a0Q
 d_last_first:W1 K mg "last_first" a0X
 d_law_cell_at:W1 K mg "_law_cell_at" a1x
 d_law_stream:W1 K mg "_law_stream" a2c
 d_law_name:W1 K mg "_law_name" a3w
 d_law_pool:W1 K mg "_law_pool" a3o
 d_law_begun:W1 K mg "_law_begun" a2v
 d_law_fresh:W1 K mg "_law_fresh" a2z
 d_law_pairs:W1 K mg "_law_pairs" a2L
 d_law_added:W1 K mg "_law_added" a2w
 d_law_sum:W1 K mg "_law_sum" a4M
 d_law_row:W1 K mg "_law_row" a4m
 d_law_owned:W1 K mg "_law_owned" a1v
 d_law_finished:W1 K mg "_law_finished" a0n
 d_law_pools:W1 K mg "_law_pools" a2J
 d_law_parts:W1 K mg "_law_parts" a2t
 d_law_made:W1 K mg "_law_made" a3k
 d_law_makers:W1 K mg "_law_makers" a2h
 d_law_sum_of:W1 K mg "_law_sum_of" a2a
 d_law_row_done:W1 K mg "_law_row_done" a1e
 d_law_run:W1 K mg "_law_run" a4y
 d_law_numbers:W1 K mg "_law_numbers" a1z
 d_law_led:W1 K mg "_law_led" a4J
noncomputable def a7L:Sp:=fun vs H Q _=>∃(a:Addr)(ps:List Pt)(n k:Str)(rs:List Rw),vs=[.ref a,.str n,.str k]/\(k="bring" \/k="ask")/\D6 H a ps/\(ps.map (·.1)).Nodup/\(n,rs)∈ps/\ps.length<=1000/\rs.length<=900/\
 ∀(p:Addr)(H':Hp),G5 H H'->H' p=some (.tup ((B3 k rs).map V.str))->Q (.ref p) H'
noncomputable def b4e (k:Str):Sp:=fun vs H Q _=>∃(a:Addr)(ps:List Pt)(n:Str)(rs:List Rw),vs=[.ref a,.str n]/\D6 H a ps/\(ps.map (·.1)).Nodup/\(n,rs)∈ps/\ps.length<=1000/\rs.length<=900/\
 ∀(p:Addr)(H':Hp),G5 H H'->H' p=some (.tup ((B3 k rs).map V.str))->Q (.ref p) H'
theorem a1t{K:W.Frag}{H:Hp}:∀{vs:List V}{ps:List Pt},Paired (a3v H) vs ps->∃j:List (Str×V),Paired (fun v(p:Str×V)=>∃t,v= .ref t/\SqT K H t [.str p.1,p.2]) vs j/\j.map (·.1)=ps.map (·.1)/\∀n rs,(n,rs)∈ps->∃u q,(n,V.ref u)∈j/\H u=some (.tup q)/\a1o H q rs
 | _,_,.nil=>⟨[],.nil,rfl,fun n rs h=>by simp at h⟩
 | _,_,.cons (b:=p) ⟨t,u,q,e,h1,h2,D⟩ J=>by
  obtain⟨j,F,U,Y⟩:=a1t (K:=K) J
  refine⟨(p.1,.ref u)::j,.cons ⟨t,e,SqT.of h1⟩ F,by rw[List.map_cons,List.map_cons,U],fun n rs h=>?_⟩
  rcases List.mem_cons.mp h with z | z
  ·rw[<-z]at h1 D⊢
   exact⟨u,q,AM,h2,D⟩
  ·obtain⟨G,B,k1,O⟩:=Y n rs z
   exact⟨G,B,AK _ k1,O⟩
theorem J9.dK{H:Hp}{l:Addr}{kvs kvs':List (Key×V)}(h:H l=some (.dK kvs)):J9 H (upd H l (.dK kvs')):=fun b zs q=>by
 rw[G8 (a5p q h (by intro z;cases z))]
 exact q
section
variable{P:Program}{w:World}{K:W.Frag}{mg:Str->Option Value}{base:Heap}
theorem b1f:("abcdefghijklmnopqrstuvwxyz0123456789":Str).cps.toList.length=36:=by decide +kernel
theorem a5k:(a8B:Str)="abcdefghijklmnopqrstuvwxyz":=rfl
theorem a2O:("abcdefghijklmnopqrstuvwxyz":Str).length<=sizeLine:=by decide +kernel
theorem a9P:(("abcdefghijklmnopqrstuvwxyz":Str)++("0123456789":Str)).length<=sizeLine:=by decide +kernel
theorem a8G:(("abcdefghijklmnopqrstuvwxyz":Str)++("0123456789":Str))="abcdefghijklmnopqrstuvwxyz0123456789":=by decide +kernel
noncomputable def b5N:Sp:=fun vs H Q _=>∃b k:Int,vs=[.int b,.int k]/\0<=b/\b < 2147483647/\0<=k/\k < 1000/\∀H':Hp,G5 H H'->Q (.str (Y7 b k)) H'
theorem b0h(T:Txt K mg):L2.Cl P w K mg base 1 "_law_name" ["_law_base","_law_k"] b5N:=by
 refine Cl.of T.d_law_name E4 (fun vs H Q E h=>?_) (fun _ _ _ _ _ _ us hl=>by obtain⟨a,b,rfl⟩:=a4j hl;rfl) (fun f hj A outer s H vs Q E hr h=>?_)
 ·obtain⟨b,k,rfl,_⟩:=h
  rfl
 ·obtain⟨b,k,rfl,hb,hm,hk,hg,q⟩:=h
  refine⟨_,(G3 (J1 (i:=2) E4.nd rfl (Or.inl rfl) R7)
   (G3 (J1 (i:=1) E4.nd rfl (Or.inl rfl) (G9 U6 (G9 Z7 (G9 E8 (pv 1) (I0 J7 (Y3 (G0 G2 (G0 G2 (G0 G2 (G0 G2 (G0 G2 (G0 G2 G4))))))) (G9 U6 (pv 0) G2) (fun _ _=>rfl))) (G9 W8 (pv 0) G2)) G2))
   (G3 (J1 (i:=0) E4.nd rfl (Or.inl rfl) (G9 W8 (pv 0) G2))
   (G3 (U8 (J6 O3 (G9 U6 (pv 0) G2) G2 (U0 _))
    (G6 (R9 (G9 b0E (I0 a5E (pv 2) (G9 U6 (G9 Z7 (G9 W8 (pv 0) G2) (G9 W8 (pv 1) G2)) G2) (fun _ _=>rfl)) (G9 Z7 G2 (G9 U6 (pv 1) G2))))) R8)
   (G3 (U8 (J6 O3 (G9 U6 (pv 0) G2) G2 (U0 _))
    (G6 (R9 (G9 a0e (G9 b0E (I0 a5E (pv 2) (G9 U6 (G9 W8 (pv 0) G2) G2) (fun _ _=>rfl)) (G9 Z7 G2 (G9 U6 (G9 W8 (pv 0) G2) G2))) (Y6 a1X (by rfl) T.n_str boot_str (G0 (pv 1) G4))))) R8)
   (G3 (J1 (i:=3) E4.nd rfl (Or.inl rfl) (G9 Z7 G2 (G9 U6 (G9 W8 (pv 0) G2) G2)))
   (G3 (J1 (i:=4) E4.nd rfl (Or.inl rfl) R7)
   (G3 (Y9 AN rfl (a0y (by rfl) T.n_range (G0 (pv 3) G4)) (I9 (i:=5) E4.nd rfl (Or.inl rfl))
    (G3 (J1 (i:=6) E4.nd rfl (Or.inl rfl) (G9 W8 (pv 0) (G9 Z7 G2 (G9 E8 (G9 E8 G2 (pv 5)) (pv 5)))))
    (G6 (U8 (J6 O3 (pv 5) (G9 U6 (G9 W8 (pv 0) G2) (pv 3)) (U0 _))
     (G6 (J1 (i:=4) E4.nd rfl (Or.inl rfl) (G9 a0e (pv 4) (I0 a5E (pv 2) (G9 U6 (G9 Z7 (pv 6) (pv 1)) G2) (fun _ _=>rfl))))) (G6 (U8 (J6 O3 (pv 5) G2 (U0 _))
      (G6 (J1 (i:=4) E4.nd rfl (Or.inl rfl) (G9 a0e (pv 4) (I0 a5E (pv 2) (G9 U6 (pv 6) G2) (fun _ _=>rfl))))) (G6 (J1 (i:=4) E4.nd rfl (Or.inl rfl) (G9 a0e (pv 4) (I0 a5E (G9 a0e (pv 2) R7) (G9 U6 (pv 6) G2) (fun _ _=>rfl)))))))))))
   (G6 (R9 (pv 4))))))))))),?_⟩
  have h6:0<=b % 6:=by omega
  have h7:b % 6 < 6:=by omega
  refine⟨_,rfl,(by show 6<=sizeLine;decide),fun l gl=>?_⟩
  have s1:G5 H (upd H l (.lst [.int 1,.int 5,.int 7,.int 11,.int 13,.int 23])):=(G5.refl H).new gl
  have U:atI [V.int 1,V.int 5,V.int 7,V.int 11,V.int 13,V.int 23] (b % 6)=some (.int ([1,5,7,11,13,23].getD (b % 6).toNat 0)):=by
   have:(b % 6).toNat=0\/(b % 6).toNat=1\/(b % 6).toNat=2\/(b % 6).toNat=3\/(b % 6).toNat=4\/(b % 6).toNat=5:=by omega
   have O:(((b % 6).toNat:Nat):Int)=b % 6:=by omega
   rw[<-O]
   simp only[Int.toNat_natCast]
   rcases this with e | e | e | e | e | e<;>rw[e]<;>exact R3 rfl
  refine⟨_,rfl,_,_,rfl,rfl,(by show(0:Int) < 6;decide),l,_,_,_,rfl,rfl,SqL.of G1,U,?_⟩
  refine⟨_,_,rfl,rfl,.inl ⟨by omega,by omega⟩,?_⟩
  refine⟨_,rfl,_,_,rfl,rfl,⟨by decide,by decide⟩,_,_,rfl,rfl,_,_,rfl,rfl,(by show(0:Int) < 24;decide),?_⟩
  refine⟨_,rfl,_,_,rfl,rfl,⟨by decide,by decide⟩,?_⟩
  obtain⟨r1,r2⟩:=a3b b k
  have q':∀H':Hp,G5 (upd H l (.lst [.int 1,.int 5,.int 7,.int 11,.int 13,.int 23])) H'->Q (.str (Y7 b k)) H':=fun H' s2=>q H' (s1.trans s2)
  clear U
  have he:0<=b/144:=by omega
  have ha:b/144 < 2147483647:=by omega
  have F:∀H':Hp,G5 (upd H l (.lst [.int 1,.int 5,.int 7,.int 11,.int 13,.int 23])) H'->∀x,x=Y7 b k->Q (.str x) H':=fun H' s2 x e=>by rw[e];exact q' H' s2
  clear q'
  unfold Y7 at F
  show M3 0 (V.int (b/144)) [some (.int b),some (.int (a2l b k)),some (.str "abcdefghijklmnopqrstuvwxyz"),none,none,none,none] _ _
  generalize upd H l (.lst [.int 1,.int 5,.int 7,.int 11,.int 13,.int 23])=H1 at F⊢
  generalize a2l b k=B at r1 r2 F⊢
  generalize b/144=j at he ha F⊢
  simp only at F
  refine⟨_,rfl,_,_,rfl,rfl,(by show(0:Int) < 4;decide),rfl,_,rfl,a6J (fun O=>?_) (fun O=>?_)⟩
  ·rw[if_pos O]at F
   refine⟨_,rfl,_,rfl,_,_,rfl,rfl,⟨by decide,by decide⟩,_,rfl,_,_,rfl,rfl,⟨by decide,by decide⟩,_,_,rfl,rfl,_,_,rfl,rfl,(by show(0:Int) < 26;decide),_,_,_,rfl,rfl,a2O,a1I _ 0 (by omega) (by rw[<-a5k,a3Y];omega),?_⟩
   refine⟨_,rfl,_,_,rfl,rfl,(by show(0:Int) < 8;decide),_,_,rfl,rfl,_,_,rfl,rfl,(by omega),(by omega),?_⟩
   exact F _ (G5.refl _) _ rfl
  ·rw[if_neg O]at F
   refine⟨_,rfl,_,_,rfl,rfl,(by show(0:Int) < 4;decide),rfl,_,rfl,a6J (fun e2=>?_) (fun e2=>?_)⟩
   ·rw[if_pos e2]at F
    refine⟨_,rfl,_,rfl,_,_,rfl,rfl,⟨by decide,by decide⟩,_,_,rfl,rfl,(by show(0:Int) < 26;decide),_,_,_,rfl,rfl,a2O,a1I _ 0 (by omega) (by rw[<-a5k,a3Y];omega),?_⟩
    refine⟨_,rfl,_,_,rfl,rfl,⟨by decide,by decide⟩,_,_,rfl,rfl,(by show(0:Int) < 6;decide),_,_,rfl,rfl,_,_,rfl,rfl,(by omega),(by omega),?_⟩
    refine⟨_,rfl,_,rfl,?_,_,_,rfl,rfl,?_,?_⟩
    ·exact Nat.lt_of_le_of_lt (Nat.log2_le_self _) (by omega)
    ·obtain⟨n1,n2⟩:=a3L (n:=B) r1 (by omega)
     have n3:(Str.ofString (toString B)).length<=60:=by
      have:=congrArg List.length n1
      rw[List.length_map,Array.length_toList]at this
      show(Str.ofString (toString B)).cps.size<=60
      omega
     have n4:(⟨(List.replicate (1+j/104 % 6).toNat (a8B.cps.toList.getD (j/4 % 26).toNat 0)).toArray⟩:Str).length<=6:=by
      show(List.replicate (1+j/104 % 6).toNat (a8B.cps.toList.getD (j/4 % 26).toNat 0)).toArray.size<=6
      rw[List.size_toArray,List.length_replicate];omega
     exact Nat.le_of_lt (J8 (by
      have hh:(⟨(List.replicate (1+j/104 % 6).toNat (("abcdefghijklmnopqrstuvwxyz":Str).cps.toList.getD (j/4 % 26).toNat 0)).toArray⟩:Str).length<=6:=n4
      omega))
    ·exact F _ (G5.refl _) _ rfl
   ·rw[if_neg e2]at F
    have J:0 < 1+j/4 % 8:=by omega
    have hc:1+j/4 % 8<=8:=by omega
    refine⟨_,rfl,_,_,rfl,rfl,⟨by decide,by decide⟩,_,_,rfl,rfl,(by show(0:Int) < 8;decide),_,_,rfl,rfl,?_⟩
    show M3 3 (V.int (1+j/4 % 8)) [some (.int j),some (.int B),some (.str "abcdefghijklmnopqrstuvwxyz"),none,none,none,none] _ _
    generalize 1+j/4 % 8=z at F J hc⊢
    refine⟨_,rfl,_,rfl,(by omega),(by omega),a0g (fun i σ H2=>H2=H1/\∃Z v6:Option V,σ=[some (.int j),some (.int B),some (.str "abcdefghijklmnopqrstuvwxyz"),some (.int z),some (.str ⟨(nm3 j B z i).toArray⟩),Z,v6])
     ⟨rfl,none,none,rfl⟩ ?_ ?_⟩
    ·rintro i σ H2 hi ⟨rfl,Z,v6,rfl⟩
     have ho:i<=7:=by omega
     have hn:(11*(i:Int))*(i:Int)<=539/\0<=(11*(i:Int))*(i:Int):=by
      have:i=0\/i=1\/i=2\/i=3\/i=4\/i=5\/i=6\/i=7:=by omega
      rcases this with e | e | e | e | e | e | e | e<;>subst e<;>decide
     have hf:(⟨(nm3 j B z i).toArray⟩:Str).length=i:=by
      show(nm3 j B z i).toArray.size=i
      rw[List.size_toArray,a2X]
     have G:∀(c:Nat),nm3 j B z (i+1)=nm3 j B z i++[c]->(⟨(nm3 j B z i).toArray⟩:Str)++(⟨#[c]⟩:Str)=⟨(nm3 j B z (i+1)).toArray⟩:=fun c e=>by
      rw[e]
      show(⟨(nm3 j B z i).toArray++ #[c]⟩:Str)=_
      simp
     have D:∀c:Nat,(⟨(nm3 j B z i).toArray⟩:Str).length+(⟨#[c]⟩:Str).length<=sizeLine:=fun c=>by
      rw[hf]
      exact Nat.le_of_lt (J8 (by show i+1<=1000;omega))
     rw[Int.zero_add]
     refine⟨_,rfl,_,rfl,_,_,rfl,rfl,.inl ⟨by decide,by decide⟩,_,rfl,_,_,rfl,rfl,.inl ⟨by omega,by omega⟩,_,_,rfl,rfl,_,_,rfl,rfl,⟨by omega,by omega⟩,?_⟩
     refine⟨_,rfl,_,rfl,_,_,rfl,rfl,⟨by decide,by decide⟩,_,rfl,_,_,rfl,rfl,J,rfl,_,rfl,a6J (fun Y=>?_) (fun Y=>?_)⟩
     ·refine⟨_,rfl,_,rfl,_,rfl,_,rfl,_,_,rfl,rfl,_,_,rfl,rfl,(by show(0:Int) < 26;decide),_,_,_,rfl,rfl,a2O,a1I _ 0 (by omega) (by rw[<-a5k,a3Y];omega),_,_,rfl,rfl,D _,?_⟩
      rw[G _ (by show nm3 j B z i++[_]=_;rw[if_pos Y];rfl)]
      exact⟨rfl,_,_,rfl⟩
     ·refine⟨_,rfl,rfl,_,rfl,a6J (fun e4=>?_) (fun e4=>?_)⟩
      ·refine⟨_,rfl,_,rfl,_,rfl,_,_,rfl,rfl,(by show(0:Int) < 26;decide),_,_,_,rfl,rfl,a2O,a1I _ 0 (by omega) (by rw[<-a5k,a3Y];omega),_,_,rfl,rfl,D _,?_⟩
       rw[G _ (by show nm3 j B z i++[_]=_;rw[if_neg Y,if_pos e4];rfl)]
       exact⟨rfl,_,_,rfl⟩
      ·refine⟨_,rfl,_,rfl,_,_,rfl,rfl,(by decide +kernel),_,rfl,_,_,rfl,rfl,(by show(0:Int) < 36;decide),_,_,_,rfl,rfl,a9P,a1I _ 0 (by omega) (by rw[a8G,b1f];omega),_,_,rfl,rfl,D _,?_⟩
       rw[G _ (by show nm3 j B z i++[_]=_;rw[if_neg Y,if_neg e4,a8G];rfl)]
       exact⟨rfl,_,_,rfl⟩
    ·rintro σ H2 ⟨rfl,Z,v6,rfl⟩
     exact⟨_,rfl,F _ (G5.refl _) _ rfl⟩
noncomputable def b6J (K:W.Frag):Sp:=fun vs H Q _=>∃(a:Addr)(ns:List Int)(k:Int),vs=[.ref a,.int k]/\SqL K H a (ns.map V.int)/\0<=k/\∀c:Int,Q (.int c) H
noncomputable def Bnd (ns:List Int):Prop:=∀n∈ns,0<=n/\n < 2147483647
noncomputable def b3d:Sp:=fun vs H Q _=>∃(c k:Int),vs=[.int c,.int k]/\0<=k/\k < 1000/\∀(l:Addr)(xs:List Int)(H':Hp),G5 H H'->H l=none->H' l=some (.lst (xs.map V.int))->xs.length=6->Bnd xs->Q (.ref l) H'
noncomputable def b6g (K:W.Frag):Sp:=fun vs H Q _=>∃(a:Addr)(ns:List Int)(k:Int),vs=[.ref a,.int k]/\SqL K H a (ns.map V.int)/\0<=k/\∀c:Int,0<=c->c < 2147483647->Q (.int c) H
theorem a4d(T:Txt K mg):L2.Cl P w K mg base 1 "_law_cell_at" ["_law_script","_law_k"] (b6J K):=by
 refine Cl.of T.d_law_cell_at a5D (fun F H Q E h=>?_) (fun _ _ _ _ _ _ us hl=>by obtain⟨a,b,rfl⟩:=a4j hl;rfl) (fun f G A outer s H F Q E O h=>?_)
 ·obtain⟨a,ns,k,rfl,_⟩:=h
  rfl
 ·obtain⟨a,ns,k,rfl,D,J,q⟩:=h
  refine⟨_,(G3 (U8 (J6 a6s (pv 1) (U5 R5 (by rfl) T.n_len PySem.boot_len (G0 (pv 0) G4)) (U0 _))
    (G6 (R9 (I0 J7 (pv 0) (pv 1) (fun _ _=>rfl)))) R8)
   (G6 (R9 G2))),?_⟩
  refine⟨_,rfl,_,rfl,a,_,rfl,.inl D,_,_,rfl,rfl,_,rfl,?_⟩
  refine a3q (fun B=>?_) (fun B=>?_)
  ·have j:k < (ns.length:Int):=by simpa using B
   refine⟨_,rfl,_,rfl,a,_,_,_,rfl,rfl,D,Z1 V.int ns 0 J j,?_⟩
   exact q _
  ·exact q 0
theorem b3U(T:Txt K mg):L2.Cl P w K mg base 2 "_law_pool" ["_law_script","_law_k"] (b6g K):=by
 have j:=a4d (P:=P) (w:=w) (base:=base) T
 refine Cl.of T.d_law_pool a8s (fun D H Q E h=>?_) (fun _ _ _ _ _ _ us hl=>by obtain⟨a,b,rfl⟩:=a4j hl;rfl) (fun f F A outer s H D Q E B h=>?_)
 ·obtain⟨a,ns,k,rfl,_⟩:=h
  rfl
 ·obtain⟨a,ns,k,rfl,G,J,q⟩:=h
  refine⟨_,(G6 (R9 (G9 U6 (G9 E8 (W0 j B (by rfl) (G0 (pv 0) (G0 (pv 1) G4))) G2) G2))),?_⟩
  refine⟨_,rfl,_,rfl,a,ns,k,rfl,G,J,fun c=>?_⟩
  refine⟨_,_,rfl,rfl,.inr ⟨by decide,by decide⟩,_,_,rfl,rfl,(by show(0:Int) < 2147483647;decide),q _ (by omega) (by omega)⟩
theorem b1I(T:Txt K mg):L2.Cl P w K mg base 1 "_law_stream" ["_law_cell","_law_k"] b3d:=by
 refine Cl.of T.d_law_stream M9 (fun vs H Q E h=>?_) (fun _ _ _ _ _ _ us hl=>by obtain⟨a,b,rfl⟩:=a4j hl;rfl) (fun f hm A outer s H vs Q E hr h=>?_)
 ·obtain⟨c,k,rfl,_⟩:=h
  rfl
 ·obtain⟨c,k,rfl,J,hh,q⟩:=h
  refine⟨_,(G3 (J1 (i:=2) M9.nd rfl (Or.inl rfl) (Y3 G4))
   (G3 (J1 (i:=3) M9.nd rfl (Or.inl rfl) (G9 Z7 (G9 Z7 (G9 U6 (pv 0) G2) (G9 E8 (G9 E8 G2 (pv 1)) (pv 1))) G2))
   (G3 (Y9 AN rfl (a0Z (Y3 (G0 G2 (G0 G2 (G0 G2 (G0 G2 (G0 G2 (G0 G2 G4)))))))) (I9 (i:=4) M9.nd rfl (Or.inl rfl))
    (G3 (J1 (i:=3) M9.nd rfl (Or.inl rfl) (G9 U6 (G9 Z7 (G9 Z7 (G9 E8 (pv 3) (pv 3)) (G9 E8 (pv 4) (pv 3))) (pv 1)) G2))
    (G6 (Y1 (D4 PySem.F.plainAttrs_list PySem.F.slot_list_append PySem.F.type_list_append Y5 (pv 2) (G0 (pv 3) G4))))))
   (G6 (R9 (pv 2)))))),?_⟩
  refine⟨a0s,fun l hl=>?_⟩
  have s1:G5 H (upd H l (.lst [])):=(G5.refl H).new hl
  have hg:48271*k*k<=48271*1000*1000:=Int.mul_le_mul (by omega) (by omega) J (by decide)
  have hf:0<=48271*k*k:=Int.mul_nonneg (by omega) J
  refine⟨_,rfl,_,_,rfl,rfl,(by show(0:Int) < 2147483647;decide),_,rfl,_,_,rfl,rfl,.inl ⟨by decide,by decide⟩,_,rfl,_,_,rfl,rfl,.inl ⟨by omega,by omega⟩,_,_,rfl,rfl,_,_,rfl,rfl,?_⟩
  have Y:0<=c % 2147483647+48271*k*k+7:=by omega
  have he:c % 2147483647+48271*k*k+7 < 1000000000000:=by omega
  refine⟨(by show 6<=sizeLine;decide),fun b U=>?_⟩
  have ha:l≠b:=Y8 (G1 (H:=H) (a:=l) (o:= .lst [])) U
  refine⟨b,rfl,⟨_,SqL.of G1⟩,a1g (K:=K) (a:=b) (xs:=[.int 48271,.int 69621,.int 16807,.int 39373,.int 62089,.int 40692]) (fun i σ H2=>∃(zs:List Int)(z:Int)(v4:Option V),σ=[some (.int c),some (.int k),some (.ref l),some (.int z),v4]/\G5 H H2/\H2 l=some (.lst (zs.map V.int))/\H2 b=some (.lst [.int 48271,.int 69621,.int 16807,.int 39373,.int 62089,.int 40692])/\zs.length=i/\Bnd zs/\0<=z/\z < 1000000000000)
   ⟨[],_,none,rfl,s1.new U,U2 G1 U,G1,rfl,(fun n hn=>by simp at hn),Y,he⟩ (fun i σ H2 _⟨_,_,_,_,_,_,h,_⟩=>SqL.of h) ?_ ?_⟩
  ·rintro i x σ H2 hx ⟨zs,z,v4,rfl,Z,B,G,j,D,hc,O⟩
   have hi:i < 6:=(List.getElem?_eq_some_iff.mp hx).1
   obtain⟨n,rfl,hk,hj⟩:∃n:Int,x= .int n/\0<=n/\n<=70000:=by
    have:=AD hx
    simp only[List.mem_cons,List.not_mem_nil,or_false]at this
    rcases this with rfl | rfl | rfl | rfl | rfl | rfl<;>exact⟨_,rfl,by decide,by decide⟩
   refine⟨_,rfl,_,rfl,_,_,rfl,rfl,.inl ⟨by omega,by omega⟩,_,rfl,_,rfl,_,_,rfl,rfl,.inl ⟨by omega,by omega⟩,_,_,rfl,rfl,_,rfl,_,_,rfl,rfl,_,_,rfl,rfl,(by show(0:Int) < 2147483647;decide),?_⟩
   generalize z*z+n*z+k=y
   refine⟨_,rfl,.inl ⟨rfl,_,SqL.of B⟩,_,rfl,l,_,_,rfl,rfl,B,J8 (by rw[List.length_map];omega),?_⟩
   refine⟨zs++[y % 2147483647],y % 2147483647,_,rfl,Z.put hl,by rw[G1,AG];rfl,by rw[G8 ha.symm];exact G,by simp[j],fun n hn=>?_,by omega,by omega⟩
   rcases AL.mp hn with h | h
   ·exact D n h
   ·rw[AC.mp h];omega
  ·rintro σ H2 ⟨zs,z,v4,rfl,Z,B,G,j,D,hc,O⟩
   exact⟨_,rfl,q l zs _ Z hl B j D⟩
noncomputable def New (H0:Hp) (l:Addr) (A:List Q4):Prop:=H0 l=none/\∀(i:Nat)(q:Q4)(x:Nat),A[i]?=some q->x < 4->H0 (q.nth x)=none
noncomputable def b2a (hs:List Pp):Prop:=∀pp∈hs,pp.rows=[]/\pp.owns=[]/\pp.gives=[]/\0<=pp.sh/\pp.sh < 100
noncomputable def b5p (K:W.Frag):Sp:=fun vs H Q _=>∃(a:Addr)(ns:List Int),vs=[.ref a]/\SqL K H a (ns.map V.int)/\∀(l:Addr)(A:List Q4)(hs:List Pp)(H':Hp),G5 H H'->U4 H' l A [] hs->New H l A->1<=hs.length->hs.length<=24->b2a hs->Q (.ref l) H'
theorem New.snoc{H:Hp}{l:Addr}{A:List Q4}{q:Q4}(h:New H l A)(B:∀x,x < 4->H (q.nth x)=none):New H l (A++[q]):=by
 refine⟨h.1,fun i u x e hx=>?_⟩
 by_cases hi:i < A.length
 ·rw[List.getElem?_append_left hi]at e
  exact h.2 i u x e hx
 ·rw[BS (by omega)]at e
  have j:i - A.length=0:=by
   have:=(List.getElem?_eq_some_iff.mp e).1
   simp only[List.length_singleton]at this
   omega
  rw[j]at e
  simp only[List.getElem?_cons_zero,Option.some.injEq]at e
  rw[<-e]
  exact B x hx
theorem lt4{x:Nat}(h:x < 4):x=0\/x=1\/x=2\/x=3:=by omega
theorem b3K{H:Hp}{l:Addr}(h:H l=some (.lst [])):U4 H l [] [] []:=⟨h,rfl,fun i q B e=>by simp at e,fun i q x e=>by simp at e,fun d hd=>by simp at hd,fun i j q u x y e=>by simp at e⟩
theorem a5B{H H2:Hp}{l r o g p:Addr}{A:List Q4}{Z:List Pp}{c:Int}(s2:G5 H H2)(hh:U4 H2 l A [] Z)(hn:New H l A)(hb:b2a Z)(he:0<=c)(ha:c < 100)(gr:H2 r=none)(go:upd H2 r (.lst []) o=none)(j:upd (upd H2 r (.lst [])) o (.lst []) g=none)
  (B:upd (upd (upd H2 r (.lst [])) o (.lst [])) g (.lst []) p=none):
  U4 (upd (upd (upd (upd (upd H2 r (.lst [])) o (.lst [])) g (.lst [])) p (.lst [.ref r,.ref o,.ref g,.int c])) l (.lst ((A.map fun q=>V.ref q.p)++[.ref p]))) l (A++[⟨p,r,o,g⟩]) [] (Z++[⟨[],[],[],c⟩])/\New H l (A++[⟨p,r,o,g⟩])/\b2a (Z++[⟨[],[],[],c⟩]):=by
 have Y:r≠o:=Y8 (G1 (H:=H2) (a:=r) (o:= .lst [])) go
 have G:r≠g:=Y8 (U2 (G1 (H:=H2) (a:=r) (o:= .lst [])) go) j
 have F:r≠p:=Y8 (U2 (U2 (G1 (H:=H2) (a:=r) (o:= .lst [])) go) j) B
 have U:o≠g:=Y8 (G1 (H:=upd H2 r (.lst [])) (a:=o) (o:= .lst [])) j
 have J:o≠p:=Y8 (U2 (G1 (H:=upd H2 r (.lst [])) (a:=o) (o:= .lst [])) j) B
 have O:g≠p:=Y8 (G1 (H:=upd (upd H2 r (.lst [])) o (.lst [])) (a:=g) (o:= .lst [])) B
 have no:H2 o=none:=by rw[G8 Y.symm]at go;exact go
 have ng:H2 g=none:=by rw[G8 U.symm,G8 G.symm]at j;exact j
 have np:H2 p=none:=by rw[G8 O.symm,G8 J.symm,G8 F.symm]at B;exact B
 have D:∀x,x < 4->H2 ((⟨p,r,o,g⟩:Q4).nth x)=none:=fun x hx=>by
  rcases lt4 hx with rfl | rfl | rfl | rfl
  ·exact np
  ·exact gr
  ·exact no
  ·exact ng
 have S:G5 H2 (upd (upd (upd (upd H2 r (.lst [])) o (.lst [])) g (.lst [])) p (.lst [.ref r,.ref o,.ref g,.int c])):=((((G5.refl H2).new gr).new go).new j).new B
 refine⟨U4.add hh S D (fun x y hx hy z=>?_) G1 ?_ ?_ ?_,hn.snoc fun x hx=>s2.free (D x hx),fun pp hc=>?_⟩
 ·rcases lt4 hx with rfl | rfl | rfl | rfl<;>rcases lt4 hy with rfl | rfl | rfl | rfl<;>first | rfl | (exfalso;first | exact Y z | exact Y z.symm | exact G z | exact G z.symm | exact F z | exact F z.symm | exact U z | exact U z.symm | exact J z | exact J z.symm | exact O z | exact O z.symm)
 ·exact U2 (U2 (U2 G1 go) j) B
 ·exact U2 (U2 G1 j) B
 ·exact U2 G1 B
 ·rcases AL.mp hc with z | z
  ·exact hb pp z
  ·rw[AC.mp z]
   exact⟨rfl,rfl,rfl,he,ha⟩
theorem b2R(T:Txt K mg):L2.Cl P w K mg base 2 "_law_begun" ["_law_script"] (b5p K):=by
 have j:=a4d (P:=P) (w:=w) (base:=base) T
 refine Cl.of T.d_law_begun M2 (fun vs H Q E h=>?_) (fun _ _ _ _ _ _ us hl=>by obtain⟨a,rfl⟩:=a3N hl;rfl) (fun f hk A outer s H vs Q E hr h=>?_)
 ·obtain⟨a,ns,rfl,_⟩:=h
  rfl
 ·obtain⟨a,ns,rfl,hS,q⟩:=h
  refine⟨_,(G3 (J1 (i:=1) M2.nd rfl (Or.inl rfl) (W0 j hr (by rfl) (G0 (pv 0) (G0 G2 G4))))
   (G3 (J1 (i:=2) M2.nd rfl (Or.inl rfl) (G9 Z7 G2 (G9 U6 (pv 1) G2)))
   (G3 (U8 (J6 O3 (G9 U6 (G9 W8 (pv 1) G2) G2) G2 (U0 _))
    (G6 (J1 (i:=2) M2.nd rfl (Or.inl rfl) (G9 Z7 G2 (G9 U6 (G9 W8 (pv 1) G2) G2)))) R8)
   (G3 (J1 (i:=3) M2.nd rfl (Or.inl rfl) (Y3 G4))
   (G3 (Y9 AN rfl (a0y (by rfl) T.n_range (G0 (pv 2) G4)) (I9 (i:=4) M2.nd rfl (Or.inl rfl))
    (G6 (Y1 (D4 PySem.F.plainAttrs_list PySem.F.slot_list_append PySem.F.type_list_append Y5 (pv 3) (G0 (Y3 (G0 (Y3 G4) (G0 (Y3 G4) (G0 (Y3 G4) (G0 (G9 E8 (pv 4) (G9 U6 (G9 W8 (pv 1) G2) G2)) G4))))) G4)))))
   (G6 (R9 (pv 3)))))))),?_⟩
  refine⟨_,rfl,a,ns,0,rfl,hS,(by decide),fun c=>?_⟩
  refine⟨_,rfl,_,_,rfl,rfl,(by show(0:Int) < 6;decide),_,_,rfl,rfl,?_⟩
  refine⟨_,rfl,_,_,rfl,rfl,⟨by decide,by decide⟩,_,_,rfl,rfl,(by show(0:Int) < 8;decide),rfl,_,rfl,a6J (fun e1=>?_) (fun e1=>?_)⟩
  ·refine⟨_,rfl,_,_,rfl,rfl,⟨by decide,by decide⟩,_,_,rfl,rfl,(by show(0:Int) < 24;decide),_,_,rfl,rfl,?_⟩
   have Z:1<=1+c/48 % 24:=by omega
   have ha:1+c/48 % 24<=24:=by omega
   show M3 2 (V.int (1+c/48 % 24)) _ _ _
   generalize 1+c/48 % 24=m at Z ha⊢
   refine⟨a0s,fun l hl=>?_⟩
   have s1:G5 H (upd H l (.lst [])):=(G5.refl H).new hl
   refine⟨_,rfl,_,rfl,(by omega),(by omega),a0g (fun i σ H2=>∃(A:List Q4)(G:List Pp)(v4:Option V),σ=[some (.ref a),some (.int c),some (.int m),some (.ref l),v4]/\G5 H H2/\U4 H2 l A [] G/\New H l A/\G.length=i/\b2a G)
    ⟨[],[],none,rfl,s1,b3K G1,⟨hl,fun i q x e=>by simp at e⟩,rfl,fun pp hf=>by simp at hf⟩ ?_ ?_⟩
   ·rintro i σ H2 hi ⟨A,G,v4,rfl,Y,D,hn,B,hb⟩
    have O:0<=(0+(i:Int)):=by omega
    have U:(0+(i:Int))<=23:=by omega
    generalize 0+(i:Int)=k at O U⊢
    have J:0<=c/6 % 5:=by omega
    have hg:c/6 % 5<=4:=by omega
    have hc:0<=k*(c/6 % 5):=Int.mul_nonneg O J
    have hj:k*(c/6 % 5)<=23*4:=Int.mul_le_mul U hg J (by decide)
    refine⟨_,rfl,.inl ⟨rfl,_,SqL.of D.ll⟩,a0s,fun r gr=>⟨a0s,fun o go=>⟨a0s,fun g gg=>?_⟩⟩⟩
    refine⟨_,rfl,_,rfl,_,_,rfl,rfl,⟨by decide,by decide⟩,_,_,rfl,rfl,(by show(0:Int) < 5;decide),_,_,rfl,rfl,.inl ⟨by omega,by omega⟩,(by show 4<=sizeLine;decide),fun p gp=>?_⟩
    obtain⟨S1,S2,S3⟩:=a5B Y D hn hb hc (by omega) gr go gg gp
    have he:=(((((G5.refl H2).new gr).new go).new gg).new (o:= .lst [.ref r,.ref o,.ref g,.int (k*(c/6 % 5))]) gp) _ _ D.ll
    refine⟨l,_,_,rfl,rfl,he,J8 (by rw[List.length_map,D.len];omega),?_⟩
    exact⟨_,_,_,rfl,((((Y.new gr).new go).new gg).new gp).put hl,S1,S2,by rw[List.length_append,B];rfl,S3⟩
   ·rintro σ H2 ⟨A,G,v4,rfl,Y,D,hn,B,hb⟩
    exact⟨_,rfl,q l A G _ Y D hn (by omega) (by omega) hb⟩
  ·have Z:1<=1+c % 6:=by omega
   have ha:1+c % 6<=24:=by omega
   show a2p _ [some (.ref a),some (.int c),some (.int (1+c % 6)),none,none] _
   generalize 1+c % 6=m at Z ha⊢
   refine⟨a0s,fun l hl=>?_⟩
   have s1:G5 H (upd H l (.lst [])):=(G5.refl H).new hl
   refine⟨_,rfl,_,rfl,(by omega),(by omega),a0g (fun i σ H2=>∃(A:List Q4)(G:List Pp)(v4:Option V),σ=[some (.ref a),some (.int c),some (.int m),some (.ref l),v4]/\G5 H H2/\U4 H2 l A [] G/\New H l A/\G.length=i/\b2a G)
    ⟨[],[],none,rfl,s1,b3K G1,⟨hl,fun i q x e=>by simp at e⟩,rfl,fun pp hf=>by simp at hf⟩ ?_ ?_⟩
   ·rintro i σ H2 hi ⟨A,G,v4,rfl,Y,D,hn,B,hb⟩
    have O:0<=(0+(i:Int)):=by omega
    have U:(0+(i:Int))<=23:=by omega
    generalize 0+(i:Int)=k at O U⊢
    have J:0<=c/6 % 5:=by omega
    have hg:c/6 % 5<=4:=by omega
    have hc:0<=k*(c/6 % 5):=Int.mul_nonneg O J
    have hj:k*(c/6 % 5)<=23*4:=Int.mul_le_mul U hg J (by decide)
    refine⟨_,rfl,.inl ⟨rfl,_,SqL.of D.ll⟩,a0s,fun r gr=>⟨a0s,fun o go=>⟨a0s,fun g gg=>?_⟩⟩⟩
    refine⟨_,rfl,_,rfl,_,_,rfl,rfl,⟨by decide,by decide⟩,_,_,rfl,rfl,(by show(0:Int) < 5;decide),_,_,rfl,rfl,.inl ⟨by omega,by omega⟩,(by show 4<=sizeLine;decide),fun p gp=>?_⟩
    obtain⟨S1,S2,S3⟩:=a5B Y D hn hb hc (by omega) gr go gg gp
    have he:=(((((G5.refl H2).new gr).new go).new gg).new (o:= .lst [.ref r,.ref o,.ref g,.int (k*(c/6 % 5))]) gp) _ _ D.ll
    refine⟨l,_,_,rfl,rfl,he,J8 (by rw[List.length_map,D.len];omega),?_⟩
    exact⟨_,_,_,rfl,((((Y.new gr).new go).new gg).new gp).put hl,S1,S2,by rw[List.length_append,B];rfl,S3⟩
   ·rintro σ H2 ⟨A,G,v4,rfl,Y,D,hn,B,hb⟩
    exact⟨_,rfl,q l A G _ Y D hn (by omega) (by omega) hb⟩
noncomputable def b5l:Sp:=fun vs H Q _=>∃(p r o g:Addr)(b k sh:Int),vs=[.ref p,.int b,.int k]/\H p=some (.lst [.ref r,.ref o,.ref g,.int sh])/\0<=b/\b < 2147483647/\0<=k/\∀H':Hp,G5 H H'->Q (.str (Y7 b ((k+sh) % 24))) H'
theorem a8F(T:Txt K mg):L2.Cl P w K mg base 2 "_law_fresh" ["_law_part","_law_pool_here","_law_k"] b5l:=by
 have j:=b0h (P:=P) (w:=w) (base:=base) T
 refine Cl.of T.d_law_fresh a7O (fun G H Q E h=>?_) (fun _ _ _ _ _ _ us hl=>by obtain⟨a,b,c,rfl⟩:=a6n hl;rfl) (fun f J A outer s H G Q E F h=>?_)
 ·obtain⟨p,r,o,g,b,k,sh,rfl,_⟩:=h
  rfl
 ·obtain⟨p,r,o,g,b,k,sh,rfl,O,B,D,U,q⟩:=h
  refine⟨_,(G6 (R9 (W0 j F (by rfl) (G0 (pv 1) (G0 (G9 U6 (G9 Z7 (pv 2) (I0 J7 (pv 0) G2 (fun _ _=>rfl))) G2) G4))))),?_⟩
  refine⟨_,rfl,_,rfl,_,rfl,p,_,_,_,rfl,rfl,SqL.of O,rfl,_,_,rfl,rfl,_,_,rfl,rfl,(by show(0:Int) < 24;decide),?_⟩
  exact⟨b,(k+sh) % 24,rfl,B,D,by omega,by omega,q⟩
noncomputable def B1 (l:Addr) (A:List Q4) (H H':Hp):Prop:=∀a o,¬inH l A [] a->H a=some o->H' a=some o
structure a2R(H:Hp)(pl l:Addr)(A:List Q4)(b0 b1 b2:Int):Prop where
 h:H pl=some (.lst [.int b0,.int b1,.int b2])
 n:¬inH l A [] pl
 r0:0<=b0/\b0 < 2147483647
 r1:0<=b1/\b1 < 2147483647
 r2:0<=b2/\b2 < 2147483647
noncomputable def b4M:Sp:=fun vs H Q _=>∃(l pl x:Addr)(A:List Q4)(hs:List Pp)(b0 b1 b2:Int)(i j n:Nat)(pp pq:Pp)(xs:List Int),vs=[.ref l,.ref pl,.int i,.int j,.ref x]/\U4 H l A [] hs/\a2R H pl l A b0 b1 b2/\a7N H (inH l A []) x xs/\xs.length=6/\Bnd xs/\
 hs[i]?=some pp/\hs[j]?=some pq/\i≠j/\pp.owns=Y0 b0 pp.sh n/\n<=17/\(∀y∈pq.gives,B0 y)/\pq.gives.length<=100/\
 ∀(m:Nat)(ps:List (Str×Str))(q:Addr)(H':Hp),m<=6->ps.length=m->Y0 b0 pp.sh n++ps.map (·.2)=Y0 b0 pp.sh (n+m)->(∀p∈ps,p.1∈pq.gives)->a0B H' q ps->U4 H' l A [] (hs.set i {pp with owns:=Y0 b0 pp.sh (n+m)})->B1 l A H H'->Q (.ref q) H'
theorem b3M(T:Txt K mg):L2.Cl P w K mg base 3 "_law_pairs" ["_law_house","_law_pools_here","_law_here","_law_other","_law_xs"] b4M:=by
 have O:=a8F (P:=P) (w:=w) (base:=base) T
 refine Cl.of T.d_law_pairs B8 (fun vs H Q E h=>?_) (fun _ _ _ _ _ _ us hl=>match us,hl with | [_,_,_,_,_],_=>rfl) (fun f hS A' outer s H vs Q E hr h=>?_)
 ·obtain⟨l,pl,x,A,hs,G,b1,b2,i,j,n,B,D,xs,rfl,_⟩:=h
  rfl
 ·obtain⟨l,pl,x,A,hs,G,b1,b2,i,j,n,B,D,xs,rfl,hh,hg,⟨hx,hE⟩,hU,hK,ei,ej,hI,hC,hn,hQ,hY,q⟩:=h
  obtain⟨J,Y⟩:∃q,A[i]?=some q:=⟨A[i]'(by rw[hh.len];exact(List.getElem?_eq_some_iff.mp ei).1),by simp[hh.len,(List.getElem?_eq_some_iff.mp ei).1]⟩
  obtain⟨qj,hA⟩:∃q,A[j]?=some q:=⟨A[j]'(by rw[hh.len];exact(List.getElem?_eq_some_iff.mp ej).1),by simp[hh.len,(List.getElem?_eq_some_iff.mp ej).1]⟩
  have mi:(A.map fun q=>V.ref q.p)[i]?=some (.ref J.p):=by rw[List.getElem?_map,Y];rfl
  have mj:(A.map fun q=>V.ref q.p)[j]?=some (.ref qj.p):=by rw[List.getElem?_map,hA];rfl
  have Pi:=hh.pt i J B Y ei
  have Pj:=hh.pt j qj D hA ej
  have hJ:∀k:Int,0<=k->k < 6->0<=xs.getD k.toNat 0/\xs.getD k.toNat 0 < 2147483647:=fun k h0 h1=>by
   have hk:k.toNat < xs.length:=by omega
   rw[BE,AQ hk]
   exact hK _ (List.getElem_mem hk)
  refine⟨_,(G3 (J1 (i:=5) B8.nd rfl (Or.inl rfl) (I0 J7 (pv 0) (pv 2) (fun _ _=>rfl)))
   (G3 (J1 (i:=6) B8.nd rfl (Or.inl rfl) (I0 J7 (I0 J7 (pv 0) (pv 3) (fun _ _=>rfl)) G2 (fun _ _=>rfl)))
   (G3 (J1 (i:=7) B8.nd rfl (Or.inl rfl) (Y3 G4))
   (G3 (Y9 AN rfl (a0y (by rfl) T.n_range (G0 (U5 (a4H rfl) (by rfl) T.n_min boot_min (G0 (U5 R5 (by rfl) T.n_len PySem.boot_len (G0 (pv 6) G4)) (G0 (G9 Z7 (G9 U6 (I0 J7 (pv 4) G2 (fun _ _=>rfl)) G2) (G9 E8 (G9 W8 (G9 U6 (G9 W8 (I0 J7 (pv 4) G2 (fun _ _=>rfl)) G2) G2) G2) G2)) G4))) G4)) (I9 (i:=8) B8.nd rfl (Or.inl rfl))
    (G3 (J1 (i:=9) B8.nd rfl (Or.inl rfl) (W0 O hr (by rfl) (G0 (pv 5) (G0 (I0 J7 (pv 1) G2 (fun _ _=>rfl)) (G0 (U5 R5 (by rfl) T.n_len PySem.boot_len (G0 (I0 J7 (pv 5) G2 (fun _ _=>rfl)) G4)) G4)))))
    (G3 (Y1 (D4 PySem.F.plainAttrs_list PySem.F.slot_list_append PySem.F.type_list_append Y5 (I0 J7 (pv 5) G2 (fun _ _=>rfl)) (G0 (pv 9) G4)))
    (G6 (Y1 (D4 PySem.F.plainAttrs_list PySem.F.slot_list_append PySem.F.type_list_append Y5 (pv 7) (G0 (R1 (G0 (I0 J7 (pv 6) (G9 U6 (G9 Z7 (I0 J7 (pv 4) G2 (fun _ _=>rfl)) (G9 E8 (pv 8) (G9 U6 (G9 W8 (I0 J7 (pv 4) G2 (fun _ _=>rfl)) G2) G2))) (U5 R5 (by rfl) T.n_len PySem.boot_len (G0 (pv 6) G4))) (fun _ _=>rfl)) (G0 (pv 9) G4))) G4)))))))
   (G6 (R9 (Y6 E2 (by rfl) T.n_tuple boot_tuple (G0 (pv 7) G4)))))))),?_⟩
  refine⟨_,rfl,_,rfl,l,_,_,_,rfl,rfl,SqL.of hh.ll,R3 mi,?_⟩
  refine⟨_,rfl,_,rfl,l,_,_,_,rfl,rfl,SqL.of hh.ll,R3 mj,qj.p,_,_,_,rfl,rfl,SqL.of Pj.p,rfl,?_⟩
  refine⟨a0s,fun d hd=>?_⟩
  have s1:G5 H (upd H d (.lst [])):=(G5.refl H).new hd
  refine⟨_,rfl,qj.g,_,rfl,.inl (SqL.of (s1 _ _ Pj.g)),?_⟩
  refine⟨_,rfl,x,_,_,_,rfl,rfl,SqL.of (s1 _ _ hx),Z1 V.int xs 0 (by decide) (by omega),_,_,rfl,rfl,(by show(0:Int) < 4;decide),?_⟩
  refine⟨_,rfl,x,_,_,_,rfl,rfl,SqL.of (s1 _ _ hx),Z1 V.int xs 0 (by decide) (by omega),_,_,rfl,rfl,⟨by decide,by decide⟩,_,_,rfl,rfl,(by show(0:Int) < 8;decide),_,_,rfl,rfl,⟨by decide,by decide⟩,_,_,rfl,rfl,.inl ⟨by omega,by omega⟩,_,_,rfl,rfl,?_⟩
  have hV:0<=xs.getD (2:Int).toNat 0 % 4+xs.getD (2:Int).toNat 0/4 % 8/7*3:=by omega
  have hW:xs.getD (2:Int).toNat 0 % 4+xs.getD (2:Int).toNat 0/4 % 8/7*3<=6:=by omega
  refine⟨_,_,rfl,?_⟩
  have hL:((D.gives.map V.str).length:Int)=D.gives.length:=by rw[List.length_map]
  have hN:0<=(if xs.getD (2:Int).toNat 0 % 4+xs.getD (2:Int).toNat 0/4 % 8/7*3 < ((D.gives.map V.str).length:Int)then xs.getD (2:Int).toNat 0 % 4+xs.getD (2:Int).toNat 0/4 % 8/7*3 else((D.gives.map V.str).length:Int)):=by split<;>omega
  have hO:(if xs.getD (2:Int).toNat 0 % 4+xs.getD (2:Int).toNat 0/4 % 8/7*3 < ((D.gives.map V.str).length:Int)then xs.getD (2:Int).toNat 0 % 4+xs.getD (2:Int).toNat 0/4 % 8/7*3 else((D.gives.map V.str).length:Int))<=6:=by split<;>omega
  have hP:(if xs.getD (2:Int).toNat 0 % 4+xs.getD (2:Int).toNat 0/4 % 8/7*3 < ((D.gives.map V.str).length:Int)then xs.getD (2:Int).toNat 0 % 4+xs.getD (2:Int).toNat 0/4 % 8/7*3 else((D.gives.map V.str).length:Int))<=D.gives.length:=by split<;>omega
  generalize (if xs.getD (2:Int).toNat 0 % 4+xs.getD (2:Int).toNat 0/4 % 8/7*3 < ((D.gives.map V.str).length:Int)then xs.getD (2:Int).toNat 0 % 4+xs.getD (2:Int).toNat 0/4 % 8/7*3 else((D.gives.map V.str).length:Int))=M at hN hO hP⊢
  have e0:hs.set i {B with owns:=Y0 G B.sh (n+0)}=hs:=by
   rw[Nat.add_zero,<-hC]
   obtain⟨U,he⟩:=List.getElem?_eq_some_iff.mp ei
   rw[<-he]
   exact List.set_getElem_self U
  have hf:∀hb:Pp,(hs.set i hb)[i]?=some hb:=fun hb=>BP (List.getElem?_eq_some_iff.mp ei).1
  have ho:∀hb:Pp,(hs.set i hb)[j]?=some D:=fun hb=>by rw[List.getElem?_set_ne hI];exact ej
  refine⟨_,rfl,(by omega),(by omega),a0g (fun t σ H2=>∃(ps:List (Str×Str))(vs:List V)(v8 v9:Option V),σ=[some (.ref l),some (.ref pl),some (.int i),some (.int j),some (.ref x),some (.ref J.p),some (.ref qj.g),some (.ref d),v8,v9]/\U4 H2 l A [d] (hs.set i {B with owns:=Y0 G B.sh (n+t)})/\B1 l A H H2/\H2 d=some (.lst vs)/\L2.a6z H2 vs ps/\ps.length=t/\Y0 G B.sh n++ps.map (·.2)=Y0 G B.sh (n+t)/\∀p∈ps,p.1∈D.gives)
   ⟨[],[],none,none,rfl,by rw[e0];exact(hh.aside hd).same s1,fun a o _ e=>s1 _ _ e,G1,.nil,rfl,by simp,fun p hp=>by simp at hp⟩ ?_ ?_⟩
  ·rintro t σ H2 ht ⟨ps,vs,v8,v9,rfl,h2,k2,hq,hm,Z,hy,hz⟩
   have P2:=h2.pt i J _ Y (hf _)
   have hM:((({B with owns:=Y0 G B.sh (n+t)}:Pp).owns.map V.str).length:Int)=((n+t:Nat):Int):=by rw[List.length_map];show((Y0 G B.sh (n+t)).length:Int)=_;rw[a1l]
   refine⟨_,rfl,_,rfl,pl,_,_,_,rfl,rfl,SqL.of (k2 _ _ hg.n hg.h),rfl,_,rfl,J.p,_,_,_,rfl,rfl,SqL.of P2.p,rfl,J.o,_,rfl,.inl (SqL.of P2.o),?_⟩
   refine⟨J.p,J.r,J.o,J.g,G,_,B.sh,rfl,P2.p,hg.r0.1,hg.r0.2,by omega,fun H3 s3=>?_⟩
   rw[hM]
   have P3:=(h2.same s3).pt i J _ Y (hf _)
   refine⟨_,rfl,J.p,_,_,_,rfl,rfl,SqL.of P3.p,rfl,.inl ⟨rfl,_,SqL.of P3.o⟩,_,rfl,J.o,_,_,rfl,rfl,P3.o,J8 (by rw[List.length_map];show(Y0 G B.sh (n+t)).length<=1000;rw[a1l];omega),?_⟩
   have h4:U4 (upd H3 (J.nth 2) (.lst (({B with owns:=Y0 G B.sh (n+t)}:Pp).owns.map V.str++[.str (Y7 G ((((n+t:Nat):Int)+B.sh) % 24))]))) l A [d] ((hs.set i {B with owns:=Y0 G B.sh (n+t)}).set i {B with owns:=Y0 G B.sh (n+(t+1))}):=by
    refine(h2.same s3).put Y (hf _) (by omega) (fun H' eH TT KK o4=>?_) ⟨_,P3.o⟩
    obtain⟨rv,r1,r2⟩:=P3.r
    refine⟨(o4 0 (by omega) (by omega)).trans P3.p,⟨rv,(o4 1 (by omega) (by omega)).trans r1,Paired.mapP r2 fun _ _ y=>y.keep TT fun a as ha hv=>⟨KK a as ha hv,ha⟩⟩,?_,(o4 3 (by omega) (by omega)).trans P3.g⟩
    rw[eH]
    show upd H3 J.o _ J.o=_
    rw[G1]
    show _=some (HO.lst ((Y0 G B.sh (n+t+1)).map V.str))
    rw[a1w,AG]
    rfl
   rw[List.set_set]at h4
   have T4:J9 H3 (upd H3 J.o (.lst (({B with owns:=Y0 G B.sh (n+t)}:Pp).owns.map V.str++[.str (Y7 G ((((n+t:Nat):Int)+B.sh) % 24))]))):=J9.lst P3.o
   have k4:B1 l A H (upd H3 J.o (.lst (({B with owns:=Y0 G B.sh (n+t)}:Pp).owns.map V.str++[.str (Y7 G ((((n+t:Nat):Int)+B.sh) % 24))]))):=fun a o ha e=>by
    have hw:a≠J.o:=fun z=>ha (Or.inr (Or.inr ⟨i,J,2,Y,by omega,z.symm⟩))
    rw[G8 hw]
    exact s3 _ _ (k2 a o ha e)
   have hc:upd H3 J.o (.lst (({B with owns:=Y0 G B.sh (n+t)}:Pp).owns.map V.str++[.str (Y7 G ((((n+t:Nat):Int)+B.sh) % 24))])) d=some (.lst vs):=by
    have hw:d≠J.o:=((h2.xl d AM).2 i J 2 Y (by omega)).symm
    rw[G8 hw]
    exact s3 _ _ hq
   have hB:U4 (upd H3 J.o (.lst (({B with owns:=Y0 G B.sh (n+t)}:Pp).owns.map V.str++[.str (Y7 G ((((n+t:Nat):Int)+B.sh) % 24))]))) l A [d] (hs.set i {B with owns:=Y0 G B.sh (n+(t+1))}):=h4
   have hu:L2.a6z (upd H3 J.o (.lst (({B with owns:=Y0 G B.sh (n+t)}:Pp).owns.map V.str++[.str (Y7 G ((((n+t:Nat):Int)+B.sh) % 24))]))) vs ps:=hm.mono (s3.tups.trans T4)
   clear h4
   generalize upd H3 J.o (.lst (({B with owns:=Y0 G B.sh (n+t)}:Pp).owns.map V.str++[.str (Y7 G ((((n+t:Nat):Int)+B.sh) % 24))]))=H4 at T4 k4 hc hB hu⊢
   have hG:=hB.pt j qj D hA (ho _)
   have hD:0 < ((D.gives.map V.str).length:Int):=by rw[hL];omega
   obtain⟨hX,hT⟩:=hJ 3 (by decide) (by decide)
   have hF:0<=(xs.getD (3:Int).toNat 0+(0+(t:Int))*(xs.getD (3:Int).toNat 0/7 % 2)) % ((D.gives.map V.str).length:Int):=Int.emod_nonneg _ (by omega)
   have hH:(xs.getD (3:Int).toNat 0+(0+(t:Int))*(xs.getD (3:Int).toNat 0/7 % 2)) % ((D.gives.map V.str).length:Int) < (D.gives.length:Int):=by rw[<-hL];exact Int.emod_lt_of_pos _ hD
   refine⟨_,rfl,.inl ⟨rfl,_,SqL.of hc⟩,_,rfl,_,rfl,x,_,_,_,rfl,rfl,SqL.of (k4 _ _ hE hx),Z1 V.int xs 0 (by decide) (by omega),?_⟩
   refine⟨_,rfl,_,rfl,x,_,_,_,rfl,rfl,SqL.of (k4 _ _ hE hx),Z1 V.int xs 0 (by decide) (by omega),_,_,rfl,rfl,⟨by decide,by decide⟩,_,_,rfl,rfl,(by show(0:Int) < 2;decide),_,_,rfl,rfl,.inl ⟨by omega,by omega⟩,_,_,rfl,rfl,?_⟩
   refine⟨_,rfl,qj.g,_,rfl,.inl (SqL.of hG.g),_,_,rfl,rfl,hD,qj.g,_,_,_,rfl,rfl,SqL.of hG.g,Z1 V.str D.gives "" hF hH,_,rfl,O4,fun tp hj=>?_⟩
   have s5:G5 H4 (upd H4 tp (.tup [.str (D.gives.getD ((xs.getD (3:Int).toNat 0+(0+(t:Int))*(xs.getD (3:Int).toNat 0/7 % 2)) % ((D.gives.map V.str).length:Int)).toNat ""),.str (Y7 G ((((n+t:Nat):Int)+B.sh) % 24))])):=(G5.refl H4).new hj
   refine⟨d,_,_,rfl,rfl,s5 _ _ hc,J8 (by rw[AE hu,Z];omega),?_⟩
   have hR:tp≠d:=fun z=>by rw[z,hc]at hj;cases hj
   have T6:=s5.tups.trans (J9.lst (ys:=vs++[.ref tp]) (s5 _ _ hc))
   refine⟨ps++[(D.gives.getD ((xs.getD (3:Int).toNat 0+(0+(t:Int))*(xs.getD (3:Int).toNat 0/7 % 2)) % ((D.gives.map V.str).length:Int)).toNat "",Y7 G ((((n+t:Nat):Int)+B.sh) % 24))],vs++[.ref tp],_,_,rfl,(hB.same s5).other AM (s5 _ _ hc),fun a o ha e=>?_,G1,Paired.snoc (hu.mono T6) ⟨tp,rfl,?_,?_,?_⟩,by rw[List.length_append,Z];rfl,?_,fun p hp=>?_⟩
   ·rw[G8 (fun z=>by rw[z,hd]at e;cases e)]
    exact s5 _ _ (k4 a o ha e)
   ·rw[G8 hR,G1]
   ·have U:((xs.getD (3:Int).toNat 0+(0+(t:Int))*(xs.getD (3:Int).toNat 0/7 % 2)) % ((D.gives.map V.str).length:Int)).toNat < D.gives.length:=by omega
    rw[BE,AQ U]
    exact hQ _ (List.getElem_mem U)
   ·exact a8O hg.r0.1
   ·rw[AG,<-BD,hy,<-Nat.add_assoc,a1w];rfl
   ·rcases AL.mp hp with z | z
    ·exact hz p z
    ·rw[AC.mp z]
     have U:((xs.getD (3:Int).toNat 0+(0+(t:Int))*(xs.getD (3:Int).toNat 0/7 % 2)) % ((D.gives.map V.str).length:Int)).toNat < D.gives.length:=by omega
     show D.gives.getD _ "" ∈_
     rw[BE,AQ U]
     exact List.getElem_mem U
  ·rintro σ H2 ⟨ps,vs,v8,v9,rfl,h2,k2,hq,hm,Z,hy,hz⟩
   refine⟨_,rfl,d,_,rfl,.inl ⟨SqL.of hq,fun b gb=>?_⟩⟩
   have s3:G5 H2 (upd H2 b (.tup vs)):=(G5.refl H2).new gb
   exact q M.toNat ps b _ (by omega) Z hy hz ⟨⟨vs,G1,hm.mono s3.tups⟩,by omega⟩ ((h2.same s3).back) (fun a o ha e=>s3 _ _ (k2 a o ha e))
noncomputable def b4q (K:W.Frag):Sp:=fun vs H Q _=>∃(a:Addr)(ns:List Int),vs=[.ref a]/\SqL K H a (ns.map V.int)/\∀(l:Addr)(b0 b1 b2:Int)(H':Hp),G5 H H'->H l=none->H' l=some (.lst [.int b0,.int b1,.int b2])->(0<=b0/\b0 < 2147483647)->(0<=b1/\b1 < 2147483647)->(0<=b2/\b2 < 2147483647)->Q (.ref l) H'
theorem b5E(x y:Int){k:Int}(j:0<=k)(h1:k < 2):atI [V.int x,V.int y] k=some (V.int (if k=0 then x else y)):=by
 have:k=0\/k=1:=by omega
 rcases this with rfl | rfl<;>rfl
theorem b3l(T:Txt K mg):L2.Cl P w K mg base 3 "_law_pools" ["_law_script"] (b4q K):=by
 have B:=a4d (P:=P) (w:=w) (base:=base) T
 have j:=b3U (P:=P) (w:=w) (base:=base) T
 refine Cl.of T.d_law_pools a0Y (fun Y H Q E h=>?_) (fun _ _ _ _ _ _ us hl=>by obtain⟨a,rfl⟩:=a3N hl;rfl) (fun f ha A outer s H Y Q E D h=>?_)
 ·obtain⟨a,ns,rfl,_⟩:=h
  rfl
 ·obtain⟨a,ns,rfl,J,q⟩:=h
  refine⟨_,(G3 (J1 (i:=1) a0Y.nd rfl (Or.inl rfl) (W0 B D (by rfl) (G0 (pv 0) (G0 G2 G4))))
   (G3 (J1 (i:=2) a0Y.nd rfl (Or.inl rfl) (W0 j D (by rfl) (G0 (pv 0) (G0 G2 G4))))
   (G3 (J1 (i:=3) a0Y.nd rfl (Or.inl rfl) (W0 j D (by rfl) (G0 (pv 0) (G0 G2 G4))))
   (G6 (R9 (Y3 (G0 (pv 2) (G0 (I0 J7 (Y3 (G0 (pv 2) (G0 (pv 3) G4))) (G9 U6 (G9 W8 (pv 1) G2) G2) (fun _ _=>rfl)) (G0 (I0 J7 (Y3 (G0 (pv 2) (G0 (pv 3) G4))) (G9 U6 (G9 W8 (pv 1) G2) G2) (fun _ _=>rfl)) G4))))))))),?_⟩
  refine⟨_,rfl,a,ns,0,rfl,J,(by decide),fun c=>?_⟩
  refine⟨_,rfl,a,ns,1,rfl,J,(by decide),fun x F G=>?_⟩
  refine⟨_,rfl,a,ns,2,rfl,J,(by decide),fun y Z hb=>?_⟩
  refine⟨_,rfl,_,rfl,_,rfl,O4,fun u U=>?_⟩
  refine⟨_,rfl,_,_,rfl,rfl,⟨by decide,by decide⟩,_,_,rfl,rfl,(by show(0:Int) < 2;decide),u,_,_,_,rfl,rfl,SqL.of G1,b5E x y (by omega) (by omega),?_⟩
  refine⟨_,rfl,_,rfl,O4,fun v hv=>?_⟩
  refine⟨_,rfl,_,_,rfl,rfl,⟨by decide,by decide⟩,_,_,rfl,rfl,(by show(0:Int) < 2;decide),v,_,_,_,rfl,rfl,SqL.of G1,b5E x y (by omega) (by omega),?_⟩
  refine⟨a0p,fun l hl=>?_⟩
  have O:=(((G5.refl H).new (o:= .lst [.int x,.int y]) U).new (o:= .lst [.int x,.int y]) hv)
  refine q l _ _ _ _ (O.new hl) (O.free hl) G1 ⟨F,G⟩ ?_ ?_
  ·split<;>constructor<;>assumption
  ·split<;>constructor<;>assumption
theorem a5N(x:Str):∀l:List Str,inV (.str x) (l.map V.str)=decide (x∈l)
 | []=>by simp[inV]
 | a::r=>by
  have j:=a5N x r
  unfold inV at j⊢
  rw[List.map_cons,List.any_cons,j]
  by_cases e:a=x
  ·subst e;simp[eqV]
  ·have h2:¬x=a:=fun z=>e z.symm
   simp[eqV,e,h2]
theorem b1c(l:List Str):(l.map V.str).all a1L=true:=by
 induction l with
 | nil=>rfl
 | cons a r j=>rw[List.map_cons,List.all_cons,j];rfl
theorem a9x{xs:List Int}(D:xs.length=6)(q:Bnd xs)(k:Int)(B:0<=k)(h1:k < 6):0<=xs.getD k.toNat 0/\xs.getD k.toNat 0 < 2147483647:=by
 have j:k.toNat < xs.length:=by omega
 rw[BE,AQ j]
 exact q _ (List.getElem_mem j)
noncomputable def b7i:Sp:=fun vs H Q _=>∃(o x:Addr)(ws:List Str)(xs:List Int),vs=[.ref o,.ref x]/\H o=some (.lst (ws.map V.str))/\(∀y∈ws,B0 y)/\H x=some (.lst (xs.map V.int))/\xs.length=6/\Bnd xs/\
 ∀(t:Addr)(ts:List (Int×Th))(H':Hp),G5 H H'->a1a H' t ts->a8I ts->(∀d∈ts,∀y,d.2=Th.nam y->y∈ws)->Q (.ref t) H'
theorem a4p(t n:Int)(q:0<=t):atI [V.int 1,V.int 1,V.int (-1)] ((if(1:Int) < t then 1 else t)*(1+n/7 % 2))=some (.int (if t=0 then 1 else if n/7 % 2=0 then 1 else -1)):=by
 have j:n/7 % 2=0\/n/7 % 2=1:=by omega
 by_cases e:t=0
 ·subst e
  rcases j with z | z<;>rw[z]<;>rfl
 ·have:(if(1:Int) < t then 1 else t)=1:=by split<;>omega
  rw[this,if_neg e]
  rcases j with z | z<;>rw[z]<;>rfl
theorem a4B{i:Nat}{σ:L2.St}{H:Hp}{Q:L2.St->Hp->Prop}(C:Int->Prop)(j:Int)(B:C j)(h:∀q:Int,C q->M3 i (V.int q) σ H Q):M3 i (V.int j) σ H Q:=h j B
theorem a1N{H H2 D:Hp}{o x l tp:Addr}{Y:List Str}{vs:List V}{ts:List (Int×Th)}{i:Nat}{n:Int}{a b c:Option V}(hl:H l=none)(s2:G5 H H2)(hc:H2 l=some (.lst vs))(hg:a5t H2 vs ts)(q:ts.length=i)(U:∀d∈ts,d.1=1\/d.1= -1)(hb:∀d,ts.head?=some d->d.1=1)(O:∀d∈ts,b0K d.2)(ha:∀d∈ts,∀y,d.2=Th.nam y->y∈Y)
  (Z:G5 H2 D){th:Th}(B:D tp=some (.tup [.int (if(i:Int)=0 then 1 else if n/7 % 2=0 then 1 else -1),thV th]))(hok:b0K th)(hf:∀y,th= .nam y->y∈Y):
  ∃(F:List V)(j:List (Int×Th))(v3 v4 v5:Option V),[some (V.ref o),some (V.ref x),some (V.ref l),a,b,c]=[some (.ref o),some (.ref x),some (.ref l),v3,v4,v5]/\G5 H (upd D l (.lst (vs++[.ref tp])))/\upd D l (.lst (vs++[.ref tp])) l=some (.lst F)/\a5t (upd D l (.lst (vs++[.ref tp]))) F j/\j.length=i+1/\(∀d∈j,d.1=1\/d.1= -1)/\(∀d,j.head?=some d->d.1=1)/\(∀d∈j,b0K d.2)/\(∀d∈j,∀y,d.2=Th.nam y->y∈Y):=by
 have G:=Z _ _ hc
 have T:J9 H2 (upd D l (.lst (vs++[.ref tp]))):=Z.tups.trans (J9.lst G)
 have J:tp≠l:=fun z=>by rw[z,G]at B;cases B
 have he:(if(i:Int)=0 then(1:Int)else if n/7 % 2=0 then 1 else -1)=1\/(if(i:Int)=0 then(1:Int)else if n/7 % 2=0 then 1 else -1)= -1:=by
  split
  ·exact .inl rfl
  ·split
   ·exact .inl rfl
   ·exact .inr rfl
 refine⟨vs++[.ref tp],ts++[((if(i:Int)=0 then 1 else if n/7 % 2=0 then 1 else -1),th)],a,b,c,rfl,(s2.trans Z).put hl,G1,Paired.snoc (hg.mono T) ⟨tp,rfl,by rw[G8 J];exact B,hok⟩,by rw[List.length_append,q];rfl,fun d hd=>?_,fun d hd=>?_,fun d hd=>?_,fun d hd=>?_⟩
 ·rcases AL.mp hd with z | z
  ·exact U d z
  ·rw[AC.mp z];exact he
 ·cases ts with
  | nil=>
   simp only[List.nil_append,List.head?_cons,Option.some.injEq]at hd
   rw[<-hd,<-q]
   rfl
  | cons p r=>exact hb d hd
 ·rcases AL.mp hd with z | z
  ·exact O d z
  ·rw[AC.mp z];exact hok
 ·rcases AL.mp hd with z | z
  ·exact ha d z
  ·rw[AC.mp z];exact hf
theorem b5Y(T:Txt K mg):L2.Cl P w K mg base 1 "_law_sum" ["_law_owns","_law_xs"] b7i:=by
 refine Cl.of T.d_law_sum a0d (fun vs H Q E h=>?_) (fun _ _ _ _ _ _ us hl=>by obtain⟨a,b,rfl⟩:=a4j hl;rfl) (fun f hE A outer s H vs Q E hr h=>?_)
 ·obtain⟨o,x,D,xs,rfl,_⟩:=h
  rfl
 ·obtain⟨o,x,D,xs,rfl,ho,ht,hx,h6,hb,q⟩:=h
  have hy:=Nat.lt_of_succ_lt (B2 hr)
  have R:=a9x h6 hb
  refine⟨_,(G3 (J1 (i:=2) a0d.nd rfl (Or.inl rfl) (Y3 G4))
   (G3 (Y9 AN rfl (a0y (by rfl) T.n_range (G0 (G9 Z7 (G9 Z7 G2 (G9 U6 (G9 W8 (I0 J7 (pv 1) G2 (fun _ _=>rfl)) G2) G2)) (G9 E8 (G9 W8 (G9 U6 (G9 W8 (I0 J7 (pv 1) G2 (fun _ _=>rfl)) G2) G2) G2) G2)) G4)) (I9 (i:=3) a0d.nd rfl (Or.inl rfl))
    (G3 (J1 (i:=4) a0d.nd rfl (Or.inl rfl) (G9 U6 (G9 E8 (G9 Z7 (I0 J7 (pv 1) G2 (fun _ _=>rfl)) (G9 E8 (G9 E8 G2 (pv 3)) (pv 3))) (G9 Z7 (I0 J7 (pv 1) G2 (fun _ _=>rfl)) (pv 3))) G2))
    (G3 (J1 (i:=5) a0d.nd rfl (Or.inl rfl) (G9 U6 (pv 4) G2))
    (G3 (U8 (J6 O3 (G9 U6 (G9 W8 (pv 4) G2) G2) G2 (U0 _))
     (G6 (J1 (i:=5) a0d.nd rfl (Or.inl rfl) (G9 U6 (G9 E8 (G9 E8 (G9 E8 (G9 E8 (G9 E8 (G9 Z7 (pv 4) G2) (I0 J7 (pv 1) G2 (fun _ _=>rfl))) (I0 J7 (pv 1) G2 (fun _ _=>rfl))) (I0 J7 (pv 1) G2 (fun _ _=>rfl))) (I0 J7 (pv 1) G2 (fun _ _=>rfl))) (I0 J7 (pv 1) G2 (fun _ _=>rfl))) (G9 a9V G2 G2)))) R8)
    (G3 (U8 (PW.pt (a0x (J6 (a1j hy) (pv 0) (Y3 G4) (U0 _)) (M1 (J6 a6d (G9 U6 (G9 W8 (pv 4) G2) G2) G2 (U0 _)))))
     (G6 (J1 (i:=5) a0d.nd rfl (Or.inl rfl) (I0 J7 (pv 0) (G9 U6 (G9 W8 (pv 4) G2) (U5 R5 (by rfl) T.n_len PySem.boot_len (G0 (pv 0) G4))) (fun _ _=>rfl)))) R8)
    (G6 (Y1 (D4 PySem.F.plainAttrs_list PySem.F.slot_list_append PySem.F.type_list_append Y5 (pv 2) (G0 (R1 (G0 (I0 J7 (Y3 (G0 G2 (G0 G2 (G0 (b0c a7l G2) G4)))) (G9 E8 (U5 (a4H rfl) (by rfl) T.n_min boot_min (G0 (pv 3) (G0 G2 G4))) (G9 Z7 G2 (G9 U6 (G9 W8 (pv 4) G2) G2))) (fun _ _=>rfl)) (G0 (pv 5) G4))) G4)))))))))
   (G6 (R9 (Y6 E2 (by rfl) T.n_tuple boot_tuple (G0 (pv 2) G4)))))),?_⟩
  refine⟨a0s,fun l hl=>?_⟩
  have s1:G5 H (upd H l (.lst [])):=(G5.refl H).new hl
  refine⟨_,rfl,x,_,_,_,rfl,rfl,SqL.of (s1 _ _ hx),Z1 V.int xs 0 (by decide) (by omega),_,_,rfl,rfl,⟨by decide,by decide⟩,_,_,rfl,rfl,(by show(0:Int) < 3;decide),_,_,rfl,rfl,?_⟩
  refine⟨_,rfl,x,_,_,_,rfl,rfl,SqL.of (s1 _ _ hx),Z1 V.int xs 0 (by decide) (by omega),_,_,rfl,rfl,⟨by decide,by decide⟩,_,_,rfl,rfl,(by show(0:Int) < 4;decide),_,_,rfl,rfl,⟨by decide,by decide⟩,_,_,rfl,rfl,.inl ⟨by omega,by omega⟩,_,_,rfl,rfl,?_⟩
  have hz:1<=1+xs.getD (1:Int).toNat 0/4 % 3+xs.getD (1:Int).toNat 0/12 % 4/3*3:=by omega
  have hA:1+xs.getD (1:Int).toNat 0/4 % 3+xs.getD (1:Int).toNat 0/12 % 4/3*3<=6:=by omega
  generalize 1+xs.getD (1:Int).toNat 0/4 % 3+xs.getD (1:Int).toNat 0/12 % 4/3*3=M at hz hA⊢
  refine⟨_,rfl,(by omega),(by omega),a0g (fun i σ H2=>∃(vs:List V)(ts:List (Int×Th))(v3 v4 v5:Option V),σ=[some (.ref o),some (.ref x),some (.ref l),v3,v4,v5]/\G5 H H2/\H2 l=some (.lst vs)/\a5t H2 vs ts/\ts.length=i/\(∀d∈ts,d.1=1\/d.1= -1)/\(∀d,ts.head?=some d->d.1=1)/\(∀d∈ts,b0K d.2)/\(∀d∈ts,∀y,d.2=Th.nam y->y∈D))
   ⟨[],[],none,none,none,rfl,s1,G1,.nil,rfl,fun d hd=>by simp at hd,fun d hd=>by simp at hd,fun d hd=>by simp at hd,fun d hd=>by simp at hd⟩ ?_ ?_⟩
  ·rintro i σ H2 hi ⟨vs,ts,v3,v4,v5,rfl,s2,j,G,B,ha,hf,Y,hc⟩
   rw[Int.zero_add]
   have hw:(i:Int)<=5:=by omega
   have Z:(0:Int)<=i:=by omega
   have r2:=R 2 (by decide) (by decide)
   have r3:=R 3 (by decide) (by decide)
   have hC:0<=613*(i:Int)*i:=Int.mul_nonneg (by omega) Z
   have hB:613*(i:Int)*i<=613*5*5:=Int.mul_le_mul (by omega) hw Z (by decide)
   have hh:=s2 _ _ hx
   have hk:=s2 _ _ ho
   refine⟨_,rfl,x,_,_,_,rfl,rfl,SqL.of hh,Z1 V.int xs 0 (by decide) (by omega),_,rfl,_,_,rfl,rfl,.inl ⟨by omega,by omega⟩,_,rfl,_,_,rfl,rfl,.inl ⟨by omega,by omega⟩,_,_,rfl,rfl,?_⟩
   refine⟨_,rfl,x,_,_,_,rfl,rfl,SqL.of hh,Z1 V.int xs 0 (by decide) (by omega),_,rfl,_,_,rfl,rfl,_,_,rfl,rfl,.inl ⟨by omega,by omega⟩,_,_,rfl,rfl,(by show(0:Int) < 2147483629;decide),?_⟩
   show M3 4 (V.int ((xs.getD (2:Int).toNat 0+613*(i:Int)*i)*(xs.getD (3:Int).toNat 0+i) % 2147483629)) _ _ _
   obtain⟨n,hD,hF,hu⟩:∃n:Int,0<=n/\n < 2147483629/\(xs.getD (2:Int).toNat 0+613*(i:Int)*i)*(xs.getD (3:Int).toNat 0+i) % 2147483629=n:=⟨_,by omega,by omega,rfl⟩
   rw[hu]
   clear hu
   refine⟨_,rfl,_,_,rfl,rfl,(by show(0:Int) < 10;decide),?_⟩
   refine⟨_,rfl,_,_,rfl,rfl,⟨by decide,by decide⟩,_,_,rfl,rfl,(by show(0:Int) < 4;decide),rfl,_,rfl,a6J (fun e1=>?_) (fun e1=>?_)⟩
   ·have r0:=R 0 (by decide) (by decide)
    have r1:=R 1 (by decide) (by decide)
    have r4:=R 4 (by decide) (by decide)
    have r5:=R 5 (by decide) (by decide)
    refine⟨_,rfl,_,_,rfl,rfl,_,rfl,x,_,_,_,rfl,rfl,SqL.of hh,Z1 V.int xs 0 (by decide) (by omega),_,_,rfl,rfl,.inr ⟨by omega,by omega⟩,?_⟩
    refine⟨_,rfl,x,_,_,_,rfl,rfl,SqL.of hh,Z1 V.int xs 0 (by decide) (by omega),_,_,rfl,rfl,.inr ⟨by omega,by omega⟩,?_⟩
    refine⟨_,rfl,x,_,_,_,rfl,rfl,SqL.of hh,Z1 V.int xs 0 (by decide) (by omega),_,_,rfl,rfl,.inr ⟨by omega,by omega⟩,?_⟩
    refine⟨_,rfl,x,_,_,_,rfl,rfl,SqL.of hh,Z1 V.int xs 0 (by decide) (by omega),_,_,rfl,rfl,.inr ⟨by omega,by omega⟩,?_⟩
    refine⟨_,rfl,x,_,_,_,rfl,rfl,SqL.of hh,Z1 V.int xs 0 (by decide) (by omega),_,_,rfl,rfl,.inr ⟨by omega,by omega⟩,?_⟩
    refine⟨_,_,rfl,rfl,⟨by decide,by decide,by decide⟩,_,_,rfl,rfl,(by show(0:Int) < 10 ^ (60:Int).toNat;decide),?_⟩
    refine a4B (fun m=>0<=m/\m < 10 ^ 60) _ ⟨Int.emod_nonneg _ (by decide),Int.emod_lt_of_pos _ (by decide)⟩ (fun m hm=>?_)
    refine⟨_,rfl,a0s,fun e he=>?_⟩
    have O:G5 H2 (upd H2 e (.lst [])):=(G5.refl H2).new he
    refine⟨o,e,_,rfl,rfl,SqL.of (O _ _ hk),SqL.of G1,_,rfl,?_⟩
    refine a3q (fun c1=>?_) (fun c1=>?_)
    ·have hp:0 < ((D.map V.str).length:Int):=by
      cases D with
      | nil=>exact absurd c1 (by decide)
      | cons a r=>rw[List.length_map,List.length_cons];omega
     refine⟨_,rfl,_,_,rfl,rfl,⟨by decide,by decide⟩,_,_,rfl,rfl,(by show(0:Int) < 4;decide),_,_,rfl,rfl,_,rfl,?_⟩
     refine a3q (fun c2=>?_) (fun c2=>?_)
     ·have hL:((D.map V.str).length:Int)=D.length:=by rw[List.length_map]
      have hq:0<=n/40 % ((D.map V.str).length:Int):=Int.emod_nonneg _ (by omega)
      have hs:n/40 % ((D.map V.str).length:Int) < (D.length:Int):=by rw[<-hL];exact Int.emod_lt_of_pos _ hp
      refine⟨_,rfl,_,rfl,_,_,rfl,rfl,⟨by decide,by decide⟩,_,rfl,o,_,rfl,.inl (SqL.of (O _ _ hk)),_,_,rfl,rfl,hp,o,_,_,_,rfl,rfl,SqL.of (O _ _ hk),Z1 V.str D "" hq hs,?_⟩
      have hj:D.getD (n/40 % ((D.map V.str).length:Int)).toNat "" ∈D:=by
       have hn:(n/40 % ((D.map V.str).length:Int)).toNat < D.length:=by omega
       rw[BE,AQ hn]
       exact List.getElem_mem hn
      generalize D.getD (n/40 % ((D.map V.str).length:Int)).toNat ""=y at hj⊢
      refine⟨_,rfl,.inl ⟨rfl,_,SqL.of (O _ _ j)⟩,_,rfl,a0p,fun g hg=>?_⟩
      have s4:G5 H2 (upd (upd H2 e (.lst [])) g (.lst [.int 1,.int 1,.int (-1)])):=(O).new hg
      refine⟨_,rfl,_,_,rfl,_,rfl,_,_,rfl,rfl,⟨by decide,by decide⟩,_,_,rfl,rfl,(by show(0:Int) < 2;decide),_,_,rfl,rfl,_,_,rfl,rfl,.inl ⟨by split<;>omega,by split<;>omega⟩,g,_,_,_,rfl,rfl,SqL.of G1,a4p i n Z,?_⟩
      refine⟨_,rfl,O4,fun tp J=>?_⟩
      have U:=s4.new (o:= .tup [.int (if(i:Int)=0 then 1 else if n/7 % 2=0 then 1 else -1),thV (.nam y)]) J
      refine⟨l,_,_,rfl,rfl,U _ _ j,J8 (by rw[AE G,B];omega),?_⟩
      exact a1N hl s2 j G B ha hf Y hc U G1 (th:= .nam y) (ht y hj) (fun z ez=>by cases ez;exact hj)
     ·refine⟨_,rfl,.inl ⟨rfl,_,SqL.of (O _ _ j)⟩,_,rfl,a0p,fun g hg=>?_⟩
      have s4:G5 H2 (upd (upd H2 e (.lst [])) g (.lst [.int 1,.int 1,.int (-1)])):=(O).new hg
      refine⟨_,rfl,_,_,rfl,_,rfl,_,_,rfl,rfl,⟨by decide,by decide⟩,_,_,rfl,rfl,(by show(0:Int) < 2;decide),_,_,rfl,rfl,_,_,rfl,rfl,.inl ⟨by split<;>omega,by split<;>omega⟩,g,_,_,_,rfl,rfl,SqL.of G1,a4p i n Z,?_⟩
      refine⟨_,rfl,O4,fun tp J=>?_⟩
      have U:=s4.new (o:= .tup [.int (if(i:Int)=0 then 1 else if n/7 % 2=0 then 1 else -1),thV (.num m)]) J
      refine⟨l,_,_,rfl,rfl,U _ _ j,J8 (by rw[AE G,B];omega),?_⟩
      exact a1N hl s2 j G B ha hf Y hc U G1 (th:= .num m) hm (fun z ez=>by cases ez)
    ·refine F8 ?_
     refine⟨_,rfl,.inl ⟨rfl,_,SqL.of (O _ _ j)⟩,_,rfl,a0p,fun g hg=>?_⟩
     have s4:G5 H2 (upd (upd H2 e (.lst [])) g (.lst [.int 1,.int 1,.int (-1)])):=(O).new hg
     refine⟨_,rfl,_,_,rfl,_,rfl,_,_,rfl,rfl,⟨by decide,by decide⟩,_,_,rfl,rfl,(by show(0:Int) < 2;decide),_,_,rfl,rfl,_,_,rfl,rfl,.inl ⟨by split<;>omega,by split<;>omega⟩,g,_,_,_,rfl,rfl,SqL.of G1,a4p i n Z,?_⟩
     refine⟨_,rfl,O4,fun tp J=>?_⟩
     have U:=s4.new (o:= .tup [.int (if(i:Int)=0 then 1 else if n/7 % 2=0 then 1 else -1),thV (.num m)]) J
     refine⟨l,_,_,rfl,rfl,U _ _ j,J8 (by rw[AE G,B];omega),?_⟩
     exact a1N hl s2 j G B ha hf Y hc U G1 (th:= .num m) hm (fun z ez=>by cases ez)
   ·have hm:0<=n % 10/\n % 10 < 10 ^ 60:=⟨by omega,Int.lt_of_lt_of_le (show n % 10 < 10 by omega) (by decide)⟩
    show a2p _ [some (.ref o),some (.ref x),some (.ref l),some (.int i),some (.int n),some (.int (n % 10))] _
    generalize n % 10=m at hm⊢
    refine⟨_,rfl,a0s,fun e he=>?_⟩
    have O:G5 H2 (upd H2 e (.lst [])):=(G5.refl H2).new he
    refine⟨o,e,_,rfl,rfl,SqL.of (O _ _ hk),SqL.of G1,_,rfl,?_⟩
    refine a3q (fun c1=>?_) (fun c1=>?_)
    ·have hp:0 < ((D.map V.str).length:Int):=by
      cases D with
      | nil=>exact absurd c1 (by decide)
      | cons a r=>rw[List.length_map,List.length_cons];omega
     refine⟨_,rfl,_,_,rfl,rfl,⟨by decide,by decide⟩,_,_,rfl,rfl,(by show(0:Int) < 4;decide),_,_,rfl,rfl,_,rfl,?_⟩
     refine a3q (fun c2=>?_) (fun c2=>?_)
     ·have hL:((D.map V.str).length:Int)=D.length:=by rw[List.length_map]
      have hq:0<=n/40 % ((D.map V.str).length:Int):=Int.emod_nonneg _ (by omega)
      have hs:n/40 % ((D.map V.str).length:Int) < (D.length:Int):=by rw[<-hL];exact Int.emod_lt_of_pos _ hp
      refine⟨_,rfl,_,rfl,_,_,rfl,rfl,⟨by decide,by decide⟩,_,rfl,o,_,rfl,.inl (SqL.of (O _ _ hk)),_,_,rfl,rfl,hp,o,_,_,_,rfl,rfl,SqL.of (O _ _ hk),Z1 V.str D "" hq hs,?_⟩
      have hj:D.getD (n/40 % ((D.map V.str).length:Int)).toNat "" ∈D:=by
       have hn:(n/40 % ((D.map V.str).length:Int)).toNat < D.length:=by omega
       rw[BE,AQ hn]
       exact List.getElem_mem hn
      generalize D.getD (n/40 % ((D.map V.str).length:Int)).toNat ""=y at hj⊢
      refine⟨_,rfl,.inl ⟨rfl,_,SqL.of (O _ _ j)⟩,_,rfl,a0p,fun g hg=>?_⟩
      have s4:G5 H2 (upd (upd H2 e (.lst [])) g (.lst [.int 1,.int 1,.int (-1)])):=(O).new hg
      refine⟨_,rfl,_,_,rfl,_,rfl,_,_,rfl,rfl,⟨by decide,by decide⟩,_,_,rfl,rfl,(by show(0:Int) < 2;decide),_,_,rfl,rfl,_,_,rfl,rfl,.inl ⟨by split<;>omega,by split<;>omega⟩,g,_,_,_,rfl,rfl,SqL.of G1,a4p i n Z,?_⟩
      refine⟨_,rfl,O4,fun tp J=>?_⟩
      have U:=s4.new (o:= .tup [.int (if(i:Int)=0 then 1 else if n/7 % 2=0 then 1 else -1),thV (.nam y)]) J
      refine⟨l,_,_,rfl,rfl,U _ _ j,J8 (by rw[AE G,B];omega),?_⟩
      exact a1N hl s2 j G B ha hf Y hc U G1 (th:= .nam y) (ht y hj) (fun z ez=>by cases ez;exact hj)
     ·refine⟨_,rfl,.inl ⟨rfl,_,SqL.of (O _ _ j)⟩,_,rfl,a0p,fun g hg=>?_⟩
      have s4:G5 H2 (upd (upd H2 e (.lst [])) g (.lst [.int 1,.int 1,.int (-1)])):=(O).new hg
      refine⟨_,rfl,_,_,rfl,_,rfl,_,_,rfl,rfl,⟨by decide,by decide⟩,_,_,rfl,rfl,(by show(0:Int) < 2;decide),_,_,rfl,rfl,_,_,rfl,rfl,.inl ⟨by split<;>omega,by split<;>omega⟩,g,_,_,_,rfl,rfl,SqL.of G1,a4p i n Z,?_⟩
      refine⟨_,rfl,O4,fun tp J=>?_⟩
      have U:=s4.new (o:= .tup [.int (if(i:Int)=0 then 1 else if n/7 % 2=0 then 1 else -1),thV (.num m)]) J
      refine⟨l,_,_,rfl,rfl,U _ _ j,J8 (by rw[AE G,B];omega),?_⟩
      exact a1N hl s2 j G B ha hf Y hc U G1 (th:= .num m) hm (fun z ez=>by cases ez)
    ·refine F8 ?_
     refine⟨_,rfl,.inl ⟨rfl,_,SqL.of (O _ _ j)⟩,_,rfl,a0p,fun g hg=>?_⟩
     have s4:G5 H2 (upd (upd H2 e (.lst [])) g (.lst [.int 1,.int 1,.int (-1)])):=(O).new hg
     refine⟨_,rfl,_,_,rfl,_,rfl,_,_,rfl,rfl,⟨by decide,by decide⟩,_,_,rfl,rfl,(by show(0:Int) < 2;decide),_,_,rfl,rfl,_,_,rfl,rfl,.inl ⟨by split<;>omega,by split<;>omega⟩,g,_,_,_,rfl,rfl,SqL.of G1,a4p i n Z,?_⟩
     refine⟨_,rfl,O4,fun tp J=>?_⟩
     have U:=s4.new (o:= .tup [.int (if(i:Int)=0 then 1 else if n/7 % 2=0 then 1 else -1),thV (.num m)]) J
     refine⟨l,_,_,rfl,rfl,U _ _ j,J8 (by rw[AE G,B];omega),?_⟩
     exact a1N hl s2 j G B ha hf Y hc U G1 (th:= .num m) hm (fun z ez=>by cases ez)
  ·rintro σ H2 ⟨vs,ts,v3,v4,v5,rfl,s2,j,G,B,ha,hf,Y,hc⟩
   refine⟨_,rfl,l,_,rfl,.inl ⟨SqL.of j,fun b gb=>?_⟩⟩
   have O:G5 H2 (upd H2 b (.tup vs)):=(G5.refl H2).new gb
   exact q b ts _ (s2.trans O) ⟨⟨vs,G1,G.mono O.tups⟩,by omega,by omega⟩ ⟨by omega,by omega,Y,ha,hf⟩ hc
theorem a3s{α β:Type}{F:α->β->Prop}:∀{xs j:List α}{ys q:List β},Paired F xs ys->Paired F j q->Paired F (xs++j) (ys++q)
 | _,_,_,_,.nil,h=>h
 | _,_,_,_,.cons r t,h=> .cons r (a3s t h)
theorem a4P{α β:Type}{F:α->β->Prop}:∀{xs:List α}{ys:List β}(n:Nat),Paired F xs ys->Paired F (xs.take n) (ys.take n)
 | _,_,0,_=>by simp only[List.take_zero];exact .nil
 | _,_,n+1,.nil=>by simp only[List.take_nil];exact .nil
 | _,_,n+1,.cons r t=> .cons r (a4P n t)
theorem a4T{α β:Type}{F:α->β->Prop}:∀{xs:List α}{ys:List β}(n:Nat),Paired F xs ys->Paired F (xs.drop n) (ys.drop n)
 | _,_,0,h=>h
 | _,_,n+1,.nil=>by simp only[List.drop_nil];exact .nil
 | _,_,n+1,.cons r t=>a4T n t
theorem B1.refl(l:Addr)(A:List Q4)(H:Hp):B1 l A H H:=fun _ _ _ e=>e
theorem B1.same{l:Addr}{A:List Q4}{H H1 H2:Hp}(k:B1 l A H H1)(s:G5 H1 H2):B1 l A H H2:=fun a o j e=>s _ _ (k a o j e)
theorem B1.trans{l:Addr}{A:List Q4}{H H1 H2:Hp}(k:B1 l A H H1)(s:B1 l A H1 H2):B1 l A H H2:=fun a o j e=>s _ _ j (k a o j e)
theorem B1.put{l:Addr}{A:List Q4}{H H1:Hp}(k:B1 l A H H1){i:Nat}{q:Q4}{x:Nat}{o:HO}(e:A[i]?=some q)(hx:x < 4):B1 l A H (upd H1 (q.nth x) o):=fun a c j B=>by
 rw[G8 (fun z=>j (Or.inr (Or.inr ⟨i,q,x,e,hx,z.symm⟩)))]
 exact k a c j B
theorem a1F{H:Hp}{l:Addr}{A:List Q4}{G:List Pp}(h:U4 H l A [] G){i:Nat}{q:Q4}{B:Pp}{vs:List V}{v:V}{pr:Pr}(k:Nat)(J:A[i]?=some q)(Y:G[i]?=some B)(hv:H q.r=some (.lst vs))(hp:a7n H (inH l A []) v pr):
  U4 (upd H q.r (.lst (vs.take k++v::vs.drop k))) l A [] (G.set i {B with rows:=B.rows.take k++pr::B.rows.drop k}):=by
 refine h.put (x:=1) J Y (by omega) (fun H' eH TT KK D=>?_) ⟨_,hv⟩
 have P:=h.pt i q B J Y
 obtain⟨j,r1,r2⟩:=P.r
 have Z:j=vs:=by
  have:some (HO.lst j)=some (HO.lst vs):=r1.symm.trans hv
  injection this with this
  injection this
 subst Z
 have kp:∀{w:V}{z:Pr},a7n H (inH l A []) w z->a7n H' (inH l A []) w z:=fun y=>y.keep TT fun a as U F=>⟨KK a as U F,U⟩
 refine⟨(D 0 (by omega) (by omega)).trans P.p,⟨j.take k++v::j.drop k,?_,?_⟩,(D 2 (by omega) (by omega)).trans P.o,(D 3 (by omega) (by omega)).trans P.g⟩
 ·rw[eH];exact G1
 ·have O:=Paired.mapP r2 fun _ _ y=>kp y
  exact a3s (a4P k O) (.cons (kp hp) (a4T k O))
theorem b1N{H:Hp}{l:Addr}{A:List Q4}{G:List Pp}(h:U4 H l A [] G){i:Nat}{q:Q4}{j:Pp}(y:Str)(J:A[i]?=some q)(U:G[i]?=some j):
  U4 (upd H q.o (.lst (j.owns.map V.str++[.str y]))) l A [] (G.set i {j with owns:=j.owns++[y]}):=by
 have P:=h.pt i q j J U
 refine h.put (x:=2) J U (by omega) (fun H' Z TT Y D=>?_) ⟨_,P.o⟩
 obtain⟨B,r1,r2⟩:=P.r
 refine⟨(D 0 (by omega) (by omega)).trans P.p,⟨B,(D 1 (by omega) (by omega)).trans r1,Paired.mapP r2 fun _ _ y=>y.keep TT fun a as O F=>⟨Y a as O F,O⟩⟩,?_,(D 3 (by omega) (by omega)).trans P.g⟩
 rw[Z]
 show upd H q.o _ q.o=_
 rw[G1,AG]
 rfl
theorem a9R{H:Hp}{l:Addr}{A:List Q4}{G:List Pp}(h:U4 H l A [] G){i:Nat}{q:Q4}{j:Pp}(y:Str)(J:A[i]?=some q)(U:G[i]?=some j):
  U4 (upd H q.g (.lst (j.gives.map V.str++[.str y]))) l A [] (G.set i {j with gives:=j.gives++[y]}):=by
 have P:=h.pt i q j J U
 refine h.put (x:=3) J U (by omega) (fun H' Z TT Y D=>?_) ⟨_,P.g⟩
 obtain⟨B,r1,r2⟩:=P.r
 refine⟨(D 0 (by omega) (by omega)).trans P.p,⟨B,(D 1 (by omega) (by omega)).trans r1,Paired.mapP r2 fun _ _ y=>y.keep TT fun a as O F=>⟨Y a as O F,O⟩⟩,(D 2 (by omega) (by omega)).trans P.o,?_⟩
 rw[Z]
 show upd H q.g _ q.g=_
 rw[G1,AG]
 rfl
noncomputable def a0V:Pr->List Str
 | .own _ n _=> [n]
 | .bring _ ps _=>ps.map (·.2)
 | _=> []
noncomputable def a4O:Pr->List Str
 | .give _ g _=> [g]
 | _=> []
noncomputable def a9e (xs:List Int):Prop:=xs.length=6/\Bnd xs
noncomputable def a8p (hs:List Pp) (i:Nat):Pr->Prop
 | .own k n xs=>(k="set" \/k="take")/\a9e xs
 | .bring j ps xs=>j < hs.length/\j≠i/\ps.length<=6/\(∀p∈ps,∃pq,hs[j]?=some pq/\p.1∈pq.gives)/\a9e xs
 | .give o g xs=>(∃pp,hs[i]?=some pp/\o∈pp.owns)/\a9e xs
 | .ask j xs=>j < hs.length/\j≠i/\a9e xs
 | .sum k xs=>(k="say" \/k="need")/\a9e xs
structure b5M(b0 b1:Int)(hs:List Pp)(i:Nat)(pp:Pp):Prop where
 n:∃n,pp.owns=Y0 b0 pp.sh n/\n<=23
 m:∃m,pp.gives=Y0 b1 pp.sh m/\m<=23
 r:pp.rows.length<=40
 md:(pp.rows.flatMap a0V).Perm pp.owns
 gv:(pp.rows.flatMap a4O).Perm pp.gives
 ok:∀pr∈pp.rows,a8p hs i pr
noncomputable def a6l (b0 b1:Int) (hs:List Pp):Prop:=∀i pp,hs[i]?=some pp->b5M b0 b1 hs i pp
theorem a8p.mono{J B:List Pp}(hl:B.length=J.length)(hg:∀(j:Nat)D,J[j]?=some D->∃q,B[j]?=some q/\(∀y∈D.owns,y∈q.owns)/\(∀y∈D.gives,y∈q.gives)){i:Nat}{pr:Pr}(h:a8p J i pr):a8p B i pr:=by
 cases pr with
 | own k n xs=>exact h
 | bring j ps xs=>
  obtain⟨h1,h2,U,h4,G⟩:=h
  refine⟨by rw[hl];exact h1,h2,U,fun p Z=>?_,G⟩
  obtain⟨D,e,m⟩:=h4 p Z
  obtain⟨q,O,_,F⟩:=hg j D e
  exact⟨q,O,F _ m⟩
 | give o g xs=>
  obtain⟨⟨Y,e,m⟩,G⟩:=h
  obtain⟨q,O,F,_⟩:=hg i Y e
  exact⟨⟨q,O,F _ m⟩,G⟩
 | ask j xs=>exact⟨by rw[hl];exact h.1,h.2⟩
 | sum k xs=>exact h
theorem a8j{β:Type}(f:Pr->List β)(rs:List Pr)(k:Nat)(y:Pr):((rs.take k++y::rs.drop k).flatMap f).Perm (f y++rs.flatMap f):=by
 rw[List.flatMap_append,BC]
 refine(List.perm_append_comm_assoc _ _ _).trans ?_
 rw[<-List.flatMap_append,BQ]
theorem a6l.put{b0 b1:Int}{Z:List Pp}(h:a6l b0 b1 Z){i:Nat}{F q:Pp}{k:Nat}{y:Pr}(e:Z[i]?=some F)(hn:∃n,q.owns=Y0 b0 q.sh n/\n<=23)(hm:∃m,q.gives=Y0 b1 q.sh m/\m<=23)(hr:q.rows=F.rows.take k++y::F.rows.drop k)(ha:F.rows.length<=39)
  (ho:(a0V y++F.owns).Perm q.owns)(hg:(a4O y++F.gives).Perm q.gives)(hy:a8p (Z.set i q) i y):a6l b0 b1 (Z.set i q):=by
 have hi:=(List.getElem?_eq_some_iff.mp e).1
 have G:∀(j:Nat)O,Z[j]?=some O->∃Y,(Z.set i q)[j]?=some Y/\(∀y∈O.owns,y∈Y.owns)/\(∀y∈O.gives,y∈Y.gives):=fun j O J=>by
  by_cases B:i=j
  ·subst B
   rw[e]at J
   cases J
   exact⟨q,BP hi,fun z U=>ho.mem_iff.mp (AV _ U),fun z U=>hg.mem_iff.mp (AV _ U)⟩
  ·exact⟨O,by rw[List.getElem?_set_ne B];exact J,fun z U=>U,fun z U=>U⟩
 intro j O J
 by_cases B:i=j
 ·subst B
  rw[BP hi]at J
  cases J
  have P:=h i F e
  refine⟨hn,hm,?_,?_,?_,fun pr D=>?_⟩
  ·rw[hr,List.length_append,List.length_cons,AY,List.length_drop];omega
  ·rw[hr]
   exact(a8j a0V F.rows k y).trans ((List.Perm.append_left _ P.md).trans ho)
  ·rw[hr]
   exact(a8j a4O F.rows k y).trans ((List.Perm.append_left _ P.gv).trans hg)
  ·rw[hr]at D
   rcases AL.mp D with z | z
   ·exact(P.ok pr (List.mem_of_mem_take z)).mono (List.length_set ..) G
   ·rcases List.mem_cons.mp z with z | z
    ·rw[z];exact hy
    ·exact(P.ok pr (List.mem_of_mem_drop z)).mono (List.length_set ..) G
 ·rw[List.getElem?_set_ne B]at J
  have P:=h j O J
  exact⟨P.n,P.m,P.r,P.md,P.gv,fun pr D=>(P.ok pr D).mono (List.length_set ..) G⟩
noncomputable def Giv (hs:List Pp) (j:Nat) (g o:Str):Prop:=∃pq xs,hs[j]?=some pq/\Pr.give o g xs∈pq.rows
noncomputable def a6i (hs:List Pp):Prop:=∃(rk:Nat->Str->Nat)(B:Nat),(∀i o,rk i o<=B)/\∀i pp,hs[i]?=some pp->∀j ps xs,Pr.bring j ps xs∈pp.rows->∀q∈ps,∃o,Giv hs j q.1 o/\rk j o < rk i q.2
theorem Giv.put{F:List Pp}{i:Nat}{G q:Pp}(e:F[i]?=some G)(O:∀r∈G.rows,r∈q.rows){j:Nat}{g o:Str}(h:Giv F j g o):Giv (F.set i q) j g o:=by
 obtain⟨J,xs,D,h1⟩:=h
 by_cases B:i=j
 ·subst B
  rw[e]at D
  cases D
  exact⟨q,xs,BP (List.getElem?_eq_some_iff.mp e).1,O _ h1⟩
 ·exact⟨J,xs,by rw[List.getElem?_set_ne B];exact D,h1⟩
theorem a5h{α:Type}{l:List α}{k:Nat}{y:α}:∀r,r∈l.take k++y::l.drop k↔r∈l\/r=y:=fun r=>by
 have h:=BQ k l
 constructor
 ·intro z
  rcases AL.mp z with z | z
  ·exact .inl (List.mem_of_mem_take z)
  ·rcases List.mem_cons.mp z with z | z
   ·exact .inr z
   ·exact .inl (List.mem_of_mem_drop z)
 ·rintro(z | z)
  ·rw[<-h]at z
   rcases AL.mp z with z | z
   ·exact AX _ z
   ·exact AV _ (AK _ z)
  ·rw[z]
   exact AV _ AM
theorem a6i.put{Y:List Pp}(h:a6i Y){i:Nat}{G D:Pp}{k:Nat}{y:Pr}(e:Y[i]?=some G)(Z:D.rows=G.rows.take k++y::G.rows.drop k)(hy:∀j ps xs,y≠ .bring j ps xs):a6i (Y.set i D):=by
 obtain⟨rk,B,hB,h⟩:=h
 have hi:=(List.getElem?_eq_some_iff.mp e).1
 have F:∀r∈G.rows,r∈D.rows:=fun r z=>by rw[Z];exact(a5h r).mpr (.inl z)
 refine⟨rk,B,hB,fun a pa O j ps xs U q hq=>?_⟩
 by_cases J:i=a
 ·subst J
  rw[BP hi]at O
  cases O
  rw[Z]at U
  rcases(a5h _).mp U with z | z
  ·obtain⟨o,h1,h2⟩:=h i G e j ps xs z q hq
   exact⟨o,h1.put e F,h2⟩
  ·exact absurd z.symm (hy j ps xs)
 ·rw[List.getElem?_set_ne J]at O
  obtain⟨o,h1,h2⟩:=h a pa O j ps xs U q hq
  exact⟨o,h1.put e F,h2⟩
theorem b0r{rows:List Pr}{g:Str}(h:g∈rows.flatMap a4O):∃o xs,Pr.give o g xs∈rows:=by
 obtain⟨pr,h1,h2⟩:=BH.mp h
 cases pr with
 | give o g' xs=>
  have:g=g':=by simpa [a4O]using h2
  subst this
  exact⟨o,xs,h1⟩
 | _=>simp[a4O]at h2
theorem a6i.bring{b0 b1:Int}{hs:List Pp}(h:a6i hs)(hI:a6l b0 b1 hs){i j:Nat}{G Y pq:Pp}{k:Nat}{ps:List (Str×Str)}{xs:List Int}(e:hs[i]?=some G)(ej:hs[j]?=some pq)(hk:j≠i)(hr:Y.rows=G.rows.take k++Pr.bring j ps xs::G.rows.drop k)(hg:∀q∈ps,q.1∈pq.gives)(hn:∀q∈ps,q.2∉G.owns):a6i (hs.set i Y):=by
 obtain⟨rk,B,hB,h⟩:=h
 have hi:=(List.getElem?_eq_some_iff.mp e).1
 have ha:∀r∈G.rows,r∈Y.rows:=fun r z=>by rw[hr];exact(a5h r).mpr (.inl z)
 have O:∀o∈G.owns,o∉ps.map (·.2):=fun o ho z=>by
  obtain⟨q,F,z⟩:=AO.mp z
  exact hn q F (by rw[z];exact ho)
 have hc:∀{a:Nat}{g o:Str},Giv hs a g o->¬(a=i/\o∈ps.map (·.2)):=fun{a g o}hv z=>by
  obtain⟨pa,ys,ea,Z⟩:=hv
  obtain⟨⟨hj,he,ho⟩,_⟩:=(hI a pa ea).ok _ Z
  rw[z.1,e]at he
  cases he
  exact O o ho z.2
 have U:∀{J:Nat}{D:List (Str×Str)}{ys:List Int},Pr.bring J D ys∈G.rows->∀q∈D,q.2∉ps.map (·.2):=fun{J D ys}Z q F=>by
  refine O q.2 ((hI i G e).md.mem_iff.mp (BH.mpr ⟨_,Z,?_⟩))
  exact AS (f:=(·.2)) F
 refine⟨fun a o=>if a=i/\o∈ps.map (·.2)then B+1 else rk a o,B+1,fun a o=>?_,fun a pa ea J D ys Z q F=>?_⟩
 ·by_cases z:a=i/\o∈ps.map (·.2)
  ·simp only[if_pos z];omega
  ·simp only[if_neg z]
   have:=hB a o
   omega
 ·by_cases hb:i=a
  ·subst hb
   rw[BP hi]at ea
   cases ea
   rw[hr]at Z
   rcases(a5h _).mp Z with z | z
   ·obtain⟨o,h1,h2⟩:=h i G e J D ys z q F
    refine⟨o,h1.put e ha,?_⟩
    show(if J=i/\o∈ps.map (·.2)then B+1 else rk J o) < (if i=i/\q.2∈ps.map (·.2)then B+1 else rk i q.2)
    rw[if_neg (hc h1),if_neg (fun y:i=i/\q.2∈ps.map (·.2)=>U z q F y.2)]
    exact h2
   ·cases z
    obtain⟨o,hf,hh⟩:=b0r ((hI j pq ej).gv.mem_iff.mpr (hg q F))
    have h1:Giv hs j q.1 o:=⟨pq,hf,ej,hh⟩
    refine⟨o,h1.put e ha,?_⟩
    show(if j=i/\o∈ps.map (·.2)then B+1 else rk j o) < (if i=i/\q.2∈ps.map (·.2)then B+1 else rk i q.2)
    rw[if_neg (hc h1),if_pos (show i=i/\q.2∈ps.map (·.2)from⟨rfl,AS (f:=(·.2)) F⟩)]
    have:=hB j o
    omega
  ·rw[List.getElem?_set_ne hb]at ea
   obtain⟨o,h1,h2⟩:=h a pa ea J D ys Z q F
   refine⟨o,h1.put e ha,?_⟩
   show(if J=i/\o∈ps.map (·.2)then B+1 else rk J o) < (if a=i/\q.2∈ps.map (·.2)then B+1 else rk a q.2)
   rw[if_neg (hc h1),if_neg (fun y:a=i/\q.2∈ps.map (·.2)=>hb y.1.symm)]
   exact h2
noncomputable def b4C:Sp:=fun vs H Q _=>∃(l pl x:Addr)(A:List Q4)(hs:List Pp)(b0 b1 b2:Int)(xs:List Int),vs=[.ref l,.ref pl,.ref x]/\U4 H l A [] hs/\a2R H pl l A b0 b1 b2/\a7N H (inH l A []) x xs/\a9e xs/\1<=hs.length/\hs.length<=24/\a6l b0 b1 hs/\a6i hs/\
 ∀(hs':List Pp)(H':Hp),U4 H' l A [] hs'->hs'.length=hs.length->a6l b0 b1 hs'->a6i hs'->B1 l A H H'->Q .non H'
theorem a4n{t u:TT}{σ:L2.St}{H:Hp}{a b:Bool}(ht:∀Q:Bool->Hp->Prop,Q a H->t σ H Q)(j:∀Q:Bool->Hp->Prop,Q b H->u σ H Q):∀Q:Bool->Hp->Prop,Q (a && b) H->b0S t u σ H Q:=fun Q h=>by
 refine ht _ ?_
 cases a with
 | true=>exact B9 (j _ h)
 | false=>exact F8 h
theorem b3A{t u:TT}{σ:L2.St}{H:Hp}{a b:Bool}{Q:Bool->Hp->Prop}(ht:∀Q:Bool->Hp->Prop,Q a H->t σ H Q)(j:∀Q:Bool->Hp->Prop,Q b H->u σ H Q)(h:Q (a || b) H):tOr t u σ H Q:=by
 refine ht _ ?_
 cases a with
 | true=>exact B9 h
 | false=>exact F8 (j _ h)
theorem b1i{t u:TT}{A B R:TS}{D:a0m}{σ:L2.St}{H:Hp}{a b:Bool}(ht:∀Q:Bool->Hp->Prop,Q a H->t σ H Q)(j:∀Q:Bool->Hp->Prop,Q b H->u σ H Q)(h:if(a || b)=true then A {D with nx:=R D} σ H else B {D with nx:=R D} σ H):a3e (a5I (tOr t u) A B) R D σ H:=b3A ht j h
theorem b2S{t u:TT}{A B R:TS}{D j:a0m}{σ:L2.St}{H:Hp}{a b:Bool}(e:j.nx=a3e (a5I (tOr t u) A B) R D)(ht:∀Q:Bool->Hp->Prop,Q a H->t σ H Q)(q:∀Q:Bool->Hp->Prop,Q b H->u σ H Q)(h:if(a || b)=true then A {D with nx:=R D} σ H else B {D with nx:=R D} σ H):a2p j σ H:=by
 show j.nx σ H
 rw[e]
 exact b1i ht q h
theorem b3S{t u:TT}{A B:TS}{D:a0m}{σ:L2.St}{H:Hp}{a b:Bool}(ht:∀Q:Bool->Hp->Prop,Q a H->t σ H Q)(j:∀Q:Bool->Hp->Prop,Q b H->u σ H Q)(h:if(a && b)=true then A D σ H else B D σ H):a5I (b0S t u) A B D σ H:=a4n ht j _ h
theorem b4j{t u:TT}{A B:TS}{D:a0m}{σ:L2.St}{H:Hp}{a b:Bool}(ht:∀Q:Bool->Hp->Prop,Q a H->t σ H Q)(j:∀Q:Bool->Hp->Prop,(∀H1,G5 H H1->Q b H1)->u σ H Q)(h:∀H1,G5 H H1->if(a && b)=true then A D σ H1 else B D σ H1):a5I (b0S t u) A B D σ H:=by
 refine ht _ ?_
 cases a with
 | true=>exact B9 (j _ h)
 | false=>exact F8 (h H (G5.refl H))
theorem b2l{c:Int}(j:0<=c)(h1:c < 4):∃k:Str,atI [V.str "set",V.str "set",V.str "set",V.str "take"] c=some (.str k)/\(k="set" \/k="take"):=by
 have:c=0\/c=1\/c=2\/c=3:=by omega
 rcases this with rfl | rfl | rfl | rfl
 ·exact⟨_,rfl,.inl rfl⟩
 ·exact⟨_,rfl,.inl rfl⟩
 ·exact⟨_,rfl,.inl rfl⟩
 ·exact⟨_,rfl,.inr rfl⟩
theorem a9G{c:Int}(j:0<=c)(h1:c < 2):∃k:Str,atI [V.str "say",V.str "need"] c=some (.str k)/\(k="say" \/k="need"):=by
 have:c=0\/c=1:=by omega
 rcases this with rfl | rfl
 ·exact⟨_,rfl,.inl rfl⟩
 ·exact⟨_,rfl,.inr rfl⟩
theorem b2T{a L y:Int}{i:Nat}(B:0 < L)(hi:(i:Int) < L)(Y:0<=y):∃j:Nat,((i:Int)+1+y % (if L - 1 > 1 then L - 1 else 1)) % L=j/\(j:Int) < L/\(1 < L->j≠i):=by
 have q:(0:Int) < (if L - 1 > 1 then L - 1 else 1):=by split<;>omega
 have r0:=Int.emod_nonneg y (Int.ne_of_gt q)
 have r1:=Int.emod_lt_of_pos y q
 have r2:1 < L->y % (if L - 1 > 1 then L - 1 else 1) < L - 1:=fun h=>by
  have:(if L - 1 > 1 then L - 1 else 1)<=L - 1:=by split<;>omega
  omega
 have U:¬1 < L->y % (if L - 1 > 1 then L - 1 else 1)=0:=fun h=>by
  have:(if L - 1 > 1 then L - 1 else 1)=1:=by rw[if_neg (by omega)]
  rw[this]at r0 r1⊢
  omega
 generalize y % (if L - 1 > 1 then L - 1 else 1)=r at*
 have J:=Int.emod_nonneg ((i:Int)+1+r) (Int.ne_of_gt B)
 have O:=Int.emod_lt_of_pos ((i:Int)+1+r) B
 refine⟨(((i:Int)+1+r) % L).toNat,by omega,by omega,fun h z=>?_⟩
 have G:=r2 h
 by_cases D:(i:Int)+1+r < L
 ·rw[Int.emod_eq_of_lt (by omega) D]at z
  omega
 ·have F:((i:Int)+1+r) % L=(i:Int)+1+r - L:=by
   rw[show(i:Int)+1+r=((i:Int)+1+r - L)+L by omega,Int.add_emod_right,Int.emod_eq_of_lt (by omega) (by omega)]
   omega
  rw[F]at z
  omega
theorem a2R.keep{H H':Hp}{D l:Addr}{A:List Q4}{j q B:Int}(h:a2R H D l A j q B)(k:B1 l A H H'):a2R H' D l A j q B:=⟨k _ _ h.n h.h,h.n,h.r0,h.r1,h.r2⟩
theorem b3T{c:Bool}{N:L2.St->Hp->Prop}{H:Hp}(S:Int->L2.St)(C:Int->Prop)(k1 j:Int)(h1:c=true->C k1)(h2:c=false->C j)(h:∀k,C k->N (S k) H):if c=true then N (S k1) H else N (S j) H:=by
 cases c with
 | true=>exact B9 (h _ (h1 rfl))
 | false=>exact F8 (h _ (h2 rfl))
theorem a1D{b sh:Int}(B:0<=b){n:Nat}(F:n<=24):(Y0 b sh n).Nodup:=by
 unfold Y0
 rw[BJ,List.pairwise_map]
 refine List.Pairwise.imp_of_mem (fun{i j}hi D q h=>q ?_) List.nodup_range
 have h1:=List.mem_range.mp hi
 have h2:=List.mem_range.mp D
 have:=a4C B (by omega) (by omega) (by omega) (by omega) h
 omega
theorem b3k(T:Txt K mg):L2.Cl P w K mg base 4 "_law_added" ["_law_house","_law_pools_here","_law_xs"] b4C:=by
 have U:=a8F (P:=P) (w:=w) (base:=base) T
 have hq:=b3M (P:=P) (w:=w) (base:=base) T
 refine Cl.of T.d_law_added F1 (fun vs H Q E h=>?_) (fun _ _ _ _ _ _ us hl=>by obtain⟨a,b,c,rfl⟩:=a6n hl;rfl) (fun f sx A' outer s H vs Q E hr h=>?_)
 ·obtain⟨l,pl,x,A,hs,b0,b1,b2,xs,rfl,_⟩:=h
  rfl
 ·obtain⟨l,pl,x,A,hs,b0,b1,b2,xs,rfl,hh,ht,⟨hx,Y⟩,⟨h6,hb⟩,sB,sw,hI,hR,q⟩:=h
  have sl:=Nat.lt_of_succ_lt (B2 hr)
  have R:=a9x h6 hb
  have sn:((A.map fun q=>V.ref q.p).length:Int)=hs.length:=by rw[List.length_map,hh.len]
  have hz:(0:Int) < ((A.map fun q=>V.ref q.p).length:Int):=by rw[sn];omega
  refine⟨_,(G3 (J1 (i:=3) F1.nd rfl (Or.inl rfl) (G9 U6 (I0 J7 (pv 2) G2 (fun _ _=>rfl)) (U5 R5 (by rfl) T.n_len PySem.boot_len (G0 (pv 0) G4))))
   (G3 (J1 (i:=4) F1.nd rfl (Or.inl rfl) (I0 J7 (pv 0) (pv 3) (fun _ _=>rfl)))
   (G3 (J1 (i:=5) F1.nd rfl (Or.inl rfl) (G9 U6 (I0 J7 (pv 2) G2 (fun _ _=>rfl)) (G9 Z7 (U5 R5 (by rfl) T.n_len PySem.boot_len (G0 (I0 J7 (pv 4) G2 (fun _ _=>rfl)) G4)) G2)))
   (G3 (J1 (i:=6) F1.nd rfl (Or.inl rfl) (G9 U6 (I0 J7 (pv 2) G2 (fun _ _=>rfl)) G2))
   (G3 (J1 (i:=7) F1.nd rfl (Or.inl rfl) (G9 U6 (G9 Z7 (G9 Z7 (pv 3) G2) (G9 U6 (I0 J7 (pv 2) G2 (fun _ _=>rfl)) (U5 (a6I rfl) (by rfl) T.n_max boot_max (G0 G2 (G0 (G9 a9J (U5 R5 (by rfl) T.n_len PySem.boot_len (G0 (pv 0) G4)) G2) G4))))) (U5 R5 (by rfl) T.n_len PySem.boot_len (G0 (pv 0) G4))))
   (G3 (U8 (J6 a6d (U5 R5 (by rfl) T.n_len PySem.boot_len (G0 (I0 J7 (pv 4) G2 (fun _ _=>rfl)) G4)) G2 (U0 _))
    (G6 b4E) R8)
   (G3 (U8 (PW.pt (b3Q (PW.pt (a0x (J6 a6d (U5 R5 (by rfl) T.n_len PySem.boot_len (G0 (I0 J7 (pv 4) G2 (fun _ _=>rfl)) G4)) G2 (U0 _)) (M1 (J6 a6s (pv 6) G2 (U0 _))))) (a9X (PW.pt (a0x (J6 a6d (U5 R5 (by rfl) T.n_len PySem.boot_len (G0 (I0 J7 (pv 4) G2 (fun _ _=>rfl)) G4)) G2 (U0 _)) (M1 (J6 a6s (pv 6) G2 (U0 _))))))))
    (G6 (J1 (i:=6) F1.nd rfl (Or.inl rfl) G2)) R8)
   (G6 (U8 (J6 a6s (pv 6) G2 (U0 _))
    (G3 (J1 (i:=8) F1.nd rfl (Or.inl rfl) (W0 U hr (by rfl) (G0 (pv 4) (G0 (I0 J7 (pv 1) G2 (fun _ _=>rfl)) (G0 (U5 R5 (by rfl) T.n_len PySem.boot_len (G0 (I0 J7 (pv 4) G2 (fun _ _=>rfl)) G4)) G4)))))
    (G3 (Y1 (D4 PySem.F.plainAttrs_list PySem.F.slot_list_append PySem.F.type_list_append Y5 (I0 J7 (pv 4) G2 (fun _ _=>rfl)) (G0 (pv 8) G4)))
    (G6 (Y1 (D4 PySem.F.plainAttrs_list PySem.F.slot_list_insert PySem.F.type_list_insert a1H (I0 J7 (pv 4) G2 (fun _ _=>rfl)) (G0 (pv 5) (G0 (R1 (G0 (I0 J7 (Y3 (b5o (.cons (.cons (.cons (.cons .nil)))))) (pv 6) (fun _ _=>rfl)) (G0 (pv 8) (G0 (pv 2) G4)))) G4))))))) (G6 (U8 (PW.pt (a0x (J6 a6s (pv 6) G2 (U0 _)) (M1 (J6 a6d (U5 R5 (by rfl) T.n_len PySem.boot_len (G0 (pv 0) G4)) G2 (U0 _)))))
     (G6 (Y1 (D4 PySem.F.plainAttrs_list PySem.F.slot_list_insert PySem.F.type_list_insert a1H (I0 J7 (pv 4) G2 (fun _ _=>rfl)) (G0 (pv 5) (G0 (R1 (G0 R7 (G0 (R1 (G0 (pv 7) (G0 (W0 hq hr (by rfl) (G0 (pv 0) (G0 (pv 1) (G0 (pv 3) (G0 (pv 7) (G0 (pv 2) G4)))))) G4))) (G0 (pv 2) G4)))) G4))))) (G6 (U8 (PW.pt (a0x (J6 a6s (pv 6) G2 (U0 _)) (M1 (J6 (a1j sl) (I0 J7 (pv 4) G2 (fun _ _=>rfl)) (Y3 G4) (U0 _)))))
      (G3 (J1 (i:=9) F1.nd rfl (Or.inl rfl) (W0 U hr (by rfl) (G0 (pv 4) (G0 (I0 J7 (pv 1) G2 (fun _ _=>rfl)) (G0 (U5 R5 (by rfl) T.n_len PySem.boot_len (G0 (I0 J7 (pv 4) G2 (fun _ _=>rfl)) G4)) G4)))))
      (G3 (Y1 (D4 PySem.F.plainAttrs_list PySem.F.slot_list_append PySem.F.type_list_append Y5 (I0 J7 (pv 4) G2 (fun _ _=>rfl)) (G0 (pv 9) G4)))
      (G6 (Y1 (D4 PySem.F.plainAttrs_list PySem.F.slot_list_insert PySem.F.type_list_insert a1H (I0 J7 (pv 4) G2 (fun _ _=>rfl)) (G0 (pv 5) (G0 (R1 (G0 R7 (G0 (R1 (G0 (I0 J7 (I0 J7 (pv 4) G2 (fun _ _=>rfl)) (G9 U6 (I0 J7 (pv 2) G2 (fun _ _=>rfl)) (U5 R5 (by rfl) T.n_len PySem.boot_len (G0 (I0 J7 (pv 4) G2 (fun _ _=>rfl)) G4))) (fun _ _=>rfl)) (G0 (pv 9) G4))) (G0 (pv 2) G4)))) G4))))))) (G6 (U8 (PW.pt (a0x (J6 O3 (pv 6) G2 (U0 _)) (M1 (J6 a6d (U5 R5 (by rfl) T.n_len PySem.boot_len (G0 (pv 0) G4)) G2 (U0 _)))))
       (G6 (Y1 (D4 PySem.F.plainAttrs_list PySem.F.slot_list_insert PySem.F.type_list_insert a1H (I0 J7 (pv 4) G2 (fun _ _=>rfl)) (G0 (pv 5) (G0 (R1 (G0 R7 (G0 (pv 7) (G0 (pv 2) G4)))) G4))))) (G6 (Y1 (D4 PySem.F.plainAttrs_list PySem.F.slot_list_insert PySem.F.type_list_insert a1H (I0 J7 (pv 4) G2 (fun _ _=>rfl)) (G0 (pv 5) (G0 (R1 (G0 (I0 J7 (Y3 (G0 R7 (G0 R7 G4))) (G9 U6 (I0 J7 (pv 2) G2 (fun _ _=>rfl)) G2) (fun _ _=>rfl)) (G0 a2u (G0 (pv 2) G4)))) G4)))))))))))))))))))),?_⟩
  refine⟨_,rfl,x,_,_,_,rfl,rfl,SqL.of hx,Z1 V.int xs 0 (by decide) (by omega),_,rfl,l,_,rfl,.inl (SqL.of hh.ll),_,_,rfl,rfl,hz,?_⟩
  show M3 3 (V.int (xs.getD (5:Int).toNat 0 % ((A.map fun q=>V.ref q.p).length:Int))) _ _ _
  obtain⟨i,hi,hS⟩:∃i:Nat,i < hs.length/\xs.getD (5:Int).toNat 0 % ((A.map fun q=>V.ref q.p).length:Int)=i:=⟨(xs.getD (5:Int).toNat 0 % ((A.map fun q=>V.ref q.p).length:Int)).toNat,by have:=Int.emod_lt_of_pos (xs.getD (5:Int).toNat 0) hz;have:=Int.emod_nonneg (xs.getD (5:Int).toNat 0) (Int.ne_of_gt hz);omega,by have:=Int.emod_nonneg (xs.getD (5:Int).toNat 0) (Int.ne_of_gt hz);omega⟩
  rw[hS]
  clear hS
  obtain⟨B,ei⟩:∃B,hs[i]?=some B:=⟨hs[i],by simp[hi]⟩
  obtain⟨D,G⟩:∃q,A[i]?=some q:=⟨A[i]'(by rw[hh.len];exact hi),by simp[hh.len,hi]⟩
  have mi:(A.map fun q=>V.ref q.p)[i]?=some (.ref D.p):=by rw[List.getElem?_map,G];rfl
  have Pi:=hh.pt i D B G ei
  obtain⟨rv,hK,sf⟩:=Pi.r
  have sy:rv.length=B.rows.length:=AE sf
  have OK:=hI i B ei
  obtain⟨n,hn,hA⟩:=OK.n
  obtain⟨m,hm,hy⟩:=OK.m
  have hM:(B.owns.map V.str).length=n:=by rw[List.length_map,hn,a1l]
  have sd:(B.gives.map V.str).length=m:=by rw[List.length_map,hm,a1l]
  refine⟨_,rfl,_,rfl,l,_,_,_,rfl,rfl,SqL.of hh.ll,R3 mi,?_⟩
  refine⟨_,rfl,x,_,_,_,rfl,rfl,SqL.of hx,Z1 V.int xs 0 (by decide) (by omega),_,rfl,D.p,_,_,_,rfl,rfl,SqL.of Pi.p,rfl,D.r,_,rfl,.inl (SqL.of hK),_,_,rfl,rfl,_,_,rfl,rfl,(by show(0:Int) < (rv.length:Int)+1;omega),?_⟩
  show M3 5 (V.int (xs.getD (4:Int).toNat 0 % ((rv.length:Int)+1))) _ _ _
  obtain⟨k,hk,hT⟩:∃k:Nat,k<=rv.length/\xs.getD (4:Int).toNat 0 % ((rv.length:Int)+1)=k:=⟨(xs.getD (4:Int).toNat 0 % ((rv.length:Int)+1)).toNat,by have:=Int.emod_lt_of_pos (xs.getD (4:Int).toNat 0) (show(0:Int) < (rv.length:Int)+1 by omega);have:=Int.emod_nonneg (xs.getD (4:Int).toNat 0) (show(rv.length:Int)+1≠0 by omega);omega,by have:=Int.emod_nonneg (xs.getD (4:Int).toNat 0) (show(rv.length:Int)+1≠0 by omega);omega⟩
  rw[hT]
  clear hT
  refine⟨_,rfl,x,_,_,_,rfl,rfl,SqL.of hx,Z1 V.int xs 0 (by decide) (by omega),_,_,rfl,rfl,(by show(0:Int) < 10;decide),?_⟩
  refine a4B (fun d=>0<=d/\d < 10) _ ⟨by omega,by omega⟩ (fun d hd=>?_)
  have sr:(0:Int) < (if((A.map fun q=>V.ref q.p).length:Int) - 1 > 1 then((A.map fun q=>V.ref q.p).length:Int) - 1 else 1):=by split<;>omega
  refine⟨_,rfl,_,_,rfl,rfl,_,rfl,x,_,_,_,rfl,rfl,SqL.of hx,Z1 V.int xs 0 (by decide) (by omega),_,rfl,l,_,rfl,.inl (SqL.of hh.ll),_,_,rfl,rfl,_,_,rfl,_,_,rfl,rfl,sr,_,_,rfl,rfl,_,rfl,l,_,rfl,.inl (SqL.of hh.ll),_,_,rfl,rfl,hz,?_⟩
  refine a4B (fun j=>∃j':Nat,j=j'/\j' < hs.length/\(1 < hs.length->j'≠i)) _ ?_ (fun j hj=>?_)
  ·obtain⟨j',e1,e2,e3⟩:=b2T (a:=0) (y:=xs.getD (1:Int).toNat 0) (i:=i) hz (by omega) (R 1 (by decide) (by decide)).1
   exact⟨j',e1,by omega,fun h=>e3 (by omega)⟩
  obtain⟨j,rfl,hj,hV⟩:=hj
  refine⟨_,rfl,D.p,_,_,_,rfl,rfl,SqL.of Pi.p,rfl,D.r,_,rfl,.inl (SqL.of hK),_,_,rfl,rfl,_,rfl,?_⟩
  refine a3q (fun c0=>?_) (fun c0=>?_)
  ·exact q hs H hh rfl hI hR (B1.refl l A H)
  have hB:B.rows.length<=39:=by
   have:¬((rv.length:Int) > 39):=by simpa using c0
   omega
  apply b2S
  ·with_reducible_and_instances rfl
  ·exact a4n (a:=decide (((B.owns.map V.str).length:Int) > 17)) (b:=decide (d < 6)) (fun Q' h=>⟨_,rfl,D.p,_,_,_,rfl,rfl,SqL.of Pi.p,rfl,D.o,_,rfl,.inl (SqL.of Pi.o),_,_,rfl,rfl,_,rfl,h⟩) (fun Q' h=>⟨_,rfl,_,_,rfl,rfl,_,rfl,h⟩)
  ·exact a4n (a:=decide (((B.gives.map V.str).length:Int) > 22)) (b:=decide (d < 8)) (fun Q' h=>⟨_,rfl,D.p,_,_,_,rfl,rfl,SqL.of Pi.p,rfl,D.g,_,rfl,.inl (SqL.of Pi.g),_,_,rfl,rfl,_,rfl,h⟩) (fun Q' h=>⟨_,rfl,_,_,rfl,rfl,_,rfl,h⟩)
  refine b3T (S:=fun e=> [some (.ref l),some (.ref pl),some (.ref x),some (.int i),some (.ref D.p),some (.int k),some (.int e),some (.int j),none,none]) (fun c=>0<=c/\c < 10/\(c < 6->n<=17)/\(c < 8->m<=22)) 8 d ?_ ?_ (fun c hc=>?_)
  ·exact fun _=>⟨by decide,by decide,fun h=>absurd h (by decide),fun h=>absurd h (by decide)⟩
  ·intro hf
   simp only[Bool.or_eq_false_iff,Bool.and_eq_false_iff,decide_eq_false_iff_not]at hf
   exact⟨hd.1,hd.2,fun h=>by omega,fun h=>by omega⟩
  obtain⟨sk,sA,se,sq⟩:=hc
  have Z:∀hE:Pp,(hs.set i hE)[i]?=some hE:=fun hE=>BP hi
  refine⟨_,rfl,_,_,rfl,rfl,_,rfl,?_⟩
  refine a3q (fun c1=>?_) (fun c1=>?_)
  ·have hP:c < 4:=by simpa using c1
   obtain⟨kk,hG,hF⟩:=b2l sk hP
   refine⟨_,rfl,_,rfl,pl,_,_,_,rfl,rfl,SqL.of ht.h,rfl,_,rfl,D.p,_,_,_,rfl,rfl,SqL.of Pi.p,rfl,D.o,_,rfl,.inl (SqL.of Pi.o),?_⟩
   refine⟨D.p,D.r,D.o,D.g,b0,_,B.sh,rfl,Pi.p,ht.r0.1,ht.r0.2,by omega,fun H3 s3=>?_⟩
   rw[hM]
   have h3:=hh.same s3
   have P3:=h3.pt i D B G ei
   refine⟨_,rfl,D.p,_,_,_,rfl,rfl,SqL.of P3.p,rfl,.inl ⟨rfl,_,SqL.of P3.o⟩,_,rfl,D.o,_,_,rfl,rfl,P3.o,J8 (by rw[hM];omega),?_⟩
   have h4:=b1N h3 (Y7 b0 (((n:Int)+B.sh) % 24)) G ei
   have k4:B1 l A H (upd H3 D.o (.lst (B.owns.map V.str++[.str (Y7 b0 (((n:Int)+B.sh) % 24))]))):=((B1.refl l A H).same s3).put (x:=2) G (by omega)
   generalize upd H3 D.o (.lst (B.owns.map V.str++[.str (Y7 b0 (((n:Int)+B.sh) % 24))]))=H4 at h4 k4⊢
   have P4:=h4.pt i D _ G (Z _)
   obtain⟨hw,J,hu⟩:=P4.r
   have hD:hw.length=B.rows.length:=AE hu
   refine⟨_,rfl,D.p,_,_,_,rfl,rfl,SqL.of P4.p,rfl,.inl ⟨rfl,_,SqL.of J⟩,_,rfl,(by show 4<=sizeLine;decide),fun g hg=>?_⟩
   have s5:G5 H4 (upd H4 g (.lst [.str "set",.str "set",.str "set",.str "take"])):=(G5.refl H4).new hg
   refine⟨_,rfl,g,_,_,_,rfl,rfl,SqL.of G1,hG,_,rfl,_,rfl,a0p,fun tp ha=>?_⟩
   have O:=s5.new (o:= .tup [.str kk,.str (Y7 b0 (((n:Int)+B.sh) % 24)),.ref x]) ha
   refine⟨D.r,_,_,_,rfl,rfl,O _ _ J,(by omega),(by show(k:Int)<=(hw.length:Int);omega),J8 (by omega),?_⟩
   have h7:=a1F (h4.same O) (pr:= .own kk (Y7 b0 (((n:Int)+B.sh) % 24)) xs) k G (Z _) (O _ _ J) ⟨tp,x,rfl,G1,(k4.same O) _ _ Y hx,Y⟩
   rw[List.set_set]at h7
   refine q _ _ h7 (List.length_set ..) ?_ (hR.put (k:=k) (y:= .own kk (Y7 b0 (((n:Int)+B.sh) % 24)) xs) ei rfl (fun _ _ _ z=>by cases z)) ((k4.same O).put (x:=1) G (by omega))
   exact hI.put (k:=k) (y:= .own kk (Y7 b0 (((n:Int)+B.sh) % 24)) xs) ei ⟨n+1,by show B.owns++[_]=_;rw[hn,a1w],by have:=se (by omega);omega⟩ ⟨m,hm,hy⟩ rfl hB List.perm_append_comm (List.Perm.refl _) ⟨hF,h6,hb⟩
  have hP:¬c < 4:=by simpa using c1
  with_reducible apply b3S
  ·exact fun Q' h=>⟨_,rfl,_,_,rfl,rfl,_,rfl,h⟩
  ·exact fun Q' h=>⟨_,rfl,l,_,rfl,.inl (SqL.of hh.ll),_,_,rfl,rfl,_,rfl,h⟩
  refine a3q (fun c2=>?_) (fun c2=>?_)
  ·simp only[Bool.and_eq_true,decide_eq_true_eq]at c2
   obtain⟨pq,ej⟩:∃pq,hs[j]?=some pq:=⟨hs[j],by simp[hj]⟩
   have hC:=hV (by have:=c2.2;omega)
   obtain⟨m',hW,sm⟩:=(hI j pq ej).m
   have hQ:=se c2.1
   refine⟨_,rfl,D.p,_,_,_,rfl,rfl,SqL.of Pi.p,rfl,.inl ⟨rfl,_,SqL.of hK⟩,_,rfl,_,rfl,_,rfl,_,rfl,_,rfl,_,rfl,_,rfl,?_⟩
   refine⟨l,pl,x,A,hs,b0,b1,b2,i,j,n,B,pq,xs,rfl,hh,ht,⟨hx,Y⟩,h6,hb,ei,ej,hC.symm,hn,hQ,(by rw[hW];exact a4o ht.r1.1),(by rw[hW,a1l];omega),fun mm ps q' H4 sC sv hX hZ si h4 k4=>?_⟩
   have P4:=h4.pt i D _ G (Z _)
   obtain⟨hw,J,hu⟩:=P4.r
   have hD:hw.length=B.rows.length:=AE hu
   refine⟨O4,fun u hH=>?_⟩
   have s5:G5 H4 (upd H4 u (.tup [.int j,.ref q'])):=(G5.refl H4).new hH
   refine⟨_,rfl,a0p,fun tp ha=>?_⟩
   have O:=s5.new (o:= .tup [.str "bring",.ref u,.ref x]) ha
   refine⟨D.r,_,_,_,rfl,rfl,O _ _ J,(by omega),(by show(k:Int)<=(hw.length:Int);omega),J8 (by omega),?_⟩
   have h7:=a1F (h4.same O) (pr:= .bring j ps xs) k G (Z _) (O _ _ J) ⟨tp,u,q',x,rfl,G1,U2 G1 ha,si.mono O.tups,(k4.same O) _ _ Y hx,Y⟩
   rw[List.set_set]at h7
   refine q _ _ h7 (List.length_set ..) ?_ (hR.bring hI (k:=k) (ps:=ps) (xs:=xs) ei ej hC rfl hZ ?_) ((k4.same O).put (x:=1) G (by omega))
   rotate_left
   ·intro p hp z
    have h1:(Y0 b0 B.sh (n+mm)).Nodup:=a1D ht.r0.1 (by omega)
    rw[<-hX]at h1
    exact(AR.mp h1).2.2 _ (by rw[<-hn];exact z) _ (AS (f:=(·.2)) hp) rfl
   refine hI.put (k:=k) (y:= .bring j ps xs) ei ⟨n+mm,rfl,by omega⟩ ⟨m,hm,hy⟩ rfl hB ?_ (List.Perm.refl _) ⟨by rw[List.length_set];exact hj,hC,by omega,fun p hp=>⟨pq,by rw[List.getElem?_set_ne hC.symm];exact ej,hZ p hp⟩,h6,hb⟩
   show(ps.map (·.2)++B.owns).Perm (Y0 b0 B.sh (n+mm))
   rw[<-hX,<-hn]
   exact List.perm_append_comm
  with_reducible apply b4j (b:= !(B.owns.map V.str).isEmpty)
  ·exact fun Q' h=>⟨_,rfl,_,_,rfl,rfl,_,rfl,h⟩
  ·exact fun Q' h=>⟨_,rfl,D.p,_,_,_,rfl,rfl,SqL.of Pi.p,rfl,a0s,fun e he=>⟨D.o,e,_,rfl,rfl,SqL.of (((G5.refl H).new he) _ _ Pi.o),SqL.of G1,_,rfl,h _ ((G5.refl H).new he)⟩⟩
  intro H1 s1
  have h1:=hh.same s1
  have k1:=(B1.refl l A H).same s1
  have P1:=h1.pt i D B G ei
  have hN:=ht.keep k1
  refine a3q (fun c3=>?_) (fun c3=>?_)
  ·simp only[Bool.and_eq_true,decide_eq_true_eq]at c3
   have hO:0 < ((B.owns.map V.str).length:Int):=by
    cases e:B.owns.map V.str with
    | nil=>rw[e]at c3;exact absurd c3.2 (by decide)
    | cons a r=>rw[List.length_cons];omega
   have su:=sq c3.1
   refine⟨_,rfl,_,rfl,pl,_,_,_,rfl,rfl,SqL.of hN.h,rfl,_,rfl,D.p,_,_,_,rfl,rfl,SqL.of P1.p,rfl,D.g,_,rfl,.inl (SqL.of P1.g),?_⟩
   refine⟨D.p,D.r,D.o,D.g,b1,_,B.sh,rfl,P1.p,ht.r1.1,ht.r1.2,by omega,fun H3 s3=>?_⟩
   rw[sd]
   have h3:=h1.same s3
   have P3:=h3.pt i D B G ei
   refine⟨_,rfl,D.p,_,_,_,rfl,rfl,SqL.of P3.p,rfl,.inl ⟨rfl,_,SqL.of P3.g⟩,_,rfl,D.g,_,_,rfl,rfl,P3.g,J8 (by rw[sd];omega),?_⟩
   have h4:=a9R h3 (Y7 b1 (((m:Int)+B.sh) % 24)) G ei
   have k4:B1 l A H (upd H3 D.g (.lst (B.gives.map V.str++[.str (Y7 b1 (((m:Int)+B.sh) % 24))]))):=(k1.same s3).put (x:=3) G (by omega)
   generalize upd H3 D.g (.lst (B.gives.map V.str++[.str (Y7 b1 (((m:Int)+B.sh) % 24))]))=H4 at h4 k4⊢
   have P4:=h4.pt i D _ G (Z _)
   obtain⟨hw,J,hu⟩:=P4.r
   have hD:hw.length=B.rows.length:=AE hu
   have hL:((B.owns.map V.str).length:Int)=B.owns.length:=by rw[List.length_map]
   have sj:0<=xs.getD (1:Int).toNat 0 % ((B.owns.map V.str).length:Int):=Int.emod_nonneg _ (by omega)
   have so:xs.getD (1:Int).toNat 0 % ((B.owns.map V.str).length:Int) < (B.owns.length:Int):=by rw[<-hL];exact Int.emod_lt_of_pos _ hO
   refine⟨_,rfl,D.p,_,_,_,rfl,rfl,SqL.of P4.p,rfl,.inl ⟨rfl,_,SqL.of J⟩,_,rfl,_,rfl,D.p,_,_,_,rfl,rfl,SqL.of P4.p,rfl,?_⟩
   refine⟨_,rfl,x,_,_,_,rfl,rfl,SqL.of (k4 _ _ Y hx),Z1 V.int xs 0 (by decide) (by omega),_,rfl,D.p,_,_,_,rfl,rfl,SqL.of P4.p,rfl,D.o,_,rfl,.inl (SqL.of P4.o),_,_,rfl,rfl,hO,D.o,_,_,_,rfl,rfl,SqL.of P4.o,Z1 V.str B.owns "" sj so,?_⟩
   have sb:B.owns.getD (xs.getD (1:Int).toNat 0 % ((B.owns.map V.str).length:Int)).toNat "" ∈B.owns:=by
    have hY:(xs.getD (1:Int).toNat 0 % ((B.owns.map V.str).length:Int)).toNat < B.owns.length:=by omega
    rw[BE,AQ hY]
    exact List.getElem_mem hY
   generalize B.owns.getD (xs.getD (1:Int).toNat 0 % ((B.owns.map V.str).length:Int)).toNat ""=y at sb⊢
   refine⟨_,rfl,O4,fun u hH=>?_⟩
   have s5:G5 H4 (upd H4 u (.tup [.str y,.str (Y7 b1 (((m:Int)+B.sh) % 24))])):=(G5.refl H4).new hH
   refine⟨_,rfl,a0p,fun tp ha=>?_⟩
   have O:=s5.new (o:= .tup [.str "give",.ref u,.ref x]) ha
   refine⟨D.r,_,_,_,rfl,rfl,O _ _ J,(by omega),(by show(k:Int)<=(hw.length:Int);omega),J8 (by omega),?_⟩
   have h7:=a1F (h4.same O) (pr:= .give y (Y7 b1 (((m:Int)+B.sh) % 24)) xs) k G (Z _) (O _ _ J) ⟨tp,u,x,rfl,G1,U2 G1 ha,(k4.same O) _ _ Y hx,Y⟩
   rw[List.set_set]at h7
   refine q _ _ h7 (List.length_set ..) ?_ (hR.put (k:=k) (y:= .give y (Y7 b1 (((m:Int)+B.sh) % 24)) xs) ei rfl (fun _ _ _ z=>by cases z)) ((k4.same O).put (x:=1) G (by omega))
   exact hI.put (k:=k) (y:= .give y (Y7 b1 (((m:Int)+B.sh) % 24)) xs) ei ⟨n,hn,hA⟩ ⟨m+1,by show B.gives++[_]=_;rw[hm,a1w],by omega⟩ rfl hB (List.Perm.refl _) List.perm_append_comm ⟨⟨_,Z _,sb⟩,h6,hb⟩
  with_reducible apply b3S
  ·exact fun Q' h=>⟨_,rfl,rfl,_,rfl,h⟩
  ·exact fun Q' h=>⟨_,rfl,l,_,rfl,.inl (SqL.of h1.ll),_,_,rfl,rfl,_,rfl,h⟩
  obtain⟨hJ,ho,hU⟩:=P1.r
  have ss:hJ.length=B.rows.length:=AE hU
  refine a3q (fun c4=>?_) (fun c4=>?_)
  ·simp only[Bool.and_eq_true,decide_eq_true_eq]at c4
   refine⟨_,rfl,D.p,_,_,_,rfl,rfl,SqL.of P1.p,rfl,.inl ⟨rfl,_,SqL.of ho⟩,_,rfl,_,rfl,_,rfl,a0p,fun tp ha=>?_⟩
   have O:G5 H1 (upd H1 tp (.tup [.str "ask",.int j,.ref x])):=(G5.refl H1).new ha
   refine⟨D.r,_,_,_,rfl,rfl,O _ _ ho,(by omega),(by show(k:Int)<=(hJ.length:Int);omega),J8 (by omega),?_⟩
   have h7:=a1F (h1.same O) (pr:= .ask j xs) k G ei (O _ _ ho) ⟨tp,x,rfl,G1,(k1.same O) _ _ Y hx,Y⟩
   refine q _ _ h7 (List.length_set ..) ?_ (hR.put (k:=k) (y:= .ask j xs) ei rfl (fun _ _ _ z=>by cases z)) ((k1.same O).put (x:=1) G (by omega))
   exact hI.put (k:=k) (y:= .ask j xs) ei ⟨n,hn,hA⟩ ⟨m,hm,hy⟩ rfl hB (List.Perm.refl _) (List.Perm.refl _) ⟨by rw[List.length_set];exact hj,hV (by have:=c4.2;omega),h6,hb⟩
  ·obtain⟨kk,hG,hF⟩:=a9G (c:=xs.getD (1:Int).toNat 0 % 2) (by omega) (by omega)
   refine⟨_,rfl,D.p,_,_,_,rfl,rfl,SqL.of P1.p,rfl,.inl ⟨rfl,_,SqL.of ho⟩,_,rfl,O4,fun g hg=>?_⟩
   have s5:G5 H1 (upd H1 g (.lst [.str "say",.str "need"])):=(G5.refl H1).new hg
   refine⟨_,rfl,x,_,_,_,rfl,rfl,SqL.of ((k1.same s5) _ _ Y hx),Z1 V.int xs 0 (by decide) (by omega),_,_,rfl,rfl,(by show(0:Int) < 2;decide),g,_,_,_,rfl,rfl,SqL.of G1,hG,?_⟩
   refine⟨_,rfl,a0p,fun tp ha=>?_⟩
   have O:=s5.new (o:= .tup [.str kk,.non,.ref x]) ha
   refine⟨D.r,_,_,_,rfl,rfl,O _ _ ho,(by omega),(by show(k:Int)<=(hJ.length:Int);omega),J8 (by omega),?_⟩
   have h7:=a1F (h1.same O) (pr:= .sum kk xs) k G ei (O _ _ ho) ⟨tp,x,rfl,G1,(k1.same O) _ _ Y hx,Y⟩
   refine q _ _ h7 (List.length_set ..) ?_ (hR.put (k:=k) (y:= .sum kk xs) ei rfl (fun _ _ _ z=>by cases z)) ((k1.same O).put (x:=1) G (by omega))
   exact hI.put (k:=k) (y:= .sum kk xs) ei ⟨n,hn,hA⟩ ⟨m,hm,hy⟩ rfl hB (List.Perm.refl _) (List.Perm.refl _) ⟨hF,h6,hb⟩
noncomputable def b5F:Pr->Str
 | .own k _ _=>k
 | .bring _ _ _=>"bring"
 | .give _ _ _=>"give"
 | .ask _ _=>"ask"
 | .sum k _=>k
noncomputable def xsP:Pr->List Int
 | .own _ _ xs=>xs
 | .bring _ _ xs=>xs
 | .give _ _ xs=>xs
 | .ask _ xs=>xs
 | .sum _ xs=>xs
noncomputable def b8q (H:Hp) (one:V):Pr->Prop
 | .own _ n _=>one= .str n
 | .bring j ps _=>∃u q,one= .ref u/\H u=some (.tup [.int j,.ref q])/\a0B H q ps
 | .give o g _=>∃u,one= .ref u/\H u=some (.tup [.str o,.str g])
 | .ask j _=>one= .int j
 | .sum _ _=>one= .non
theorem b3O{H:Hp}{F:Addr->Prop}{v:V}{pr:Pr}(h:a7n H F v pr):∃t x one,v= .ref t/\H t=some (.tup [.str (b5F pr),one,.ref x])/\H x=some (.lst ((xsP pr).map V.int))/\b8q H one pr:=by
 cases pr with
 | own k n xs=>obtain⟨t,x,e,h1,h2⟩:=h;exact⟨t,x,_,e,h1,h2.1,rfl⟩
 | bring j ps xs=>obtain⟨t,u,q,x,e,h1,h2,B,D⟩:=h;exact⟨t,x,_,e,h1,D.1,u,q,rfl,h2,B⟩
 | give o g xs=>obtain⟨t,u,x,e,h1,h2,B⟩:=h;exact⟨t,x,_,e,h1,B.1,u,rfl,h2⟩
 | ask j xs=>obtain⟨t,x,e,h1,h2⟩:=h;exact⟨t,x,_,e,h1,h2.1,rfl⟩
 | sum k xs=>obtain⟨t,x,e,h1,h2⟩:=h;exact⟨t,x,_,e,h1,h2.1,rfl⟩
theorem b4J{q:List Pp}{i:Nat}{pr:Pr}(h:a8p q i pr):a9e (xsP pr):=by
 cases pr with
 | own k n xs=>exact h.2
 | bring j ps xs=>exact h.2.2.2.2
 | give o g xs=>exact h.2
 | ask j xs=>exact h.2.2
 | sum k xs=>exact h.2
noncomputable def InS (owns:List Str) (ts:List (Int×Th)):Prop:=∀d∈ts,∀y,d.2=Th.nam y->y∈owns
noncomputable def InO (owns:List Str) (w:Option Str):Prop:=∀y,w=some y->y∈owns
noncomputable def a1U (nms owns:List Str):Pr->Rw->Prop
 | .own k n _,rw=>(k="take"/\rw= .take n)\/(k="set"/\∃ts,rw= .set n ts/\a8I ts/\InS owns ts)
 | .bring j ps _,rw=>∃nm,nms[j]?=some nm/\rw= .bring nm ps
 | .give o g _,rw=>rw= .give o g
 | .ask j _,rw=>∃nm w,nms[j]?=some nm/\rw= .ask nm w/\InO owns w
 | .sum k _,rw=>(k="need"/\∃ts,rw= .need ts/\a8I ts/\InS owns ts)\/(k="say"/\∃ts w,rw= .say ts w/\a8I ts/\InS owns ts/\InO owns w)
noncomputable def b7B:Sp:=fun vs H Q _=>∃(v:V)(nl:Addr)(F:Addr->Prop)(ol:Addr)(owns:List Str)(pr:Pr)(i:Nat)(hs:List Pp)(nms:List Str),vs=[v,.ref ol,.ref nl]/\a7n H F v pr/\H ol=some (.lst (owns.map V.str))/\a8p hs i pr/\(∀y∈owns,B0 y)/\H nl=some (.lst (nms.map V.str))/\nms.length=hs.length/\
 ∀(r:Addr)(rw:Rw)(H':Hp),G5 H H'->a0U H' r rw->a1U nms owns pr rw->Q (.ref r) H'
theorem b4F{t u:TT}{A R:TS}{D:a0m}{N:L2.St->Hp->Prop}{σ:L2.St}{H:Hp}{a b:Bool}(S:V->L2.St)(C:Option Str->Prop)(e:N=a3e (b1m (tC .non) (M3 6)) (a3e (a5I (b0S t u) A a2p) R) D)(G:σ.set 6 (some .non)=S .non)(ht:∀Q:Bool->Hp->Prop,(∀H1,G5 H H1->Q a H1)->t (S .non) H Q)(J:∀H1,G5 H H1->∀Q:Bool->Hp->Prop,Q b H1->u (S .non) H1 Q)
  (O:∀H1,G5 H H1->(a && b)=true->(∀y,C (some y)->R D (S (.str y)) H1)->A {D with nx:=R D} (S .non) H1)(B:C none)(q:∀w H1,C w->G5 H H1->R D (S (a1h w)) H1):N σ H:=by
 rw[e]
 show a5I (b0S t u) A a2p {D with nx:=R D} (σ.set 6 (some .non)) H
 rw[G]
 refine ht _ fun H1 j=>?_
 cases a with
 | false=>exact F8 (F8 (q none H1 B j))
 | true=>
  refine B9 (J H1 j _ ?_)
  cases b with
  | false=>exact F8 (q none H1 B j)
  | true=>exact B9 (O H1 j rfl fun y F=>q (some y) H1 F j)
theorem b6I(T:Txt K mg):L2.Cl P w K mg base 2 "_law_row" ["_law_row_here","_law_owns","_law_names"] b7B:=by
 have U:=b5Y (P:=P) (w:=w) (base:=base) T
 refine Cl.of T.d_law_row a0c (fun vs H Q E h=>?_) (fun _ _ _ _ _ _ us hl=>by obtain⟨a,b,c,rfl⟩:=a6n hl;rfl) (fun f hD A' outer s H vs Q E hr h=>?_)
 ·obtain⟨v,nl,F,ol,owns,pr,i,hs,O,rfl,_⟩:=h
  rfl
 ·obtain⟨v,nl,F,ol,owns,pr,i,hs,O,rfl,hB,Z,hok,hm,hp,Y,q⟩:=h
  have hz:=Nat.lt_of_succ_lt (B2 hr)
  obtain⟨t,x,one,rfl,ht,hx,J⟩:=b3O hB
  obtain⟨h6,hb⟩:=b4J hok
  have R:=a9x h6 hb
  refine⟨_,(G3 (a4F (pv 0) (E7 rfl (J0 (I9 (i:=3) a0c.nd rfl (Or.inl rfl)) (J0 (I9 (i:=4) a0c.nd rfl (Or.inl rfl)) (J0 (I9 (i:=5) a0c.nd rfl (Or.inl rfl)) Y2)))))
   (G3 (J1 (i:=6) a0c.nd rfl (Or.inl rfl) a2u)
   (G3 (U8 (PW.pt (a0x (J6 (a1j hz) (pv 1) (Y3 G4) (U0 _)) (M1 (J6 O3 (G9 U6 (G9 W8 (I0 J7 (pv 5) G2 (fun _ _=>rfl)) G2) G2) G2 (U0 _)))))
    (G6 (J1 (i:=6) a0c.nd rfl (Or.inl rfl) (I0 J7 (pv 1) (G9 U6 (G9 W8 (I0 J7 (pv 5) G2 (fun _ _=>rfl)) G2) (U5 R5 (by rfl) T.n_len PySem.boot_len (G0 (pv 1) G4))) (fun _ _=>rfl)))) R8)
   (G3 (U8 (J6 O3 (pv 3) R7 (U0 _))
    (G6 (R9 (R1 (G0 R7 (G0 (pv 4) G4))))) R8)
   (G3 (U8 (J6 O3 (pv 3) R7 (U0 _))
    (G6 (R9 (R1 (G0 R7 (G0 (I0 J7 (pv 2) (I0 J5 (pv 4) G2 (fun _ _=>rfl)) (fun _ _=>rfl)) (G0 (I0 J5 (pv 4) G2 (fun _ _=>rfl)) G4)))))) R8)
   (G3 (U8 (J6 O3 (pv 3) R7 (U0 _))
    (G6 (R9 (R1 (G0 R7 (G0 (I0 J5 (pv 4) G2 (fun _ _=>rfl)) (G0 (I0 J5 (pv 4) G2 (fun _ _=>rfl)) G4)))))) R8)
   (G3 (U8 (J6 O3 (pv 3) R7 (U0 _))
    (G6 (R9 (R1 (G0 R7 (G0 (I0 J7 (pv 2) (pv 4) (fun _ _=>rfl)) (G0 (pv 6) G4)))))) R8)
   (G3 (J1 (i:=7) a0c.nd rfl (Or.inl rfl) (W0 U hr (by rfl) (G0 (pv 1) (G0 (pv 5) G4))))
   (G3 (U8 (J6 O3 (pv 3) R7 (U0 _))
    (G6 (R9 (R1 (G0 R7 (G0 (pv 4) (G0 (pv 7) G4)))))) R8)
   (G3 (U8 (J6 O3 (pv 3) R7 (U0 _))
    (G6 (R9 (R1 (G0 R7 (G0 (pv 7) G4))))) R8)
   (G6 (R9 (R1 (G0 R7 (G0 (pv 7) (G0 (pv 6) G4)))))))))))))))),?_⟩
  refine⟨_,rfl,t,_,rfl,SqT.of ht,rfl,_,_,rfl,_,_,rfl,_,_,rfl,rfl,?_⟩
  apply b4F (S:=fun v=> [some (.ref t),some (.ref ol),some (.ref nl),some (.str (b5F pr)),some one,some (.ref x),some v,none]) (C:=InO owns) (a:= !(owns.map V.str).isEmpty) (b:=decide ((xsP pr).getD (1:Int).toNat 0/2 % 2=1))
  ·with_reducible_and_instances rfl
  ·rfl
  ·exact fun Q' h=>⟨_,rfl,a0s,fun e he=>⟨ol,e,_,rfl,rfl,SqL.of (((G5.refl H).new he) _ _ Z),SqL.of G1,_,rfl,h _ ((G5.refl H).new he)⟩⟩
  ·intro H1 G Q' h
   refine⟨_,rfl,x,_,_,_,rfl,rfl,SqL.of (G _ _ hx),Z1 V.int (xsP pr) 0 (by decide) (by omega),_,_,rfl,rfl,⟨by decide,by decide⟩,_,_,rfl,rfl,(by show(0:Int) < 2;decide),rfl,_,rfl,?_⟩
   have e:decide (V.int ((xsP pr).getD (1:Int).toNat 0/2 % 2)=V.int 1)=decide ((xsP pr).getD (1:Int).toNat 0/2 % 2=1):=by
    by_cases z:(xsP pr).getD (1:Int).toNat 0/2 % 2=1
    ·rw[z];rfl
    ·rw[AZ z,AZ (fun y=>z (V.int.inj y))]
   rw[e]
   exact h
  ·intro H1 G hc hN
   simp only[Bool.and_eq_true]at hc
   have hn:0 < ((owns.map V.str).length:Int):=by
    cases e:owns.map V.str with
    | nil=>rw[e]at hc;exact absurd hc.1 (by decide)
    | cons a r=>rw[List.length_cons];omega
   have hL:((owns.map V.str).length:Int)=owns.length:=by rw[List.length_map]
   have hq:0<=(xsP pr).getD (2:Int).toNat 0/32 % ((owns.map V.str).length:Int):=Int.emod_nonneg _ (by omega)
   have hA:(xsP pr).getD (2:Int).toNat 0/32 % ((owns.map V.str).length:Int) < (owns.length:Int):=by rw[<-hL];exact Int.emod_lt_of_pos _ hn
   have hC:owns.getD ((xsP pr).getD (2:Int).toNat 0/32 % ((owns.map V.str).length:Int)).toNat "" ∈owns:=by
    have ho:((xsP pr).getD (2:Int).toNat 0/32 % ((owns.map V.str).length:Int)).toNat < owns.length:=by omega
    rw[BE,AQ ho]
    exact List.getElem_mem ho
   refine⟨_,rfl,_,rfl,x,_,_,_,rfl,rfl,SqL.of (G _ _ hx),Z1 V.int (xsP pr) 0 (by decide) (by omega),_,_,rfl,rfl,⟨by decide,by decide⟩,?_⟩
   refine⟨_,rfl,ol,_,rfl,.inl (SqL.of (G _ _ Z)),_,_,rfl,rfl,hn,ol,_,_,_,rfl,rfl,SqL.of (G _ _ Z),Z1 V.str owns "" hq hA,?_⟩
   exact hN _ fun y hy=>by cases hy;exact hC
  ·exact fun y hy=>by cases hy
  ·intro w H1 hw G
   cases pr with
   | own k n xs=>
    have B:one= .str n:=J
    subst B
    rcases hok.1 with hk | hk
    ·subst hk
     refine⟨_,rfl,rfl,_,rfl,U9 (show¬("set":Str)="take" by decide +kernel) ?_⟩
     refine⟨_,rfl,rfl,_,rfl,U9 (show¬("set":Str)="bring" by decide +kernel) ?_⟩
     refine⟨_,rfl,rfl,_,rfl,U9 (show¬("set":Str)="give" by decide +kernel) ?_⟩
     refine⟨_,rfl,rfl,_,rfl,U9 (show¬("set":Str)="ask" by decide +kernel) ?_⟩
     refine⟨_,rfl,_,rfl,?_⟩
     refine⟨ol,x,owns,xs,rfl,G _ _ Z,hm,G _ _ hx,h6,hb,fun tt ts H2 s2 hj hg ha=>?_⟩
     refine⟨_,rfl,rfl,_,rfl,D8 ?_⟩
     refine⟨_,rfl,_,rfl,a0p,fun r D=>?_⟩
     exact q r (.set n ts) _ ((G.trans s2).new D) ⟨tt,G1,hj.mono (J9.new D)⟩ (.inr ⟨rfl,ts,rfl,hg,ha⟩)
    ·subst hk
     refine⟨_,rfl,rfl,_,rfl,D8 ?_⟩
     refine⟨_,rfl,O4,fun r D=>?_⟩
     exact q r (.take n) _ (G.new D) G1 (.inl ⟨rfl,rfl⟩)
   | bring j ps xs=>
    obtain⟨u,qq,B,hf,hu⟩:=J
    subst B
    obtain⟨nm,hh⟩:∃nm,O[j]?=some nm:=⟨O[j]'(by rw[Y];exact hok.1),by simp[Y,hok.1]⟩
    have mj:(O.map V.str)[j]?=some (.str nm):=by rw[List.getElem?_map,hh];rfl
    refine⟨_,rfl,rfl,_,rfl,U9 (show¬("bring":Str)="take" by decide +kernel) ?_⟩
    refine⟨_,rfl,rfl,_,rfl,D8 ?_⟩
    refine⟨_,rfl,_,rfl,u,_,_,_,rfl,rfl,SqT.of (G _ _ hf),rfl,nl,_,_,_,rfl,rfl,SqL.of (G _ _ hp),R3 mj,_,rfl,u,_,_,_,rfl,rfl,SqT.of (G _ _ hf),rfl,a0p,fun r D=>?_⟩
    exact q r (.bring nm ps) _ (G.new D) ⟨qq,G1,hu.mono (G.new D).tups⟩ ⟨nm,hh,rfl⟩
   | give o g xs=>
    obtain⟨u,B,hf⟩:=J
    subst B
    refine⟨_,rfl,rfl,_,rfl,U9 (show¬("give":Str)="take" by decide +kernel) ?_⟩
    refine⟨_,rfl,rfl,_,rfl,U9 (show¬("give":Str)="bring" by decide +kernel) ?_⟩
    refine⟨_,rfl,rfl,_,rfl,D8 ?_⟩
    refine⟨_,rfl,u,_,_,_,rfl,rfl,SqT.of (G _ _ hf),rfl,_,rfl,u,_,_,_,rfl,rfl,SqT.of (G _ _ hf),rfl,a0p,fun r D=>?_⟩
    exact q r (.give o g) _ (G.new D) G1 rfl
   | ask j xs=>
    have B:one= .int j:=J
    subst B
    obtain⟨nm,hh⟩:∃nm,O[j]?=some nm:=⟨O[j]'(by rw[Y];exact hok.1),by simp[Y,hok.1]⟩
    have mj:(O.map V.str)[j]?=some (.str nm):=by rw[List.getElem?_map,hh];rfl
    refine⟨_,rfl,rfl,_,rfl,U9 (show¬("ask":Str)="take" by decide +kernel) ?_⟩
    refine⟨_,rfl,rfl,_,rfl,U9 (show¬("ask":Str)="bring" by decide +kernel) ?_⟩
    refine⟨_,rfl,rfl,_,rfl,U9 (show¬("ask":Str)="give" by decide +kernel) ?_⟩
    refine⟨_,rfl,rfl,_,rfl,D8 ?_⟩
    refine⟨_,rfl,_,rfl,nl,_,_,_,rfl,rfl,SqL.of (G _ _ hp),R3 mj,_,rfl,a0p,fun r D=>?_⟩
    exact q r (.ask nm w) _ (G.new D) G1 ⟨nm,w,hh,rfl,hw⟩
   | sum k xs=>
    have B:one= .non:=J
    subst B
    rcases hok.1 with hk | hk
    ·subst hk
     refine⟨_,rfl,rfl,_,rfl,U9 (show¬("say":Str)="take" by decide +kernel) ?_⟩
     refine⟨_,rfl,rfl,_,rfl,U9 (show¬("say":Str)="bring" by decide +kernel) ?_⟩
     refine⟨_,rfl,rfl,_,rfl,U9 (show¬("say":Str)="give" by decide +kernel) ?_⟩
     refine⟨_,rfl,rfl,_,rfl,U9 (show¬("say":Str)="ask" by decide +kernel) ?_⟩
     refine⟨_,rfl,_,rfl,?_⟩
     refine⟨ol,x,owns,xs,rfl,G _ _ Z,hm,G _ _ hx,h6,hb,fun tt ts H2 s2 hj hg ha=>?_⟩
     refine⟨_,rfl,rfl,_,rfl,U9 (show¬("say":Str)="set" by decide +kernel) ?_⟩
     refine⟨_,rfl,rfl,_,rfl,U9 (show¬("say":Str)="need" by decide +kernel) ?_⟩
     refine⟨_,rfl,_,rfl,a0p,fun r D=>?_⟩
     exact q r (.say ts w) _ ((G.trans s2).new D) ⟨tt,G1,hj.mono (J9.new D)⟩ (.inr ⟨rfl,ts,w,rfl,hg,ha,hw⟩)
    ·subst hk
     refine⟨_,rfl,rfl,_,rfl,U9 (show¬("need":Str)="take" by decide +kernel) ?_⟩
     refine⟨_,rfl,rfl,_,rfl,U9 (show¬("need":Str)="bring" by decide +kernel) ?_⟩
     refine⟨_,rfl,rfl,_,rfl,U9 (show¬("need":Str)="give" by decide +kernel) ?_⟩
     refine⟨_,rfl,rfl,_,rfl,U9 (show¬("need":Str)="ask" by decide +kernel) ?_⟩
     refine⟨_,rfl,_,rfl,?_⟩
     refine⟨ol,x,owns,xs,rfl,G _ _ Z,hm,G _ _ hx,h6,hb,fun tt ts H2 s2 hj hg ha=>?_⟩
     refine⟨_,rfl,rfl,_,rfl,U9 (show¬("need":Str)="set" by decide +kernel) ?_⟩
     refine⟨_,rfl,rfl,_,rfl,D8 ?_⟩
     refine⟨_,rfl,O4,fun r D=>?_⟩
     exact q r (.need ts) _ ((G.trans s2).new D) ⟨tt,G1,hj.mono (J9.new D)⟩ (.inl ⟨rfl,ts,rfl,hg,ha⟩)
theorem a1U.mono{G owns q:List Str}(h:∀y∈owns,y∈q){pr:Pr}{rw:Rw}(f:a1U G owns pr rw):a1U G q pr rw:=by
 have J:∀{ts:List (Int×Th)},InS owns ts->InS q ts:=fun hi d hd y e=>h y (hi d hd y e)
 have O:∀{w:Option Str},InO owns w->InO q w:=fun hi y e=>h y (hi y e)
 cases pr with
 | own k n xs=>
  rcases f with f | ⟨e,ts,D,B,F⟩
  ·exact .inl f
  ·exact .inr ⟨e,ts,D,B,J F⟩
 | bring j ps xs=>exact f
 | give o g xs=>exact f
 | ask j xs=>
  obtain⟨nm,w,U,D,B⟩:=f
  exact⟨nm,w,U,D,O B⟩
 | sum k xs=>
  rcases f with⟨e,ts,D,B,F⟩ | ⟨e,ts,w,D,B,F,Y⟩
  ·exact .inl ⟨e,ts,D,B,J F⟩
  ·exact .inr ⟨e,ts,w,D,B,J F,O Y⟩
noncomputable def a5y:Rw->List Str
 | .bring _ ps=>ps.map (·.2)
 | .set n _=> [n]
 | .take n=> [n]
 | _=> []
theorem a1U.owned{q owns:List Str}{pr:Pr}{rw:Rw}(f:a1U q owns pr rw):a5y rw=a0V pr:=by
 cases pr with
 | own k n xs=>rcases f with⟨_,e⟩ | ⟨_,ts,e,_⟩<;>subst e<;>rfl
 | bring j ps xs=>obtain⟨nm,_,e⟩:=f;subst e;rfl
 | give o g xs=>rw[show rw= .give o g from f];rfl
 | ask j xs=>obtain⟨nm,w,_,e,_⟩:=f;subst e;rfl
 | sum k xs=>rcases f with⟨_,ts,e,_⟩ | ⟨_,ts,w,e,_⟩<;>subst e<;>rfl
theorem a2F{X:Cx}:a1u X (.type "tuple") (fun xs H Q=>∃p ys,xs=[.ref p]/\SqL X.K H p ys/\∀l o,H l=none->o.dict=none->Q (.ref l) (upd H l (.frz o (.tup ys)))):=by
 intro pins s σ H xs us Q I r h
 obtain⟨p,ys,rfl,F,q⟩:=h
 obtain⟨u,rfl,G⟩:=a3H r
 cases G
 obtain⟨j,D,O,J⟩:=I.list F
 have B:=D.length
 refine call_tuple_list O.isList (fun h' kp=>?_) (by simp only[List.size_toArray]<;>omega)
 have I1:Inv X pins σ H {s with heap:=h'}:=I.kept (t':=s.toks) kp
 have I2:Inv X pins σ (upd H h'.objs.size (.frz {cls:= .type "tuple",data:= .seq j.toArray} (.tup ys))) {s with heap:=h'.push {cls:= .type "tuple",data:= .seq j.toArray}}:=
  I1.laid (t':=s.toks) (fun b o e=>AF _ e) (AI _) ⟨AJ _ rfl,J,j,D,⟨_,AJ _ rfl,rfl,_,rfl⟩⟩
 exact⟨.ref h'.objs.size,_,I2,rfl,q _ _ (I1.hok.fresh (AI _)) rfl⟩
noncomputable def M7 (b:Int) (n:Nat):List Str:=(List.range n).map fun(j:Nat)=>Y7 b (j:Int)
theorem a1J(b:Int)(n:Nat):(M7 b n).length=n:=by unfold M7;simp
theorem a9t(b:Int)(n:Nat):M7 b (n+1)=M7 b n++[Y7 b (n:Int)]:=by unfold M7;rw[List.range_succ,AG];rfl
theorem a7a(b:Int)(n:Nat){i:Nat}(h:i < n):(M7 b n)[i]?=some (Y7 b (i:Int)):=by unfold M7;rw[List.getElem?_map,List.getElem?_range h];rfl
noncomputable def b6F (b:Int) (hs:List Pp) (ps:List Pt):Prop:=∀(i:Nat)(pp:Pp)(pt:Pt),hs[i]?=some pp->ps[i]?=some pt->pt.1=Y7 b (i:Int)/\Paired (a1U (M7 b hs.length) pp.owns) pp.rows pt.2
theorem a4i{K:W.Frag}{a:Addr}{xs:List V}{g:TG}{tt:TT}{te:TE}{Q:Hp->Prop}{σ:L2.St}{H:Hp}{D:Addr}(B:Nat->L2.St->Hp->Prop)(h0:B 0 σ (upd H D (.lst [])))
  (hl:∀i j H2,B i j H2->SqT K H2 a xs)
  (hs:∀i x j H2,xs[i]?=some x->B i j H2->g x j H2 fun q U=>tt q U fun b F=>
   if b=true then te q F fun y G=>∃ys,G D=some (.lst ys)/\ys.length < sizeLine/\B (i+1) q (upd G D (.lst (ys++[y])))else B (i+1) q F)
  (hd:∀j H2,B xs.length j H2->Q H2):
  ∃W:Nat->Nat->L2.St->Hp->Prop,(∃m,W 0 m σ (upd H D (.lst [])))/\∀i m j H2,W i m j H2->
   ((Itt K a).stop i H2/\Q H2)\/((Itt K a).go i H2/\∃N:L2.St->Hp->Prop,(∀J H',N J H'->∃Y,Y < m/\W (i+1) Y J H')/\∀x O,(Itt K a).yld i H2 x O->g x j O fun q U=>tt q U fun b F=>
    if b=true then te q F fun y G=>∃ys,G D=some (.lst ys)/\ys.length < sizeLine/\N q (upd G D (.lst (ys++[y])))else N q F):=by
 refine a5f xs.length B h0 (fun i j H2 hi p=>?_) fun j H2 p=>⟨⟨xs,hl _ _ _ p,AI _⟩,hd _ _ p⟩
 have e:=AQ hi
 refine⟨⟨xs,_,hl _ _ _ p,e⟩,fun x O Z=>?_⟩
 obtain⟨rfl,hx⟩:=Z
 exact hs i x j O (hx xs (hl _ _ _ p)) p
theorem b6l(rw:Rw):(∃m j,rw= .bring m j)\/(∃n ts,rw= .set n ts)\/(∃n,rw= .take n)\/(¬R4 rw="bring"/\¬R4 rw="set"/\¬R4 rw="take"/\a5y rw=[]):=by
 cases rw with
 | bring m j=>exact .inl ⟨m,j,rfl⟩
 | set n ts=>exact .inr (.inl ⟨n,ts,rfl⟩)
 | take n=>exact .inr (.inr (.inl ⟨n,rfl⟩))
 | _=>exact .inr (.inr (.inr ⟨by simp only[R4];decide +kernel,by simp only[R4];decide +kernel,by simp only[R4];decide +kernel,rfl⟩))
noncomputable def b3Z:Sp:=fun vs H Q _=>∃(r:Addr)(rw:Rw),vs=[.ref r]/\a0U H r rw/\∀(l:Addr)(H':Hp),G5 H H'->H l=none->H' l=some (.lst ((a5y rw).map V.str))->Q (.ref l) H'
theorem b2u(T:Txt K mg):L2.Cl P w K mg base 1 "_law_owned" ["_law_row_here"] b3Z:=by
 refine Cl.of T.d_law_owned a7t (fun Y H Q E h=>?_) (fun _ _ _ _ _ _ us hl=>by obtain⟨a,rfl⟩:=a3N hl;rfl) (fun f he A outer s H Y Q E hr h=>?_)
 ·obtain⟨r,rw,rfl,_⟩:=h
  rfl
 ·obtain⟨r,rw,rfl,hra,q⟩:=h
  refine⟨_,(G3 (U8 (J6 O3 (I0 J5 (pv 0) G2 (fun _ _=>rfl)) R7 (U0 _))
    (G6 (R9 (a5e (M:=["_law_given","_law_own"]) (ρ:=[none,none]) (J4 a1v) ["_law_row_here"] ⟨rfl,by decide +kernel,by decide +kernel,by decide +kernel,rfl,by decide +kernel,by decide +kernel⟩ (D1 (I0 J5 (pv 0) G2 (fun _ _=>rfl))) (fun _ _ _ _ _ _=>(a2N (K:=K) (n:=2) rfl rfl (J0 (I9 (i:=0) (show(["_law_given","_law_own"]:List Str).Nodup by decide +kernel) rfl (Or.inl rfl)) (J0 (I9 (i:=1) (show(["_law_given","_law_own"]:List Str).Nodup by decide +kernel) rfl (Or.inl rfl)) Y2)))) (fun _ _ _ _ _ _=>a1W) (fun _ _ _ _ _ _=>(pv 1))))) R8)
   (G3 (U8 (PW.pt (b3Q (J6 O3 (I0 J5 (pv 0) G2 (fun _ _=>rfl)) R7 (U0 _)) (a9X (J6 O3 (I0 J5 (pv 0) G2 (fun _ _=>rfl)) R7 (U0 _)))))
    (G6 (R9 (Y3 (G0 (I0 J5 (pv 0) G2 (fun _ _=>rfl)) G4)))) R8)
   (G6 (R9 (Y3 G4))))),?_⟩
  rcases b6l rw with⟨m,O,e⟩ | ⟨n,ts,e⟩ | ⟨n,e⟩ | ⟨h1,h2,h3,h4⟩
  ·subst e
   obtain⟨t,B,⟨Y,ht,U⟩,ha⟩:=hra
   have Z:Y.length=O.length:=AE U
   refine⟨_,rfl,r,_,_,_,rfl,rfl,SqT.of B,rfl,rfl,_,rfl,D8 ?_⟩
   refine⟨_,rfl,r,_,_,_,rfl,rfl,SqT.of B,rfl,t,rfl,⟨_,SqT.of ht⟩,fun D hD=>?_⟩
   refine a4i (K:=K) (a:=t) (xs:=Y) (fun i σ H2=>∃(v0 v1:Option V),σ=[v0,v1]/\G5 H H2/\H2 D=some (.lst (((O.take i).map (·.2)).map V.str))) ⟨_,_,rfl,(G5.refl H).new hD,by rw[List.take_zero];exact G1⟩ (fun i hb H2⟨_,_,_,J,_⟩=>SqT.of (J _ _ ht)) ?_ ?_
   ·rintro i x σ H2 hx ⟨v0,v1,rfl,J,F⟩
    obtain⟨d,hd,c,ex,hc,_⟩:=Paired.get? U hx
    subst ex
    have hi:=(List.getElem?_eq_some_iff.mp hd).1
    refine⟨c,_,rfl,SqT.of (J _ _ hc),rfl,_,_,rfl,_,_,rfl,rfl,?_⟩
    refine⟨_,rfl,_,F,J8 (by rw[List.length_map,List.length_map,AY];omega),_,_,rfl,J.put hD,?_⟩
    rw[G1,J2 hd,AG,AG]
    rfl
   ·rintro σ H2 ⟨v0,v1,rfl,J,F⟩
    rw[Z,AW]at F
    exact q D H2 J hD F
  ·subst e
   obtain⟨t,B,_⟩:=hra
   refine⟨_,rfl,r,_,_,_,rfl,rfl,SqT.of B,rfl,rfl,_,rfl,U9 (show¬("set":Str)="bring" by decide +kernel) ?_⟩
   refine⟨_,rfl,r,_,_,_,rfl,rfl,SqT.of B,rfl,rfl,_,rfl,D8 ?_⟩
   refine B9 ?_
   exact⟨_,rfl,r,_,_,_,rfl,rfl,SqT.of B,rfl,a3d,fun l G=>q l _ ((G5.refl H).new G) G G1⟩
  ·subst e
   have B:H r=some (.tup [.str "take",.str n]):=hra
   refine⟨_,rfl,r,_,_,_,rfl,rfl,SqT.of B,rfl,rfl,_,rfl,U9 (show¬("take":Str)="bring" by decide +kernel) ?_⟩
   refine⟨_,rfl,r,_,_,_,rfl,rfl,SqT.of B,rfl,rfl,_,rfl,U9 (show¬("take":Str)="set" by decide +kernel) ?_⟩
   refine⟨_,rfl,r,_,_,_,rfl,rfl,SqT.of B,rfl,rfl,_,rfl,D8 ?_⟩
   exact⟨_,rfl,r,_,_,_,rfl,rfl,SqT.of B,rfl,a3d,fun l G=>q l _ ((G5.refl H).new G) G G1⟩
  ·obtain⟨x1,rs,B⟩:=hra.kind
   have z0:atI (V.str (R4 rw)::x1::rs) 0=some (.str (R4 rw)):=R3 (j:=0) rfl
   refine⟨_,rfl,r,_,_,_,rfl,rfl,SqT.of B,z0,rfl,_,rfl,U9 h1 ?_⟩
   refine⟨_,rfl,r,_,_,_,rfl,rfl,SqT.of B,z0,rfl,_,rfl,U9 h2 ?_⟩
   refine⟨_,rfl,r,_,_,_,rfl,rfl,SqT.of B,z0,rfl,_,rfl,U9 h3 ?_⟩
   exact⟨a0s,fun l G=>q l _ ((G5.refl H).new G) G (by rw[G1,h4];rfl)⟩
theorem b4z{α:Type}{xs:List α}{v:α}(h:xs[xs.length - 1]?=some v):atI xs (-1)=some v:=by
 have hl:0 < xs.length:=by
  cases xs with
  | nil=>simp at h
  | cons a b=>simp
 unfold atI ixN
 rw[if_neg (by decide),if_pos (by omega),show((-1:Int)+(xs.length:Int)).toNat=xs.length - 1 by omega]
 exact h
theorem b6n{t:TT}{te:TE}{R:TS}{D:a0m}{i j:Nat}{σ:L2.St}{H:Hp}{v:V}(S:V->L2.St)(C:V->Prop)(q:V)(J:σ.set i (some v)=S q)(U:∀x,(S q).set j (some x)=S x)(B:Bool)(ht:∀Q:Bool->Hp->Prop,Q B H->t (S q) H Q)(O:B=true->∀Q:VK,(∀x,C x->Q x H)->te (S q) H Q)(Y:B=false->C q)(G:∀x,C x->R D (S x) H):M3 i v σ H fun F H2=>a3e (a5I t (b1m te (M3 j)) a2p) R D F H2:=by
 show a3e (a5I t (b1m te (M3 j)) a2p) R D (σ.set i (some v)) H
 rw[J]
 refine ht _ ?_
 cases B with
 | true=>
  refine B9 (O rfl _ fun x hx=>?_)
  show R D ((S q).set j (some x)) H
  rw[U]
  exact G x hx
 | false=>exact F8 (G q (Y rfl))
theorem b3I(us:List V)(x:V):atI (us++[x]) (-1)=some x:=by
 refine b4z ?_
 rw[List.length_append,BS (by simp)]
 simp
theorem a9b{n:Nat}(h:n<=1000):n<=sizeLine:=by
 exact Nat.le_of_lt (J8 h)
noncomputable def a9d:Sp:=fun vs H Q _=>∃(l:Addr)(A:List Q4)(hs:List Pp)(b0 b1 b:Int)(nr:Bool),vs=[.ref l,.int b,.bl nr]/\U4 H l A [] hs/\(0<=b/\b < 2147483647)/\0<=b0/\1<=hs.length/\hs.length<=24/\a6l b0 b1 hs/\∀(a:Addr)(ps:List Pt)(H':Hp),G5 H H'->D6 H' a ps->ps.length=hs.length->b6F b hs ps->Q (.ref a) H'
theorem a7V(T:Txt K mg):L2.Cl P w K mg base 3 "_law_finished" ["_law_house","_law_pool_here","_law_near"] a9d:=by
 have U:=b0h (P:=P) (w:=w) (base:=base) T
 have he:=b6I (P:=P) (w:=w) (base:=base) T
 have O:=b2u (P:=P) (w:=w) (base:=base) T
 refine Cl.of T.d_law_finished Z0 (fun vs H Q E h=>?_) (fun _ _ _ _ _ _ us hl=>by obtain⟨a,b,c,rfl⟩:=a6n hl;rfl) (fun f sH A' outer s H vs Q E hr h=>?_)
 ·obtain⟨l,A,hs,b0,b1,b,nr,rfl,_⟩:=h
  rfl
 ·obtain⟨l,A,hs,b0,b1,b,nr,rfl,hh,hb,sv,sN,sG,hI,q⟩:=h
  refine⟨_,(G3 (a5d (j:=3) (M:=["_law_k","_law_pool_here"]) (ρ:=[none,some 1]) (J4 a0n) ["_law_house","_law_pool_here","_law_near","_law_names","_law_parts_here","_law_name_here","_law_part","_law_rows","_law_above","_law_row_here"] ⟨rfl,by decide +kernel,by decide +kernel,by decide +kernel,rfl,by decide +kernel,by decide +kernel⟩ Z0.nd rfl (Or.inl rfl) (a0y (by rfl) T.n_range (G0 (U5 R5 (by rfl) T.n_len PySem.boot_len (G0 (pv 0) G4)) G4)) (fun _ _ _ _ _ _=>(I9 (i:=0) (show(["_law_k","_law_pool_here"]:List Str).Nodup by decide +kernel) rfl (Or.inl rfl))) (fun _ _ _ _ _ _=>a1W) (fun _ _ _ _ _ _=>(W0 U hr (by rfl) (G0 (pv 1) (G0 (pv 0) G4)))))
   (G3 (J1 (i:=4) Z0.nd rfl (Or.inl rfl) (Y3 G4))
   (G3 (Y9 AN rfl (b4N (by rfl) T.n_zip (G0 (pv 3) (G0 (pv 0) G4))) (E7 rfl (J0 (I9 (i:=5) Z0.nd rfl (Or.inl rfl)) (J0 (I9 (i:=6) Z0.nd rfl (Or.inl rfl)) Y2)))
    (G3 (J1 (i:=7) Z0.nd rfl (Or.inl rfl) (Y3 G4))
    (G3 (J1 (i:=8) Z0.nd rfl (Or.inl rfl) (Y3 G4))
    (G3 (Y9 AN rfl (a0Z (I0 J7 (pv 6) G2 (fun _ _=>rfl))) (I9 (i:=9) Z0.nd rfl (Or.inl rfl))
     (G3 (U8 (b5K (a5x (pv 2)))
      (G6 (J1 (i:=8) Z0.nd rfl (Or.inl rfl) (I0 J7 (pv 6) G2 (fun _ _=>rfl)))) R8)
     (G3 (Y1 (D4 PySem.F.plainAttrs_list PySem.F.slot_list_append PySem.F.type_list_append Y5 (pv 7) (G0 (W0 he hr (by rfl) (G0 (pv 9) (G0 (pv 8) (G0 (pv 3) G4)))) G4)))
     (G6 (U8 (a5x (pv 2))
      (G6 (J1 (i:=8) Z0.nd rfl (Or.inl rfl) (G9 b5R (pv 8) (W0 O hr (by rfl) (G0 (I0 J7 (pv 7) (b0c a7l G2) (fun _ _=>rfl)) G4))))) R8)))))
    (G6 (Y1 (D4 PySem.F.plainAttrs_list PySem.F.slot_list_append PySem.F.type_list_append Y5 (pv 4) (G0 (R1 (G0 (pv 5) (G0 (Y6 E2 (by rfl) T.n_tuple boot_tuple (G0 (pv 7) G4)) G4))) G4))))))))
   (G6 (R9 (Y6 a2F (by rfl) T.n_tuple boot_tuple (G0 (pv 4) G4))))))),?_⟩
  have hX:(A.map fun q=>V.ref q.p).length=hs.length:=by rw[List.length_map,hh.len]
  refine⟨_,rfl,l,_,rfl,.inl (SqL.of hh.ll),_,rfl,(by omega),(by omega),fun D hD=>?_⟩
  refine a5f (A.map fun q=>V.ref q.p).length (fun i σ H2=>∃v0:Option V,σ=[v0,some (.int b)]/\G5 H H2/\H2 D=some (.lst ((M7 b i).map V.str))) ⟨_,rfl,(G5.refl H).new hD,G1⟩ ?_ ?_
  ·rintro i σ H2 hi ⟨v0,rfl,s2,G⟩
   refine⟨hi,?_⟩
   rintro x H3 ⟨rfl,rfl⟩
   refine ntG ?_
   refine⟨_,rfl,_,rfl,b,_,rfl,hb.1,hb.2,by omega,by omega,fun H4 s4=>?_⟩
   refine⟨_,s4 _ _ G,J8 (by rw[List.length_map,a1J];omega),_,rfl,(s2.trans s4).put hD,?_⟩
   rw[G1,a9t,AG,Int.zero_add]
   rfl
  ·rintro σ H2 ⟨v0,rfl,s2,G⟩
   refine⟨AI _,?_⟩
   rw[hX]at G
   refine⟨a0s,fun d hd=>?_⟩
   have s3:G5 H (upd H2 d (.lst [])):=s2.new hd
   have hY:upd H2 d (.lst []) D=some (.lst ((M7 b hs.length).map V.str)):=U2 G hd
   have sw:H d=none:=s2.free hd
   have sx:D≠d:=fun z=>by rw[z,hd]at G;cases G
   have sk:∀{H':Hp},G5 H H'->H' l=some (.lst (A.map fun q=>V.ref q.p)):=fun s=>s _ _ hh.ll
   refine⟨_,rfl,_,rfl,D,l,rfl,⟨_,SqL.of hY⟩,⟨_,SqL.of (sk s3)⟩,b2J (K:=K) (a:=D) (b:=l) (xs:=(M7 b hs.length).map V.str) (ys:=A.map fun q=>V.ref q.p) (fun i σ H5=>∃(ps:List Pt)(vs:List V)(v5 v6 v7 v8 v9:Option V),σ=[some (.ref l),some (.int b),some (.bl nr),some (.ref D),some (.ref d),v5,v6,v7,v8,v9]/\G5 H H5/\H5 D=some (.lst ((M7 b hs.length).map V.str))/\H5 d=some (.lst vs)/\Paired (a3v H5) vs ps/\ps.length=i/\b6F b hs ps)
    (by rw[hX,List.length_map,a1J]) ⟨[],[],none,none,none,none,none,rfl,s3,hY,G1,.nil,rfl,fun i pp pt _ e=>by simp at e⟩ (fun i σ H5 _⟨_,_,_,_,_,_,_,_,s5,hq,_⟩=>⟨SqL.of hq,SqL.of (sk s5)⟩) ?_ ?_⟩
   ·rintro i x y p σ H5 hx hy ⟨ps,vs,v5,v6,v7,v8,v9,rfl,s5,hq,hk,hA,hc,hg⟩ hp
    have hi:i < hs.length:=by
     have:=(List.getElem?_eq_some_iff.mp hy).1
     omega
    obtain⟨pp,ei⟩:∃pp,hs[i]?=some pp:=⟨hs[i],by simp[hi]⟩
    obtain⟨qi,hU⟩:∃q,A[i]?=some q:=⟨A[i]'(by rw[hh.len];exact hi),by simp[hh.len,hi]⟩
    have ex:x= .str (Y7 b (i:Int)):=by
     rw[List.getElem?_map,a7a b _ hi]at hx
     exact(Option.some.inj hx).symm
    have ey:y= .ref qi.p:=by
     rw[List.getElem?_map,hU]at hy
     exact(Option.some.inj hy).symm
    subst ex ey
    have OK:=hI i pp ei
    obtain⟨n,hn,sD⟩:=OK.n
    have sA:∀y∈pp.owns,B0 y:=by rw[hn];exact a4o sv
    have s6:G5 H5 (upd H5 p (.tup [.str (Y7 b (i:Int)),.ref qi.p])):=(G5.refl H5).new hp
    refine⟨p,_,rfl,SqT.of G1,rfl,_,_,rfl,_,_,rfl,rfl,?_⟩
    generalize upd H5 p (.tup [.str (Y7 b (i:Int)),.ref qi.p])=H6 at s6⊢
    have sC:=s5.trans s6
    have h6:=hh.same sC
    have P6:=h6.pt i qi pp hU ei
    obtain⟨rv,se,hW⟩:=P6.r
    have sq:rv.length=pp.rows.length:=AE hW
    have sI:=OK.r
    refine⟨a0s,fun Y G=>?_⟩
    refine⟨a0s,fun a0 hO=>?_⟩
    have hM:a0≠Y:=fun z=>by rw[z,G1]at hO;cases hO
    have hR:G5 H6 (upd (upd H6 Y (.lst [])) a0 (.lst [])):=((G5.refl H6).new G).new hO
    refine⟨_,rfl,qi.p,_,_,_,rfl,rfl,SqL.of (hR _ _ P6.p),rfl,qi.r,rfl,⟨_,SqL.of (hR _ _ se)⟩,a1g (K:=K) (a:=qi.r) (xs:=rv) (fun j σ H7=>∃(ab:Addr)(as:List Str)(v9:Option V)(us:List V)(B:List Rw),σ=[some (.ref l),some (.int b),some (.bl nr),some (.ref D),some (.ref d),some (.str (Y7 b (i:Int))),some (.ref qi.p),some (.ref Y),some (.ref ab),v9]/\G5 H6 H7/\H7 Y=some (.lst us)/\a1o H7 us B/\B.length=j/\Paired (a1U (M7 b hs.length) pp.owns) (pp.rows.take j) B/\H7 ab=some (.lst (as.map V.str))/\(∀y∈as,y∈pp.owns)/\as.length<=23+6*j/\ab≠Y)
     ⟨a0,[],_,[],[],rfl,hR,by rw[G8 (Ne.symm hM),G1],.nil,rfl,by rw[List.take_zero];exact .nil,G1,fun y hy=>by simp at hy,by simp,hM⟩ (fun j σ H7 _⟨_,_,_,_,_,_,s7,_⟩=>SqL.of (s7 _ _ se)) ?_ ?_⟩
    ·rintro j v σ H7 sr ⟨ab,as,v9,us,B,rfl,s7,hB,hC,hL,hz,ss,has,sm,sb⟩
     obtain⟨pr,ht,hS⟩:=Paired.get? hW sr
     have hj:j < pp.rows.length:=(List.getElem?_eq_some_iff.mp ht).1
     have h7:=h6.same s7
     have P7:=h7.pt i qi pp hU ei
     refine b6n (S:=fun x=> [some (.ref l),some (.int b),some (.bl nr),some (.ref D),some (.ref d),some (.str (Y7 b (i:Int))),some (.ref qi.p),some (.ref Y),some x,some v]) (C:=fun x=>∃(Z:Addr)(J:List Str),x= .ref Z/\H7 Z=some (.lst (J.map V.str))/\(∀y∈J,y∈pp.owns)/\J.length<=23+6*j/\Z≠Y) (.ref ab) rfl (fun x=>rfl) (!nr) (fun Q' h=>⟨_,rfl,nr,rfl,h⟩) (fun hb Q' h=>?_) (fun hb=>⟨ab,as,rfl,ss,has,sm,sb⟩) ?_
     ·refine⟨_,rfl,qi.p,_,_,_,rfl,rfl,SqL.of P7.p,rfl,h _ ⟨qi.o,pp.owns,rfl,P7.o,fun y hy=>hy,?_,fun z=>?_⟩⟩
      ·rw[hn]
       unfold Y0
       rw[List.length_map,List.length_range]
       omega
      ·have:=P6.o
       rw[z,G]at this
       cases this
     ·rintro x ⟨Z,J,rfl,hK,hf,sF,hH⟩
      refine⟨_,rfl,.inl ⟨rfl,_,SqL.of hB⟩,_,rfl,_,rfl,_,rfl,?_⟩
      refine⟨v,D,inH l A [],Z,J,pr,i,hs,M7 b hs.length,rfl,hS.keep s7.tups (fun a as ha sy=>⟨s7 _ _ sy,ha⟩),hK,OK.ok pr (AD ht),(fun y hy=>sA y (hf y hy)),s7 _ _ (s6 _ _ hq),a1J _ _,fun r rw H9 s8 hE hm=>?_⟩
      have sO:us.length=B.length:=AE hC
      have hP:=s8 _ _ hB
      refine⟨Y,_,_,rfl,rfl,hP,J8 (by omega),?_⟩
      have T8:J9 H7 (upd H9 Y (.lst (us++[.ref r]))):=s8.tups.trans (J9.lst hP)
      have T9:J9 H9 (upd H9 Y (.lst (us++[.ref r]))):=J9.lst hP
      have hJ:a1o (upd H9 Y (.lst (us++[.ref r]))) (us++[.ref r]) (B++[rw]):=Paired.snoc (hC.mono T8) ⟨r,rfl,hE.mono T9⟩
      have hG:Paired (a1U (M7 b hs.length) pp.owns) (pp.rows.take (j+1)) (B++[rw]):=by
       rw[J2 ht]
       exact Paired.snoc hz (hm.mono hf)
      have sf:G5 H6 (upd H9 Y (.lst (us++[.ref r]))):=(s7.trans s8).put G
      have hF:upd H9 Y (.lst (us++[.ref r])) Z=some (.lst (J.map V.str)):=by rw[G8 hH];exact s8 _ _ hK
      have sj:(B++[rw]).length=j+1:=by rw[List.length_append,hL];rfl
      cases nr with
      | false=>exact⟨_,rfl,_,rfl,F8 ⟨Z,J,_,_,_,rfl,sf,G1,hJ,sj,hG,hF,hf,by omega,hH⟩⟩
      | true=>
       refine⟨_,rfl,_,rfl,B9 ?_⟩
       have em:atI (us++[V.ref r]) (-1)=some (.ref r):=b3I us _
       refine⟨_,rfl,_,rfl,_,rfl,Y,_,_,_,rfl,rfl,SqL.of G1,em,?_⟩
       refine⟨r,rw,rfl,hE.mono T9,fun lo sB hV sJ hN=>?_⟩
       have hT:=hm.owned
       have sM:(a0V pr).length<=6:=by
        have:=OK.ok pr (AD ht)
        cases pr with
        | own k n xs=>simp[a0V]
        | bring jj sK xs=>simp only[a0V,List.length_map];exact this.2.2.1
        | _=>simp[a0V]
       refine⟨Z,lo,_,_,rfl,rfl,hV _ _ hF,hN,a9b (by rw[List.length_map,List.length_map,hT];omega),fun pn sd=>?_⟩
       have hQ:G5 (upd H9 Y (.lst (us++[.ref r]))) (upd sB pn (.lst (J.map V.str++(a5y rw).map V.str))):=hV.new sd
       refine⟨pn,J++a5y rw,_,us++[.ref r],B++[rw],rfl,sf.trans hQ,hQ _ _ G1,hJ.mono hQ.tups,sj,hG,by rw[G1,AG],fun y hy=>?_,by rw[List.length_append,hT];omega,fun z=>?_⟩
       ·rcases AL.mp hy with z | z
        ·exact hf y z
        ·rw[hT]at z
         exact OK.md.mem_iff.mp (BH.mpr ⟨pr,AD ht,z⟩)
       ·have:=hV _ _ (G1 (H:=H9) (a:=Y) (o:= .lst (us++[.ref r])))
        rw[<-z,sd]at this
        cases this
    ·rintro σ H7 ⟨ab,as,v9,us,B,rfl,s7,hB,hC,hL,hz,_⟩
     rw[sq,AW]at hz
     refine⟨_,rfl,.inl ⟨rfl,_,SqL.of (s7 _ _ (s6 _ _ hk))⟩,_,rfl,_,rfl,?_⟩
     refine⟨Y,_,rfl,.inl ⟨SqL.of hB,fun u hu=>?_⟩⟩
     have s8:G5 H7 (upd H7 u (.tup us)):=(G5.refl H7).new hu
     refine⟨O4,fun tp hZ=>?_⟩
     have s9:=s8.new (o:= .tup [.str (Y7 b (i:Int)),.ref u]) hZ
     have hw:G5 H5 (upd (upd H7 u (.tup us)) tp (.tup [.str (Y7 b (i:Int)),.ref u])):=(s6.trans s7).trans s9
     refine⟨d,_,_,rfl,rfl,hw _ _ hk,J8 (by rw[AE hA,hc];omega),?_⟩
     have si:=hw _ _ hk
     have T9:=J9.lst (ys:=vs++[.ref tp]) si
     have sb:∀{c:Addr}{ws:List V},(upd (upd H7 u (.tup us)) tp (.tup [.str (Y7 b (i:Int)),.ref u])) c=some (.tup ws)->c≠d:=fun{c ws}e z=>by rw[z,si]at e;cases e
     refine⟨ps++[(Y7 b (i:Int),B)],vs++[.ref tp],_,_,_,_,_,rfl,(s5.trans hw).put sw,?_,G1,Paired.snoc (Paired.mapP hA fun _ _ z=>z.mono (hw.tups.trans T9)) ⟨tp,u,us,rfl,T9 _ _ G1,T9 _ _ (U2 G1 hZ),(hC.mono (s9.tups.trans T9))⟩,by rw[List.length_append,hc];rfl,?_⟩
     ·rw[G8 sx]
      exact hw _ _ hq
     ·intro i' sl sn e1 e2
      by_cases su:i' < ps.length
      ·rw[List.getElem?_append_left su]at e2
       exact hg i' sl sn e1 e2
      ·rw[BS (by omega)]at e2
       have h0:i' - ps.length=0:=by
        have:=(List.getElem?_eq_some_iff.mp e2).1
        simp only[List.length_singleton]at this
        omega
       rw[h0]at e2
       simp only[List.getElem?_cons_zero,Option.some.injEq]at e2
       have so:i'=i:=by omega
       subst so
       rw[ei]at e1
       cases e1
       rw[<-e2]
       exact⟨rfl,hz⟩
   ·rintro σ H5 ⟨ps,vs,v5,v6,v7,v8,v9,rfl,s5,hq,hk,hA,hc,hg⟩
    rw[List.length_map,a1J]at hc
    refine⟨_,rfl,d,_,rfl,SqL.of hk,fun a o ha ho=>?_⟩
    have s6:G5 H5 (upd H5 a (.frz o (.tup vs))):=(G5.refl H5).new ha
    exact q a ps _ (s5.trans s6) ⟨o,vs,G1,ho,Paired.mapP hA fun _ _ z=>z.mono s6.tups⟩ hc hg
theorem a6f{H:Hp}{l x:Addr}{A:List Q4}{D:List Pp}(h:U4 H l A [] D)(hx:H x=none):¬inH l A [] x:=by
 rintro(z | z | ⟨i,q,y,e,B,z⟩)
 ·rw[z,h.ll]at hx;cases hx
 ·simp at z
 ·obtain⟨xs,j⟩:=h.there e B
  rw[z,hx]at j;cases j
theorem a6E{H H1 H2:Hp}{l:Addr}{A:List Q4}(n:New H l A)(s:G5 H H1)(k:B1 l A H1 H2):G5 H H2:=fun a o e=>by
 refine k a o ?_ (s _ _ e)
 rintro(z | z | ⟨i,q,y,j,B,z⟩)
 ·rw[z,n.1]at e;cases e
 ·simp at z
 ·rw[<-z,n.2 i q y j B]at e;cases e
theorem b2t{D F:Int}{q:List Pp}(h:b2a q):a6l D F q:=fun i G e=>by
 obtain⟨h1,h2,B,_⟩:=h G (AD e)
 refine⟨⟨0,by rw[h2];rfl,by omega⟩,⟨0,by rw[B];rfl,by omega⟩,by rw[h1];simp,by rw[h1,h2];exact List.Perm.refl _,by rw[h1,B];exact List.Perm.refl _,fun pr j=>by rw[h1]at j;simp at j⟩
structure O7(hs:List Pp)(b0 b1 b2:Int)(ps:List Pt):Prop where
 r0:0<=b0/\b0 < 2147483647
 r1:0<=b1/\b1 < 2147483647
 r2:0<=b2/\b2 < 2147483647
 lo:1<=hs.length
 hi:hs.length<=24
 inv:a6l b0 b1 hs
 len:ps.length=hs.length
 fin:b6F b2 hs ps
 rk:a6i hs
noncomputable def a9m (K:W.Frag):Sp:=fun vs H Q _=>∃(a:Addr)(ns:List Int),vs=[.ref a]/\SqL K H a (ns.map V.int)/\ns.length<=1000/\∀(x:Addr)(hs:List Pp)(b0 b1 b2:Int)(ps:List Pt)(H':Hp),G5 H H'->D6 H' x ps->O7 hs b0 b1 b2 ps->Q (.ref x) H'
theorem b2o(T:Txt K mg):L2.Cl P w K mg base 5 "_law_parts" ["_law_script"] (a9m K):=by
 have B:=a4d (P:=P) (w:=w) (base:=base) T
 have F:=b1I (P:=P) (w:=w) (base:=base) T
 have O:=b2R (P:=P) (w:=w) (base:=base) T
 have G:=b3l (P:=P) (w:=w) (base:=base) T
 have Y:=b3k (P:=P) (w:=w) (base:=base) T
 have D:=a7V (P:=P) (w:=w) (base:=base) T
 refine Cl.of T.d_law_parts a0W (fun vs H Q E h=>?_) (fun _ _ _ _ _ _ us hl=>by obtain⟨a,rfl⟩:=a3N hl;rfl) (fun f hB A' outer s H vs Q E hr h=>?_)
 ·obtain⟨a,ns,rfl,_⟩:=h
  rfl
 ·obtain⟨a,ns,rfl,hS,hC,q⟩:=h
  refine⟨_,(G3 (J1 (i:=1) a0W.nd rfl (Or.inl rfl) (W0 O hr (by rfl) (G0 (pv 0) G4)))
   (G3 (J1 (i:=2) a0W.nd rfl (Or.inl rfl) (W0 G hr (by rfl) (G0 (pv 0) G4)))
   (G3 (Y9 AN rfl (b1S (by rfl) T.n_range (G0 G2 (G0 (U5 (a4H rfl) (by rfl) T.n_min boot_min (G0 (U5 (a6I rfl) (by rfl) T.n_max boot_max (G0 (U5 R5 (by rfl) T.n_len PySem.boot_len (G0 (pv 0) G4)) (G0 G2 G4))) (G0 G2 G4))) G4))) (I9 (i:=3) a0W.nd rfl (Or.inl rfl))
    (G6 (Y1 (W0 Y hr (by rfl) (G0 (pv 1) (G0 (pv 2) (G0 (W0 F hr (by rfl) (G0 (W0 B hr (by rfl) (G0 (pv 0) (G0 (pv 3) G4))) (G0 (pv 3) G4))) G4)))))))
   (G6 (R9 (W0 D hr (by rfl) (G0 (pv 1) (G0 (I0 J7 (pv 2) G2 (fun _ _=>rfl)) (G0 (b0g a6d (G9 U6 (G9 W8 (W0 B hr (by rfl) (G0 (pv 0) (G0 G2 G4))) G2) G2) G2 (U0 _)) G4))))))))),?_⟩
  refine⟨_,rfl,a,ns,rfl,hS,fun l A hs H1 s1 hh hb hD hA Z=>?_⟩
  refine⟨_,rfl,a,ns,rfl,s1.seq hS,fun pl b0 b1 b2 H2 s2 hj hc r0 r1 r2=>?_⟩
  have hP:a2R H2 pl l A b0 b1 b2:=⟨hc,a6f hh hj,r0,r1,r2⟩
  have hg:=s1.trans s2
  have hJ:∀M:Int,(if(83:Int) < M then(83:Int)else M)<=83:=fun M=>by split<;>omega
  have hn:(13:Int)<=(if(83:Int) < (if(13:Int) > ((ns.map V.int).length:Int)then 13 else((ns.map V.int).length:Int))then(83:Int)else(if(13:Int) > ((ns.map V.int).length:Int)then 13 else((ns.map V.int).length:Int))):=by split<;>split<;>omega
  refine⟨_,rfl,a,_,rfl,.inl (hg.seq hS),_,_,rfl,_,_,rfl,?_⟩
  have hz:=hJ (if(13:Int) > ((ns.map V.int).length:Int)then 13 else((ns.map V.int).length:Int))
  generalize (if(83:Int) < (if(13:Int) > ((ns.map V.int).length:Int)then 13 else((ns.map V.int).length:Int))then(83:Int)else(if(13:Int) > ((ns.map V.int).length:Int)then 13 else((ns.map V.int).length:Int)))=J at hn hz⊢
  refine⟨_,_,rfl,⟨by omega,by omega,by omega,by omega⟩,a0g (fun i σ H3=>∃(U:List Pp)(v3:Option V),σ=[some (.ref a),some (.ref l),some (.ref pl),v3]/\U4 H3 l A [] U/\U.length=hs.length/\a6l b0 b1 U/\a6i U/\B1 l A H2 H3)
   ⟨hs,none,rfl,hh.same s2,rfl,b2t Z,⟨fun _ _=>0,0,fun _ _=>AI _,fun i pp e j ps xs hm=>by rw[(Z pp (AD e)).1]at hm;simp at hm⟩,B1.refl l A H2⟩ ?_ ?_⟩
  ·rintro i σ H3 hi ⟨U,v3,rfl,h3,ho,ha,he,k3⟩
   have S3:=a6E hb hg k3
   refine⟨_,rfl,_,rfl,_,rfl,_,rfl,a,ns,_,rfl,S3.seq hS,(by omega),fun c=>?_⟩
   refine⟨_,rfl,c,_,rfl,(by omega),(by omega),fun x xs H4 s4 hq hx ht hw=>?_⟩
   refine⟨l,pl,x,A,U,b0,b1,b2,xs,rfl,h3.same s4,hP.keep (k3.same s4),⟨hx,a6f h3 hq⟩,⟨ht,hw⟩,by omega,by omega,ha,he,fun hk H5 h5 hE hy hu k5=>?_⟩
   exact⟨hk,_,rfl,h5,by omega,hy,hu,(k3.same s4).trans k5⟩
  ·rintro σ H3 ⟨U,v3,rfl,h3,ho,ha,he,k3⟩
   have S3:=a6E hb hg k3
   refine⟨_,rfl,_,rfl,pl,_,_,_,rfl,rfl,SqL.of (hP.keep k3).h,rfl,?_⟩
   refine⟨_,rfl,a,ns,_,rfl,S3.seq hS,(by decide),fun c=>?_⟩
   refine⟨_,_,rfl,rfl,⟨by decide,by decide⟩,_,_,rfl,rfl,(by show(0:Int) < 3;decide),_,_,rfl,rfl,?_⟩
   refine⟨l,A,U,b0,b1,b2,_,rfl,h3,r2,r0.1,by omega,by omega,ha,fun x ps H4 s4 hp hc hf=>?_⟩
   exact q x U b0 b1 b2 ps H4 (S3.trans s4) hp ⟨r0,r1,r2,by omega,by omega,ha,hc,hf,he⟩
noncomputable def b0z (K:W.Frag):Sp:=fun vs H Q _=>∃(a:Addr)(ns:List Int),vs=[.ref a]/\SqL K H a (ns.map V.int)/\ns.length<=63/\∀H',Q (.bl true) H'
theorem O7.at{j:List Pp}{F G B:Int}{ps:List Pt}(d:O7 j F G B ps){i:Nat}{pt:Pt}(e:ps[i]?=some pt):∃q,j[i]?=some q/\b5M F G j i q/\pt.1=Y7 B (i:Int)/\Paired (a1U (M7 B j.length) q.owns) q.rows pt.2:=by
 have hi:i < j.length:=by rw[<-d.len];exact(List.getElem?_eq_some_iff.mp e).1
 have D:j[i]?=some j[i]:=by simp[hi]
 exact⟨j[i],D,d.inv i _ D,d.fin i _ _ D e⟩
theorem O7.names{q:List Pp}{B D j:Int}{ps:List Pt}(d:O7 q B D j ps):ps.map (·.1)=M7 j q.length:=by
 apply List.ext_getElem?
 intro i
 rw[List.getElem?_map]
 cases e:ps[i]? with
 | none=>
  have h:=List.getElem?_eq_none_iff.mp e
  exact(List.getElem?_eq_none_iff.mpr (by rw[a1J,<-d.len];exact h)).symm
 | some pt=>
  obtain⟨F,_,_,h,_⟩:=d.at e
  have hi:i < q.length:=by rw[<-d.len];exact(List.getElem?_eq_some_iff.mp e).1
  rw[a7a j _ hi]
  exact congrArg some h
theorem a7U{b:Int}(B:0<=b){n:Nat}(F:n<=24):(M7 b n).Nodup:=by
 unfold M7
 rw[BJ,List.pairwise_map]
 refine List.Pairwise.imp_of_mem (fun{i j}hi D q h=>q ?_) List.nodup_range
 have h1:=List.mem_range.mp hi
 have h2:=List.mem_range.mp D
 have:=a4C B (by omega) (by omega) (by omega) (by omega) h
 omega
theorem O7.nodup{D:List Pp}{j B q:Int}{ps:List Pt}(d:O7 D j B q ps):(ps.map (·.1)).Nodup:=by
 rw[d.names]
 exact a7U d.r2.1 d.hi
theorem O7.rows{D:List Pp}{j B q:Int}{ps:List Pt}(d:O7 D j B q ps){i:Nat}{pt:Pt}(e:ps[i]?=some pt):pt.2.length<=40:=by
 obtain⟨F,_,h1,_,h2⟩:=d.at e
 rw[<-AE h2]
 exact h1.r
theorem B4{α:Type}[DecidableEq α]:∀(l N:List α),l.Nodup->(∀x∈l,x∈N)->l.length<=N.length
 | [],N,_,_=>Nat.zero_le _
 | a::r,N,j,q=>by
  rw[BK]at j
  have B:a∈N:=q a AM
  have h1:=B4 r (N.erase a) j.2 fun x hx=>(List.mem_erase_of_ne (fun z=>j.1 (by rw[<-z];exact hx))).mpr (q x (AK _ hx))
  rw[List.length_erase_of_mem B]at h1
  have:0 < N.length:=List.length_pos_of_mem B
  simp only[List.length_cons];omega
theorem b3F(l:List Str)(x:Str):W2 (F7 l) (Sum.inr x)=if x∈l then some (.bl true)else none:=by
 induction l with
 | nil=>rfl
 | cons a r q=>
  have e:F7 (a::r)=(Sum.inr a,.bl true)::F7 r:=rfl
  rw[e]
  by_cases h:a=x
  ·subst h
   rw[F5 rfl,if_pos AM]
  ·rw[E9 (fun z=>h (Sum.inr.inj z)),q]
   by_cases j:x∈r
   ·rw[if_pos j,if_pos (AK _ j)]
   ·rw[if_neg j,if_neg (fun z=>by rcases List.mem_cons.mp z with y | y;exact h y.symm;exact j y)]
theorem a6P(l:List Str)(x:Str):(W2 (F7 l) (Sum.inr x)).isSome=decide (x∈l):=by
 rw[b3F]
 by_cases h:x∈l
 ·rw[if_pos h,decide_eq_true h];rfl
 ·rw[if_neg h,AZ h];rfl
theorem a8y(l:List Str)(x y:Str):y∈a1m l x↔y∈l\/y=x:=by
 unfold a1m
 by_cases h:x∈l
 ·rw[if_pos h]
  exact⟨.inl,fun z=>by rcases z with z | z;exact z;rw[z];exact h⟩
 ·rw[if_neg h,AL,AC]
structure a0E(ps:List Pt):Prop where
 nd:(ps.map (·.1)).Nodup
 hi:ps.length<=24
 rows:∀pt∈ps,pt.2.length<=40
theorem O7.fit{F:List Pp}{q D B:Int}{ps:List Pt}(d:O7 F q D B ps):a0E ps:=⟨d.nodup,by rw[d.len];exact d.hi,fun pt j=>by
 obtain⟨i,hi⟩:=AT j
 exact d.rows hi⟩
theorem a5n{c:TT}{tb R:TS}{D:a0m}{N:L2.St->Hp->Prop}{i:Nat}{v:V}{σ:L2.St}{H:Hp}(e:N=a3e (a7f c tb) R D)(h:a7f c tb {D with nx:=R D} (σ.set i (some v)) H):M3 i v σ H N:=by
 show N (σ.set i (some v)) H
 rw[e]
 exact h
theorem a5L(T:Txt K mg):L2.Cl P w K mg base 1 "named_parts" ["parts","part","kind"] a7L:=by
 refine Cl.of T.d_named_parts a1d (fun vs H Q E h=>?_) (fun _ _ _ _ _ _ us hl=>by obtain⟨a,b,c,rfl⟩:=a6n hl;rfl) (fun f hh A outer s H vs Q E hr h=>?_)
 ·obtain⟨a,ps,n,k,D,rfl,_⟩:=h
  rfl
 ·obtain⟨a,ps,n,k,D,rfl,hk,⟨o,vs,ha,ho,hc⟩,hf,U,hp,hj,q⟩:=h
  have hu:=B2 hr
  refine⟨_,(G3 (J1 (i:=3) a1d.nd rfl (Or.inl rfl) a3W)
   (G3 (Y9 AN rfl (D1 (Z4 hu (Y6 (a3l rfl) (by rfl) T.n_dict boot_dict (G0 (pv 0) G4)) (pv 1) (fun _ _=>rfl))) (I9 (i:=4) a1d.nd rfl (Or.inl rfl))
    (G6 (U8 (J6 O3 (I0 J5 (pv 4) G2 (fun _ _=>rfl)) (pv 2) (U0 _))
     (G6 (E5 hu (pv 3) (I0 J5 (pv 4) G2 (fun _ _=>rfl)) a3D rfl)) R8)))
   (G6 (R9 (Y6 (a4X rfl) (by rfl) T.n_tuple boot_tuple (G0 (pv 3) G4)))))),?_⟩
  intro d gd
  have s1:G5 H (upd H d (.dK [])):=(G5.refl H).new gd
  obtain⟨O,g1,g2,g3⟩:=a1t (K:=K) (Paired.mapP hc fun _ _ z=>z.mono s1.tups)
  obtain⟨u,ws,k1,k2,k3⟩:=g3 n D U
  have hn:O.length=ps.length:=by
   have:=congrArg List.length g2
   simpa using this
  refine⟨_,rfl,a,o,vs,O,rfl,s1 _ _ ha,ho,g1,(by omega),fun e J=>?_⟩
  have s2:=s1.new (o:= .dK (a0f O [])) J
  refine⟨_,rfl,e,.ref u,rfl,?_,?_⟩
  ·have hg:=E3.k (k:=Sum.inr n) (G1 (H:=upd H d (.dK [])) (a:=e) (o:= .dK (a0f O [])))
   rw[a2T O [] n (.ref u) (by rw[g2];exact hf) (.inl k1)]at hg
   exact hg
  ·have s2:G5 H (upd (upd H d (.dK [])) e (.dK (a0f O []))):=s1.new J
   have hb:d≠e:=Y8 (G1 (H:=H) (a:=d) (o:= .dK [])) J
   have he:ws.length=D.length:=AE k3
   refine⟨u,rfl,⟨_,SqT.of (U2 k2 J)⟩,F9 (K:=K) (a:=u) (xs:=ws) (fun i σ H2=>∃v4:Option V,σ=[some (.ref a),some (.str n),some (.str k),some (.ref d),v4]/\G5 H H2/\H2 d=some (.dK (F7 (B3 k (D.take i))))/\H2 u=some (.tup ws)/\a1o H2 ws D)
    ⟨none,rfl,s2,?_,U2 k2 J,k3.mono (J9.new J)⟩ (fun i σ H2 _⟨_,_,_,_,Z,_⟩=>SqT.of Z) ?_ ?_⟩
   ·rw[G8 hb,G1];rfl
   ·rintro i y σ H2 hx ⟨v4,rfl,s3,B,G,F⟩
    have hi:i < ws.length:=(List.getElem?_eq_some_iff.mp hx).1
    obtain⟨rw,hrw,r,er,hra⟩:=Paired.get? F hx
    subst er
    have hm:(B3 k (D.take i)).length<=900:=by
     have h1:=a2E k (D.take i) []
     have h2:(D.take i).length<=D.length:=List.length_take_le' ..
     unfold B3
     simp only[List.length_nil]at h1
     omega
    have Y:D.take (i+1)=D.take i++[rw]:=J2 hrw
    rcases hra.named hk with⟨e1,p,rest,Z,h2⟩ | ⟨e1,Z⟩
    ·have z0:atI (V.str k::V.str p::rest) 0=some (.str k):=R3 (j:=0) rfl
     have z1:atI (V.str k::V.str p::rest) 1=some (.str p):=R3 (j:=1) rfl
     refine⟨_,rfl,r,_,_,_,rfl,rfl,SqT.of h2,z0,_,rfl,rfl,_,rfl,D8 ?_⟩
     refine⟨_,rfl,_,rfl,r,_,_,_,rfl,rfl,SqT.of h2,z1,d,_,rfl,a0z.k (k:=Sum.inr p) B (J8 (by rw[a3M];omega)),?_⟩
     refine⟨_,rfl,s3.put gd,?_,?_,F.mono (J9.dK B)⟩
     ·rw[G1,a5T,Y,a3K]
      unfold a2x
      rw[Z]
     ·exact J9.dK B _ _ G
    ·obtain⟨x,rest,h2⟩:=hra.kind
     have z0:atI (V.str (R4 rw)::x::rest) 0=some (.str (R4 rw)):=R3 (j:=0) rfl
     refine⟨_,rfl,r,_,_,_,rfl,rfl,SqT.of h2,z0,_,rfl,rfl,_,rfl,U9 e1 ?_⟩
     refine⟨_,rfl,s3,?_,G,F⟩
     rw[Y,a3K]
     unfold a2x
     rw[Z]
     exact B
   ·rintro σ H2 ⟨v4,rfl,s3,B,G,F⟩
    rw[he,AW]at B
    refine⟨_,rfl,d,_,rfl,.inl B,fun t gt=>?_⟩
    refine q t _ (s3.new gt) ?_
    rw[G1,a6W]
theorem b1J(T:Txt K mg):L2.Cl P w K mg base 2 "brings" ["parts","part"] (b4e "bring"):=by
 have j:=a5L (P:=P) (w:=w) (base:=base) T
 refine Cl.of T.d_brings b1B (fun J H Q E h=>?_) (fun _ _ _ _ _ _ us hl=>by obtain⟨a,b,rfl⟩:=a4j hl;rfl) (fun f O A outer s H J Q E D h=>?_)
 ·obtain⟨a,ps,n,B,rfl,_⟩:=h
  rfl
 ·obtain⟨a,ps,n,B,rfl,h1,h2,F,U,G,q⟩:=h
  refine⟨_,(G6 (R9 (W0 j D (by rfl) (G0 (pv 0) (G0 (pv 1) (G0 R7 G4)))))),?_⟩
  exact⟨_,rfl,_,rfl,a,ps,n,"bring",B,rfl,.inl rfl,h1,h2,F,U,G,q⟩
theorem a9f{l:List Str}(h:l.Nodup)(x:Str):(a1m l x).Nodup:=by
 unfold a1m
 by_cases hx:x∈l
 ·rw[if_pos hx];exact h
 ·rw[if_neg hx]
  refine AR.mpr ⟨h,by simp,fun a q b j z=>?_⟩
  rw[AC.mp j]at z
  exact hx (by rw[<-z];exact q)
theorem a8o(k m:Str):∀(rs:List Rw)(l:List Str),m∈rs.foldl (a2x k) l↔m∈l\/∃r∈rs,Z2 k r=some m
 | [],l=>by simp
 | r::rs,l=>by
  rw[List.foldl_cons,a8o k m rs]
  have h:m∈a2x k l r↔m∈l\/Z2 k r=some m:=by
   unfold a2x
   cases e:Z2 k r with
   | none=>simp
   | some x=>
    show m∈a1m l x↔_
    rw[a8y]
    simp only[Option.some.injEq]
    exact⟨fun z=>by rcases z with z | z;exact .inl z;exact .inr z.symm,fun z=>by rcases z with z | z;exact .inl z;exact .inr z.symm⟩
  rw[h]
  simp only[List.mem_cons,exists_eq_or_imp,or_assoc]
theorem a0L(k m:Str)(rs:List Rw):m∈B3 k rs↔∃r∈rs,Z2 k r=some m:=by
 unfold B3
 rw[a8o]
 simp
noncomputable def muS (f wl:Addr) (H:Hp):Nat:=match H f,H wl with
 | some (.dK kvs),some (.lst W)=>(50 - kvs.length)*101+W.length
 | _,_=>0
theorem a9q{f j:Addr}{H:Hp}{l W:List Str}(h1:H f=some (.dK (F7 l)))(h2:H j=some (.lst (W.map V.str))):muS f j H=(50 - l.length)*101+W.length:=by
 unfold muS
 rw[h1,h2]
 simp only[a3M,List.length_map]
theorem b1Z(W:List Str):(W.map V.str).dropLast=W.dropLast.map V.str:=by
 rw[List.map_dropLast]
theorem b1x{B owns:List Str}{pr:Pr}{rw:Rw}{m:Str}(h:a1U B owns pr rw)(F:Z2 "bring" rw=some m\/Z2 "ask" rw=some m):m∈B:=by
 have nb:∀p ps,(Z2 "bring" (.bring p ps)=some m\/Z2 "ask" (.bring p ps)=some m)->m=p:=fun p ps z=>by
  rcases z with z | z
  ·have D:Z2 "bring" (.bring p ps)=some p:=by simp[Z2]
   rw[D]at z
   exact(Option.some.inj z).symm
  ·have G:Z2 "ask" (.bring p ps)=none:=by
    show(if("bring":Str)="ask" then some p else none)=none
    rw[if_neg (by decide +kernel)]
   rw[G]at z
   cases z
 have J:∀p o,(Z2 "bring" (.ask p o)=some m\/Z2 "ask" (.ask p o)=some m)->m=p:=fun p o z=>by
  rcases z with z | z
  ·have G:Z2 "bring" (.ask p o)=none:=by
    show(if("ask":Str)="bring" then some p else none)=none
    rw[if_neg (by decide +kernel)]
   rw[G]at z
   cases z
  ·have D:Z2 "ask" (.ask p o)=some p:=by simp[Z2]
   rw[D]at z
   exact(Option.some.inj z).symm
 have q:∀r,Z2 "bring" r=none->Z2 "ask" r=none->r=rw->False:=fun r h1 h2 e=>by
  subst e
  rcases F with z | z
  ·rw[h1]at z;cases z
  ·rw[h2]at z;cases z
 cases pr with
 | own k n xs=>
  rcases h with⟨_,e⟩ | ⟨_,ts,e,_⟩
  ·exact(q _ rfl rfl e.symm).elim
  ·exact(q _ rfl rfl e.symm).elim
 | bring j ps xs=>
  obtain⟨nm,h1,e⟩:=h
  subst e
  rw[nb _ _ F]
  exact AD h1
 | give o g xs=>exact(q _ rfl rfl (show rw= .give o g from h).symm).elim
 | ask j xs=>
  obtain⟨nm,w,h1,e,_⟩:=h
  subst e
  rw[J _ _ F]
  exact AD h1
 | sum k xs=>
  rcases h with⟨_,ts,e,_⟩ | ⟨_,ts,w,e,_⟩
  ·exact(q _ rfl rfl e.symm).elim
  ·exact(q _ rfl rfl e.symm).elim
inductive Dfs (k:Str->List Str):List Str->List Str->List Str->Prop where
 | nil {V:List Str}:Dfs k V [] V
 | old {V r R:List Str} {n:Str}:n∈V->Dfs k V r R->Dfs k V (n::r) R
 | new {V r R:List Str} {n:Str}:n∉V->Dfs k (V++[n]) (k n++r) R->Dfs k V (n::r) R
noncomputable def R0 (ps:List Pt) (n:Str):List Rw:=((ps.find? fun p=>decide (p.1=n)).map (·.2)).getD []
theorem O6:∀{ps:List Pt}{n:Str}{rs:List Rw},(ps.map (·.1)).Nodup->(n,rs)∈ps->R0 ps n=rs
 | [],n,rs,_,h=>by simp at h
 | p::ps,n,rs,j,h=>by
  rw[List.map_cons,BK]at j
  rcases List.mem_cons.mp h with e | e
  ·unfold R0
   rw[List.find?_cons_of_pos (by rw[<-e];simp),<-e];rfl
  ·have q:¬p.1=n:=fun z=>j.1 (by rw[z];exact AS (f:=(·.1)) e)
   have:=O6 j.2 e
   unfold R0 at this⊢
   rw[List.find?_cons_of_neg (by simpa using q)]
   exact this
noncomputable def k1 (ps:List Pt) (n:Str):List Str:=B3 "bring" (R0 ps n)
noncomputable def a0l (ps:List Pt):Prop:=∀n∈ps.map (·.1),∀m∈k1 ps n,m∈ps.map (·.1)
theorem a0q{ps:List Pt}{n:Str}(h:n∈ps.map (·.1)):∃rs,(n,rs)∈ps:=by
 obtain⟨p,j,e⟩:=AO.mp h
 exact⟨p.2,by rw[<-e];exact j⟩
theorem O7.closedB{U:List Pp}{G Z J:Int}{ps:List Pt}(d:O7 U G Z J ps):a0l ps:=fun n O m B=>by
 obtain⟨Y,q⟩:=a0q O
 unfold k1 at B
 rw[O6 d.nodup q]at B
 obtain⟨r,F,e⟩:=(a0L "bring" m Y).mp B
 obtain⟨i,hi⟩:=AT q
 obtain⟨pp,_,_,_,h2⟩:=d.at hi
 obtain⟨j,D⟩:=AT F
 obtain⟨pr,_,hf⟩:=Paired.get?' h2 D
 rw[d.names]
 exact b1x hf (.inl e)
noncomputable def b4x:Sp:=fun vs H Q _=>∃(a:Addr)(ps:List Pt)(n:Str),vs=[.ref a,.str n]/\D6 H a ps/\a0E ps/\a0l ps/\n∈ps.map (·.1)/\∀(p:Addr)(R:List Str)(H':Hp),G5 H H'->H' p=some (.tup (R.map V.str))->Dfs (k1 ps) [] [n] R->Q (.ref p) H'
theorem b3r(T:Txt K mg):L2.Cl P w K mg base 3 "order" ["parts","root"] b4x:=by
 have G:=b1J (P:=P) (w:=w) (base:=base) T
 refine Cl.of T.d_order a3F (fun vs H Q E h=>?_) (fun _ _ _ _ _ _ us hl=>by obtain⟨a,b,rfl⟩:=a4j hl;rfl) (fun fa hU A outer s H vs Q E hr h=>?_)
 ·obtain⟨a,ps,n,rfl,_⟩:=h
  rfl
 ·obtain⟨a,ps,root,rfl,hO,B,hK,hz,q⟩:=h
  have hu:=B2 hr
  have hN:(ps.map (·.1)).length<=24:=by rw[List.length_map];exact B.hi
  refine⟨_,(G3 (J1 (i:=2) a3F.nd rfl (Or.inl rfl) a3W)
   (G3 (J1 (i:=3) a3F.nd rfl (Or.inl rfl) (Y3 (G0 (pv 1) G4)))
   (G3 (a1P AN (a8k (pv 3) (fun _=>rfl))
    (G3 (J1 (i:=4) a3F.nd rfl (Or.inl rfl) (a7s PySem.F.plainAttrs_list PySem.F.slot_list_pop PySem.F.type_list_pop a7m (pv 3)))
    (G6 (U8 (a0R (a1M hu (pv 4) (pv 2)))
     (G3 (E5 hu (pv 2) (pv 4) a3D rfl)
     (G6 (Y1 (D4 PySem.F.plainAttrs_list PySem.F.slot_list_extend PySem.F.type_list_extend a6N (pv 3) (G0 (b4i rfl (W0 G hr (by rfl) (G0 (pv 0) (G0 (pv 4) G4))) (by rfl) T.n_list (by rfl) T.n_reversed) G4))))) R8))))
   (G6 (R9 (Y6 (a4X rfl) (by rfl) T.n_tuple boot_tuple (G0 (pv 2) G4))))))),?_⟩
  intro f gf
  have s1:G5 H (upd H f (.dK [])):=(G5.refl H).new gf
  refine⟨_,rfl,a3d,fun j gw=>?_⟩
  have s2:G5 H (upd (upd H f (.dK [])) j (.lst [.str root])):=s1.new gw
  have Y:f≠j:=Y8 (G1 (H:=H) (a:=f) (o:= .dK [])) gw
  have hH:H j=none:=s1.free gw
  apply a5n
  ·with_reducible_and_instances rfl
  refine a2G (fun σ H2=>∃(l W:List Str)(v4:Option V),σ=[some (.ref a),some (.str root),some (.ref f),some (.ref j),v4]/\G5 H H2/\H2 f=some (.dK (F7 l))/\H2 j=some (.lst (W.map V.str))/\l.Nodup/\(∀n∈l,n∈ps.map (·.1))/\(∀n∈W,n∈ps.map (·.1))/\W.length+(50 - l.length)*101<=6000/\∀R,Dfs (k1 ps) l W.reverse R->Dfs (k1 ps) [] [root] R) (fun _ H2=>muS f j H2)
   ⟨[],[root],none,rfl,s2,by rw[G8 Y,G1];rfl,G1,List.nodup_nil,fun n Z=>by simp at Z,fun n Z=>by rw[AC.mp Z];exact hz,by simp only[List.length_nil,List.length_singleton];omega,fun R h=>h⟩ ?_ ?_
  ·rintro σ H2 ⟨l,W,v4,rfl,s3,hf,hw,hy,hh,hs,hY,hD⟩
   refine⟨_,rfl,_,.inl ⟨_,SqL.of hw,rfl⟩,?_⟩
   have sb:=B4 l _ hy hh
   cases hW:W.getLast? with
   | none=>
    have hP:W=[]:=List.getLast?_eq_none_iff.mp hW
    subst hP
    refine F8 ?_
    refine⟨_,rfl,f,_,rfl,.inl hf,fun p gp=>?_⟩
    rw[a6W]
    exact q p l _ (s3.new gp) G1 (hD l .nil)
   | some x=>
    have hM:W≠[]:=fun z=>by rw[z]at hW;simp at hW
    have ho:W=W.dropLast++[x]:=by
     obtain⟨ys,hJ⟩:=List.getLast?_eq_some_iff.mp hW
     rw[hJ,List.dropLast_concat]
    have hE:x∈W:=by rw[ho];simp
    have hS:0 < W.length:=List.length_pos_of_mem hE
    have he:W.reverse=x::W.dropLast.reverse:=by
     conv=>lhs;rw[ho]
     rw[List.reverse_append]
     rfl
    rw[show(!(W.map V.str).isEmpty)=true by cases W with | nil=>exact absurd rfl hM | cons _ _=>rfl]
    refine B9 ?_
    have ht:(W.map V.str)[(W.map V.str).length - 1]?=some (.str x):=by
     rw[List.getElem?_map,List.length_map,<-List.getLast?_eq_getElem?,hW];rfl
    refine⟨_,rfl,.inl ⟨rfl,_,SqL.of hw⟩,j,_,_,rfl,rfl,hw,ht,?_⟩
    rw[b1Z]
    have s4:G5 H (upd H2 j (.lst (W.dropLast.map V.str))):=s3.put hH
    have O:upd H2 j (.lst (W.dropLast.map V.str)) f=some (.dK (F7 l)):=by rw[G8 Y];exact hf
    have ha:upd H2 j (.lst (W.dropLast.map V.str)) j=some (.lst (W.dropLast.map V.str)):=G1
    have hC:=a9q hf hw
    generalize upd H2 j (.lst (W.dropLast.map V.str))=H4 at s4 O ha⊢
    have hT:W.dropLast.length=W.length - 1:=List.length_dropLast
    have U:∀n,n∈W↔n∈W.dropLast\/n=x:=fun n=>by
     conv=>lhs;rw[ho]
     rw[AL,AC]
    refine⟨_,rfl,_,rfl,f,_,rfl,E3.k (k:=Sum.inr x) O,?_⟩
    refine⟨_,rfl,?_⟩
    rw[a6P]
    by_cases hx:x∈l
    ·rw[decide_eq_true hx]
     refine F8 ?_
     refine⟨⟨l,W.dropLast,_,rfl,s4,O,ha,hy,hh,fun n Z=>hs n ((U n).mpr (.inl Z)),by omega,fun R h=>hD R ?_⟩,?_⟩
     ·rw[he];exact .old hx h
     ·show muS f j H4 < muS f j H2
      rw[a9q O ha,hC]
      omega
    ·rw[AZ hx]
     refine B9 ?_
     have hj:x∈ps.map (·.1):=hs x hE
     have D:a1m l x=l++[x]:=by unfold a1m;rw[if_neg hx]
     have hg:(a1m l x).Nodup:=a9f hy x
     have hc:∀n∈a1m l x,n∈ps.map (·.1):=fun n Z=>by
      rcases(a8y l x n).mp Z with z | z
      ·exact hh n z
      ·rw[z];exact hj
     have hI:=B4 _ _ hg hc
     rw[D,List.length_append,List.length_singleton]at hI
     refine⟨_,rfl,_,rfl,f,_,rfl,a0z.k (k:=Sum.inr x) O (J8 (by rw[a3M];omega)),?_⟩
     rw[a5T]
     have s5:G5 H (upd H4 f (.dK (F7 (a1m l x)))):=s4.put gf
     have hG:upd H4 f (.dK (F7 (a1m l x))) f=some (.dK (F7 (a1m l x))):=G1
     have hA:upd H4 f (.dK (F7 (a1m l x))) j=some (.lst (W.dropLast.map V.str)):=by rw[G8 Y.symm];exact ha
     generalize upd H4 f (.dK (F7 (a1m l x)))=H5 at s5 hG hA⊢
     obtain⟨rs,J⟩:=a0q hj
     have hR:rs.length<=40:=B.rows _ J
     have hV:=B.hi
     refine⟨_,rfl,.inl ⟨rfl,_,SqL.of hA⟩,_,rfl,_,rfl,a,ps,x,rs,rfl,s5.partsF hO,B.nd,J,by omega,by omega,fun p H6 s6 hp=>?_⟩
     have hF:B3 "bring" rs=k1 ps x:=by unfold k1;rw[O6 B.nd J]
     rw[hF]at hp
     have hX:(k1 ps x).length<=40:=by
      have h1:=a2E "bring" rs []
      rw[<-hF]
      unfold B3
      simp only[List.length_nil]at h1
      omega
     refine⟨p,_,rfl,SqT.of hp,fun c gc=>?_⟩
     rw[<-List.map_reverse]
     have hm:=s6 _ _ hA
     have hk:=s6 _ _ hG
     have hZ:j≠c:=fun z=>by rw[z,gc]at hm;cases hm
     have hL:f≠c:=fun z=>by rw[z,gc]at hk;cases hk
     refine⟨j,c,_,_,rfl,rfl,U2 hm gc,G1,Nat.le_of_lt (by
      have:sizeLine=16777216:=sizeLine_eq
      rw[List.length_map,List.length_map,BO];omega),?_⟩
     rw[<-AG]
     have s7:G5 H (upd (upd H6 c (.lst ((k1 ps x).reverse.map V.str))) j (.lst ((W.dropLast++(k1 ps x).reverse).map V.str))):=((s5.trans s6).new gc).put hH
     have hB:upd (upd H6 c (.lst ((k1 ps x).reverse.map V.str))) j (.lst ((W.dropLast++(k1 ps x).reverse).map V.str)) f=some (.dK (F7 (a1m l x))):=by rw[G8 Y,G8 hL];exact hk
     refine⟨⟨a1m l x,W.dropLast++(k1 ps x).reverse,_,rfl,s7,hB,G1,hg,hc,fun n Z=>?_,?_,fun R h=>hD R ?_⟩,?_⟩
     ·rcases AL.mp Z with z | z
      ·exact hs n ((U n).mpr (.inl z))
      ·exact hK x hj n (List.mem_reverse.mp z)
     ·rw[D,List.length_append,List.length_append,List.length_singleton,BO];omega
     ·rw[List.reverse_append,List.reverse_reverse,D]at h
      rw[he]
      exact .new hx h
     ·show muS f j _ < muS f j H2
      rw[a9q hB G1,hC,D,List.length_append,List.length_append,List.length_singleton,BO]
      omega
  ·rintro σ H2 Q1 Q2 hQ ⟨v,e,b,hb,hq⟩
   exact⟨v,e,b,hb,hQ _ _ hq⟩
noncomputable abbrev Pl:=Str×Nat×Rw
noncomputable def J3 (n:Str) (rs:List Rw):List Pl:=rs.zipIdx.map fun x=>(n,x.2,x.1)
theorem a2A(n:Str)(rs:List Rw)(rw:Rw):J3 n (rs++[rw])=J3 n rs++[(n,rs.length,rw)]:=by
 unfold J3
 rw[List.zipIdx_append,AG]
 simp
theorem Z3(n:Str)(rs:List Rw):(J3 n rs).length=rs.length:=by unfold J3;simp
noncomputable def G7 (ps:List Pt):List Pl:=ps.flatMap fun pt=>J3 pt.1 pt.2
theorem a2e(ps:List Pt)(pt:Pt):G7 (ps++[pt])=G7 ps++J3 pt.1 pt.2:=by
 unfold G7
 rw[List.flatMap_append]
 simp
theorem a1b:∀{ps:List Pt},(∀pt∈ps,pt.2.length<=40)->(G7 ps).length<=40*ps.length
 | [],_=>by simp[G7]
 | pt::r,h=>by
  have h1:=a1b (ps:=r) fun p j=>h p (AK _ j)
  have h2:=h pt AM
  have e:G7 (pt::r)=J3 pt.1 pt.2++G7 r:=rfl
  rw[e,List.length_append,Z3,List.length_cons]
  omega
noncomputable def a2i (H:Hp) (v:V) (x:Pl):Prop:=∃t r,v= .ref t/\H t=some (.tup [.str x.1,.int (x.2.1:Int),.ref r])/\a0U H r x.2.2
theorem a2i.mono{H H':Hp}(s:J9 H H'){v:V}{x:Pl}(h:a2i H v x):a2i H' v x:=by
 obtain⟨t,r,e,h1,h2⟩:=h
 exact⟨t,r,e,s _ _ h1,h2.mono s⟩
noncomputable def b3J:Sp:=fun vs H Q _=>∃(a:Addr)(ps:List Pt),vs=[.ref a]/\D6 H a ps/\a0E ps/\∀(p:Addr)(vs:List V)(H':Hp),G5 H H'->H' p=some (.tup vs)->Paired (a2i H') vs (G7 ps)->Q (.ref p) H'
theorem a3a(T:Txt K mg):L2.Cl P w K mg base 1 "placed_rows" ["parts"] b3J:=by
 refine Cl.of T.d_placed_rows D7 (fun vs H Q E h=>?_) (fun _ _ _ _ _ _ us hl=>by obtain⟨a,rfl⟩:=a3N hl;rfl) (fun fa hw A outer s H vs Q E hr h=>?_)
 ·obtain⟨a,ps,rfl,_⟩:=h
  rfl
 ·obtain⟨a,ps,rfl,hq,J,q⟩:=h
  obtain⟨o,vs,ha,ho,he⟩:=id hq
  have hc:∀{H2:Hp},G5 H H2->SqT K H2 a vs:=fun O=> .inl (.inr ⟨o,O _ _ ha⟩)
  have hm:vs.length=ps.length:=AE he
  have hz:=J.hi
  refine⟨_,(G3 (J1 (i:=1) D7.nd rfl (Or.inl rfl) (Y3 G4))
   (G3 (Y9 AN rfl (D1 (pv 0)) (E7 rfl (J0 (I9 (i:=2) D7.nd rfl (Or.inl rfl)) (J0 (I9 (i:=3) D7.nd rfl (Or.inl rfl)) Y2)))
    (G6 (Y9 AN rfl (a5Q (by rfl) T.n_enumerate (G0 (pv 3) G4)) (E7 rfl (J0 (I9 (i:=4) D7.nd rfl (Or.inl rfl)) (J0 (I9 (i:=5) D7.nd rfl (Or.inl rfl)) Y2)))
     (G6 (Y1 (D4 PySem.F.plainAttrs_list PySem.F.slot_list_append PySem.F.type_list_append Y5 (pv 1) (G0 (R1 (G0 (pv 2) (G0 (pv 4) (G0 (pv 5) G4)))) G4)))))))
   (G6 (R9 (Y6 E2 (by rfl) T.n_tuple boot_tuple (G0 (pv 1) G4)))))),?_⟩
  refine⟨a0s,fun l gl=>?_⟩
  have s1:G5 H (upd H l (.lst [])):=(G5.refl H).new gl
  refine⟨_,rfl,a,rfl,⟨_,hc s1⟩,F9 (K:=K) (a:=a) (xs:=vs) (fun i σ H2=>∃(us:List V)(v2 v3 v4 v5:Option V),σ=[some (.ref a),some (.ref l),v2,v3,v4,v5]/\G5 H H2/\H2 l=some (.lst us)/\Paired (a2i H2) us (G7 (ps.take i)))
   ⟨[],none,none,none,none,rfl,s1,G1,by rw[List.take_zero];exact .nil⟩ (fun i σ H2 _⟨_,_,_,_,_,_,O,_⟩=>hc O) ?_ ?_⟩
  ·rintro i y σ H2 hy ⟨us,v2,v3,v4,v5,rfl,O,hb,Y⟩
   obtain⟨pt,hg,t,u,ws,ey,ht,hf,hh⟩:=Paired.get? he hy
   subst ey
   have hi:i < vs.length:=(List.getElem?_eq_some_iff.mp hy).1
   have hu:=J.rows _ (AD hg)
   have hx:(G7 (ps.take i)).length<=40*23:=by
    have h1:=a1b (ps:=ps.take i) fun p hp=>J.rows p (List.mem_of_mem_take hp)
    rw[AY]at h1
    omega
   have hs:ws.length=pt.2.length:=AE hh
   refine⟨t,_,rfl,SqT.of (O _ _ ht),rfl,_,_,rfl,_,_,rfl,rfl,?_⟩
   refine⟨_,rfl,u,rfl,⟨_,SqT.of (O _ _ hf)⟩,a8n (K:=K) (a:=u) (xs:=ws) (fun j σ U=>∃(us:List V)(v4 v5:Option V),σ=[some (.ref a),some (.ref l),some (.str pt.1),some (.ref u),v4,v5]/\G5 H U/\U l=some (.lst us)/\Paired (a2i U) us (G7 (ps.take i)++J3 pt.1 (pt.2.take j)))
    ⟨us,_,_,rfl,O,hb,by rw[List.take_zero];show Paired _ us (G7 (ps.take i)++[]);rw[BB];exact Y⟩ (fun j σ U _⟨_,_,_,_,Z,_⟩=>SqT.of (Z _ _ hf)) ?_ ?_⟩
   ·rintro j y p σ U hk ⟨G,w4,w5,rfl,Z,D,B⟩ hp
    obtain⟨rw,hrw,r,er,hra⟩:=Paired.get? hh hk
    subst er
    have hj:j < pt.2.length:=(List.getElem?_eq_some_iff.mp hrw).1
    have hA:G.length=(G7 (ps.take i)).length+j:=by
     rw[AE B,List.length_append,Z3,AY];omega
    have s4:G5 U (upd U p (.tup [.int (j:Int),.ref r])):=(G5.refl U).new hp
    refine⟨p,_,rfl,SqT.of G1,rfl,_,_,rfl,_,_,rfl,rfl,?_⟩
    refine⟨_,rfl,.inl ⟨rfl,_,SqL.of (s4 _ _ D)⟩,_,rfl,_,rfl,_,rfl,a0p,fun c gc=>?_⟩
    have s5:=s4.new (o:= .tup [.str pt.1,.int (j:Int),.ref r]) gc
    refine⟨l,_,_,rfl,rfl,s5 _ _ D,J8 (by omega),?_⟩
    have T5:=s5.tups.trans (J9.lst (ys:=G++[.ref c]) (s5 _ _ D))
    have hn:c≠l:=fun z=>by rw[z]at gc;rw[s4 _ _ D]at gc;cases gc
    refine⟨G++[.ref c],_,_,rfl,(Z.trans s5).put gl,G1,?_⟩
    rw[J2 hrw,a2A,<-BD]
    refine Paired.snoc (Paired.mapP B fun _ _ z=>z.mono T5) ⟨c,r,rfl,?_,((hra.mono Z.tups).mono T5)⟩
    rw[G8 hn,G1]
    have:(pt.2.take j).length=j:=by rw[AY];omega
    simp only[this]
   ·rintro σ U ⟨G,w4,w5,rfl,Z,D,B⟩
    rw[hs,AW]at B
    refine⟨G,_,_,_,_,rfl,Z,D,?_⟩
    rw[J2 hg,a2e]
    exact B
  ·rintro σ H2 ⟨us,v2,v3,v4,v5,rfl,O,hb,Y⟩
   rw[hm,AW]at Y
   refine⟨_,rfl,l,_,rfl,.inl ⟨SqL.of hb,fun p gp=>?_⟩⟩
   have Z:G5 H2 (upd H2 p (.tup us)):=(G5.refl H2).new gp
   exact q p us _ (O.trans Z) G1 (Paired.mapP Y fun _ _ z=>z.mono Z.tups)
noncomputable def E1:Rw->Option Str
 | .set o _=>some o
 | .take o=>some o
 | _=>none
noncomputable def Z5 (pls:List Pl):List (Str×Str):=pls.filterMap fun x=>(E1 x.2.2).map fun o=>(x.1,o)
noncomputable def U1 (k:Str×Str):List Key:=[Sum.inr k.1,Sum.inr k.2]
theorem a0K{a b:Str×Str}(h:U1 a=U1 b):a=b:=by
 unfold U1 at h
 simp only[List.cons.injEq,Sum.inr.injEq,and_true]at h
 exact Prod.ext h.1 h.2
theorem J9.dT{H:Hp}{l:Addr}{kvs kvs':List (List Key×V)}(h:H l=some (.dT kvs)):J9 H (upd H l (.dT kvs')):=fun b zs q=>by
 rw[G8 (a5p q h (by intro z;cases z))]
 exact q
theorem a0o{κ:Type}[DecidableEq κ]{kvs:List (κ×V)}{k:κ}{v:V}(h:k∉kvs.map (·.1)):U7 kvs k v=kvs++[(k,v)]:=by
 unfold U7
 rw[if_neg]
 intro z
 obtain⟨p,j,e⟩:=List.any_eq_true.mp z
 exact h (by rw[<-of_decide_eq_true e];exact AS (f:=(·.1)) j)
theorem b0j{H:Hp}{r:Addr}{rw:Rw}(h:a0U H r rw):(∃o rest,(R4 rw="set" \/R4 rw="take")/\E1 rw=some o/\H r=some (.tup (.str (R4 rw):: .str o::rest)))\/(¬(R4 rw="set" \/R4 rw="take")/\E1 rw=none):=by
 cases rw with
 | set o ts=>obtain⟨t,h1,h2⟩:=h;exact .inl ⟨o,_,.inl rfl,rfl,h1⟩
 | take o=>exact .inl ⟨o,_,.inr rfl,rfl,h⟩
 | _=>exact .inr ⟨by simp only[R4];decide +kernel,rfl⟩
theorem b4v(k a b:Str):inV (.str k) [.str a,.str b]=decide (k=a\/k=b):=by
 have:=a5N k [a,b]
 simpa using this
noncomputable def b3Y:Sp:=fun vs H Q _=>∃(a:Addr)(ps:List Pt),vs=[.ref a]/\D6 H a ps/\a0E ps/\(Z5 (G7 ps)).Nodup/\∀(d:Addr)(kvs:List (List Key×V))(H':Hp),G5 H H'->H' d=some (.dT kvs)->kvs.map (·.1)=(Z5 (G7 ps)).map U1->Q (.ref d) H'
theorem b2c(T:Txt K mg):L2.Cl P w K mg base 2 "made" ["parts"] b3Y:=by
 have B:=a3a (P:=P) (w:=w) (base:=base) T
 refine Cl.of T.d_made a0D (fun vs H Q E h=>?_) (fun _ _ _ _ _ _ us hl=>by obtain⟨a,rfl⟩:=a3N hl;rfl) (fun fa hq A outer s H vs Q E hr h=>?_)
 ·obtain⟨a,ps,rfl,_⟩:=h
  rfl
 ·obtain⟨a,ps,rfl,hm,D,he,q⟩:=h
  have hu:=B2 hr
  refine⟨_,(G3 (J1 (i:=1) a0D.nd rfl (Or.inl rfl) M8)
   (G3 (Y9 AN rfl (D1 (W0 B hr (by rfl) (G0 (pv 0) G4))) (E7 rfl (J0 (I9 (i:=2) a0D.nd rfl (Or.inl rfl)) (J0 (I9 (i:=3) a0D.nd rfl (Or.inl rfl)) (J0 (I9 (i:=4) a0D.nd rfl (Or.inl rfl)) Y2))))
    (G6 (U8 (J6 a4z (I0 J5 (pv 4) G2 (fun _ _=>rfl)) (R1 (G0 R7 (G0 R7 G4))) (by with_unfolding_all rfl))
     (G6 (E5 hu (pv 1) (R1 (G0 (pv 2) (G0 (I0 J5 (pv 4) G2 (fun _ _=>rfl)) G4))) (R1 (G0 (pv 2) (G0 (pv 3) G4))) rfl)) R8)))
   (G6 (R9 (pv 1))))),?_⟩
  intro d gd
  have s1:G5 H (upd H d (.dT [])):=(G5.refl H).new gd
  refine⟨_,rfl,a,ps,rfl,s1.partsF hm,D,fun p vs H1 s2 hp hc=>?_⟩
  have hn:=s1.trans s2
  have hh:H1 d=some (.dT []):=s2 _ _ G1
  have hf:vs.length=(G7 ps).length:=AE hc
  have hs:(G7 ps).length<=960:=by
   have h1:=a1b D.rows
   have:=D.hi
   omega
  refine⟨p,rfl,⟨_,SqT.of hp⟩,F9 (K:=K) (a:=p) (xs:=vs) (fun i σ H2=>∃(kvs:List (List Key×V))(v2 v3 v4:Option V),σ=[some (.ref a),some (.ref d),v2,v3,v4]/\G5 H H2/\H2 p=some (.tup vs)/\J9 H1 H2/\H2 d=some (.dT kvs)/\kvs.map (·.1)=(Z5 ((G7 ps).take i)).map U1)
   ⟨[],none,none,none,rfl,hn,hp,J9.refl H1,hh,by rw[List.take_zero];rfl⟩ (fun i σ H2 _⟨_,_,_,_,_,_,h,_⟩=>SqT.of h) ?_ ?_⟩
  ·rintro i y σ H2 hy ⟨kvs,v2,v3,v4,rfl,s3,Y,T2,F,Z⟩
   obtain⟨⟨n,j,rw⟩,hx,t,r,ey,ht,hra⟩:=Paired.get? hc hy
   subst ey
   have J:=hra.mono T2
   have O:Z5 ((G7 ps).take (i+1))=Z5 ((G7 ps).take i)++Z5 [(n,j,rw)]:=by
    rw[J2 hx]
    unfold Z5
    rw[List.filterMap_append]
   have hw:kvs.length<=960:=by
    have h1:=congrArg List.length Z
    rw[List.length_map,List.length_map]at h1
    have h2:(Z5 ((G7 ps).take i)).length<=((G7 ps).take i).length:=List.length_filterMap_le _ _
    rw[AY]at h2
    omega
   refine⟨t,_,rfl,SqT.of (T2 _ _ ht),rfl,_,_,rfl,_,_,rfl,_,_,rfl,rfl,?_⟩
   rcases b0j J with⟨o,rest,U,ho,G⟩ | ⟨U,ho⟩
   ·have z0:atI (V.str (R4 rw)::V.str o::rest) 0=some (.str (R4 rw)):=R3 (j:=0) rfl
    have z1:atI (V.str (R4 rw)::V.str o::rest) 1=some (.str o):=R3 (j:=1) rfl
    refine⟨_,rfl,r,_,_,_,rfl,rfl,SqT.of G,z0,O4,fun c gc=>?_⟩
    have s4:G5 H2 (upd H2 c (.tup [.str "set",.str "take"])):=(G5.refl H2).new gc
    refine⟨c,_,rfl,.inr (SqT.of G1),rfl,rfl,_,rfl,?_⟩
    rw[if_neg (by decide),b4v,decide_eq_true U]
    refine B9 ?_
    refine⟨_,rfl,_,rfl,O4,fun e ge=>?_⟩
    have s5:=s4.new (o:= .tup [.str n,.int (j:Int)]) ge
    refine⟨_,rfl,_,rfl,_,rfl,r,_,_,_,rfl,rfl,SqT.of (s5 _ _ G),z1,O4,fun g gg=>?_⟩
    have s6:=s5.new (o:= .tup [.str n,.str o]) gg
    have ha:=s6 _ _ F
    have hj:upd (upd (upd H2 c (.tup [.str "set",.str "take"])) e (.tup [.str n,.int (j:Int)])) g (.tup [.str n,.str o]) g=some (.tup ((U1 (n,o)).map kV)):=G1
    refine⟨d,_,rfl,a0z.t (k:=U1 (n,o)) ha hj (J8 (by omega)),?_⟩
    have hb:U1 (n,o)∉kvs.map (·.1):=by
     rw[Z]
     intro z
     obtain⟨k',hg,e'⟩:=AO.mp z
     have:k'=(n,o):=a0K e'
     subst this
     have h1:(Z5 ((G7 ps).take (i+1))).Nodup:=by
      have h2:Z5 (G7 ps)=Z5 ((G7 ps).take (i+1))++Z5 ((G7 ps).drop (i+1)):=by
       unfold Z5
       rw[<-List.filterMap_append,BQ]
      rw[h2]at he
      exact(AR.mp he).1
     rw[O]at h1
     have h3:Z5 [(n,j,rw)]=[(n,o)]:=by simp[Z5,ho]
     rw[h3]at h1
     exact(AR.mp h1).2.2 _ hg _ (AC.mpr rfl) rfl
    rw[a0o hb]
    have T6:=s6.tups.trans (J9.dT (kvs':=kvs++[(U1 (n,o),.ref e)]) ha)
    refine⟨kvs++[(U1 (n,o),.ref e)],_,_,_,rfl,(s3.trans s6).put gd,T6 _ _ Y,T2.trans T6,G1,?_⟩
    have h3:Z5 [(n,j,rw)]=[(n,o)]:=by simp[Z5,ho]
    rw[O,h3,AG,AG,Z]
    rfl
   ·obtain⟨x1,rest,G⟩:=J.kind
    have z0:atI (V.str (R4 rw)::x1::rest) 0=some (.str (R4 rw)):=R3 (j:=0) rfl
    refine⟨_,rfl,r,_,_,_,rfl,rfl,SqT.of G,z0,O4,fun c gc=>?_⟩
    have s4:G5 H2 (upd H2 c (.tup [.str "set",.str "take"])):=(G5.refl H2).new gc
    refine⟨c,_,rfl,.inr (SqT.of G1),rfl,rfl,_,rfl,?_⟩
    rw[if_neg (by decide),b4v,AZ U]
    refine F8 ?_
    have h3:Z5 [(n,j,rw)]=[]:=by simp[Z5,ho]
    exact⟨kvs,_,_,_,rfl,s3.trans s4,s4 _ _ Y,T2.trans s4.tups,s4 _ _ F,by rw[O,h3,BB];exact Z⟩
  ·rintro σ H2 ⟨kvs,v2,v3,v4,rfl,s3,Y,T2,F,Z⟩
   rw[hf,AW]at Z
   exact⟨_,rfl,q d kvs H2 s3 F Z⟩
noncomputable abbrev Kk:=Str×Str
noncomputable def R6 (pls:List Pl):List (Kk×(Str×Nat)):=pls.filterMap fun x=>(E1 x.2.2).map fun o=>((x.1,o),(x.1,x.2.1))
noncomputable def F4:Rw->Option (Str×Str)
 | .give o g=>some (o,g)
 | _=>none
noncomputable def W5 (pls:List Pl):List (Kk×Str):=pls.filterMap fun x=>(F4 x.2.2).map fun q=>((x.1,q.2),q.1)
noncomputable def E6:Rw->List (Str×(Str×Str))
 | .bring m ps=>ps.map fun q=>(m,q)
 | _=> []
noncomputable def W4 (pls:List Pl):List (Kk×Kk):=pls.flatMap fun x=>(E6 x.2.2).map fun q=>((x.1,q.2.2),(q.1,q.2.1))
noncomputable def a4Z (gls:List (Kk×Str)) (k:Kk):Str:=((gls.find? fun y=>decide (y.1=k)).map (·.2)).getD ""
theorem a4f:∀{j:List (Kk×Str)}{k:Kk}{o:Str},(j.map (·.1)).Nodup->(k,o)∈j->a4Z j k=o
 | [],k,o,_,h=>by simp at h
 | y::r,k,o,q,h=>by
  rw[List.map_cons,BK]at q
  rcases List.mem_cons.mp h with e | e
  ·unfold a4Z
   rw[List.find?_cons_of_pos (by rw[<-e];simp),<-e];rfl
  ·have B:¬y.1=k:=fun z=>q.1 (by rw[z];exact AS (f:=(·.1)) e)
   have:=a4f q.2 e
   unfold a4Z at this⊢
   rw[List.find?_cons_of_neg (by simpa using B)]
   exact this
noncomputable def Z6 (pls:List Pl):List (Kk×Kk):=(W4 pls).map fun x=>(x.1,(x.2.1,a4Z (W5 pls) x.2))
inductive Mk (mls:List (Kk×(Str×Nat))) (ls:List (Kk×Kk)):Kk->Str×Nat->Prop where
 | base {k:Kk} {p:Str×Nat}:(k,p)∈mls->Mk mls ls k p
 | step {k k':Kk} {p:Str×Nat}:(k,k')∈ls->Mk mls ls k' p->Mk mls ls k p
structure D9(pls:List Pl):Prop where
 keys:((R6 pls).map (·.1)++(W4 pls).map (·.1)).Nodup
 gk:((W5 pls).map (·.1)).Nodup
 gv:∀x∈W4 pls,∃o,(x.2,o)∈W5 pls
 ow:∀y∈W5 pls,(y.1.1,y.2)∈(R6 pls).map (·.1)++(W4 pls).map (·.1)
 rk:∃r:Kk->Nat,∀x∈Z6 pls,r x.2 < r x.1
 len:pls.length<=960
 brs:∀x∈pls,(E6 x.2.2).length<=6
theorem a3C(pls:List Pl):(Z6 pls).map (·.1)=(W4 pls).map (·.1):=by
 unfold Z6
 rw[List.map_map]
 rfl
theorem D9.tgt{pls:List Pl}(n:D9 pls){x:Kk×Kk}(hx:x∈Z6 pls):x.2∈(R6 pls).map (·.1)\/x.2∈(Z6 pls).map (·.1):=by
 obtain⟨y,q,e⟩:=AO.mp hx
 obtain⟨o,j⟩:=n.gv y q
 have h1:=a4f n.gk j
 have h2:=n.ow _ j
 rw[<-e]
 show(y.2.1,a4Z (W5 pls) y.2)∈_\/_
 rw[h1,a3C]
 exact AL.mp h2
theorem D9.mkNodup{pls:List Pl}(n:D9 pls):((R6 pls).map (·.1)).Nodup:=(AR.mp n.keys).1
theorem D9.lkNodup{pls:List Pl}(n:D9 pls):((Z6 pls).map (·.1)).Nodup:=by rw[a3C];exact(AR.mp n.keys).2.1
theorem D9.apart{pls:List Pl}(n:D9 pls){k:Kk}(h1:k∈(R6 pls).map (·.1))(h2:k∈(Z6 pls).map (·.1)):False:=(AR.mp n.keys).2.2 k h1 k (by rw[<-a3C];exact h2) rfl
theorem a3E{α β:Type}:∀{l:List (α×β)}{k:α}{a b:β},(l.map (·.1)).Nodup->(k,a)∈l->(k,b)∈l->a=b
 | [],_,_,_,_,h,_=>by simp at h
 | y::r,k,a,b,B,h1,h2=>by
  rw[List.map_cons,BK]at B
  rcases List.mem_cons.mp h1 with q | q<;>rcases List.mem_cons.mp h2 with j | j
  ·rw[<-q]at j;exact(Prod.mk.inj j).2.symm
  ·exact absurd (by rw[<-q];exact AS (f:=(·.1)) j) B.1
  ·exact absurd (by rw[<-j];exact AS (f:=(·.1)) q) B.1
  ·exact a3E B.2 q j
theorem D9.uniq{pls:List Pl}(n:D9 pls){k:Kk}{p q:Str×Nat}(h1:Mk (R6 pls) (Z6 pls) k p)(h2:Mk (R6 pls) (Z6 pls) k q):p=q:=by
 induction h1 with
 | base h=>
  cases h2 with
  | base h'=>exact a3E n.mkNodup h h'
  | step h' _=>exact(n.apart (AS (f:=(·.1)) h) (AS (f:=(·.1)) h')).elim
 | step h _ j=>
  cases h2 with
  | base h'=>exact(n.apart (AS (f:=(·.1)) h') (AS (f:=(·.1)) h)).elim
  | step h' B=>
   have:=a3E n.lkNodup h h'
   subst this
   exact j B
noncomputable def a3G (H:Hp) (kv:List Key×V) (x:Kk×(Str×Nat)):Prop:=kv.1=U1 x.1/\∃t,kv.2= .ref t/\H t=some (.tup [.str x.2.1,.int (x.2.2:Int)])
noncomputable def a2o (H:Hp) (kv:List Key×V) (x:Kk×Kk):Prop:=kv.1=U1 x.1/\∃t,kv.2= .ref t/\H t=some (.tup [.str x.2.1,.str x.2.2])
noncomputable def b6x (kv:List Key×V) (x:Kk×Str):Prop:=kv.1=U1 x.1/\kv.2= .str x.2
theorem a3G.mono{H H':Hp}(s:J9 H H'){j:List Key×V}{x:Kk×(Str×Nat)}(h:a3G H j x):a3G H' j x:=by
 obtain⟨e,t,q,h⟩:=h
 exact⟨e,t,q,s _ _ h⟩
theorem a2o.mono{H H':Hp}(s:J9 H H'){j:List Key×V}{x:Kk×Kk}(h:a2o H j x):a2o H' j x:=by
 obtain⟨e,t,q,h⟩:=h
 exact⟨e,t,q,s _ _ h⟩
theorem a7g{β:Type}{F:List Key×V->Kk×β->Prop}(q:∀j x,F j x->j.1=U1 x.1):∀{kvs:List (List Key×V)}{xs:List (Kk×β)},Paired F kvs xs->kvs.map (·.1)=(xs.map (·.1)).map U1
 | _,_,.nil=>rfl
 | _,_,.cons h t=>by rw[List.map_cons,List.map_cons,List.map_cons,a7g q t,q _ _ h]
theorem a3p{β:Type}{F:List Key×V->Kk×β->Prop}(D:∀j x,F j x->j.1=U1 x.1):∀{kvs:List (List Key×V)}{xs:List (Kk×β)}{x:Kk×β},Paired F kvs xs->(xs.map (·.1)).Nodup->x∈xs->∃j,F j x/\W2 kvs (U1 x.1)=some j.2
 | _,_,x,.nil,_,h=>by simp at h
 | _,_,x,.cons (a:=j) (b:=y) q t,B,h=>by
  rw[List.map_cons,BK]at B
  rcases List.mem_cons.mp h with e | e
  ·subst e
   exact⟨j,q,F5 (D _ _ q)⟩
  ·obtain⟨G,h1,h2⟩:=a3p D t B.2 e
   refine⟨G,h1,?_⟩
   rw[E9 (fun z=>B.1 ?_)]
   ·exact h2
   ·have:U1 y.1=U1 x.1:=(D _ _ q).symm.trans z
    rw[a0K this]
    exact AS (f:=(·.1)) e
theorem a5M{β:Type}{F:List Key×V->Kk×β->Prop}(q:∀j x,F j x->j.1=U1 x.1):∀{kvs:List (List Key×V)}{xs:List (Kk×β)}{k:Kk},Paired F kvs xs->k∉xs.map (·.1)->W2 kvs (U1 k)=none
 | _,_,k,.nil,_=>rfl
 | _,_,k,.cons (a:=j) (b:=y) B t,h=>by
  rw[List.map_cons,List.mem_cons,not_or]at h
  rw[E9 (fun z=>h.1 (a0K ((q _ _ B).symm.trans z)).symm)]
  exact a5M q t h.2
theorem a2Y{β:Type}{F:List Key×V->Kk×β->Prop}(B:∀j x,F j x->j.1=U1 x.1){kvs:List (List Key×V)}{xs:List (Kk×β)}{k:Kk}(h:Paired F kvs xs)(q:k∉xs.map (·.1)):U1 k∉kvs.map (·.1):=by
 rw[a7g B h]
 intro z
 obtain⟨D,h1,h2⟩:=AO.mp z
 rw[a0K h2]at h1
 exact q h1
theorem a2g{α β:Type}{l:List (α×β)}{a b:List (α×β)}(h:(l.map (·.1)).Nodup)(e:l=a++b):(a.map (·.1)).Nodup:=by
 rw[e,AG]at h
 exact(AR.mp h).1
theorem a1Y(a b:List Pl):R6 (a++b)=R6 a++R6 b:=by unfold R6;rw[List.filterMap_append]
theorem a1S(a b:List Pl):W5 (a++b)=W5 a++W5 b:=by unfold W5;rw[List.filterMap_append]
theorem a2U(a b:List Pl):W4 (a++b)=W4 a++W4 b:=by unfold W4;rw[List.flatMap_append]
theorem b0U(pls:List Pl)(i:Nat):R6 pls=R6 (pls.take i)++R6 (pls.drop i):=by rw[<-a1Y,BQ]
theorem b2b(pls:List Pl)(i:Nat):W5 pls=W5 (pls.take i)++W5 (pls.drop i):=by rw[<-a1S,BQ]
theorem b0I(pls:List Pl)(i:Nat):W4 pls=W4 (pls.take i)++W4 (pls.drop i):=by rw[<-a2U,BQ]
theorem a3Q(pls:List Pl):(R6 pls).length<=pls.length:=List.length_filterMap_le _ _
theorem b0D(pls:List Pl):(W5 pls).length<=pls.length:=List.length_filterMap_le _ _
theorem a2S:∀{pls:List Pl},(∀x∈pls,(E6 x.2.2).length<=6)->(W4 pls).length<=6*pls.length
 | [],_=>by simp[W4]
 | x::r,h=>by
  have h1:=a2S (pls:=r) fun y j=>h y (AK _ j)
  have h2:=h x AM
  have e:W4 (x::r)=((E6 x.2.2).map fun q=>((x.1,q.2.2),(q.1,q.2.1)))++W4 r:=rfl
  rw[e,List.length_append,List.length_map,List.length_cons]
  omega
theorem szK{n:Nat}(h:n<=10000):n < sizeLine:=by
 have:sizeLine=16777216:=sizeLine_eq
 omega
noncomputable def b5f:Sp:=fun vs H Q _=>∃(a:Addr)(ps:List Pt),vs=[.ref a]/\D6 H a ps/\a0E ps/\D9 (G7 ps)/\∀(d:Addr)(kvs:List (List Key×V))(H':Hp),G5 H H'->H d=none->H' d=some (.dT kvs)->Paired (a3G H') kvs (R6 (G7 ps))->Q (.ref d) H'
theorem b4V(T:Txt K mg):L2.Cl P w K mg base 2 "made" ["parts"] b5f:=by
 have B:=a3a (P:=P) (w:=w) (base:=base) T
 refine Cl.of T.d_made a0D (fun vs H Q E h=>?_) (fun _ _ _ _ _ _ us hl=>by obtain⟨a,rfl⟩:=a3N hl;rfl) (fun fa hn A outer s H vs Q E hr h=>?_)
 ·obtain⟨a,ps,rfl,_⟩:=h
  rfl
 ·obtain⟨a,ps,rfl,hj,hb,J,q⟩:=h
  have hu:=B2 hr
  have hq:=J.len
  refine⟨_,(G3 (J1 (i:=1) a0D.nd rfl (Or.inl rfl) M8)
   (G3 (Y9 AN rfl (D1 (W0 B hr (by rfl) (G0 (pv 0) G4))) (E7 rfl (J0 (I9 (i:=2) a0D.nd rfl (Or.inl rfl)) (J0 (I9 (i:=3) a0D.nd rfl (Or.inl rfl)) (J0 (I9 (i:=4) a0D.nd rfl (Or.inl rfl)) Y2))))
    (G6 (U8 (J6 a4z (I0 J5 (pv 4) G2 (fun _ _=>rfl)) (R1 (G0 R7 (G0 R7 G4))) (by with_unfolding_all rfl))
     (G6 (E5 hu (pv 1) (R1 (G0 (pv 2) (G0 (I0 J5 (pv 4) G2 (fun _ _=>rfl)) G4))) (R1 (G0 (pv 2) (G0 (pv 3) G4))) rfl)) R8)))
   (G6 (R9 (pv 1))))),?_⟩
  intro d gd
  have s1:G5 H (upd H d (.dT [])):=(G5.refl H).new gd
  refine⟨_,rfl,a,ps,rfl,s1.partsF hj,hb,fun p vs H1 s2 hp he=>?_⟩
  have hm:=s1.trans s2
  have hg:H1 d=some (.dT []):=s2 _ _ G1
  have hf:vs.length=(G7 ps).length:=AE he
  refine⟨p,rfl,⟨_,SqT.of hp⟩,F9 (K:=K) (a:=p) (xs:=vs) (fun i σ H2=>∃(kvs:List (List Key×V))(v2 v3 v4:Option V),σ=[some (.ref a),some (.ref d),v2,v3,v4]/\G5 H H2/\H2 p=some (.tup vs)/\J9 H1 H2/\H2 d=some (.dT kvs)/\Paired (a3G H2) kvs (R6 ((G7 ps).take i)))
   ⟨[],none,none,none,rfl,hm,hp,J9.refl H1,hg,by rw[List.take_zero];exact .nil⟩ (fun i σ H2 _⟨_,_,_,_,_,_,h,_⟩=>SqT.of h) ?_ ?_⟩
  ·rintro i y σ H2 hy ⟨kvs,v2,v3,v4,rfl,s3,ha,T2,D,hk⟩
   obtain⟨⟨n,j,rw⟩,hx,t,r,ey,ht,hra⟩:=Paired.get? he hy
   subst ey
   have G:=hra.mono T2
   have U:R6 ((G7 ps).take (i+1))=R6 ((G7 ps).take i)++R6 [(n,j,rw)]:=by
    rw[J2 hx,a1Y]
   have hs:kvs.length<=960:=by
    rw[AE hk]
    have h2:=a3Q ((G7 ps).take i)
    rw[AY]at h2
    omega
   refine⟨t,_,rfl,SqT.of (T2 _ _ ht),rfl,_,_,rfl,_,_,rfl,_,_,rfl,rfl,?_⟩
   rcases b0j G with⟨o,rest,Z,ho,F⟩ | ⟨Z,ho⟩
   ·have z0:atI (V.str (R4 rw)::V.str o::rest) 0=some (.str (R4 rw)):=R3 (j:=0) rfl
    have z1:atI (V.str (R4 rw)::V.str o::rest) 1=some (.str o):=R3 (j:=1) rfl
    refine⟨_,rfl,r,_,_,_,rfl,rfl,SqT.of F,z0,O4,fun c gc=>?_⟩
    have O:G5 H2 (upd H2 c (.tup [.str "set",.str "take"])):=(G5.refl H2).new gc
    refine⟨c,_,rfl,.inr (SqT.of G1),rfl,rfl,_,rfl,?_⟩
    rw[if_neg (by decide),b4v,decide_eq_true Z]
    refine B9 ?_
    refine⟨_,rfl,_,rfl,O4,fun e ge=>?_⟩
    have s5:=O.new (o:= .tup [.str n,.int (j:Int)]) ge
    refine⟨_,rfl,_,rfl,_,rfl,r,_,_,_,rfl,rfl,SqT.of (s5 _ _ F),z1,O4,fun g gg=>?_⟩
    have s6:=s5.new (o:= .tup [.str n,.str o]) gg
    have Y:=s6 _ _ D
    have hh:upd (upd (upd H2 c (.tup [.str "set",.str "take"])) e (.tup [.str n,.int (j:Int)])) g (.tup [.str n,.str o]) g=some (.tup ((U1 (n,o)).map kV)):=G1
    refine⟨d,_,rfl,a0z.t (k:=U1 (n,o)) Y hh (szK (by omega)),?_⟩
    have h3:R6 [(n,j,rw)]=[((n,o),(n,j))]:=by simp[R6,ho]
    have hc:U1 (n,o)∉kvs.map (·.1):=a2Y (fun _ _ h=>h.1) hk (fun z=>by
     have h1:=a2g J.mkNodup (b0U (G7 ps) (i+1))
     rw[U,h3,AG]at h1
     exact(AR.mp h1).2.2 _ z _ (AC.mpr rfl) rfl)
    rw[a0o hc]
    have T6:=s6.tups.trans (J9.dT (kvs':=kvs++[(U1 (n,o),.ref e)]) Y)
    refine⟨kvs++[(U1 (n,o),.ref e)],_,_,_,rfl,(s3.trans s6).put gd,T6 _ _ ha,T2.trans T6,G1,?_⟩
    rw[U,h3]
    refine Paired.snoc (Paired.mapP hk fun _ _ z=>z.mono T6) ⟨rfl,e,rfl,J9.dT (kvs':=kvs++[(U1 (n,o),.ref e)]) Y _ _ (U2 G1 gg)⟩
   ·obtain⟨x1,rest,F⟩:=G.kind
    have z0:atI (V.str (R4 rw)::x1::rest) 0=some (.str (R4 rw)):=R3 (j:=0) rfl
    refine⟨_,rfl,r,_,_,_,rfl,rfl,SqT.of F,z0,O4,fun c gc=>?_⟩
    have O:G5 H2 (upd H2 c (.tup [.str "set",.str "take"])):=(G5.refl H2).new gc
    refine⟨c,_,rfl,.inr (SqT.of G1),rfl,rfl,_,rfl,?_⟩
    rw[if_neg (by decide),b4v,AZ Z]
    refine F8 ?_
    have h3:R6 [(n,j,rw)]=[]:=by simp[R6,ho]
    exact⟨kvs,_,_,_,rfl,s3.trans O,O _ _ ha,T2.trans O.tups,O _ _ D,by rw[U,h3,BB];exact Paired.mapP hk fun _ _ z=>z.mono O.tups⟩
  ·rintro σ H2 ⟨kvs,v2,v3,v4,rfl,s3,ha,T2,D,hk⟩
   rw[hf,AW]at hk
   exact⟨_,rfl,q d kvs H2 s3 gd D hk⟩
theorem b3i{H:Hp}{r:Addr}{rw:Rw}(h:a0U H r rw):(∃o g,F4 rw=some (o,g)/\H r=some (.tup [.str "give",.str o,.str g]))\/(¬R4 rw="give"/\F4 rw=none):=by
 cases rw with
 | give o g=>exact .inl ⟨o,g,rfl,h⟩
 | _=>exact .inr ⟨by simp only[R4];decide +kernel,rfl⟩
theorem b0R{H:Hp}{r:Addr}{rw:Rw}(h:a0U H r rw):(∃m ps t,rw= .bring m ps/\H r=some (.tup [.str "bring",.str m,.ref t])/\a0B H t ps)\/(¬R4 rw="bring"/\E6 rw=[]):=by
 cases rw with
 | bring m ps=>obtain⟨t,h1,h2⟩:=h;exact .inl ⟨m,ps,t,rfl,h1,h2⟩
 | _=>exact .inr ⟨by simp only[R4];decide +kernel,rfl⟩
noncomputable def a8M:Sp:=fun vs H Q _=>∃(a:Addr)(ps:List Pt),vs=[.ref a]/\D6 H a ps/\a0E ps/\D9 (G7 ps)/\∀(d:Addr)(kvs:List (List Key×V))(H':Hp),G5 H H'->H' d=some (.dT kvs)->Paired b6x kvs (W5 (G7 ps))->Q (.ref d) H'
theorem a6k(T:Txt K mg):L2.Cl P w K mg base 2 "given_owns" ["parts"] a8M:=by
 have B:=a3a (P:=P) (w:=w) (base:=base) T
 refine Cl.of T.d_given_owns M6 (fun vs H Q E h=>?_) (fun _ _ _ _ _ _ us hl=>by obtain⟨a,rfl⟩:=a3N hl;rfl) (fun fa hs A outer s H vs Q E hr h=>?_)
 ·obtain⟨a,ps,rfl,_⟩:=h
  rfl
 ·obtain⟨a,ps,rfl,hf,hb,J,q⟩:=h
  have hu:=B2 hr
  have hq:=J.len
  refine⟨_,(G3 (J1 (i:=1) M6.nd rfl (Or.inl rfl) M8)
   (G3 (Y9 AN rfl (D1 (W0 B hr (by rfl) (G0 (pv 0) G4))) (E7 rfl (J0 (I9 (i:=2) M6.nd rfl (Or.inl rfl)) (J0 (I9 (i:=3) M6.nd rfl (Or.inl rfl)) (J0 (I9 (i:=4) M6.nd rfl (Or.inl rfl)) Y2))))
    (G6 (U8 (J6 O3 (I0 J5 (pv 4) G2 (fun _ _=>rfl)) R7 (U0 _))
     (G6 (E5 hu (pv 1) (R1 (G0 (pv 2) (G0 (I0 J5 (pv 4) G2 (fun _ _=>rfl)) G4))) (I0 J5 (pv 4) G2 (fun _ _=>rfl)) rfl)) R8)))
   (G6 (R9 (pv 1))))),?_⟩
  intro d gd
  have s1:G5 H (upd H d (.dT [])):=(G5.refl H).new gd
  refine⟨_,rfl,a,ps,rfl,s1.partsF hf,hb,fun p vs H1 s2 hp hc=>?_⟩
  have hh:=s1.trans s2
  have hm:H1 d=some (.dT []):=s2 _ _ G1
  have he:vs.length=(G7 ps).length:=AE hc
  refine⟨p,rfl,⟨_,SqT.of hp⟩,F9 (K:=K) (a:=p) (xs:=vs) (fun i σ H2=>∃(kvs:List (List Key×V))(v2 v3 v4:Option V),σ=[some (.ref a),some (.ref d),v2,v3,v4]/\G5 H H2/\H2 p=some (.tup vs)/\J9 H1 H2/\H2 d=some (.dT kvs)/\Paired b6x kvs (W5 ((G7 ps).take i)))
   ⟨[],none,none,none,rfl,hh,hp,J9.refl H1,hm,by rw[List.take_zero];exact .nil⟩ (fun i σ H2 _⟨_,_,_,_,_,_,h,_⟩=>SqT.of h) ?_ ?_⟩
  ·rintro i y σ H2 hy ⟨kvs,v2,v3,v4,rfl,s3,U,T2,F,Y⟩
   obtain⟨⟨n,j,rw⟩,hx,t,r,ey,ht,hra⟩:=Paired.get? hc hy
   subst ey
   have G:=hra.mono T2
   have O:W5 ((G7 ps).take (i+1))=W5 ((G7 ps).take i)++W5 [(n,j,rw)]:=by
    rw[J2 hx,a1S]
   have hn:kvs.length<=960:=by
    rw[AE Y]
    have h2:=b0D ((G7 ps).take i)
    rw[AY]at h2
    omega
   refine⟨t,_,rfl,SqT.of (T2 _ _ ht),rfl,_,_,rfl,_,_,rfl,_,_,rfl,rfl,?_⟩
   rcases b3i G with⟨o,g,ho,D⟩ | ⟨hg,ho⟩
   ·refine⟨_,rfl,r,_,_,_,rfl,rfl,SqT.of D,rfl,rfl,_,rfl,D8 ?_⟩
    refine⟨_,rfl,r,_,_,_,rfl,rfl,SqT.of D,rfl,_,rfl,_,rfl,_,rfl,r,_,_,_,rfl,rfl,SqT.of D,rfl,O4,fun e ge=>?_⟩
    have s6:G5 H2 (upd H2 e (.tup [.str n,.str g])):=(G5.refl H2).new ge
    have ha:=s6 _ _ F
    have hj:upd H2 e (.tup [.str n,.str g]) e=some (.tup ((U1 (n,g)).map kV)):=G1
    refine⟨d,_,rfl,a0z.t (k:=U1 (n,g)) ha hj (szK (by omega)),?_⟩
    have h3:W5 [(n,j,rw)]=[((n,g),o)]:=by simp[W5,ho]
    have Z:U1 (n,g)∉kvs.map (·.1):=a2Y (fun _ _ h=>h.1) Y (fun z=>by
     have h1:=a2g J.gk (b2b (G7 ps) (i+1))
     rw[O,h3,AG]at h1
     exact(AR.mp h1).2.2 _ z _ (AC.mpr rfl) rfl)
    rw[a0o Z]
    have T6:=s6.tups.trans (J9.dT (kvs':=kvs++[(U1 (n,g),.str o)]) ha)
    refine⟨kvs++[(U1 (n,g),.str o)],_,_,_,rfl,(s3.trans s6).put gd,T6 _ _ U,T2.trans T6,G1,?_⟩
    rw[O,h3]
    exact Paired.snoc Y ⟨rfl,rfl⟩
   ·obtain⟨x1,rest,D⟩:=G.kind
    have z0:atI (V.str (R4 rw)::x1::rest) 0=some (.str (R4 rw)):=R3 (j:=0) rfl
    refine⟨_,rfl,r,_,_,_,rfl,rfl,SqT.of D,z0,rfl,_,rfl,U9 hg ?_⟩
    have h3:W5 [(n,j,rw)]=[]:=by simp[W5,ho]
    exact⟨kvs,_,_,_,rfl,s3,U,T2,F,by rw[O,h3,BB];exact Y⟩
  ·rintro σ H2 ⟨kvs,v2,v3,v4,rfl,s3,U,T2,F,Y⟩
   rw[he,AW]at Y
   exact⟨_,rfl,q d kvs H2 s3 F Y⟩
noncomputable def llG (G:List (Kk×Str)) (bs:List (Kk×Kk)):List (Kk×Kk):=bs.map fun x=>(x.1,(x.2.1,a4Z G x.2))
theorem b0t(G:List (Kk×Str))(a b:List (Kk×Kk)):llG G (a++b)=llG G a++llG G b:=by unfold llG;rw[AG]
theorem a8A(G:List (Kk×Str))(bs:List (Kk×Kk)):(llG G bs).map (·.1)=bs.map (·.1):=by unfold llG;rw[List.map_map];rfl
noncomputable def a1p (n m:Str) (prs:List (Str×Str)):List (Kk×Kk):=prs.map fun q=>((n,q.2),(m,q.1))
theorem a5m(n:Str)(j:Nat)(m:Str)(q:List (Str×Str)):W4 [(n,j,.bring m q)]=a1p n m q:=by
 unfold W4 a1p E6
 simp
noncomputable def b4y:Sp:=fun vs H Q _=>∃(a:Addr)(ps:List Pt),vs=[.ref a]/\D6 H a ps/\a0E ps/\D9 (G7 ps)/\∀(d:Addr)(kvs:List (List Key×V))(H':Hp),G5 H H'->H d=none->H' d=some (.dT kvs)->Paired (a2o H') kvs (Z6 (G7 ps))->Q (.ref d) H'
theorem b2s(T:Txt K mg):L2.Cl P w K mg base 3 "links" ["parts"] b4y:=by
 have B:=a3a (P:=P) (w:=w) (base:=base) T
 have D:=a6k (P:=P) (w:=w) (base:=base) T
 refine Cl.of T.d_links a0M (fun vs H Q E h=>?_) (fun _ _ _ _ _ _ us hl=>by obtain⟨a,rfl⟩:=a3N hl;rfl) (fun fa sj A outer s H vs Q E hr h=>?_)
 ·obtain⟨a,ps,rfl,_⟩:=h
  rfl
 ·obtain⟨a,ps,rfl,hO,hm,J,q⟩:=h
  have hu:=B2 hr
  have sl:=J.len
  refine⟨_,(G3 (J1 (i:=1) a0M.nd rfl (Or.inl rfl) (W0 D hr (by rfl) (G0 (pv 0) G4)))
   (G3 (J1 (i:=2) a0M.nd rfl (Or.inl rfl) M8)
   (G3 (Y9 AN rfl (D1 (W0 B hr (by rfl) (G0 (pv 0) G4))) (E7 rfl (J0 (I9 (i:=3) a0M.nd rfl (Or.inl rfl)) (J0 (I9 (i:=4) a0M.nd rfl (Or.inl rfl)) (J0 (I9 (i:=5) a0M.nd rfl (Or.inl rfl)) Y2))))
    (G6 (U8 (J6 O3 (I0 J5 (pv 5) G2 (fun _ _=>rfl)) R7 (U0 _))
     (G6 (Y9 AN rfl (D1 (I0 J5 (pv 5) G2 (fun _ _=>rfl))) (E7 rfl (J0 (I9 (i:=6) a0M.nd rfl (Or.inl rfl)) (J0 (I9 (i:=7) a0M.nd rfl (Or.inl rfl)) Y2)))
      (G6 (E5 hu (pv 2) (R1 (G0 (pv 3) (G0 (pv 7) G4))) (R1 (G0 (I0 J5 (pv 5) G2 (fun _ _=>rfl)) (G0 (Z4 hu (pv 1) (R1 (G0 (I0 J5 (pv 5) G2 (fun _ _=>rfl)) (G0 (pv 6) G4))) (fun _ _=>rfl)) G4))) rfl)))) R8)))
   (G6 (R9 (pv 2)))))),?_⟩
  refine⟨_,rfl,a,ps,rfl,hO,hm,J,fun ow hz H1 s1 hD hg=>?_⟩
  intro d gd
  have s2:G5 H1 (upd H1 d (.dT [])):=(G5.refl H1).new gd
  refine⟨_,rfl,a,ps,rfl,(s1.trans s2).partsF hO,hm,fun p vs H3 s3 hp hM=>?_⟩
  have hS:=(s1.trans s2).trans s3
  have hJ:H d=none:=s1.free gd
  have hR:H3 d=some (.dT []):=s3 _ _ G1
  have hN:H3 ow=some (.dT hz):=s3 _ _ (s2 _ _ hD)
  have hZ:ow≠d:=fun z=>by rw[z,gd]at hD;cases hD
  have hU:vs.length=(G7 ps).length:=AE hM
  have hG:=J.gk
  refine⟨p,rfl,⟨_,SqT.of hp⟩,F9 (K:=K) (a:=p) (xs:=vs) (fun i σ H2=>∃(kvs:List (List Key×V))(v3 v4 v5 v6 v7:Option V),σ=[some (.ref a),some (.ref ow),some (.ref d),v3,v4,v5,v6,v7]/\G5 H H2/\H2 p=some (.tup vs)/\J9 H3 H2/\H2 ow=some (.dT hz)/\H2 d=some (.dT kvs)/\Paired (a2o H2) kvs (llG (W5 (G7 ps)) (W4 ((G7 ps).take i))))
   ⟨[],none,none,none,none,none,rfl,hS,hp,J9.refl H3,hN,hR,by rw[List.take_zero];exact .nil⟩ (fun i σ H2 _⟨_,_,_,_,_,_,_,_,h,_⟩=>SqT.of h) ?_ ?_⟩
  ·rintro i y σ H2 hy ⟨kvs,v3,v4,v5,v6,v7,rfl,s4,hB,T2,hb,hf,hk⟩
   obtain⟨⟨n,jj,rw⟩,hx,t,r,ey,ht,hra⟩:=Paired.get? hM hy
   subst ey
   have hn:=hra.mono T2
   have sd:=AD hx
   have hA:W4 ((G7 ps).take (i+1))=W4 ((G7 ps).take i)++W4 [(n,jj,rw)]:=by
    rw[J2 hx,a2U]
   have si:(W4 ((G7 ps).take i)).length<=5760:=by
    have h1:=a2S (pls:=(G7 ps).take i) fun x hx=>J.brs x (List.mem_of_mem_take hx)
    rw[AY]at h1
    omega
   refine⟨t,_,rfl,SqT.of (T2 _ _ ht),rfl,_,_,rfl,_,_,rfl,_,_,rfl,rfl,?_⟩
   rcases b0R hn with⟨m,O,t',e,he,⟨hQ,hI,hs⟩,sk⟩ | ⟨hW,ho⟩
   ·subst e
    have hL:hQ.length=O.length:=AE hs
    refine⟨_,rfl,r,_,_,_,rfl,rfl,SqT.of he,rfl,rfl,_,rfl,D8 ?_⟩
    have sf:((W4 ((G7 ps).take i)).map (·.1)++(a1p n m O).map (·.1)).Nodup:=by
     have h1:=J.keys
     rw[b0I (G7 ps) (i+1),hA,a5m,AG,AG,<-BD]at h1
     have h2:=(AR.mp h1).1
     exact(AR.mp h2).2.1
    refine⟨_,rfl,r,_,_,_,rfl,rfl,SqT.of he,rfl,t',rfl,⟨_,SqT.of hI⟩,F9 (K:=K) (a:=t') (xs:=hQ) (fun j σ U=>∃(kvs:List (List Key×V))(v6 v7:Option V),σ=[some (.ref a),some (.ref ow),some (.ref d),some (.str n),some (.int (jj:Int)),some (.ref r),v6,v7]/\G5 H U/\J9 H2 U/\U ow=some (.dT hz)/\U d=some (.dT kvs)/\Paired (a2o U) kvs (llG (W5 (G7 ps)) (W4 ((G7 ps).take i)++a1p n m (O.take j))))
     ⟨kvs,_,_,rfl,s4,J9.refl H2,hb,hf,by rw[List.take_zero];show Paired _ kvs (llG _ (W4 ((G7 ps).take i)++[]));rw[BB];exact hk⟩ (fun j σ U _⟨_,_,_,_,_,TT,_⟩=>SqT.of (TT _ _ hI)) ?_ ?_⟩
    ·rintro j y σ U hT ⟨Z,w6,w7,rfl,s5,T4,Y,hC,ha⟩
     obtain⟨G,hq,c,ec,hc,_,_⟩:=Paired.get? hs hT
     subst ec
     have hj:j < O.length:=(List.getElem?_eq_some_iff.mp hq).1
     have hw:=T4 _ _ he
     have hh:a1p n m (O.take (j+1))=a1p n m (O.take j)++[((n,G.2),(m,G.1))]:=by
      rw[J2 hq]
      unfold a1p
      rw[AG]
      rfl
     have sm:Z.length<=6000:=by
      rw[AE ha]
      unfold llG
      rw[List.length_map,List.length_append]
      have:(a1p n m (O.take j)).length=j:=by unfold a1p;rw[List.length_map,AY];omega
      omega
     have hX:((n,G.2),(m,G.1))∈W4 (G7 ps):=by
      unfold W4
      refine BH.mpr ⟨_,sd,?_⟩
      exact AO.mpr ⟨(m,G),AO.mpr ⟨G,AD hq,rfl⟩,rfl⟩
     obtain⟨o',hK⟩:=J.gv _ hX
     have hV:a4Z (W5 (G7 ps)) (m,G.1)=o':=a4f hG hK
     obtain⟨sn,⟨_,sb⟩,hY⟩:=a3p (F:=b6x) (fun _ _ h=>h.1) hg hG hK
     refine⟨c,_,rfl,SqT.of (T4 _ _ hc),rfl,_,_,rfl,_,_,rfl,rfl,?_⟩
     refine⟨_,rfl,r,_,_,_,rfl,rfl,SqT.of hw,rfl,_,rfl,_,rfl,r,_,_,_,rfl,rfl,SqT.of hw,rfl,_,rfl,O4,fun e ge=>?_⟩
     have s6:G5 U (upd U e (.tup [.str m,.str G.1])):=(G5.refl U).new ge
     have hF:E3 (upd U e (.tup [.str m,.str G.1])) ow (.ref e) (some (.str o')):=by
      have h1:=E3.t (k:=U1 (m,G.1)) (s6 _ _ Y) (show upd U e (.tup [.str m,.str G.1]) e=some (.tup ((U1 (m,G.1)).map kV))from G1)
      rw[hY,sb]at h1
      exact h1
     refine⟨ow,_,rfl,hF,O4,fun g gg=>?_⟩
     have s7:=s6.new (o:= .tup [.str m,.str o']) gg
     refine⟨_,rfl,_,rfl,_,rfl,O4,fun b gb=>?_⟩
     have s8:=s7.new (o:= .tup [.str n,.str G.2]) gb
     have hE:=s8 _ _ hC
     have se:upd (upd (upd U e (.tup [.str m,.str G.1])) g (.tup [.str m,.str o'])) b (.tup [.str n,.str G.2]) b=some (.tup ((U1 (n,G.2)).map kV)):=G1
     refine⟨d,_,rfl,a0z.t (k:=U1 (n,G.2)) hE se (szK (by omega)),?_⟩
     have hH:U1 (n,G.2)∉Z.map (·.1):=a2Y (F:=a2o U) (fun _ _ h=>h.1) ha (fun z=>by
      rw[a8A,AG]at z
      have hP:((W4 ((G7 ps).take i)).map (·.1)++(a1p n m (O.take (j+1))).map (·.1)).Sublist ((W4 ((G7 ps).take i)).map (·.1)++(a1p n m O).map (·.1)):=by
       refine List.Sublist.append_left ?_ _
       unfold a1p
       exact((List.take_sublist _ _).map _).map _
      have h1:=hP.nodup sf
      rw[hh,AG,<-BD]at h1
      exact(AR.mp h1).2.2 _ z _ (AC.mpr rfl) rfl)
     rw[a0o hH]
     have TD:=J9.dT (kvs':=Z++[(U1 (n,G.2),.ref g)]) hE
     have T8:=s8.tups.trans TD
     refine⟨Z++[(U1 (n,G.2),.ref g)],_,_,rfl,(s5.trans s8).put hJ,T4.trans T8,by rw[G8 hZ];exact s8 _ _ Y,G1,?_⟩
     rw[hh,<-BD,b0t]
     refine Paired.snoc (Paired.mapP ha fun _ _ z=>z.mono T8) ⟨rfl,g,rfl,?_⟩
     show _=some (HO.tup [V.str m,V.str (a4Z (W5 (G7 ps)) (m,G.1))])
     rw[hV]
     exact TD _ _ (U2 G1 gb)
    ·rintro σ U ⟨Z,w6,w7,rfl,s5,T4,Y,hC,ha⟩
     rw[hL,AW]at ha
     refine⟨Z,_,_,_,_,_,rfl,s5,T4 _ _ hB,T2.trans T4,Y,hC,?_⟩
     rw[hA,a5m]
     exact ha
   ·obtain⟨x1,rest,he⟩:=hn.kind
    have z0:atI (V.str (R4 rw)::x1::rest) 0=some (.str (R4 rw)):=R3 (j:=0) rfl
    refine⟨_,rfl,r,_,_,_,rfl,rfl,SqT.of he,z0,rfl,_,rfl,U9 hW ?_⟩
    have h3:W4 [(n,jj,rw)]=[]:=by unfold W4;simp[ho]
    exact⟨kvs,_,_,_,_,_,rfl,s4,hB,T2,hb,hf,by rw[hA,h3,BB];exact hk⟩
  ·rintro σ H2 ⟨kvs,v3,v4,v5,v6,v7,rfl,s4,hB,T2,hb,hf,hk⟩
   rw[hU,AW]at hk
   exact⟨_,rfl,q d kvs H2 s4 hJ hf hk⟩
structure FI(mls:List (Kk×(Str×Nat)))(ls:List (Kk×Kk))(H:Hp)(kvs:List (List Key×V)):Prop where
 nd:(kvs.map (·.1)).Nodup
 sub:∀k∈kvs.map (·.1),k∈(mls.map (·.1)++ls.map (·.1)).map U1
 val:∀x v,W2 kvs (U1 x)=some v->∃t p,v= .ref t/\H t=some (.tup [.str p.1,.int ((p.2:Nat):Int)])/\Mk mls ls x p
 has:∀x∈mls.map (·.1),(W2 kvs (U1 x)).isSome=true
theorem b1r{κ:Type}[DecidableEq κ]{kvs:List (κ×V)}{k:κ}{v:V}(h:(kvs.map (·.1)).Nodup):((U7 kvs k v).map (·.1)).Nodup/\∀x∈(U7 kvs k v).map (·.1),x∈kvs.map (·.1)\/x=k:=by
 by_cases j:k∈kvs.map (·.1)
 ·have e:(U7 kvs k v).map (·.1)=kvs.map (·.1):=by
   unfold U7
   rw[if_pos]
   ·rw[List.map_map]
    refine List.map_congr_left fun x _=>?_
    show(if x.1=k then(x.1,v)else x).1=x.1
    split<;>rfl
   ·obtain⟨p,B,e⟩:=AO.mp j
    exact List.any_eq_true.mpr ⟨p,B,decide_eq_true e⟩
  rw[e]
  exact⟨h,fun x hx=> .inl hx⟩
 ·rw[a0o j,AG]
  refine⟨AR.mpr ⟨h,by simp,fun a D b q z=>j (by have e:b=k:=AC.mp q;rw[<-e,<-z];exact D)⟩,fun x hx=>?_⟩
  rcases AL.mp hx with z | z
  ·exact .inl z
  ·exact .inr (AC.mp z)
theorem FI.len{j:List (Kk×(Str×Nat))}{q:List (Kk×Kk)}{H:Hp}{kvs:List (List Key×V)}(h:FI j q H kvs):kvs.length<=j.length+q.length:=by
 have h1:=B4 _ _ h.nd h.sub
 rw[List.length_map,List.length_map,List.length_append,List.length_map,List.length_map]at h1
 exact h1
theorem FI.mono{j:List (Kk×(Str×Nat))}{q:List (Kk×Kk)}{H H':Hp}{kvs:List (List Key×V)}(h:FI j q H kvs)(s:J9 H H'):FI j q H' kvs:=⟨h.nd,h.sub,fun x v e=>by
 obtain⟨t,p,B,D,F⟩:=h.val x v e
 exact⟨t,p,B,s _ _ D,F⟩,h.has⟩
theorem FI.put{j:List (Kk×(Str×Nat))}{q:List (Kk×Kk)}{H:Hp}{kvs:List (List Key×V)}(h:FI j q H kvs){x:Kk}{t:Addr}{p:Str×Nat}(hx:x∈j.map (·.1)++q.map (·.1))(ht:H t=some (.tup [.str p.1,.int ((p.2:Nat):Int)]))(F:Mk j q x p):FI j q H (U7 kvs (U1 x) (.ref t)):=by
 obtain⟨k1,B⟩:=b1r (v:=V.ref t) (k:=U1 x) h.nd
 refine⟨k1,fun k G=>?_,fun y v e=>?_,fun y D=>?_⟩
 ·rcases B k G with z | z
  ·exact h.sub k z
  ·rw[z];exact AS hx
 ·rw[O1]at e
  by_cases z:U1 y=U1 x
  ·rw[if_pos z]at e
   rw[a0K z]
   exact⟨t,p,(Option.some.inj e).symm,ht,F⟩
  ·rw[if_neg z]at e
   exact h.val y v e
 ·rw[O1]
  by_cases z:U1 y=U1 x
  ·rw[if_pos z];rfl
  ·rw[if_neg z];exact h.has y D
noncomputable def b1v (H:Hp) (v:V) (k:Str×Str):Prop:=∃b,v= .ref b/\H b=some (.tup [.str k.1,.str k.2])
theorem b1v.mono{H H':Hp}(s:J9 H H'){v:V}{k:Kk}(h:b1v H v k):b1v H' v k:=by
 obtain⟨b,e,h⟩:=h
 exact⟨b,e,s _ _ h⟩
noncomputable def muM (r:Kk->Nat) (i:Nat) (σ:L2.St) (H:Hp):Nat:=match σ[i]? with
 | some (some (V.ref b))=>match H b with
  | some (HO.tup [V.str n,V.str o])=>r (n,o)
  | _=>0
 | _=>0
noncomputable def b2Z:Sp:=fun vs H Q _=>∃(a:Addr)(ps:List Pt),vs=[.ref a]/\D6 H a ps/\a0E ps/\D9 (G7 ps)/\∀(d:Addr)(kvs:List (List Key×V))(H':Hp),G5 H H'->H d=none->H' d=some (.dT kvs)->FI (R6 (G7 ps)) (Z6 (G7 ps)) H' kvs->(∀x∈(Z6 (G7 ps)).map (·.1),(W2 kvs (U1 x)).isSome=true)->Q (.ref d) H'
theorem J9.frz{H:Hp}{l:Addr}{o:Obj}{u:HO}{kvs:List (List Key×V)}(h:H l=some (.dT kvs)):J9 H (upd H l (.frz o u)):=fun b zs q=>by
 rw[G8 (a5p q h (by intro z;cases z))]
 exact q
theorem b5A{pls:List Pl}{H:Hp}{kvs:List (List Key×V)}(j:D9 pls)(h:Paired (a3G H) kvs (R6 pls)):FI (R6 pls) (Z6 pls) H kvs:=by
 have J:=a7g (F:=a3G H) (fun _ _ h=>h.1) h
 refine⟨?_,fun k G=>?_,fun x v e=>?_,fun x hx=>?_⟩
 ·rw[J,BJ,List.pairwise_map]
  have:=j.mkNodup
  rw[BJ]at this
  exact this.imp fun D z=>D (a0K z)
 ·rw[J]at G
  rw[AG]
  exact AX _ G
 ·by_cases hx:x∈(R6 pls).map (·.1)
  ·obtain⟨y,q,ey⟩:=AO.mp hx
   obtain⟨U,⟨_,t,O,Y⟩,B⟩:=a3p (F:=a3G H) (fun _ _ h=>h.1) h j.mkNodup q
   rw[ey,e]at B
   refine⟨t,y.2,(Option.some.inj B).trans O,Y,.base ?_⟩
   rw[<-ey]
   exact q
  ·rw[a5M (F:=a3G H) (fun _ _ h=>h.1) h hx]at e
   cases e
 ·obtain⟨y,q,ey⟩:=AO.mp hx
  obtain⟨U,_,B⟩:=a3p (F:=a3G H) (fun _ _ h=>h.1) h j.mkNodup q
  rw[<-ey,B]
  rfl
theorem b1K(T:Txt K mg):L2.Cl P w K mg base 4 "makers" ["parts"] b2Z:=by
 have hF:=b4V (P:=P) (w:=w) (base:=base) T
 have hk:=b2s (P:=P) (w:=w) (base:=base) T
 refine Cl.of T.d_makers a0j (fun vs H Q E h=>?_) (fun _ _ _ _ _ _ us hl=>by obtain⟨a,rfl⟩:=a3N hl;rfl) (fun fa sU A outer s H vs Q E hr h=>?_)
 ·obtain⟨a,ps,rfl,_⟩:=h
  rfl
 ·obtain⟨a,ps,rfl,sw,hI,G,q⟩:=h
  have hu:=B2 hr
  have sZ:=G.len
  obtain⟨r,sH⟩:=G.rk
  have za:=a3Q (G7 ps)
  have ze:(Z6 (G7 ps)).length<=5760:=by
   have h1:=a2S G.brs
   unfold Z6
   rw[List.length_map]
   omega
  have hX:=fun{x:Kk×Kk}(hx:x∈Z6 (G7 ps))=>G.tgt hx
  have sl:=G.lkNodup
  refine⟨_,(G3 (J1 (i:=1) a0j.nd rfl (Or.inl rfl) (W0 hF hr (by rfl) (G0 (pv 0) G4)))
   (G3 (J1 (i:=2) a0j.nd rfl (Or.inl rfl) (W0 hk hr (by rfl) (G0 (pv 0) G4)))
   (G3 (Y9 AN rfl (a8S (pv 2)) (I9 (i:=3) a0j.nd rfl (Or.inl rfl))
    (G3 (J1 (i:=4) a0j.nd rfl (Or.inl rfl) (Y3 G4))
    (G3 (J1 (i:=5) a0j.nd rfl (Or.inl rfl) (pv 3))
    (G3 (a1P AN (a0R (a1M hu (pv 5) (pv 1)))
     (G3 (Y1 (D4 PySem.F.plainAttrs_list PySem.F.slot_list_append PySem.F.type_list_append Y5 (pv 4) (G0 (pv 5) G4)))
     (G6 (J1 (i:=5) a0j.nd rfl (Or.inl rfl) (Z4 hu (pv 2) (pv 5) (fun _ _=>rfl))))))
    (G6 (Y9 AN rfl (a0Z (pv 4)) (I9 (i:=6) a0j.nd rfl (Or.inl rfl))
     (G6 (E5 hu (pv 1) (pv 6) (Z4 hu (pv 1) (pv 5) (fun _ _=>rfl)) rfl))))))))
   (G6 (R9 (pv 1)))))),?_⟩
  refine⟨_,rfl,a,ps,rfl,sw,hI,G,fun f hM H1 s1 gf hR sI=>?_⟩
  refine⟨_,rfl,a,ps,rfl,s1.partsF sw,hI,G,fun D B H2 s2 sn sx hV=>?_⟩
  have si:f≠D:=fun z=>by rw[z,sn]at hR;cases hR
  have sm:H D=none:=s1.free sn
  have sM:=s1.trans s2
  have sP:FI (R6 (G7 ps)) (Z6 (G7 ps)) H2 hM:=(b5A G sI).mono s2.tups
  generalize R6 (G7 ps)=he at*
  generalize Z6 (G7 ps)=ls at*
  have sT:B.length=ls.length:=AE hV
  refine⟨_,rfl,D,B,rfl,sx,fun ob vs su=>?_⟩
  have sW:vs.length=B.length:=AE su
  have T3:J9 H2 (upd H2 D (.frz ob (.dT B))):=J9.frz sx
  have s3:G5 H (upd H2 D (.frz ob (.dT B))):=sM.put sm
  have se:upd H2 D (.frz ob (.dT B)) f=some (.dT hM):=by rw[G8 si];exact s2 _ _ hR
  have hL:upd H2 D (.frz ob (.dT B)) D=some (.frz ob (.dT B)):=G1
  have sv:=sP.mono T3
  have hf:Paired (a2o (upd H2 D (.frz ob (.dT B)))) B ls:=Paired.mapP hV fun _ _ z=>z.mono T3
  have hK:Paired (a4c (upd H2 D (.frz ob (.dT B)))) vs B:=Paired.mapP su fun _ _⟨b,e,hb⟩=>⟨b,e,T3 _ _ hb⟩
  generalize upd H2 D (.frz ob (.dT B))=H3 at T3 s3 se hL sv hf hK⊢
  refine a7W (d:=D) (o:=ob) (u:= .dT B) (ks:=vs) (fun i σ H4=>∃(kvs:List (List Key×V))(v3 v4 v5 v6:Option V),σ=[some (.ref a),some (.ref f),some (.ref D),v3,v4,v5,v6]/\G5 H H4/\H4 D=some (.frz ob (.dT B))/\J9 H3 H4/\H4 f=some (.dT kvs)/\FI he ls H4 kvs/\∀j x,j < i->ls[j]?=some x->(W2 kvs (U1 x.1)).isSome=true)
   ⟨hM,none,none,none,none,rfl,s3,hL,J9.refl H3,se,sv,fun j x hj=>by omega⟩ (fun i σ H4 _⟨_,_,_,_,_,_,_,h,_⟩=>h) ?_ ?_
  ·rintro i y σ H4 O ⟨kvs,v3,v4,v5,v6,rfl,s4,hc,T4,hm,hT,ha⟩
   obtain⟨sV,sA,sy,sQ,sN⟩:=Paired.get? hK O
   subst sQ
   obtain⟨x0,sd,hW,_⟩:=Paired.get? hf sA
   have sk:x0∈ls:=AD sd
   have ss:H4 sy=some (.tup [.str x0.1.1,.str x0.1.2]):=by
    have:=T4 _ _ sN
    rw[hW]at this
    exact this
   refine⟨a0s,fun Y hG=>?_⟩
   have s5:G5 H4 (upd H4 Y (.lst [])):=(G5.refl H4).new hG
   have sq:H Y=none:=s4.free hG
   have sj:f≠Y:=fun z=>by rw[z,hG]at hm;cases hm
   have sK:D≠Y:=fun z=>by rw[z,hG]at hc;cases hc
   refine⟨_,rfl,?_⟩
   apply a5n
   ·with_reducible_and_instances rfl
   refine a2G (fun σ J=>∃(x:Kk)(b:Addr)(xs:List Kk)(ws:List V)(v3 v6:Option V),σ=[some (.ref a),some (.ref f),some (.ref D),v3,some (.ref Y),some (.ref b),v6]/\G5 H J/\J D=some (.frz ob (.dT B))/\J9 H3 J/\J f=some (.dT kvs)/\FI he ls J kvs/\J b=some (.tup [.str x.1,.str x.2])/\(x∈he.map (·.1)\/x∈ls.map (·.1))/\J Y=some (.lst ws)/\Paired (b1v J) ws xs/\(∀y∈xs,y∈ls.map (·.1)/\r x < r y/\∀p,Mk he ls x p->Mk he ls y p)/\xs.Nodup/\(x=x0.1\/x0.1∈xs)) (fun σ J=>muM r 5 σ J)
    ⟨x0.1,sy,[],[],_,_,rfl,s4.trans s5,s5 _ _ hc,T4.trans s5.tups,s5 _ _ hm,hT.mono s5.tups,s5 _ _ ss,.inr (AS (f:=(·.1)) sk),G1,.nil,fun y O=>by simp at O,by simp,.inl rfl⟩ ?_ ?_
   ·rintro σ J ⟨x,b,xs,ws,w3,w6,rfl,s6,hJ,T5,hP,hs,hA,sO,Z,hB,hE,sb,sB⟩
    refine⟨_,rfl,_,rfl,f,_,rfl,E3.t (k:=U1 x) hP hA,_,rfl,?_⟩
    cases e:W2 kvs (U1 x)with
    | none=>
     refine B9 ?_
     have sf:x∈ls.map (·.1):=by
      rcases sO with z | z
      ·have:=hs.has x z
       rw[e]at this
       cases this
      ·exact z
     obtain⟨yx,hS,hY⟩:=AO.mp sf
     obtain⟨zc,⟨_,t',e1,e2⟩,e3⟩:=a3p (F:=a2o H3) (fun _ _ h=>h.1) hf sl hS
     rw[hY]at e3
     have ho:(x,yx.2)∈ls:=by rw[<-hY];exact hS
     have sr:r yx.2 < r x:=sH _ ho
     have zd:ws.length<=6720:=by
      rw[AE hB]
      have h1:=B4 xs (ls.map (·.1)) sb fun y O=>(hE y O).1
      rw[List.length_map]at h1
      omega
     refine⟨_,rfl,.inl ⟨rfl,_,SqL.of Z⟩,_,rfl,Y,_,_,rfl,rfl,Z,szK (by omega),?_⟩
     have T6:J9 J (upd J Y (.lst (ws++[.ref b]))):=J9.lst Z
     have U:upd J Y (.lst (ws++[.ref b])) D=some (.frz ob (.dT B)):=by rw[G8 sK];exact hJ
     have so:=T6 _ _ hA
     have hh:E3 (upd J Y (.lst (ws++[.ref b]))) D (.ref b) (some (.ref t')):= .inr ⟨B,U1 x,b,.inr ⟨ob,U⟩,rfl,so,by rw[e3,e1]⟩
     refine⟨_,rfl,_,rfl,D,_,rfl,hh,?_⟩
     have hU:=T6 _ _ (T5 _ _ e2)
     refine⟨⟨yx.2,t',xs++[x],ws++[.ref b],_,_,rfl,s6.put sq,U,T5.trans T6,by rw[G8 sj];exact hP,hs.mono T6,hU,hX hS,G1,Paired.snoc (Paired.mapP hB fun _ _ z=>z.mono T6) ⟨b,rfl,so⟩,fun y O=>?_,?_,?_⟩,?_⟩
     ·rcases AL.mp O with z | z
      ·obtain⟨h1,h2,h3⟩:=hE y z
       exact⟨h1,by omega,fun p hp=>h3 p (.step ho hp)⟩
      ·rw[AC.mp z]
       exact⟨sf,sr,fun p hp=> .step ho hp⟩
     ·refine AR.mpr ⟨sb,by simp,fun y O z hz w=>?_⟩
      rw[AC.mp hz]at w
      have:=(hE y O).2.1
      rw[w]at this
      omega
     ·rcases sB with z | z
      ·rw[<-z];exact .inr (AV _ AM)
      ·exact .inr (AX _ z)
     ·show muM r 5 [some (V.ref a),some (.ref f),some (.ref D),w3,some (.ref Y),some (.ref t'),w6] _ < muM r 5 [some (V.ref a),some (.ref f),some (.ref D),w3,some (.ref Y),some (.ref b),w6] J
      have m1:muM r 5 [some (V.ref a),some (.ref f),some (.ref D),w3,some (.ref Y),some (.ref t'),w6] (upd J Y (.lst (ws++[.ref b])))=r yx.2:=by
       unfold muM
       simp only[List.getElem?_cons_succ,List.getElem?_cons_zero]
       rw[hU]
      have m2:muM r 5 [some (V.ref a),some (.ref f),some (.ref D),w3,some (.ref Y),some (.ref b),w6] J=r x:=by
       unfold muM
       simp only[List.getElem?_cons_succ,List.getElem?_cons_zero]
       rw[hA]
      rw[m1,m2]
      exact sr
    | some v=>
     refine F8 ?_
     obtain⟨t,p,ev,ht,hZ⟩:=hs.val x v e
     subst ev
     refine⟨_,rfl,Y,rfl,⟨_,SqL.of Z⟩,a1g (K:=K) (a:=Y) (xs:=ws) (fun j σ H6=>∃(kv:List (List Key×V))(v6:Option V),σ=[some (.ref a),some (.ref f),some (.ref D),w3,some (.ref Y),some (.ref b),v6]/\G5 H H6/\H6 D=some (.frz ob (.dT B))/\J9 J H6/\H6 f=some (.dT kv)/\H6 Y=some (.lst ws)/\FI he ls H6 kv/\W2 kv (U1 x)=some (.ref t)/\(∀y,(W2 kvs (U1 y)).isSome=true->(W2 kv (U1 y)).isSome=true)/\∀y∈xs.take j,(W2 kv (U1 y)).isSome=true)
      ⟨kvs,_,rfl,s6,hJ,J9.refl J,hP,Z,hs,e,fun y O=>O,fun y O=>by simp at O⟩ (fun j σ H6 _⟨_,_,_,_,_,_,_,h,_⟩=>SqL.of h) ?_ ?_⟩
     ·rintro j y σ H6 sG ⟨kv,u6,rfl,s7,U,T6,hn,hH,hD,hw,hN,hC⟩
      obtain⟨z,hz,bz,ez,sR⟩:=Paired.get? hB sG
      subst ez
      have sD:=AD hz
      obtain⟨sC,_,sF⟩:=hE z sD
      have zb:=hD.len
      have hh:E3 H6 f (.ref b) (some (.ref t)):=by
       have h1:=E3.t (k:=U1 x) hn (T6 _ _ hA)
       rw[hw]at h1
       exact h1
      refine⟨_,rfl,_,rfl,f,_,rfl,hh,_,rfl,_,rfl,f,_,rfl,a0z.t (k:=U1 z) hn (T6 _ _ sR) (szK (by omega)),?_⟩
      have T7:=J9.dT (kvs':=U7 kv (U1 z) (.ref t)) hn
      refine⟨U7 kv (U1 z) (.ref t),_,rfl,s7.put gf,by rw[G8 si.symm];exact U,T6.trans T7,G1,by rw[G8 sj.symm];exact hH,(hD.put (AV _ sC) (T6 _ _ ht) (sF p hZ)).mono T7,?_,fun y O=>?_,fun y O=>?_⟩
      ·rw[O1]
       split
       ·rfl
       ·exact hw
      ·rw[O1]
       split
       ·rfl
       ·exact hN y O
      ·rw[J2 hz]at O
       rw[O1]
       rcases AL.mp O with w | w
       ·split
        ·rfl
        ·exact hC y w
       ·rw[AC.mp w,if_pos rfl]
        rfl
     ·rintro σ H6 ⟨kv,u6,rfl,s7,U,T6,hn,hH,hD,hw,hN,hC⟩
      rw[AE hB,AW]at hC
      refine⟨kv,_,_,_,_,rfl,s7,U,T5.trans T6,hn,hD,fun j y hj hO=>?_⟩
      by_cases sJ:j=i
      ·subst sJ
       rw[sd]at hO
       cases hO
       rcases sB with z | z
       ·rw[<-z,hw];rfl
       ·exact hC _ z
      ·exact hN _ (ha j y (by omega) hO)
   ·rintro σ J Q1 Q2 hQ ⟨v,e,v2,e2,a2,o,e7,hg,c,e8,hq⟩
    exact⟨v,e,v2,e2,a2,o,e7,hg,c,e8,hQ _ _ hq⟩
  ·rintro σ H4 ⟨kvs,v3,v4,v5,v6,rfl,s4,hc,T4,hm,hT,ha⟩
   refine⟨_,rfl,q f kvs H4 s4 gf hm hT fun x hx=>?_⟩
   obtain⟨y,O,ey⟩:=AO.mp hx
   obtain⟨j,hj⟩:=AT O
   have sY:=(List.getElem?_eq_some_iff.mp hj).1
   rw[<-ey]
   exact ha j y (by omega) hj
noncomputable def nt (j:Nat):Str:=Str.ofString (toString (j:Int))
theorem b5I{i j:Nat}(hi:i < 100000)(B:j < 100000)(h:nt i=nt j):i=j:=by
 have b:∀n:Nat,n < 100000->((n:Int)) < 10 ^ 60:=fun n G=>Int.lt_of_lt_of_le (show(n:Int) < 100000 by omega) (by decide)
 obtain⟨h1,_⟩:=a3L (n:=(i:Int)) (by omega) (b i hi)
 obtain⟨h2,_⟩:=a3L (n:=(j:Int)) (by omega) (b j B)
 have F:(Nat.toDigits 10 (i:Int).toNat).map Char.toNat=(Nat.toDigits 10 (j:Int).toNat).map Char.toNat:=by
  rw[<-h1,<-h2]
  exact congrArg (fun x:Str=>x.cps.toList) h
 have D:Nat.toDigits 10 (i:Int).toNat=Nat.toDigits 10 (j:Int).toNat:=by
  refine List.map_inj_right (fun a b e=>?_) |>.mp F
  exact Char.toNat_inj.mp e
 have q:=congrArg (fun l=>Nat.ofDigitChars 10 l 0) D
 simp only[Nat.ofDigitChars_ten_toDigits,Int.toNat_natCast]at q
 exact q
theorem b6f(j:Nat)(q:j < 100000):1<=(nt j).length/\(nt j).length<=60:=by
 obtain⟨h1,h2⟩:=a3L (n:=(j:Int)) (by omega) (Int.lt_of_lt_of_le (show(j:Int) < 100000 by omega) (by decide))
 have e:(nt j).length=(Nat.toDigits 10 (j:Int).toNat).length:=by
  have:=congrArg List.length h1
  rw[List.length_map,Array.length_toList]at this
  exact this
 rw[e]
 refine⟨?_,h2⟩
 have:Nat.toDigits 10 (j:Int).toNat≠[]:=Nat.toDigits_ne_nil
 exact List.length_pos_iff.mpr this
noncomputable def muN (σ:L2.St):Nat:=match σ[2]? with
 | some (some (V.int n))=>(6000 - n).toNat
 | _=>0
noncomputable def a9I:Sp:=fun vs H Q _=>∃(own:Str)(d:Addr)(kvs:List (Key×V)),vs=[.str own,.ref d]/\H d=some (.dK kvs)/\kvs.length<=5000/\own.length<=100/\∀k:Nat,2<=k->k<=5010->W2 kvs (Sum.inr (own++nt k))=none->(∀j,2<=j->j < k->(W2 kvs (Sum.inr (own++nt j))).isSome=true)->Q (.str (own++nt k)) H
theorem few{own:Str}{kvs:List (Key×V)}{n:Nat}(F:n<=6000)(h:∀j,2<=j->j < n->(W2 kvs (Sum.inr (own++nt j))).isSome=true):n<=kvs.length+2:=by
 have h1:=B4 ((List.range (n - 2)).map fun i=>(Sum.inr (own++nt (i+2)):Key)) (kvs.map (·.1)) ?_ ?_
 ·rw[List.length_map,List.length_map,List.length_range]at h1
  omega
 ·rw[BJ,List.pairwise_map]
  refine List.Pairwise.imp_of_mem (fun{i j}hi D q z=>q ?_) List.nodup_range
  have h1:=List.mem_range.mp hi
  have h2:=List.mem_range.mp D
  have:=b5I (by omega) (by omega) (a2r (Sum.inr.inj z))
  omega
 ·intro x hx
  obtain⟨i,hi,rfl⟩:=AO.mp hx
  have h2:=List.mem_range.mp hi
  have B:=h (i+2) (by omega) (by omega)
  cases e:W2 kvs (Sum.inr (own++nt (i+2)))with
  | none=>rw[e]at B;cases B
  | some v=>exact b0C e
theorem a8v(T:Txt K mg):L2.Cl P w K mg base 1 "numbered" ["own","used"] a9I:=by
 refine Cl.of T.d_numbered a2q (fun vs H Q E h=>?_) (fun _ _ _ _ _ _ us hl=>by obtain⟨a,b,rfl⟩:=a4j hl;rfl) (fun fa hb A outer s H vs Q E hr h=>?_)
 ·obtain⟨own,d,kvs,rfl,_⟩:=h
  rfl
 ·obtain⟨own,d,kvs,rfl,hd,ha,Y,q⟩:=h
  have hu:=B2 hr
  refine⟨_,(G3 (J1 (i:=2) a2q.nd rfl (Or.inl rfl) G2)
   (G3 (a1P AN (a0R (b3m hu (G9 a0e (pv 0) (Y6 a1X (by rfl) T.n_str boot_str (G0 (pv 2) G4))) (pv 1)))
    (G6 (b5Z (i:=2) a2q.nd rfl (Or.inl rfl) G2 b6E)))
   (G6 (R9 (G9 a0e (pv 0) (Y6 a1X (by rfl) T.n_str boot_str (G0 (pv 2) G4))))))),?_⟩
  have F:∀n:Nat,n<=6000->((n:Int)).natAbs.log2 < 1920:=fun n hn=>by
   have h1:((n:Int)).natAbs=n:=Int.natAbs_natCast n
   rw[h1]
   by_cases U:n=0
   ·subst U;decide
   ·have:n < 2 ^ 13:=by omega
    have:=(Nat.log2_lt U).mpr this
    omega
  have hsz:∀n:Nat,n<=6000->own.length+(nt n).length<=sizeLine:=fun n hn=>by
   have:=(b6f n (by omega)).2
   exact Nat.le_of_lt (J8 (by omega))
  refine a2G (fun σ H2=>∃n:Nat,σ=[some (.str own),some (.ref d),some (.int (n:Int))]/\H2=H/\2<=n/\n<=5010/\∀j,2<=j->j < n->(W2 kvs (Sum.inr (own++nt j))).isSome=true) (fun σ _=>muN σ) ⟨2,rfl,rfl,by omega,by omega,fun j h1 h2=>by omega⟩ ?_ ?_
  ·rintro σ H2 ⟨n,rfl,rfl,O,G,D⟩
   refine⟨_,rfl,_,rfl,_,rfl,F n (by omega),_,_,rfl,rfl,hsz n (by omega),_,rfl,d,_,rfl,E3.k (k:=Sum.inr (own++nt n)) hd,_,rfl,?_⟩
   cases e:W2 kvs (Sum.inr (own++nt n))with
   | none=>
    refine F8 ?_
    refine⟨_,rfl,_,rfl,_,rfl,F n (by omega),_,_,rfl,rfl,hsz n (by omega),?_⟩
    exact q n O G e D
   | some v=>
    refine B9 ?_
    have B:∀j,2<=j->j < n+1->(W2 kvs (Sum.inr (own++nt j))).isSome=true:=fun j h1 h2=>by
     by_cases Z:j=n
     ·subst Z;rw[e];rfl
     ·exact D j h1 (by omega)
    have hf:=few (n:=n+1) (by omega) B
    refine⟨_,rfl,_,_,rfl,rfl,?_⟩
    refine⟨⟨n+1,?_,rfl,by omega,by omega,B⟩,?_⟩
    ·show [some (V.str own),some (.ref d),some (.int ((n:Int)+1))]=_
     rw[show((n:Int)+1)=((n+1:Nat):Int)by omega]
    ·show muN [some (V.str own),some (.ref d),some (.int ((n:Int)+1))] < muN [some (V.str own),some (.ref d),some (.int (n:Int))]
     simp only[muN,List.getElem?_cons_succ,List.getElem?_cons_zero]
     omega
  ·rintro σ H2 Q1 Q2 hQ ⟨v,e,v2,e2,i,e3,hl,a,b,e4,e5,J,v3,e6,a2,o,e7,hg,c,e8,hq⟩
   exact⟨v,e,v2,e2,i,e3,hl,a,b,e4,e5,J,v3,e6,a2,o,e7,hg,c,e8,hQ _ _ hq⟩
noncomputable abbrev Tr:=Str×Str×Str
noncomputable def W7 (ts:List Tr):List Str:=ts.map (·.2.2)
noncomputable def a7v (mdl:List Str) (ts:List Tr):Prop:=∀(i:Nat)(t:Tr),ts[i]?=some t->(t.2.1∉W7 (ts.take i)->t.2.2=t.2.1)/\(t.2.1∈W7 (ts.take i)->∃k,2<=k/\k<=5010/\t.2.2=t.2.1++nt k/\t.2.2∉W7 (ts.take i)/\t.2.2∉mdl/\∀j,2<=j->j < k->(t.2.1++nt j∈W7 (ts.take i)\/t.2.1++nt j∈mdl))
theorem a7v.snoc{q:List Str}{ts:List Tr}{t:Tr}(h:a7v q ts)(h1:t.2.1∉W7 ts->t.2.2=t.2.1)(h2:t.2.1∈W7 ts->∃k,2<=k/\k<=5010/\t.2.2=t.2.1++nt k/\t.2.2∉W7 ts/\t.2.2∉q/\∀j,2<=j->j < k->(t.2.1++nt j∈W7 ts\/t.2.1++nt j∈q)):a7v q (ts++[t]):=fun i t' e=>by
 by_cases hi:i < ts.length
 ·rw[List.getElem?_append_left hi]at e
  rw[List.take_append_of_le_length (Nat.le_of_lt hi)]
  exact h i t' e
 ·rw[BS (by omega)]at e
  have D:i - ts.length=0:=by
   have:=(List.getElem?_eq_some_iff.mp e).1
   simp only[List.length_singleton]at this
   omega
  rw[D]at e
  simp only[List.getElem?_cons_zero,Option.some.injEq]at e
  subst e
  have B:i=ts.length:=by omega
  subst B
  rw[List.take_left']
  ·exact⟨h1,h2⟩
  ·rfl
theorem b5H{H:Hp}:∀{vs:List V}{kvs:List (List Key×V)}{ks:List (Str×Str)},Paired (a4c H) vs kvs->kvs.map (·.1)=ks.map U1->Paired (b1v H) vs ks
 | _,_,[],.nil,_=> .nil
 | _,_,_::_,.nil,h=>by simp at h
 | _,_,[],.cons _ _,h=>by simp at h
 | _,_,k::ks,.cons (a:=v) (b:=B) ⟨b,e,j⟩ q,h=>by
  simp only[List.map_cons,List.cons.injEq]at h
  refine .cons ⟨b,e,?_⟩ (b5H q h.2)
  rw[j,h.1]
  rfl
noncomputable def b2j (H:Hp) (v:V) (t:Tr):Prop:=∃c,v= .ref c/\H c=some (.tup [.str t.1,.str t.2.1,.str t.2.2])
theorem b2j.mono{H H':Hp}(s:J9 H H'){v:V}{t:Tr}(h:b2j H v t):b2j H' v t:=by
 obtain⟨c,e,h⟩:=h
 exact⟨c,e,s _ _ h⟩
noncomputable def b7t:Sp:=fun vs H Q _=>∃(a:Addr)(ps:List Pt),vs=[.ref a]/\D6 H a ps/\a0E ps/\(Z5 (G7 ps)).Nodup/\(∀k∈Z5 (G7 ps),k.2.length<=100)/\∀(p:Addr)(vs:List V)(ts:List Tr)(H':Hp),G5 H H'->H' p=some (.tup vs)->Paired (b2j H') vs ts->ts.map (fun t=>(t.1,t.2.1))=Z5 (G7 ps)->a7v ((Z5 (G7 ps)).map (·.2)) ts->Q (.ref p) H'
theorem a5V(kvs:List (Key×V))(k:Key)(v:V):(U7 kvs k v).length<=kvs.length+1:=by
 unfold U7
 split
 ·rw[List.length_map];omega
 ·rw[List.length_append];simp
theorem b6K(T:Txt K mg):L2.Cl P w K mg base 3 "new_names" ["parts"] b7t:=by
 have hz:=b2c (P:=P) (w:=w) (base:=base) T
 have ha:=a8v (P:=P) (w:=w) (base:=base) T
 refine Cl.of T.d_new_names F0 (fun vs H Q E h=>?_) (fun _ _ _ _ _ _ us hl=>by obtain⟨a,rfl⟩:=a3N hl;rfl) (fun fa hU A outer s H vs Q E hr h=>?_)
 ·obtain⟨a,ps,rfl,_⟩:=h
  rfl
 ·obtain⟨a,ps,rfl,hR,hn,hK,hA,q⟩:=h
  have hu:=B2 hr
  refine⟨_,(G3 (J1 (i:=1) F0.nd rfl (Or.inl rfl) (Y6 (a8X rfl) (by rfl) T.n_list boot_list (G0 (W0 hz hr (by rfl) (G0 (pv 0) G4)) G4)))
   (G3 (J1 (i:=2) F0.nd rfl (Or.inl rfl) a3W)
   (G3 (Y9 AN rfl (a0Z (pv 1)) (E7 rfl (J0 (I9 (i:=3) F0.nd rfl (Or.inl rfl)) (J0 (I9 (i:=4) F0.nd rfl (Or.inl rfl)) Y2)))
    (G6 (E5 hu (pv 2) (pv 4) a3D rfl)))
   (G3 (J1 (i:=5) F0.nd rfl (Or.inl rfl) (Y3 G4))
   (G3 (Y9 AN rfl (a0Z (pv 1)) (E7 rfl (J0 (I9 (i:=3) F0.nd rfl (Or.inl rfl)) (J0 (I9 (i:=4) F0.nd rfl (Or.inl rfl)) Y2)))
    (G3 (J1 (i:=6) F0.nd rfl (Or.inl rfl) (b3D (a5x (Z4 hu (pv 2) (pv 4) (fun _ _=>rfl))) (W0 ha hr (by rfl) (G0 (pv 4) (G0 (pv 2) G4))) (pv 4)))
    (G3 (E5 hu (pv 2) (pv 6) a3D rfl)
    (G6 (Y1 (D4 PySem.F.plainAttrs_list PySem.F.slot_list_append PySem.F.type_list_append Y5 (pv 5) (G0 (R1 (G0 (pv 3) (G0 (pv 4) (G0 (pv 6) G4)))) G4)))))))
   (G6 (R9 (Y6 E2 (by rfl) T.n_tuple boot_tuple (G0 (pv 5) G4))))))))),?_⟩
  refine⟨_,rfl,a,ps,rfl,hR,hn,hK,fun d kvs H1 s1 hd hk=>?_⟩
  refine⟨d,kvs,rfl,.inl hd,fun l vs gl hP=>?_⟩
  have hC:=b5H hP hk
  have hO:(Z5 (G7 ps)).length<=960:=by
   have h0:(Z5 (G7 ps)).length<=(G7 ps).length:=List.length_filterMap_le _ _
   have h1:=a1b hn.rows
   have:=hn.hi
   omega
  generalize Z5 (G7 ps)=ks at hC hO hA q hK
  have hG:vs.length=ks.length:=AE hC
  have s2:G5 H1 (upd H1 l (.lst vs)):=(G5.refl H1).new gl
  have hj:upd H1 l (.lst vs) l=some (.lst vs):=G1
  have ho:Paired (b1v (upd H1 l (.lst vs))) vs ks:=Paired.mapP hC fun _ _⟨b,e,hb⟩=>⟨b,e,s2 _ _ hb⟩
  have hJ:=s1.trans s2
  generalize upd H1 l (.lst vs)=H2 at s2 hj ho hJ⊢
  intro u gu
  have s3:G5 H2 (upd H2 u (.dK [])):=(G5.refl H2).new gu
  refine⟨_,rfl,l,rfl,⟨_,SqL.of (s3 _ _ hj)⟩,a1g (K:=K) (a:=l) (xs:=vs) (fun i σ H3=>∃(kv:List (Key×V))(v3 v4:Option V),σ=[some (.ref a),some (.ref l),some (.ref u),v3,v4,none,none]/\G5 H2 H3/\H3 u=some (.dK kv)/\kv.length<=i/\∀x,W2 kv (Sum.inr x)=if x∈(ks.take i).map (·.2)then some (.bl false)else none)
   ⟨[],none,none,rfl,s3,G1,by simp,fun x=>by simp[b3y]⟩ (fun i σ H3 _⟨_,_,_,_,s4,_⟩=>SqL.of (s4 _ _ hj)) ?_ ?_⟩
  ·rintro i y σ H3 hy ⟨kv,v3,v4,rfl,s4,hp,hQ,hf⟩
   obtain⟨k,hc,b,ey,hb⟩:=Paired.get? ho hy
   subst ey
   have hi:i < ks.length:=(List.getElem?_eq_some_iff.mp hc).1
   refine⟨b,_,rfl,SqT.of (s4 _ _ hb),rfl,_,_,rfl,_,_,rfl,rfl,?_⟩
   refine⟨_,rfl,_,rfl,u,_,rfl,a0z.k (k:=Sum.inr k.2) hp (J8 (by omega)),?_⟩
   refine⟨_,_,_,rfl,s4.put gu,G1,?_,fun x=>?_⟩
   ·have:=a5V kv (Sum.inr k.2) (.bl false)
    omega
   ·rw[O1,hf x,J2 hc,AG]
    by_cases hx:x=k.2
    ·subst hx
     rw[if_pos rfl,if_pos (by simp)]
    ·rw[if_neg (fun z=>hx (Sum.inr.inj z))]
     by_cases hm:x∈(ks.take i).map (·.2)
     ·rw[if_pos hm,if_pos (AX _ hm)]
     ·rw[if_neg hm,if_neg]
      intro z
      rcases AL.mp z with z | z
      ·exact hm z
      ·exact hx (by simpa using z)
  ·rintro σ H3 ⟨kv,v3,v4,rfl,s4,hp,hQ,hf⟩
   rw[hG,AW]at hf
   refine⟨a0s,fun f gf=>?_⟩
   have s5:G5 H2 (upd H3 f (.lst [])):=s4.new gf
   have ht:u≠f:=fun z=>by rw[z,gf]at hp;cases hp
   have hE:H2 f=none:=s4.free gf
   refine⟨_,rfl,l,rfl,⟨_,SqL.of (s5 _ _ hj)⟩,a1g (K:=K) (a:=l) (xs:=vs) (fun i σ O=>∃(kv:List (Key×V))(ts:List Tr)(us:List V)(v3 v4 v6:Option V),σ=[some (.ref a),some (.ref l),some (.ref u),v3,v4,some (.ref f),v6]/\G5 H2 O/\O u=some (.dK kv)/\kv.length<=ks.length+i/\(∀x,W2 kv (Sum.inr x)=if x∈W7 ts then some (.bl true)else if x∈ks.map (·.2)then some (.bl false)else none)/\O f=some (.lst us)/\Paired (b2j O) us ts/\ts.map (fun t=>(t.1,t.2.1))=ks.take i/\a7v (ks.map (·.2)) ts)
    ⟨kv,[],[],_,_,none,rfl,s5,U2 hp gf,by omega,fun x=>by rw[hf x];simp[W7],G1,.nil,rfl,fun i t e=>by simp at e⟩ (fun i σ O _⟨_,_,_,_,_,_,_,s6,_⟩=>SqL.of (s6 _ _ hj)) ?_ ?_⟩
   ·rintro i y σ O hy ⟨B,ts,us,w3,w4,w6,rfl,s6,he,hI,G,hw,hq,hg,hs⟩
    obtain⟨k,hc,b,ey,hb⟩:=Paired.get? ho hy
    subst ey
    have hi:i < ks.length:=(List.getElem?_eq_some_iff.mp hc).1
    have hD:=AD hc
    have hF:k.2∈ks.map (·.2):=AS (f:=(·.2)) hD
    have hL:ts.length=i:=by
     have:=congrArg List.length hg
     rw[List.length_map,AY]at this
     omega
    have hV:us.length=i:=by rw[AE hq,hL]
    refine⟨b,_,rfl,SqT.of (s6 _ _ hb),rfl,_,_,rfl,_,_,rfl,rfl,?_⟩
    have Z:=E3.k (k:=Sum.inr k.2) he
    rw[G k.2]at Z
    by_cases hm:k.2∈W7 ts
    ·rw[if_pos hm]at Z
     refine⟨_,rfl,_,rfl,u,_,rfl,Z,_,rfl,B9 ?_⟩
     refine⟨_,rfl,_,rfl,k.2,u,B,rfl,he,by omega,hA k hD,fun U hM hT D hH=>?_⟩
     have c1:k.2∉W7 ts->k.2++nt U=k.2:=fun z=>absurd hm z
     have c2:k.2∈W7 ts->∃k',2<=k'/\k'<=5010/\k.2++nt U=k.2++nt k'/\k.2++nt U∉W7 ts/\k.2++nt U∉ks.map (·.2)/\∀j,2<=j->j < k'->(k.2++nt j∈W7 ts\/k.2++nt j∈ks.map (·.2)):=fun _=>by
      rw[G]at D
      refine⟨U,hM,hT,rfl,fun z=>?_,fun z=>?_,fun j hS hN=>?_⟩
      ·rw[if_pos z]at D;cases D
      ·by_cases y:k.2++nt U∈W7 ts
       ·rw[if_pos y]at D;cases D
       ·rw[if_neg y,if_pos z]at D;cases D
      ·have h3:=hH j hS hN
       rw[G]at h3
       by_cases y:k.2++nt j∈W7 ts
       ·exact .inl y
       ·rw[if_neg y]at h3
        by_cases z:k.2++nt j∈ks.map (·.2)
        ·exact .inr z
        ·rw[if_neg z]at h3;cases h3
     refine⟨_,rfl,_,rfl,u,_,rfl,a0z.k (k:=Sum.inr (k.2++nt U)) he ((by have:sizeLine=16777216:=sizeLine_eq;omega)),?_⟩
     have s7:G5 H2 (upd O u (.dK (U7 B (Sum.inr (k.2++nt U)) (.bl true)))):=s6.put gu
     have T7:J9 O (upd O u (.dK (U7 B (Sum.inr (k.2++nt U)) (.bl true)))):=J9.dK he
     have J:upd O u (.dK (U7 B (Sum.inr (k.2++nt U)) (.bl true))) f=some (.lst us):=by rw[G8 ht.symm];exact hw
     have hh:upd O u (.dK (U7 B (Sum.inr (k.2++nt U)) (.bl true))) u=some (.dK (U7 B (Sum.inr (k.2++nt U)) (.bl true))):=G1
     generalize upd O u (.dK (U7 B (Sum.inr (k.2++nt U)) (.bl true)))=H7 at s7 T7 J hh⊢
     refine⟨_,rfl,.inl ⟨rfl,_,SqL.of J⟩,_,rfl,_,rfl,_,rfl,a0p,fun c gc=>?_⟩
     have s8:G5 H7 (upd H7 c (.tup [.str k.1,.str k.2,.str (k.2++nt U)])):=(G5.refl H7).new gc
     refine⟨f,_,_,rfl,rfl,s8 _ _ J,J8 (by omega),?_⟩
     have T9:=s8.tups.trans (J9.lst (ys:=us++[.ref c]) (s8 _ _ J))
     have hB:c≠f:=fun z=>by rw[z,J]at gc;cases gc
     refine⟨U7 B (Sum.inr (k.2++nt U)) (.bl true),ts++[(k.1,k.2,(k.2++nt U))],us++[.ref c],_,_,_,rfl,(s7.trans s8).put hE,by rw[G8 ht];exact s8 _ _ hh,?_,fun x=>?_,G1,Paired.snoc (Paired.mapP hq fun _ _ z=>z.mono (T7.trans T9)) ⟨c,rfl,by rw[G8 hB,G1]⟩,?_,hs.snoc c1 c2⟩
     ·have:=a5V B (Sum.inr (k.2++nt U)) (.bl true)
      omega
     ·rw[O1,G x]
      have e:W7 (ts++[(k.1,k.2,(k.2++nt U))])=W7 ts++[(k.2++nt U)]:=by unfold W7;rw[AG];rfl
      rw[e]
      by_cases hx:x=(k.2++nt U)
      ·rw[if_pos (by rw[hx]),if_pos (by rw[hx];simp)]
      ·rw[if_neg (fun z=>hx (Sum.inr.inj z))]
       by_cases Y:x∈W7 ts
       ·rw[if_pos Y,if_pos (AX _ Y)]
       ·rw[if_neg Y,if_neg (c:=x∈W7 ts++[(k.2++nt U)])]
        intro z
        rcases AL.mp z with z | z
        ·exact Y z
        ·exact hx (AC.mp z)
     ·rw[AG,hg,J2 hc]
      rfl
    ·rw[if_neg hm,if_pos hF]at Z
     refine⟨_,rfl,_,rfl,u,_,rfl,Z,_,rfl,F8 ?_⟩
     refine⟨_,rfl,?_⟩
     have c1:k.2∉W7 ts->k.2=k.2:=fun _=>rfl
     have c2:k.2∈W7 ts->∃k',2<=k'/\k'<=5010/\k.2=k.2++nt k'/\k.2∉W7 ts/\k.2∉ks.map (·.2)/\∀j,2<=j->j < k'->(k.2++nt j∈W7 ts\/k.2++nt j∈ks.map (·.2)):=fun z=>absurd z hm
     refine⟨_,rfl,_,rfl,u,_,rfl,a0z.k (k:=Sum.inr k.2) he ((by have:sizeLine=16777216:=sizeLine_eq;omega)),?_⟩
     have s7:G5 H2 (upd O u (.dK (U7 B (Sum.inr k.2) (.bl true)))):=s6.put gu
     have T7:J9 O (upd O u (.dK (U7 B (Sum.inr k.2) (.bl true)))):=J9.dK he
     have J:upd O u (.dK (U7 B (Sum.inr k.2) (.bl true))) f=some (.lst us):=by rw[G8 ht.symm];exact hw
     have hh:upd O u (.dK (U7 B (Sum.inr k.2) (.bl true))) u=some (.dK (U7 B (Sum.inr k.2) (.bl true))):=G1
     generalize upd O u (.dK (U7 B (Sum.inr k.2) (.bl true)))=H7 at s7 T7 J hh⊢
     refine⟨_,rfl,.inl ⟨rfl,_,SqL.of J⟩,_,rfl,_,rfl,_,rfl,a0p,fun c gc=>?_⟩
     have s8:G5 H7 (upd H7 c (.tup [.str k.1,.str k.2,.str k.2])):=(G5.refl H7).new gc
     refine⟨f,_,_,rfl,rfl,s8 _ _ J,J8 (by omega),?_⟩
     have T9:=s8.tups.trans (J9.lst (ys:=us++[.ref c]) (s8 _ _ J))
     have hB:c≠f:=fun z=>by rw[z,J]at gc;cases gc
     refine⟨U7 B (Sum.inr k.2) (.bl true),ts++[(k.1,k.2,k.2)],us++[.ref c],_,_,_,rfl,(s7.trans s8).put hE,by rw[G8 ht];exact s8 _ _ hh,?_,fun x=>?_,G1,Paired.snoc (Paired.mapP hq fun _ _ z=>z.mono (T7.trans T9)) ⟨c,rfl,by rw[G8 hB,G1]⟩,?_,hs.snoc c1 c2⟩
     ·have:=a5V B (Sum.inr k.2) (.bl true)
      omega
     ·rw[O1,G x]
      have e:W7 (ts++[(k.1,k.2,k.2)])=W7 ts++[k.2]:=by unfold W7;rw[AG];rfl
      rw[e]
      by_cases hx:x=k.2
      ·rw[if_pos (by rw[hx]),if_pos (by rw[hx];simp)]
      ·rw[if_neg (fun z=>hx (Sum.inr.inj z))]
       by_cases Y:x∈W7 ts
       ·rw[if_pos Y,if_pos (AX _ Y)]
       ·rw[if_neg Y,if_neg (c:=x∈W7 ts++[k.2])]
        intro z
        rcases AL.mp z with z | z
        ·exact Y z
        ·exact hx (AC.mp z)
     ·rw[AG,hg,J2 hc]
      rfl
   ·rintro σ O ⟨B,ts,us,w3,w4,w6,rfl,s6,he,hI,G,hw,hq,hg,hs⟩
    rw[hG,AW]at hg
    refine⟨_,rfl,f,_,rfl,.inl ⟨SqL.of hw,fun p gp=>?_⟩⟩
    have s7:G5 O (upd O p (.tup us)):=(G5.refl O).new gp
    exact q p us ts _ ((hJ.trans s6).trans s7) G1 (Paired.mapP hq fun _ _ z=>z.mono s7.tups) hg hs
noncomputable def b5i:Pr->Option Str
 | .own _ n _=>some n
 | _=>none
theorem b5u{q owns:List Str}{pr:Pr}{rw:Rw}(h:a1U q owns pr rw):E1 rw=b5i pr:=by
 cases pr with
 | own k n xs=>
  rcases h with⟨_,e⟩ | ⟨_,ts,e,_⟩
  ·rw[e];rfl
  ·rw[e];rfl
 | bring j ps xs=>obtain⟨nm,_,e⟩:=h;rw[e];rfl
 | give o g xs=>rw[show rw= .give o g from h];rfl
 | ask j xs=>obtain⟨nm,w,_,e,_⟩:=h;rw[e];rfl
 | sum k xs=>
  rcases h with⟨_,ts,e,_⟩ | ⟨_,ts,w,e,_⟩
  ·rw[e];rfl
  ·rw[e];rfl
theorem a8U{q owns:List Str}:∀{rows:List Pr}{j:List Rw},Paired (a1U q owns) rows j->j.filterMap E1=rows.filterMap b5i
 | _,_,.nil=>rfl
 | _,_,.cons (a:=p) (b:=r) h t=>by
  have B:=a8U t
  rw[BA,BA,b5u h,B]
theorem b0m:∀rows:List Pr,(rows.filterMap b5i).Sublist (rows.flatMap a0V)
 | []=>by simp
 | p::r=>by
  have q:=b0m r
  rw[BC]
  cases p with
  | own k n xs=>
   show(n::r.filterMap b5i).Sublist ([n]++r.flatMap a0V)
   exact q.cons_cons n
  | bring j ps xs=>exact q.trans (List.sublist_append_right _ _)
  | give o g xs=>exact q
  | ask j xs=>exact q
  | sum k xs=>exact q
theorem a7C{b sh:Int}(B:0<=b){n:Nat}(F:n<=24):(Y0 b sh n).Nodup:=by
 unfold Y0
 rw[BJ,List.pairwise_map]
 refine List.Pairwise.imp_of_mem (fun{i j}hi D q h=>q ?_) List.nodup_range
 have h1:=List.mem_range.mp hi
 have h2:=List.mem_range.mp D
 have:=a4C B (by omega) (by omega) (by omega) (by omega) h
 omega
theorem a8z(n:Str)(rs:List Rw):Z5 (J3 n rs)=(rs.filterMap E1).map fun o=>(n,o):=by
 have:∀(rs:List Rw)(k:Nat),((rs.zipIdx k).map fun x=>((n,x.2,x.1):Pl)).filterMap (fun x=>(E1 x.2.2).map fun o=>(x.1,o))=(rs.filterMap E1).map fun o=>(n,o):=by
  intro rs
  induction rs with
  | nil=>intro k;rfl
  | cons r t j=>
   intro k
   rw[List.zipIdx_cons,List.map_cons,BA,BA,j (k+1)]
   cases E1 r with
   | none=>rfl
   | some o=>rfl
 exact this rs 0
theorem a9D(ps:List Pt):Z5 (G7 ps)=ps.flatMap fun pt=>(pt.2.filterMap E1).map fun o=>(pt.1,o):=by
 induction ps with
 | nil=>rfl
 | cons pt r j=>
  have e:G7 (pt::r)=J3 pt.1 pt.2++G7 r:=rfl
  rw[BC,<-j,<-a8z,e]
  unfold Z5
  rw[List.filterMap_append]
theorem a6b:∀{ps:List Pt},(ps.map (·.1)).Nodup->(∀pt∈ps,(pt.2.filterMap E1).Nodup)->(ps.flatMap fun pt=>(pt.2.filterMap E1).map fun o=>(pt.1,o)).Nodup
 | [],_,_=>by simp
 | pt::r,q,F=>by
  rw[List.map_cons,BK]at q
  rw[BC]
  refine AR.mpr ⟨?_,a6b q.2 fun p D=>F p (AK _ D),fun x hx y G z=>?_⟩
  ·have h1:=F pt AM
   rw[BJ]at h1⊢
   rw[List.pairwise_map]
   exact h1.imp fun j z=>j (Prod.mk.inj z).2
  ·obtain⟨o,_,J⟩:=AO.mp hx
   obtain⟨p,D,B⟩:=BH.mp G
   obtain⟨U,_,O⟩:=AO.mp B
   rw[<-J,<-O]at z
   have:pt.1=p.1:=(Prod.mk.inj z).1
   exact q.1 (by rw[this];exact AS (f:=(·.1)) D)
theorem O7.keys{Z:List Pp}{U b1 Y:Int}{ps:List Pt}(d:O7 Z U b1 Y ps):(Z5 (G7 ps)).Nodup/\∀k∈Z5 (G7 ps),k.2.length<=100:=by
 have part:∀pt∈ps,(pt.2.filterMap E1).Nodup/\∀o∈pt.2.filterMap E1,o.length<=100:=fun pt j=>by
  obtain⟨i,hi⟩:=AT j
  obtain⟨J,_,ok,_,h2⟩:=d.at hi
  obtain⟨n,O,G⟩:=ok.n
  rw[a8U h2]
  have q:=b0m J.rows
  have B:(J.rows.flatMap a0V).Nodup:=ok.md.nodup_iff.mpr (by rw[O];exact a7C d.r0.1 (by omega))
  refine⟨q.nodup B,fun o D=>?_⟩
  have F:=ok.md.mem_iff.mp (q.subset D)
  rw[O]at F
  have h4:=(a4o d.r0.1 o F).word.len
  omega
 rw[a9D]
 refine⟨a6b d.nodup fun pt j=>(part pt j).1,fun k hk=>?_⟩
 obtain⟨pt,j,h1⟩:=BH.mp hk
 obtain⟨o,D,e⟩:=AO.mp h1
 rw[<-e]
 exact(part pt j).2 o D
noncomputable def brL (rs:List Rw):List Str:=rs.flatMap fun r=>(E6 r).map (·.2.2)
noncomputable def a4G (rs:List Rw):List Str:=rs.filterMap E1
theorem a6K{B owns:List Str}{pr:Pr}{rw:Rw}(h:a1U B owns pr rw):(a4G [rw]++brL [rw])=a0V pr/\(rw::[]).filterMap F4=([rw]).filterMap F4/\((F4 rw).map (·.2)).toList=a4O pr:=by
 cases pr with
 | own k n xs=>
  rcases h with⟨_,e⟩ | ⟨_,ts,e,_⟩<;>subst e<;>exact⟨rfl,rfl,rfl⟩
 | bring j ps xs=>
  obtain⟨nm,_,e⟩:=h
  subst e
  refine⟨?_,rfl,rfl⟩
  show []++(((ps.map fun q=>((nm,q):Str×Str×Str)).map (·.2.2))++[])=ps.map (·.2)
  rw[List.nil_append,BB,List.map_map]
  rfl
 | give o g xs=>rw[show rw= .give o g from h];exact⟨rfl,rfl,rfl⟩
 | ask j xs=>obtain⟨nm,w,_,e,_⟩:=h;subst e;exact⟨rfl,rfl,rfl⟩
 | sum k xs=>
  rcases h with⟨_,ts,e,_⟩ | ⟨_,ts,w,e,_⟩<;>subst e<;>exact⟨rfl,rfl,rfl⟩
theorem a3X{B owns:List Str}:∀{rows:List Pr}{j:List Rw},Paired (a1U B owns) rows j->(a4G j++brL j).Perm (rows.flatMap a0V)
 | _,_,.nil=>List.Perm.refl _
 | _,_,.cons (a:=p) (b:=r) (l₁:=ps) (l₂:=q) h t=>by
  have F:=a3X t
  have h1:=(a6K h).1
  have D:a4G (r::q)=a4G [r]++a4G q:=by unfold a4G;rw[<-List.filterMap_append];rfl
  have G:brL (r::q)=brL [r]++brL q:=by unfold brL;rw[<-List.flatMap_append];rfl
  rw[BC,<-h1,D,G]
  refine List.Perm.trans ?_ (List.Perm.append_left _ F)
  rw[BD,BD]
  refine List.Perm.append_left _ ?_
  exact List.perm_append_comm_assoc _ _ _
theorem a6F{B owns:List Str}:∀{rows:List Pr}{j:List Rw},Paired (a1U B owns) rows j->(j.filterMap F4).map (·.2)=rows.flatMap a4O
 | _,_,.nil=>rfl
 | _,_,.cons (a:=p) (b:=r) h t=>by
  have D:=a6F t
  have h1:=(a6K h).2.2
  rw[BC,<-D,<-h1,BA]
  cases F4 r with
  | none=>rfl
  | some q=>rfl
theorem O9{n:Str}{rs:List Rw}{x:Pl}:x∈J3 n rs↔x.1=n/\rs[x.2.1]?=some x.2.2:=by
 unfold J3
 rw[AO]
 constructor
 ·rintro⟨y,B,e⟩
  have h1:=List.mem_zipIdx_iff_getElem?.mp B
  rw[<-e]
  exact⟨rfl,h1⟩
 ·rintro⟨j,q⟩
  exact⟨(x.2.2,x.2.1),List.mem_zipIdx_iff_getElem?.mpr q,by rw[<-j]⟩
theorem M0{ps:List Pt}{x:Pl}:x∈G7 ps↔∃rs,(x.1,rs)∈ps/\rs[x.2.1]?=some x.2.2:=by
 unfold G7
 rw[BH]
 constructor
 ·rintro⟨pt,h1,h2⟩
  obtain⟨j,q⟩:=O9.mp h2
  exact⟨pt.2,by rw[j];exact h1,q⟩
 ·rintro⟨rs,h1,h2⟩
  exact⟨_,h1,O9.mpr ⟨rfl,h2⟩⟩
theorem a2f{α:Type}(f:Rw->List α)(ps:List Pt):((G7 ps).flatMap fun x=>(f x.2.2).map fun a=>(x.1,a))=ps.flatMap fun pt=>(pt.2.flatMap f).map fun a=>(pt.1,a):=by
 induction ps with
 | nil=>rfl
 | cons pt r q=>
  have e:G7 (pt::r)=J3 pt.1 pt.2++G7 r:=rfl
  rw[e,List.flatMap_append,q,BC]
  congr 1
  have:∀(j:List Rw)(k:Nat),(((j.zipIdx k).map fun x=>((pt.1,x.2,x.1):Pl)).flatMap fun x=>(f x.2.2).map fun a=>(x.1,a))=(j.flatMap f).map fun a=>(pt.1,a):=by
   intro j
   induction j with
   | nil=>intro k;rfl
   | cons r t q=>intro k;rw[List.zipIdx_cons,List.map_cons,BC,BC,q (k+1),AG]
  exact this pt.2 0
theorem a1q{α:Type}{f:Pt->List α}:∀{ps:List Pt},(ps.map (·.1)).Nodup->(∀pt∈ps,(f pt).Nodup)->(ps.flatMap fun pt=>(f pt).map fun a=>(pt.1,a)).Nodup
 | [],_,_=>by simp
 | pt::r,q,F=>by
  rw[List.map_cons,BK]at q
  rw[BC]
  refine AR.mpr ⟨?_,a1q q.2 fun p D=>F p (AK _ D),fun x hx y G z=>?_⟩
  ·have h1:=F pt AM
   rw[BJ]at h1⊢
   rw[List.pairwise_map]
   exact h1.imp fun j z=>j (Prod.mk.inj z).2
  ·obtain⟨o,_,J⟩:=AO.mp hx
   obtain⟨p,D,B⟩:=BH.mp G
   obtain⟨U,_,O⟩:=AO.mp B
   rw[<-J,<-O]at z
   have:pt.1=p.1:=(Prod.mk.inj z).1
   exact q.1 (by rw[this];exact AS (f:=(·.1)) D)
theorem a5z(ps:List Pt):(R6 (G7 ps)).map (·.1)=ps.flatMap fun pt=>(a4G pt.2).map fun a=>(pt.1,a):=by
 have h:=a2f (fun r=>(E1 r).toList) ps
 have B:∀j:List Rw,j.flatMap (fun r=>(E1 r).toList)=a4G j:=fun j=>by
  unfold a4G
  induction j with
  | nil=>rfl
  | cons r t q=>
   rw[BC,BA,q]
   cases E1 r<;>rfl
 simp only[B]at h
 rw[<-h]
 unfold R6
 induction G7 ps with
 | nil=>rfl
 | cons x t q=>
  rw[BA,BC,<-q]
  cases E1 x.2.2<;>rfl
theorem a9w(ps:List Pt):(W4 (G7 ps)).map (·.1)=ps.flatMap fun pt=>(brL pt.2).map fun a=>(pt.1,a):=by
 have h:=a2f (fun r=>(E6 r).map (·.2.2)) ps
 unfold brL
 rw[<-h]
 unfold W4
 induction G7 ps with
 | nil=>rfl
 | cons x t j=>
  rw[BC,BC,AG,j,List.map_map,List.map_map]
  rfl
theorem b5U(ps:List Pt):(W5 (G7 ps)).map (·.1)=ps.flatMap fun pt=>((pt.2.filterMap F4).map (·.2)).map fun a=>(pt.1,a):=by
 have h:=a2f (fun r=>((F4 r).map (·.2)).toList) ps
 have B:∀j:List Rw,j.flatMap (fun r=>((F4 r).map (·.2)).toList)=(j.filterMap F4).map (·.2):=fun j=>by
  induction j with
  | nil=>rfl
  | cons r t q=>
   rw[BC,BA,q]
   cases F4 r<;>rfl
 simp only[B]at h
 rw[<-h]
 unfold W5
 induction G7 ps with
 | nil=>rfl
 | cons x t q=>
  rw[BA,BC,<-q]
  cases F4 x.2.2<;>rfl
theorem O7.net{hs:List Pp}{b0 b1 b2:Int}{ps:List Pt}(d:O7 hs b0 b1 b2 ps):D9 (G7 ps):=by
 have he:=d.nodup
 have hK:=d.names
 have part:∀{i:Nat}{pt:Pt},ps[i]?=some pt->∃Y,hs[i]?=some Y/\b5M b0 b1 hs i Y/\pt.1=Y7 b2 (i:Int)/\Paired (a1U (M7 b2 hs.length) Y.owns) Y.rows pt.2:=fun e=>d.at e
 have own:∀{i:Nat}{pt:Pt},ps[i]?=some pt->(a4G pt.2++brL pt.2).Nodup:=fun{i pt}e=>by
  obtain⟨Y,_,ok,_,hf⟩:=part e
  obtain⟨n,hn,hN⟩:=ok.n
  exact((a3X hf).trans ok.md).nodup_iff.mpr (by rw[hn];exact a1D d.r0.1 (by omega))
 have hu:∀{i j:Nat}{n:Str}{rs rs':List Rw},ps[i]?=some (n,rs)->ps[j]?=some (n,rs')->i=j:=fun{i j n rs rs'}e1 e2=>by
  have h1:(ps.map (·.1))[i]?=some n:=by rw[List.getElem?_map,e1];rfl
  have h2:(ps.map (·.1))[j]?=some n:=by rw[List.getElem?_map,e2];rfl
  have hi:=(List.getElem?_eq_some_iff.mp h1).1
  exact(List.getElem?_inj hi he).mp (h1.trans h2.symm)
 have hw:∀{j:Nat}{m:Str},(M7 b2 hs.length)[j]?=some m->∃rs,ps[j]?=some (m,rs):=fun{j m}e=>by
  rw[<-hK,List.getElem?_map]at e
  cases e2:ps[j]? with
  | none=>rw[e2]at e;cases e
  | some pt=>rw[e2]at e;exact⟨pt.2,by rw[<-(Option.some.inj e)]⟩
 have hr:∀{x:Kk×Kk},x∈W4 (G7 ps)->∃(i j:Nat)(Y:Pp)(J:List (Str×Str))(xs:List Int)(q:Str×Str)(rs rs':List Rw),ps[i]?=some (x.1.1,rs)/\ps[j]?=some (x.2.1,rs')/\hs[i]?=some Y/\Pr.bring j J xs∈Y.rows/\q∈J/\q.2=x.1.2/\q.1=x.2.2/\a8p hs i (.bring j J xs):=fun{x}hx=>by
  unfold W4 at hx
  obtain⟨y,hy,h1⟩:=BH.mp hx
  obtain⟨mq,U,e⟩:=AO.mp h1
  obtain⟨rs,ha,hrw⟩:=M0.mp hy
  obtain⟨i,hi⟩:=AT ha
  obtain⟨Y,O,ok,_,hf⟩:=part hi
  obtain⟨pr,hc,F⟩:=Paired.get?' hf hrw
  have G:=AD hc
  cases pr with
  | bring j J xs=>
   obtain⟨nm,ht,D⟩:=F
   rw[D]at U
   obtain⟨q,hq,eq⟩:=AO.mp U
   obtain⟨rs',hj⟩:=hw ht
   rw[<-e,<-eq]
   exact⟨i,j,Y,J,xs,q,rs,rs',hi,hj,O,G,hq,rfl,rfl,ok.ok _ G⟩
  | own k n xs=>
   rcases F with⟨_,D⟩ | ⟨_,ts,D,_⟩<;>rw[D]at U<;>simp[E6]at U
  | give o g xs=>rw[show y.2.2= .give o g from F]at U;simp[E6]at U
  | ask j xs=>obtain⟨nm,w,_,D,_⟩:=F;rw[D]at U;simp[E6]at U
  | sum k xs=>
   rcases F with⟨_,ts,D,_⟩ | ⟨_,ts,w,D,_⟩<;>rw[D]at U<;>simp[E6]at U
 have hC:∀{j:Nat}{m g o:Str}{rs:List Rw},ps[j]?=some (m,rs)->Giv hs j g o->((m,g),o)∈W5 (G7 ps):=fun{j m g o rs}e hg=>by
  obtain⟨pq,xs,ej,hm⟩:=hg
  obtain⟨Y,O,_,_,hf⟩:=part e
  rw[ej]at O
  cases O
  obtain⟨k,hk⟩:=AT hm
  obtain⟨rw,hrw,F⟩:=Paired.get? hf hk
  have D:rw= .give o g:=F
  unfold W5
  refine List.mem_filterMap.mpr ⟨(m,k,rw),M0.mpr ⟨rs,AD e,hrw⟩,?_⟩
  rw[D]
  rfl
 have hB:((W5 (G7 ps)).map (·.1)).Nodup:=by
  rw[b5U]
  refine a1q (f:=fun pt=>(pt.2.filterMap F4).map (·.2)) he fun pt hb=>?_
  obtain⟨i,hi⟩:=AT hb
  obtain⟨Y,_,ok,_,hf⟩:=part hi
  obtain⟨m,hm,hM⟩:=ok.m
  rw[a6F hf]
  exact ok.gv.nodup_iff.mpr (by rw[hm];exact a1D d.r1.1 (by omega))
 refine⟨?_,hB,fun x hx=>?_,fun y hy=>?_,?_,?_,fun x hx=>?_⟩
 ·rw[a5z,a9w]
  refine AR.mpr ⟨?_,?_,fun x hx y hy z=>?_⟩
  ·refine a1q (f:=fun pt=>a4G pt.2) he fun pt hb=>?_
   obtain⟨i,hi⟩:=AT hb
   exact(AR.mp (own hi)).1
  ·refine a1q (f:=fun pt=>brL pt.2) he fun pt hb=>?_
   obtain⟨i,hi⟩:=AT hb
   exact(AR.mp (own hi)).2.1
  ·subst z
   obtain⟨p1,hG,h1⟩:=BH.mp hx
   obtain⟨o1,hL,e1⟩:=AO.mp h1
   obtain⟨p2,hE,h2⟩:=BH.mp hy
   obtain⟨o2,hJ,e2⟩:=AO.mp h2
   rw[<-e1]at e2
   obtain⟨i,hi⟩:=AT hG
   obtain⟨j,hj⟩:=AT hE
   have en:p2.1=p1.1:=(Prod.mk.inj e2).1
   have eo:o2=o1:=(Prod.mk.inj e2).2
   have hD:=hu (n:=p1.1) (rs:=p1.2) (rs':=p2.2) hi (by rw[hj,<-en])
   subst hD
   rw[hi]at hj
   cases hj
   exact(AR.mp (own hi)).2.2 _ hL _ hJ eo.symm
 ·obtain⟨i,j,Y,J,xs,q,rs,rs',hi,hj,O,G,hq,_,e2,hok⟩:=hr hx
  obtain⟨pq,hA,hH⟩:=hok.2.2.2.1 q hq
  obtain⟨o,ys,hg⟩:=b0r ((d.inv j pq hA).gv.mem_iff.mpr hH)
  refine⟨o,?_⟩
  have h1:=hC hj (⟨pq,ys,hA,hg⟩:Giv hs j q.1 o)
  rw[e2]at h1
  exact h1
 ·unfold W5 at hy
  obtain⟨z,hz,h1⟩:=List.mem_filterMap.mp hy
  obtain⟨rs,ha,hrw⟩:=M0.mp hz
  obtain⟨i,hi⟩:=AT ha
  obtain⟨Y,O,ok,_,hf⟩:=part hi
  obtain⟨pr,hc,F⟩:=Paired.get?' hf hrw
  have G:=AD hc
  have hI:∃o g xs,pr= .give o g xs/\y=((z.1,g),o):=by
   cases pr with
   | give o g xs=>
    rw[show z.2.2= .give o g from F]at h1
    exact⟨o,g,xs,rfl,(Option.some.inj h1).symm⟩
   | own k n xs=>
    rcases F with⟨_,D⟩ | ⟨_,ts,D,_⟩<;>rw[D]at h1<;>cases h1
   | bring j J xs=>obtain⟨nm,_,D⟩:=F;rw[D]at h1;cases h1
   | ask j xs=>obtain⟨nm,w,_,D,_⟩:=F;rw[D]at h1;cases h1
   | sum k xs=>
    rcases F with⟨_,ts,D,_⟩ | ⟨_,ts,w,D,_⟩<;>rw[D]at h1<;>cases h1
  obtain⟨o,g,xs,ep,ey⟩:=hI
  subst ep
  obtain⟨⟨hO,hp,ho⟩,_⟩:=ok.ok _ G
  rw[O]at hp
  cases hp
  have h2:=(a3X hf).mem_iff.mpr (ok.md.mem_iff.mpr ho)
  rw[ey,a5z,a9w]
  rcases AL.mp h2 with w | w
  ·exact AX _ (BH.mpr ⟨_,ha,AO.mpr ⟨o,w,rfl⟩⟩)
  ·exact AV _ (BH.mpr ⟨_,ha,AO.mpr ⟨o,w,rfl⟩⟩)
 ·obtain⟨rk,B,_,hF⟩:=d.rk
  refine⟨fun k=>rk ((ps.map (·.1)).findIdx fun n=>decide (n=k.1)) k.2,fun x hx=>?_⟩
  have hh:∀{i:Nat}{n:Str}{rs:List Rw},ps[i]?=some (n,rs)->((ps.map (·.1)).findIdx fun m=>decide (m=n))=i:=fun{i n rs}e=>by
   have h1:(ps.map (·.1))[i]?=some n:=by rw[List.getElem?_map,e];rfl
   obtain⟨hi,h2⟩:=List.getElem?_eq_some_iff.mp h1
   have Z:((ps.map (·.1)).findIdx fun m=>decide (m=n)) < (ps.map (·.1)).length:=List.findIdx_lt_length_of_exists ⟨n,AD h1,by simp⟩
   have h3:=List.findIdx_getElem (w:=Z)
   have h4:(ps.map (·.1))[(ps.map (·.1)).findIdx fun m=>decide (m=n)]=n:=by simpa using h3
   have h5:ps[(ps.map (·.1)).findIdx fun m=>decide (m=n)]?=some (n,(ps[(ps.map (·.1)).findIdx fun m=>decide (m=n)]'(by rw[List.length_map]at Z;exact Z)).2):=by
    rw[AQ (by rw[List.length_map]at Z;exact Z)]
    rw[List.getElem_map]at h4
    exact congrArg some (Prod.ext h4 rfl)
   exact hu h5 e
  unfold Z6 at hx
  obtain⟨y,hy,e⟩:=AO.mp hx
  obtain⟨i,j,Y,J,xs,q,rs,rs',hi,hj,O,G,hq,e1,e2,hok⟩:=hr hy
  obtain⟨o,hg,Z⟩:=hF i Y O j J xs G q hq
  have h1:=hC hj hg
  rw[e2]at h1
  have h2:a4Z (W5 (G7 ps)) y.2=o:=a4f hB h1
  rw[<-e]
  show rk ((ps.map (·.1)).findIdx fun n=>decide (n=y.2.1)) (a4Z (W5 (G7 ps)) y.2) < rk ((ps.map (·.1)).findIdx fun n=>decide (n=y.1.1)) y.1.2
  rw[hh hi,hh hj,h2,<-e1]
  exact Z
 ·have h1:=a1b d.fit.rows
  have:=d.fit.hi
  omega
 ·obtain⟨rs,ha,hrw⟩:=M0.mp hx
  obtain⟨i,hi⟩:=AT ha
  obtain⟨Y,O,ok,_,hf⟩:=part hi
  obtain⟨pr,hc,F⟩:=Paired.get?' hf hrw
  have G:=AD hc
  cases pr with
  | bring j J xs=>
   obtain⟨nm,_,D⟩:=F
   rw[D]
   show(J.map _).length<=6
   rw[List.length_map]
   exact(ok.ok _ G).2.2.1
  | own k n xs=>
   rcases F with⟨_,D⟩ | ⟨_,ts,D,_⟩<;>rw[D]<;>simp[E6]
  | give o g xs=>rw[show x.2.2= .give o g from F];simp[E6]
  | ask j xs=>obtain⟨nm,w,_,D,_⟩:=F;rw[D];simp[E6]
  | sum k xs=>
   rcases F with⟨_,ts,D,_⟩ | ⟨_,ts,w,D,_⟩<;>rw[D]<;>simp[E6]
noncomputable def a9N (H:Hp) (kv:List Key×V) (x:Kk×Str):Prop:=kv.1=U1 x.1/\∃t,kv.2= .ref t/\H t=some (.tup [.str x.1.1,.str x.2])
theorem a9N.mono{H H':Hp}(s:J9 H H'){j:List Key×V}{x:Kk×Str}(h:a9N H j x):a9N H' j x:=by
 obtain⟨e,t,q,h⟩:=h
 exact⟨e,t,q,s _ _ h⟩
theorem a5G{α:Type}{l:List α}{i:Nat}{x:α}(h:l[i]?=some x):l=l.take i++x::l.drop (i+1):=by
 obtain⟨hi,e⟩:=List.getElem?_eq_some_iff.mp h
 rw[<-e,<-List.drop_eq_getElem_cons hi,BQ]
theorem a9p{ps:List Pt}{i j:Nat}{pt:Pt}{q:Rw}(h:ps[i]?=some pt)(B:pt.2[j]?=some q):∃rest,G7 ps=(G7 (ps.take i)++J3 pt.1 (pt.2.take j))++(pt.1,j,q)::rest:=by
 have G:=(List.getElem?_eq_some_iff.mp B).1
 have F:J3 pt.1 pt.2=J3 pt.1 (pt.2.take j)++(pt.1,j,q)::((pt.2.drop (j+1)).zipIdx (j+1)).map fun x=>(pt.1,x.2,x.1):=by
  conv=>lhs;rw[a5G B]
  unfold J3
  rw[List.zipIdx_append,AG,List.zipIdx_cons,List.map_cons,Nat.zero_add,AY,Nat.min_eq_left (by omega)]
 have D:G7 ps=G7 (ps.take i)++(J3 pt.1 pt.2++G7 (ps.drop (i+1))):=by
  conv=>lhs;rw[a5G h]
  unfold G7
  rw[List.flatMap_append,BC]
 rw[D,F]
 exact⟨_,by rw[BD,BD,List.cons_append]⟩
theorem a6c{ps:List Pt}{i j:Nat}{pt:Pt}{q:Rw}(B:pt.2[j]?=some q):G7 (ps.take i)++J3 pt.1 (pt.2.take (j+1))=(G7 (ps.take i)++J3 pt.1 (pt.2.take j))++[(pt.1,j,q)]:=by
 have D:=(List.getElem?_eq_some_iff.mp B).1
 rw[J2 B,a2A,<-BD,AY,Nat.min_eq_left (by omega)]
noncomputable def kp (p:Str×Nat):List Key:=[Sum.inr p.1,Sum.inl (p.2:Int)]
theorem a7E{p q:Str×Nat}(h:kp p=kp q):p=q:=by
 unfold kp at h
 simp only[List.cons.injEq,Sum.inr.injEq,Sum.inl.injEq,and_true]at h
 obtain⟨a,b⟩:=p
 obtain⟨c,d⟩:=q
 simp only at h
 rw[h.1,Int.ofNat.inj h.2]
noncomputable def a0J (mls:List (Kk×(Str×Nat))) (ts:List Tr):List ((Str×Nat)×Str):=(mls.map (·.2)).zip (W7 ts)
noncomputable def b6a (kv:List Key×V) (x:(Str×Nat)×Str):Prop:=kv.1=kp x.1/\kv.2= .str x.2
theorem a0w(pls:List Pl):Z5 pls=(R6 pls).map (·.1):=by
 unfold Z5 R6
 rw[List.map_filterMap]
 congr 1
 funext x
 cases E1 x.2.2<;>rfl
theorem b0i:∀pls:List Pl,((R6 pls).map (·.2)).Sublist (pls.map fun x=>(x.1,x.2.1))
 | []=>by simp[R6]
 | x::r=>by
  have j:=b0i r
  have e:R6 (x::r)=R6 [x]++R6 r:=by rw[<-a1Y];rfl
  rw[e,AG,List.map_cons]
  cases q:E1 x.2.2 with
  | none=>
   have:R6 [x]=[]:=by simp[R6,q]
   rw[this]
   exact j.trans (List.sublist_cons_self _ _)
  | some o=>
   have:R6 [x]=[((x.1,o),(x.1,x.2.1))]:=by simp[R6,q]
   rw[this]
   exact j.cons_cons _
theorem a1Z(n:Str)(rs:List Rw):((J3 n rs).map fun x=>(x.1,x.2.1)).Nodup:=by
 have e:(J3 n rs).map (fun x=>(x.1,x.2.1))=(List.range rs.length).map fun i=>(n,i):=by
  refine List.ext_getElem? fun i=>?_
  unfold J3
  rw[List.map_map,List.getElem?_map,List.getElem?_map,List.getElem?_zipIdx]
  by_cases h:i < rs.length
  ·rw[AQ h,List.getElem?_range h]
   simp
  ·rw[List.getElem?_eq_none (by omega),List.getElem?_eq_none (by rw[List.length_range];omega)]
   rfl
 rw[e,BJ,List.pairwise_map]
 exact(BJ.mp List.nodup_range).imp fun j z=>j (Prod.mk.inj z).2
theorem a6U:∀{ps:List Pt},(ps.map (·.1)).Nodup->((G7 ps).map fun x=>(x.1,x.2.1)).Nodup
 | [],_=>by simp[G7]
 | pt::r,q=>by
  rw[List.map_cons,BK]at q
  have e:G7 (pt::r)=J3 pt.1 pt.2++G7 r:=rfl
  rw[e,AG]
  refine AR.mpr ⟨a1Z _ _,a6U q.2,fun x hx y D z=>?_⟩
  obtain⟨O,B,G⟩:=AO.mp hx
  obtain⟨J,j,U⟩:=AO.mp D
  have h1:=(O9.mp B).1
  obtain⟨Y,h2,_⟩:=M0.mp j
  rw[<-G,<-U]at z
  have F:O.1=J.1:=(Prod.mk.inj z).1
  exact q.1 (by rw[<-h1,F];exact AS (f:=(·.1)) h2)
theorem a3T{ps:List Pt}(h:(ps.map (·.1)).Nodup):((R6 (G7 ps)).map (·.2)).Nodup:=(b0i _).nodup (a6U h)
theorem b0F{j:List (Kk×(Str×Nat))}{ts:List Tr}(h:ts.length=j.length):(a0J j ts).map (·.1)=j.map (·.2):=by
 unfold a0J W7
 rw[List.map_fst_zip]
 rw[List.length_map,List.length_map]
 omega
theorem b3z{j:List (Kk×(Str×Nat))}{ts:List Tr}{i:Nat}{x:Kk×(Str×Nat)}{t:Tr}(h1:j[i]?=some x)(h2:ts[i]?=some t):(a0J j ts)[i]?=some (x.2,t.2.2):=by
 unfold a0J W7
 rw[List.getElem?_zip_eq_some]
 exact⟨by rw[List.getElem?_map,h1];rfl,by rw[List.getElem?_map,h2];rfl⟩
theorem b2A:∀{q:List (List Key×V)}{j:List ((Str×Nat)×Str)}{x:(Str×Nat)×Str},Paired b6a q j->(j.map (·.1)).Nodup->x∈j->W2 q (kp x.1)=some (.str x.2)
 | _,_,x,.nil,_,hx=>by simp at hx
 | _,_,x,.cons (a:=G) (b:=y) (l₂:=r) ⟨D,F⟩ t,B,hx=>by
  rw[List.map_cons,BK]at B
  rcases List.mem_cons.mp hx with z | z
  ·subst z
   rw[F5 D,F]
  ·rw[E9 (fun w=>B.1 (by rw[a7E (D.symm.trans w)];exact AS (f:=(·.1)) z))]
   exact b2A t B.2 z
theorem b6G{j:List (List Key×V)}{q:List ((Str×Nat)×Str)}{p:Str×Nat}(h:Paired b6a j q)(F:p∉q.map (·.1)):kp p∉j.map (·.1):=by
 intro z
 obtain⟨G,B,e⟩:=AO.mp z
 obtain⟨i,hi⟩:=AT B
 obtain⟨x,hx,D,_⟩:=Paired.get? h hi
 exact F (AO.mpr ⟨x,AD hx,a7E (D.symm.trans e)⟩)
theorem a8J{κ:Type}[DecidableEq κ]:∀{kvs:List (κ×V)}{i:Nat}{j:κ×V},(kvs.map (·.1)).Nodup->kvs[i]?=some j->W2 kvs j.1=some j.2
 | [],i,j,_,h=>by simp at h
 | x::r,i,j,q,h=>by
  rw[List.map_cons,BK]at q
  cases i with
  | zero=>cases h;exact F5 rfl
  | succ i=>
   have h':r[i]?=some j:=h
   rw[E9 (fun z=>q.1 (by rw[z];exact AS (f:=(·.1)) (AD h')))]
   exact a8J q.2 h'
theorem Mk.place{j:List (Kk×(Str×Nat))}{q:List (Kk×Kk)}{k:Kk}{p:Str×Nat}(h:Mk j q k p):∃D,(D,p)∈j:=by
 induction h with
 | base h=>exact⟨_,h⟩
 | step _ _ B=>exact B
noncomputable def b4K (mls:List (Kk×(Str×Nat))) (ls:List (Kk×Kk)) (ts:List Tr) (fkv:List (List Key×V)):Prop:=∀x∈mls.map (·.1)++ls.map (·.1),∃p n,Mk mls ls x p/\(p,n)∈a0J mls ts/\W2 fkv (U1 x)=some (.str n)
noncomputable def b2r:Sp:=fun vs H Q _=>∃(a:Addr)(ps:List Pt),vs=[.ref a]/\D6 H a ps/\a0E ps/\D9 (G7 ps)/\(∀k∈Z5 (G7 ps),k.2.length<=100)/\∀(f:Addr)(fkv:List (List Key×V))(ts:List Tr)(H':Hp),G5 H H'->H' f=some (.dT fkv)->ts.map (fun t=>(t.1,t.2.1))=Z5 (G7 ps)->a7v ((Z5 (G7 ps)).map (·.2)) ts->b4K (R6 (G7 ps)) (Z6 (G7 ps)) ts fkv->Q (.ref f) H'
theorem b1F(T:Txt K mg):L2.Cl P w K mg base 5 "makers_names" ["parts"] b2r:=by
 have ha:=b1K (P:=P) (w:=w) (base:=base) T
 have J:=b6K (P:=P) (w:=w) (base:=base) T
 refine Cl.of T.d_makers_names Z9 (fun vs H Q E h=>?_) (fun _ _ _ _ _ _ us hl=>by obtain⟨a,rfl⟩:=a3N hl;rfl) (fun fa sF A outer s H vs Q E hr h=>?_)
 ·obtain⟨a,ps,rfl,_⟩:=h
  rfl
 ·obtain⟨a,ps,rfl,hZ,hf,O,hE,q⟩:=h
  have hu:=B2 hr
  have sH:=O.len
  have sI:=a3Q (G7 ps)
  have sJ:(Z6 (G7 ps)).length<=5760:=by
   have h1:=a2S O.brs
   unfold Z6
   rw[List.length_map]
   omega
  have hP:(Z5 (G7 ps)).Nodup:=by rw[a0w];exact O.mkNodup
  have hA:=a3T hf.nd
  refine⟨_,(G3 (J1 (i:=1) Z9.nd rfl (Or.inl rfl) (W0 ha hr (by rfl) (G0 (pv 0) G4)))
   (G3 (J1 (i:=2) Z9.nd rfl (Or.inl rfl) M8)
   (G3 (Y9 AN rfl (D1 (W0 J hr (by rfl) (G0 (pv 0) G4))) (E7 rfl (J0 (I9 (i:=3) Z9.nd rfl (Or.inl rfl)) (J0 (I9 (i:=4) Z9.nd rfl (Or.inl rfl)) (J0 (I9 (i:=5) Z9.nd rfl (Or.inl rfl)) Y2))))
    (G6 (E5 hu (pv 2) (Z4 hu (pv 1) (R1 (G0 (pv 3) (G0 (pv 4) G4))) (fun _ _=>rfl)) (pv 5) rfl)))
   (G3 (J1 (i:=6) Z9.nd rfl (Or.inl rfl) M8)
   (G3 (Y9 AN rfl (b1O (pv 1)) (E7 rfl (J0 (I9 (i:=7) Z9.nd rfl (Or.inl rfl)) (J0 (I9 (i:=8) Z9.nd rfl (Or.inl rfl)) Y2)))
    (G6 (E5 hu (pv 6) (pv 7) (Z4 hu (pv 2) (pv 8) (fun _ _=>rfl)) rfl)))
   (G6 (R9 (pv 6)))))))),?_⟩
  refine⟨_,rfl,a,ps,rfl,hZ,hf,O,fun d B H1 s1 gd hs hz hR=>?_⟩
  intro n gn
  have s2:G5 H1 (upd H1 n (.dT [])):=(G5.refl H1).new gn
  refine⟨_,rfl,a,ps,rfl,(s1.trans s2).partsF hZ,hf,hP,hE,fun p vs ts H3 s3 hp hX hH sj=>?_⟩
  have sk:ts.length=(R6 (G7 ps)).length:=by
   have:=congrArg List.length hH
   rw[List.length_map,a0w,List.length_map]at this
   exact this
  have hJ:=b0F sk
  have su:(a0J (R6 (G7 ps)) ts).length=ts.length:=by
   have:=congrArg List.length hJ
   rw[List.length_map,List.length_map]at this
   omega
  have sl:vs.length=ts.length:=AE hX
  have sx:=s2.trans s3
  refine⟨p,rfl,⟨_,SqT.of hp⟩,F9 (K:=K) (a:=p) (xs:=vs) (fun i σ D=>∃(G:List (List Key×V))(v3 v4 v5:Option V),σ=[some (.ref a),some (.ref d),some (.ref n),v3,v4,v5,none,none,none]/\G5 H1 D/\J9 H3 D/\D n=some (.dT G)/\Paired b6a G ((a0J (R6 (G7 ps)) ts).take i))
   ⟨[],none,none,none,rfl,sx,J9.refl H3,s3 _ _ G1,by rw[List.take_zero];exact .nil⟩ (fun i σ D _⟨_,_,_,_,_,_,t4,_⟩=>SqT.of (t4 _ _ hp)) ?_ ?_⟩
  ·rintro i y σ D hy ⟨G,v3,v4,v5,rfl,s4,t4,hq,Z⟩
   obtain⟨t,ht,c,ey,hc⟩:=Paired.get? hX hy
   subst ey
   have hi:i < ts.length:=(List.getElem?_eq_some_iff.mp ht).1
   obtain⟨x,hx⟩:∃x,(R6 (G7 ps))[i]?=some x:=⟨(R6 (G7 ps))[i]'(by omega),by simp[show i < (R6 (G7 ps)).length by omega]⟩
   have sv:x.1=(t.1,t.2.1):=by
    have h1:=congrArg (fun l=>l[i]?) hH
    simp only[a0w,List.getElem?_map,ht,hx,Option.map_some,Option.some.injEq]at h1
    exact h1.symm
   have hI:=AD hx
   have hn:=b3z hx ht
   have sD:G.length<=960:=by
    rw[AE Z,AY]
    omega
   have F:=hz.has x.1 (AS (f:=(·.1)) hI)
   cases e:W2 B (U1 x.1)with
   | none=>rw[e]at F;cases F
   | some v=>
    obtain⟨t',p',ev,sr,hh⟩:=hz.val _ v e
    subst ev
    have so:p'=x.2:=O.uniq hh (.base hI)
    subst so
    refine⟨c,_,rfl,SqT.of (t4 _ _ hc),rfl,_,_,rfl,_,_,rfl,_,_,rfl,rfl,?_⟩
    refine⟨_,rfl,_,rfl,_,rfl,_,rfl,_,rfl,O4,fun e' ge=>?_⟩
    have s5:G5 D (upd D e' (.tup [.str t.1,.str t.2.1])):=(G5.refl D).new ge
    have he:E3 (upd D e' (.tup [.str t.1,.str t.2.1])) d (.ref e') (some (.ref t')):=by
     have h1:=E3.t (k:=U1 (t.1,t.2.1)) (s5 _ _ (s4 _ _ hs)) (show upd D e' (.tup [.str t.1,.str t.2.1]) e'=some (.tup ((U1 (t.1,t.2.1)).map kV))from G1)
     rw[<-sv,e]at h1
     exact h1
    have hW:=s5 _ _ hq
    refine⟨d,_,rfl,he,n,_,rfl,a0z.t (k:=kp x.2) hW (s5 _ _ (s4 _ _ sr)) (szK (by omega)),?_⟩
    have hU:kp x.2∉G.map (·.1):=b6G Z (fun z=>by
     have h1:((a0J (R6 (G7 ps)) ts).take (i+1)).map (·.1)=((R6 (G7 ps)).map (·.2)).take (i+1):=by rw[List.map_take,hJ]
     have h2:(((a0J (R6 (G7 ps)) ts).take (i+1)).map (·.1)).Nodup:=by
      rw[h1]
      exact(List.take_sublist _ _).nodup hA
     rw[J2 hn,AG]at h2
     exact(AR.mp h2).2.2 _ z _ (AC.mpr rfl) rfl)
    rw[a0o hU]
    have TD:=J9.dT (kvs':=G++[(kp x.2,.str t.2.2)]) hW
    refine⟨G++[(kp x.2,.str t.2.2)],_,_,_,rfl,(s4.trans s5).put gn,t4.trans (s5.tups.trans TD),G1,?_⟩
    rw[J2 hn]
    exact Paired.snoc Z ⟨rfl,rfl⟩
  ·rintro σ D ⟨G,v3,v4,v5,rfl,s4,t4,hq,Z⟩
   rw[sl,<-su,AW]at Z
   intro f gf
   have s5:G5 D (upd D f (.dT [])):=(G5.refl D).new gf
   have hO:=s5 _ _ (s4 _ _ hs)
   have hS:d≠f:=fun z=>by rw[<-z,s4 _ _ hs]at gf;cases gf
   have sA:d≠n:=fun z=>by rw[<-z,hs]at gn;cases gn
   have sw:f≠n:=fun z=>by rw[z,hq]at gf;cases gf
   have se:H f=none:=(s1.trans s4).free gf
   have sf:FI (R6 (G7 ps)) (Z6 (G7 ps)) (upd D f (.dT [])) B:=hz.mono (s4.trans s5).tups
   refine⟨_,rfl,d,B,rfl,hO,fun ob hF hC=>?_⟩
   have T6:J9 (upd D f (.dT [])) (upd (upd D f (.dT [])) d (.frz ob (.dT B))):=J9.frz hO
   have s6:G5 H (upd (upd D f (.dT [])) d (.frz ob (.dT B))):=((s1.trans s4).trans s5).put gd
   have hQ:upd (upd D f (.dT [])) d (.frz ob (.dT B)) d=some (.frz ob (.dT B)):=G1
   have hL:upd (upd D f (.dT [])) d (.frz ob (.dT B)) n=some (.dT G):=by rw[G8 sA.symm];exact s5 _ _ hq
   have hV:upd (upd D f (.dT [])) d (.frz ob (.dT B)) f=some (.dT []):=by rw[G8 hS.symm,G1]
   have hg:=sf.mono T6
   have ho:Paired (b5d (upd (upd D f (.dT [])) d (.frz ob (.dT B)))) hF B:=Paired.mapP hC fun _ _⟨⟨b,e,hb⟩,e2⟩=>⟨⟨b,e,T6 _ _ hb⟩,e2⟩
   have sB:hF.length=B.length:=AE hC
   have sC:=hg.len
   generalize upd (upd D f (.dT [])) d (.frz ob (.dT B))=H6 at s6 hQ hL hV hg ho⊢
   refine a9j (d:=d) (o:=ob) (u:= .dT B) (ps:=hF) (fun i σ H7=>∃(fkv:List (List Key×V))(v7 v8:Option V),σ=[some (.ref a),some (.ref d),some (.ref n),v3,v4,v5,some (.ref f),v7,v8]/\G5 H H7/\J9 H6 H7/\H7 d=some (.frz ob (.dT B))/\H7 n=some (.dT G)/\H7 f=some (.dT fkv)/\fkv.length<=i/\∀j kv,j < i->B[j]?=some kv->∃x p nm,kv.1=U1 x/\Mk (R6 (G7 ps)) (Z6 (G7 ps)) x p/\(p,nm)∈a0J (R6 (G7 ps)) ts/\W2 fkv (U1 x)=some (.str nm))
    ⟨[],none,none,rfl,s6,J9.refl H6,hQ,hL,hV,by simp,fun j kv hj=>by omega⟩ (fun i σ H7 _⟨_,_,_,_,_,_,h,_⟩=>h) ?_ ?_
   ·rintro i sd pa σ H7 hM ⟨fkv,v7,v8,rfl,s7,t7,hT,hG,hD,si,U⟩ sy
    obtain⟨kv,Y,⟨b,eb,hb⟩,ss⟩:=Paired.get? ho hM
    have hi:i < B.length:=(List.getElem?_eq_some_iff.mp Y).1
    have sb:=hg.sub kv.1 (AS (f:=(·.1)) (AD Y))
    obtain⟨x,hI,ex⟩:=AO.mp sb
    have hB:=a8J hg.nd Y
    rw[<-ex]at hB hb
    obtain⟨t,p',ev,ht,hh⟩:=hg.val x _ hB
    obtain⟨k',sn⟩:=hh.place
    obtain⟨m,hm⟩:=AT sn
    have sm:m < ts.length:=by
     have:=(List.getElem?_eq_some_iff.mp hm).1
     omega
    have hw:=AD (b3z hm (AQ sm))
    have hk:=b2A Z (by rw[hJ];exact hA) hw
    generalize (ts[m]).2.2=nm at hw hk
    have s8:G5 H7 (upd H7 pa (.tup [sd.1,sd.2])):=(G5.refl H7).new sy
    refine⟨pa,_,rfl,SqT.of G1,rfl,_,_,rfl,_,_,rfl,rfl,?_⟩
    rw[eb,ss,ev]at s8⊢
    generalize upd H7 pa (.tup [V.ref b,V.ref t])=H8 at s8⊢
    have he:E3 H8 n (.ref t) (some (.str nm)):=by
     have h1:=E3.t (k:=kp p') (s8 _ _ hG) (s8 _ _ (t7 _ _ ht))
     rw[hk]at h1
     exact h1
    have hN:=s8 _ _ hD
    refine⟨_,rfl,_,rfl,n,_,rfl,he,_,rfl,_,rfl,f,_,rfl,a0z.t (k:=U1 x) hN (s8 _ _ (t7 _ _ hb)) (szK (by omega)),?_⟩
    have TD:=J9.dT (kvs':=U7 fkv (U1 x) (.str nm)) hN
    refine⟨U7 fkv (U1 x) (.str nm),_,_,rfl,(s7.trans s8).put se,t7.trans (s8.tups.trans TD),by rw[G8 hS];exact s8 _ _ hT,by rw[G8 sw.symm];exact s8 _ _ hG,G1,?_,fun j kj hj hK=>?_⟩
    ·have:=F3 fkv (U1 x) (.str nm)
     omega
    ·by_cases sq:j=i
     ·subst sq
      rw[Y]at hK
      cases hK
      exact⟨x,p',nm,ex.symm,hh,hw,by rw[O1,if_pos rfl]⟩
     ·obtain⟨x2,p2,n2,h1,h2,h3,h4⟩:=U j kj (by omega) hK
      by_cases hY:U1 x2=U1 x
      ·rw[a0K hY]at h1
       exact⟨x,p',nm,h1,hh,hw,by rw[O1,if_pos rfl]⟩
      ·exact⟨x2,p2,n2,h1,h2,h3,by rw[O1,if_neg hY];exact h4⟩
   ·rintro σ H7 ⟨fkv,v7,v8,rfl,s7,t7,hT,hG,hD,si,U⟩
    refine⟨_,rfl,q f fkv ts H7 s7 hD hH sj fun x hx=>?_⟩
    have F:(W2 B (U1 x)).isSome=true:=by
     rcases AL.mp hx with z | z
     ·exact hz.has x z
     ·exact hR x z
    cases e:W2 B (U1 x)with
    | none=>rw[e]at F;cases F
    | some v=>
     obtain⟨kv,Y,ek⟩:=AO.mp (b0C e)
     obtain⟨j,hj⟩:=AT Y
     have sG:=(List.getElem?_eq_some_iff.mp hj).1
     obtain⟨x2,p2,n2,h1,h2,h3,h4⟩:=U j kv (by omega) hj
     have:x2=x:=a0K (h1.symm.trans ek)
     subst this
     exact⟨p2,n2,h2,h3,h4⟩
noncomputable def thN (N:Str->Str):Th->V
 | .num n=> .int n
 | .nam y=> .str (N y)
noncomputable def TmV (N:Str->Str) (H:Hp) (v:V) (d:Int×Th):Prop:=∃p,v= .ref p/\H p=some (.tup [.int d.1,thN N d.2])
noncomputable def a8w (N:Str->Str) (H:Hp) (t:Addr) (ts:List (Int×Th)):Prop:=∃vs,H t=some (.tup vs)/\Paired (TmV N H) vs ts
theorem TmV.mono{N:Str->Str}{H H':Hp}(s:J9 H H'){v:V}{d:Int×Th}(h:TmV N H v d):TmV N H' v d:=by
 obtain⟨p,e,h⟩:=h
 exact⟨p,e,s _ _ h⟩
theorem a8w.mono{N:Str->Str}{H H':Hp}(s:J9 H H'){t:Addr}{ts:List (Int×Th)}(h:a8w N H t ts):a8w N H' t ts:=by
 obtain⟨j,h1,h2⟩:=h
 exact⟨j,s _ _ h1,Paired.mapP h2 fun _ _ z=>z.mono s⟩
noncomputable def RV (N:Str->Str) (H:Hp) (r:Addr):Rw->Prop
 | .set o ts=>∃t,H r=some (.tup [.str "set",.str (N o),.ref t])/\a8w N H t ts
 | .take o=>H r=some (.tup [.str "take",.str (N o)])
 | .say ts w=>∃t,H r=some (.tup [.str "say",.ref t,a1h (w.map N)])/\a8w N H t ts
 | .need ts=>∃t,H r=some (.tup [.str "need",.ref t])/\a8w N H t ts
 | .ask p w=>H r=some (.tup [.str "ask",.str p,a1h (w.map N)])
 | _=>False
theorem RV.mono{N:Str->Str}{H H':Hp}(s:J9 H H'){r:Addr}{rw:Rw}(h:RV N H r rw):RV N H' r rw:=by
 cases rw with
 | set o ts=>obtain⟨t,h1,h2⟩:=h;exact⟨t,s _ _ h1,h2.mono s⟩
 | take o=>exact s _ _ h
 | say ts w=>obtain⟨t,h1,h2⟩:=h;exact⟨t,s _ _ h1,h2.mono s⟩
 | need ts=>obtain⟨t,h1,h2⟩:=h;exact⟨t,s _ _ h1,h2.mono s⟩
 | ask p w=>exact s _ _ h
 | _=>exact h
noncomputable def a2j (C:Str->Prop) (ts:List (Int×Th)):Prop:=∀d∈ts,∀y,d.2=Th.nam y->C y
noncomputable def a5H (C:Str->Prop) (w:Option Str):Prop:=∀y,w=some y->C y
noncomputable def a0t (C:Str->Prop):Rw->Prop
 | .set o ts=>C o/\a2j C ts
 | .take o=>C o
 | .say ts w=>a2j C ts/\a5H C w
 | .need ts=>a2j C ts
 | .ask _ w=>a5H C w
 | _=>False
theorem a0t.imp{C D:Str->Prop}(h:∀y,C y->D y){rw:Rw}(u:a0t C rw):a0t D rw:=by
 have hT:∀{ts},a2j C ts->a2j D ts:=fun z d hd y e=>h y (z d hd y e)
 have j:∀{w},a5H C w->a5H D w:=fun z y e=>h y (z y e)
 cases rw with
 | set o ts=>exact⟨h _ u.1,hT u.2⟩
 | take o=>exact h _ u
 | say ts w=>exact⟨hT u.1,j u.2⟩
 | need ts=>exact hT u
 | ask p w=>exact j u
 | _=>exact u
noncomputable def b1Q (fkv:List (List Key×V)) (n:Str) (N:Str->Str) (y:Str):Prop:=W2 fkv (U1 (n,y))=some (.str (N y))
noncomputable def b4U:Sp:=fun vs H Q _=>∃(n:Str)(th:Th)(f:Addr)(fkv:List (List Key×V))(N:Str->Str),vs=[.str n,thV th,.ref f]/\H f=some (.dT fkv)/\(∀y,th= .nam y->b1Q fkv n N y)/\∀H',G5 H H'->Q (thN N th) H'
theorem b2x(T:Txt K mg):L2.Cl P w K mg base 1 "renamed_thing" ["part","thing","news"] b4U:=by
 refine Cl.of T.d_renamed_thing a4E (fun G H Q E h=>?_) (fun _ _ _ _ _ _ us hl=>by obtain⟨a,b,c,rfl⟩:=a6n hl;rfl) (fun O J A outer s H G Q E D h=>?_)
 ·obtain⟨n,th,f,fkv,N,rfl,_⟩:=h
  rfl
 ·obtain⟨n,th,f,fkv,N,rfl,hf,hN,q⟩:=h
  have F:=B2 D
  refine⟨_,(G3 (U8 (a5x (U5 a4V (by rfl) T.n_isinstance PyProof.Rows.boot_isinstance (G0 (pv 1) (G0 (b0w (v:= .ty "str") (by rfl) T.n_str boot_str rfl) G4))))
    (G6 (R9 (Z4 F (pv 2) (R1 (G0 (pv 0) (G0 (pv 1) G4))) (fun _ _=>rfl)))) R8)
   (G6 (R9 (pv 1)))),?_⟩
  cases th with
  | num k=>
   refine⟨_,rfl,_,_,_,_,rfl,.int k,a4N _,_,rfl,F8 ?_⟩
   exact⟨_,rfl,q H (G5.refl H)⟩
  | nam y=>
   refine⟨_,rfl,_,_,_,_,rfl,.str y,a8i _ _,_,rfl,B9 ?_⟩
   refine⟨_,rfl,_,rfl,_,rfl,O4,fun e B=>?_⟩
   have j:G5 H (upd H e (.tup [.str n,.str y])):=(G5.refl H).new B
   have h1:=E3.t (k:=U1 (n,y)) (j _ _ hf) (show upd H e (.tup [.str n,.str y]) e=some (.tup ((U1 (n,y)).map kV))from G1)
   rw[hN y rfl]at h1
   exact⟨f,_,rfl,h1,q _ j⟩
noncomputable def b4D:Sp:=fun vs H Q _=>∃(n:Str)(w:Option Str)(f:Addr)(fkv:List (List Key×V))(N:Str->Str),vs=[.str n,a1h w,.ref f]/\H f=some (.dT fkv)/\a5H (b1Q fkv n N) w/\∀H',G5 H H'->Q (a1h (w.map N)) H'
theorem b3N(T:Txt K mg):L2.Cl P w K mg base 1 "renamed_when" ["part","when","news"] b4D:=by
 refine Cl.of T.d_renamed_when a4Y (fun G H Q E h=>?_) (fun _ _ _ _ _ _ us hl=>by obtain⟨a,b,c,rfl⟩:=a6n hl;rfl) (fun O J A outer s H G Q E D h=>?_)
 ·obtain⟨n,w,f,fkv,N,rfl,_⟩:=h
  rfl
 ·obtain⟨n,w,f,fkv,N,rfl,hf,hN,q⟩:=h
  have F:=B2 D
  refine⟨_,(G3 (U8 (a0R (b2z (pv 1)))
    (G6 (R9 a2u)) R8)
   (G6 (R9 (Z4 F (pv 2) (R1 (G0 (pv 0) (G0 (pv 1) G4))) (fun _ _=>rfl))))),?_⟩
  cases w with
  | none=>
   refine⟨_,rfl,_,rfl,B9 ?_⟩
   exact q H (G5.refl H)
  | some y=>
   refine⟨_,rfl,_,rfl,F8 ?_⟩
   refine⟨_,rfl,_,rfl,_,rfl,O4,fun e B=>?_⟩
   have j:G5 H (upd H e (.tup [.str n,.str y])):=(G5.refl H).new B
   have h1:=E3.t (k:=U1 (n,y)) (j _ _ hf) (show upd H e (.tup [.str n,.str y]) e=some (.tup ((U1 (n,y)).map kV))from G1)
   rw[hN y rfl]at h1
   exact⟨f,_,rfl,h1,q _ j⟩
noncomputable def b6k:Sp:=fun vs H Q _=>∃(n:Str)(t:Addr)(ts:List (Int×Th))(f:Addr)(fkv:List (List Key×V))(N:Str->Str),vs=[.str n,.ref t,.ref f]/\a1a H t ts/\H f=some (.dT fkv)/\a2j (b1Q fkv n N) ts/\∀(t':Addr)(H':Hp),G5 H H'->a8w N H' t' ts->Q (.ref t') H'
theorem b5h(T:Txt K mg):L2.Cl P w K mg base 2 "renamed_sum" ["part","terms","news"] b6k:=by
 have j:=b2x (P:=P) (w:=w) (base:=base) T
 refine Cl.of T.d_renamed_sum a5w (fun U H Q E h=>?_) (fun _ _ _ _ _ _ us hl=>by obtain⟨a,b,c,rfl⟩:=a6n hl;rfl) (fun fa he A outer s H U Q E hr h=>?_)
 ·obtain⟨n,t,ts,f,fkv,N,rfl,_⟩:=h
  rfl
 ·obtain⟨n,t,ts,f,fkv,N,rfl,⟨⟨U,ht,O⟩,hh,hg⟩,hf,hN,q⟩:=h
  have Z:U.length=ts.length:=AE O
  refine⟨_,(G6 (R9 (Y6 E2 (by rfl) T.n_tuple boot_tuple (G0 (a5e (M:=["sign","thing","part","news"]) (ρ:=[none,none,some 0,some 2]) (J4 a0C) ["part","terms","news"] ⟨rfl,by decide +kernel,by decide +kernel,by decide +kernel,rfl,by decide +kernel,by decide +kernel⟩ (D1 (pv 1)) (fun _ _ _ _ _ _=>(a2N (K:=K) (n:=2) rfl rfl (J0 (I9 (i:=0) (show(["sign","thing","part","news"]:List Str).Nodup by decide +kernel) rfl (Or.inl rfl)) (J0 (I9 (i:=1) (show(["sign","thing","part","news"]:List Str).Nodup by decide +kernel) rfl (Or.inl rfl)) Y2)))) (fun _ _ _ _ _ _=>a1W) (fun _ _ _ _ _ _=>(R1 (G0 (pv 0) (G0 (W0 j hr (by rfl) (G0 (pv 2) (G0 (pv 1) (G0 (pv 3) G4)))) G4))))) G4)))),?_⟩
  refine⟨_,rfl,t,rfl,⟨_,SqT.of ht⟩,fun D hD=>?_⟩
  refine a4i (K:=K) (a:=t) (xs:=U) (fun i σ H2=>∃(v0 v1:Option V)(us:List V),σ=[v0,v1,some (.str n),some (.ref f)]/\G5 H H2/\H2 D=some (.lst us)/\Paired (TmV N H2) us (ts.take i)) ⟨_,_,[],rfl,(G5.refl H).new hD,G1,by rw[List.take_zero];exact .nil⟩ (fun i ha H2⟨_,_,_,_,F,_⟩=>SqT.of (F _ _ ht)) ?_ ?_
  ·rintro i x σ H2 hx ⟨v0,v1,us,rfl,F,G,B⟩
   obtain⟨d,hd,c,ex,hc,_⟩:=Paired.get? O hx
   subst ex
   have hb:us.length<=6:=by rw[AE B,AY];omega
   refine⟨c,_,rfl,SqT.of (F _ _ hc),rfl,_,_,rfl,_,_,rfl,rfl,?_⟩
   refine⟨_,rfl,_,rfl,_,rfl,_,rfl,n,d.2,f,fkv,N,rfl,F _ _ hf,fun y e=>hN d (AD hd) y e,fun H3 s3=>?_⟩
   refine⟨O4,fun e ge=>?_⟩
   have Y:G5 H2 (upd H3 e (.tup [.int d.1,thN N d.2])):=s3.new ge
   have J:=Y _ _ G
   refine⟨us,J,J8 (by omega),_,_,us++[.ref e],rfl,(F.trans Y).put hD,G1,?_⟩
   rw[J2 hd]
   have TL:=J9.lst (ys:=us++[.ref e]) J
   exact Paired.snoc (Paired.mapP B fun _ _ z=>z.mono (Y.tups.trans TL)) ⟨e,rfl,TL _ _ G1⟩
  ·rintro σ H2 ⟨v0,v1,us,rfl,F,G,B⟩
   rw[Z,AW]at B
   refine⟨D,_,rfl,.inl ⟨SqL.of G,fun u gu=>?_⟩⟩
   exact q u _ (F.new gu) ⟨us,G1,Paired.mapP B fun _ _ z=>z.mono (J9.new gu)⟩
noncomputable def b6b:Sp:=fun vs H Q _=>∃(n:Str)(r:Addr)(rw:Rw)(f:Addr)(fkv:List (List Key×V))(N:Str->Str),vs=[.str n,.ref r,.ref f]/\a0U H r rw/\H f=some (.dT fkv)/\a0t (b1Q fkv n N) rw/\∀(r':Addr)(H':Hp),G5 H H'->RV N H' r' rw->Q (.ref r') H'
theorem b4p(T:Txt K mg):L2.Cl P w K mg base 3 "renamed_row" ["part","row","news"] b6b:=by
 have j:=b5h (P:=P) (w:=w) (base:=base) T
 have B:=b3N (P:=P) (w:=w) (base:=base) T
 refine Cl.of T.d_renamed_row a2D (fun vs H Q E h=>?_) (fun _ _ _ _ _ _ us hl=>by obtain⟨a,b,c,rfl⟩:=a6n hl;rfl) (fun fa ha A outer s H vs Q E Z h=>?_)
 ·obtain⟨n,r,rw,f,fkv,N,rfl,_⟩:=h
  rfl
 ·obtain⟨n,r,rw,f,fkv,N,rfl,hra,hf,hN,q⟩:=h
  have hu:=B2 Z
  refine⟨_,(G3 (J1 (i:=3) a2D.nd rfl (Or.inl rfl) (I0 J5 (pv 1) G2 (fun _ _=>rfl)))
   (G3 (U8 (J6 O3 (pv 3) R7 (U0 _))
    (G6 (R9 (R1 (G0 R7 (G0 (Z4 hu (pv 2) (R1 (G0 (pv 0) (G0 (I0 J5 (pv 1) G2 (fun _ _=>rfl)) G4))) (fun _ _=>rfl)) (G0 (W0 j Z (by rfl) (G0 (pv 0) (G0 (I0 J5 (pv 1) G2 (fun _ _=>rfl)) (G0 (pv 2) G4)))) G4)))))) R8)
   (G3 (U8 (J6 O3 (pv 3) R7 (U0 _))
    (G6 (R9 (R1 (G0 R7 (G0 (Z4 hu (pv 2) (R1 (G0 (pv 0) (G0 (I0 J5 (pv 1) G2 (fun _ _=>rfl)) G4))) (fun _ _=>rfl)) G4))))) R8)
   (G3 (U8 (J6 O3 (pv 3) R7 (U0 _))
    (G6 (R9 (R1 (G0 R7 (G0 (W0 j Z (by rfl) (G0 (pv 0) (G0 (I0 J5 (pv 1) G2 (fun _ _=>rfl)) (G0 (pv 2) G4)))) (G0 (W0 B Z (by rfl) (G0 (pv 0) (G0 (I0 J5 (pv 1) G2 (fun _ _=>rfl)) (G0 (pv 2) G4)))) G4)))))) R8)
   (G3 (U8 (J6 O3 (pv 3) R7 (U0 _))
    (G6 (R9 (R1 (G0 R7 (G0 (W0 j Z (by rfl) (G0 (pv 0) (G0 (I0 J5 (pv 1) G2 (fun _ _=>rfl)) (G0 (pv 2) G4)))) G4))))) R8)
   (G6 (R9 (R1 (G0 R7 (G0 (I0 J5 (pv 1) G2 (fun _ _=>rfl)) (G0 (W0 B Z (by rfl) (G0 (pv 0) (G0 (I0 J5 (pv 1) G2 (fun _ _=>rfl)) (G0 (pv 2) G4)))) G4))))))))))),?_⟩
  have get:∀{H2:Hp}{y:Str}{e:Addr},G5 H H2->H2 e=some (.tup [.str n,.str y])->b1Q fkv n N y->E3 H2 f (.ref e) (some (.str (N y))):=fun{H2 y e}O he hn=>by
   have h1:=E3.t (k:=U1 (n,y)) (O _ _ hf) he
   rw[hn]at h1
   exact h1
  cases rw with
  | set o ts=>
   obtain⟨t,D,J⟩:=hra
   refine⟨_,rfl,r,_,_,_,rfl,rfl,SqT.of D,rfl,?_⟩
   refine⟨_,rfl,rfl,_,rfl,D8 ?_⟩
   refine⟨_,rfl,_,rfl,_,rfl,r,_,_,_,rfl,rfl,SqT.of D,rfl,O4,fun e ge=>?_⟩
   have Y:G5 H (upd H e (.tup [.str n,.str o])):=(G5.refl H).new ge
   refine⟨f,_,rfl,get Y G1 hN.1,?_⟩
   refine⟨_,rfl,_,rfl,r,_,_,_,rfl,rfl,SqT.of (Y _ _ D),rfl,_,rfl,?_⟩
   refine⟨n,t,ts,f,fkv,N,rfl,J.mono Y.tups,Y _ _ hf,hN.2,fun t' H2 O G=>?_⟩
   refine⟨a0p,fun U F=>?_⟩
   exact q U _ ((Y.trans O).new F) ⟨t',G1,G.mono (J9.new F)⟩
  | take o=>
   have D:H r=some (.tup [.str "take",.str o]):=hra
   refine⟨_,rfl,r,_,_,_,rfl,rfl,SqT.of D,rfl,?_⟩
   refine⟨_,rfl,rfl,_,rfl,U9 (show¬("take":Str)="set" by decide +kernel) ?_⟩
   refine⟨_,rfl,rfl,_,rfl,D8 ?_⟩
   refine⟨_,rfl,_,rfl,_,rfl,r,_,_,_,rfl,rfl,SqT.of D,rfl,O4,fun e ge=>?_⟩
   have Y:G5 H (upd H e (.tup [.str n,.str o])):=(G5.refl H).new ge
   refine⟨f,_,rfl,get Y G1 hN,?_⟩
   refine⟨O4,fun U F=>?_⟩
   exact q U _ (Y.new F) G1
  | say ts w=>
   obtain⟨t,D,J⟩:=hra
   refine⟨_,rfl,r,_,_,_,rfl,rfl,SqT.of D,rfl,?_⟩
   refine⟨_,rfl,rfl,_,rfl,U9 (show¬("say":Str)="set" by decide +kernel) ?_⟩
   refine⟨_,rfl,rfl,_,rfl,U9 (show¬("say":Str)="take" by decide +kernel) ?_⟩
   refine⟨_,rfl,rfl,_,rfl,D8 ?_⟩
   refine⟨_,rfl,_,rfl,r,_,_,_,rfl,rfl,SqT.of D,rfl,_,rfl,?_⟩
   refine⟨n,t,ts,f,fkv,N,rfl,J,hf,hN.1,fun t' H2 O G=>?_⟩
   refine⟨_,rfl,_,rfl,r,_,_,_,rfl,rfl,SqT.of (O _ _ D),rfl,_,rfl,?_⟩
   refine⟨n,w,f,fkv,N,rfl,O _ _ hf,hN.2,fun H3 s3=>?_⟩
   refine⟨a0p,fun U F=>?_⟩
   exact q U _ ((O.trans s3).new F) ⟨t',G1,G.mono (s3.new F).tups⟩
  | need ts=>
   obtain⟨t,D,J⟩:=hra
   refine⟨_,rfl,r,_,_,_,rfl,rfl,SqT.of D,rfl,?_⟩
   refine⟨_,rfl,rfl,_,rfl,U9 (show¬("need":Str)="set" by decide +kernel) ?_⟩
   refine⟨_,rfl,rfl,_,rfl,U9 (show¬("need":Str)="take" by decide +kernel) ?_⟩
   refine⟨_,rfl,rfl,_,rfl,U9 (show¬("need":Str)="say" by decide +kernel) ?_⟩
   refine⟨_,rfl,rfl,_,rfl,D8 ?_⟩
   refine⟨_,rfl,_,rfl,r,_,_,_,rfl,rfl,SqT.of D,rfl,_,rfl,?_⟩
   refine⟨n,t,ts,f,fkv,N,rfl,J,hf,hN,fun t' H2 O G=>?_⟩
   refine⟨O4,fun U F=>?_⟩
   exact q U _ (O.new F) ⟨t',G1,G.mono (J9.new F)⟩
  | ask p w=>
   have D:H r=some (.tup [.str "ask",.str p,a1h w]):=hra
   refine⟨_,rfl,r,_,_,_,rfl,rfl,SqT.of D,rfl,?_⟩
   refine⟨_,rfl,rfl,_,rfl,U9 (show¬("ask":Str)="set" by decide +kernel) ?_⟩
   refine⟨_,rfl,rfl,_,rfl,U9 (show¬("ask":Str)="take" by decide +kernel) ?_⟩
   refine⟨_,rfl,rfl,_,rfl,U9 (show¬("ask":Str)="say" by decide +kernel) ?_⟩
   refine⟨_,rfl,rfl,_,rfl,U9 (show¬("ask":Str)="need" by decide +kernel) ?_⟩
   refine⟨_,rfl,r,_,_,_,rfl,rfl,SqT.of D,rfl,?_⟩
   refine⟨_,rfl,_,rfl,r,_,_,_,rfl,rfl,SqT.of D,rfl,_,rfl,?_⟩
   refine⟨n,w,f,fkv,N,rfl,hf,hN,fun H3 s3=>?_⟩
   refine⟨a0p,fun U F=>?_⟩
   exact q U _ (s3.new F) G1
  | _=>exact hN.elim
noncomputable def a5a (pls:List Pl):List Kk:=(R6 pls).map (·.1)++(Z6 pls).map (·.1)
noncomputable def IsN (pls:List Pl) (ts:List Tr) (n:Str) (N:Str->Str):Prop:=∀y,(n,y)∈a5a pls->∃p,Mk (R6 pls) (Z6 pls) (n,y) p/\(p,N y)∈a0J (R6 pls) ts
noncomputable def a8H:Option V->Str
 | some (.str s)=>s
 | _=>""
noncomputable def a0I (r:Rw):Bool:= !decide (R4 r="ask")
noncomputable def quiet (ps:List Pt):List Pt:=ps.map fun pt=>(pt.1,pt.2.filter a0I)
theorem a5Z{r:Rw}(h:a0I r=false):E1 r=none/\F4 r=none/\E6 r=[]:=by
 by_cases j:R4 r="ask"
 ·cases r with
  | ask p w=>exact⟨rfl,rfl,rfl⟩
  | _=>simp only[R4]at j;exact absurd j (by decide +kernel)
 ·unfold a0I at h
  rw[AZ j]at h
  cases h
theorem a7X{α β:Type}{p:α->Bool}{f:α->Option β}(h:∀x,p x=false->f x=none):∀l:List α,(l.filter p).filterMap f=l.filterMap f
 | []=>rfl
 | x::r=>by
  have j:=a7X h r
  cases e:p x with
  | true=>rw[BT e,BA,BA,j]
  | false=>rw[BN (by rw[e];decide),BA,h x e,j]
theorem a6w{α β:Type}{p:α->Bool}{f:α->List β}(h:∀x,p x=false->f x=[]):∀l:List α,(l.filter p).flatMap f=l.flatMap f
 | []=>rfl
 | x::r=>by
  have j:=a6w h r
  cases e:p x with
  | true=>rw[BT e,BC,BC,j]
  | false=>rw[BN (by rw[e];decide),BC,h x e,j,List.nil_append]
theorem a4W(ps:List Pt):(quiet ps).map (·.1)=ps.map (·.1):=by
 unfold quiet
 rw[List.map_map]
 rfl
theorem a8d{α:Type}{f:Rw->List α}(h:∀r,a0I r=false->f r=[])(ps:List Pt):((quiet ps).flatMap fun pt=>(pt.2.flatMap f).map fun a=>(pt.1,a))=ps.flatMap fun pt=>(pt.2.flatMap f).map fun a=>(pt.1,a):=by
 unfold quiet
 rw[List.flatMap_map]
 congr 1
 funext pt
 show((pt.2.filter a0I).flatMap f).map _=_
 rw[a6w h]
theorem b2D(pls:List Pl):W4 pls=(pls.flatMap fun x=>(E6 x.2.2).map fun a=>(x.1,a)).map fun y=>((y.1,y.2.2.2),(y.2.1,y.2.2.1)):=by
 unfold W4
 rw[List.map_flatMap]
 congr 1
 funext x
 rw[List.map_map]
 rfl
theorem a9r:∀pls:List Pl,W5 pls=(pls.flatMap fun x=>((F4 x.2.2).toList).map fun a=>(x.1,a)).map fun y=>((y.1,y.2.2),y.2.1)
 | []=>rfl
 | x::r=>by
  have j:=a9r r
  have e:W5 (x::r)=W5 [x]++W5 r:=by rw[<-a1S];rfl
  rw[e,BC,AG,<-j]
  congr 1
  unfold W5
  cases hg:F4 x.2.2 with
  | none=>simp[hg]
  | some q=>simp[hg]
theorem a2W(ps:List Pt):W4 (G7 (quiet ps))=W4 (G7 ps):=by
 rw[b2D,b2D,a2f,a2f,a8d fun r h=>(a5Z h).2.2]
theorem a2V(ps:List Pt):W5 (G7 (quiet ps))=W5 (G7 ps):=by
 rw[a9r,a9r,a2f (fun r=>(F4 r).toList),a2f (fun r=>(F4 r).toList),a8d fun r h=>by rw[(a5Z h).2.1];rfl]
theorem a2P(ps:List Pt):(R6 (G7 (quiet ps))).map (·.1)=(R6 (G7 ps)).map (·.1):=by
 rw[a5z,a5z]
 unfold quiet
 rw[List.flatMap_map]
 congr 1
 funext pt
 show(a4G (pt.2.filter a0I)).map _=_
 unfold a4G
 rw[a7X fun r h=>(a5Z h).1]
theorem a6Y(ps:List Pt):Z6 (G7 (quiet ps))=Z6 (G7 ps):=by
 unfold Z6
 rw[a2W,a2V]
theorem a9U(ps:List Pt):a5a (G7 (quiet ps))=a5a (G7 ps):=by
 unfold a5a
 rw[a2P,a6Y]
theorem a1G{ps:List Pt}{pt:Pt}(h:pt∈quiet ps):∃rs,(pt.1,rs)∈ps/\pt.2=rs.filter a0I:=by
 unfold quiet at h
 obtain⟨q,j,e⟩:=AO.mp h
 exact⟨q.2,by rw[<-e];exact j,by rw[<-e]⟩
theorem a6u:∀ps:List Pt,(G7 (quiet ps)).length<=(G7 ps).length
 | []=>AI _
 | pt::r=>by
  have B:=a6u r
  have j:G7 (quiet (pt::r))=J3 pt.1 (pt.2.filter a0I)++G7 (quiet r):=rfl
  have q:G7 (pt::r)=J3 pt.1 pt.2++G7 r:=rfl
  rw[j,q,List.length_append,List.length_append,Z3,Z3]
  have:=List.length_filter_le a0I pt.2
  omega
theorem b0J{ps:List Pt}(n:D9 (G7 ps)):D9 (G7 (quiet ps)):=by
 obtain⟨h1,h2,D,Z,F,J,O⟩:=n
 refine⟨by rw[a2P,a2W];exact h1,by rw[a2V];exact h2,by rw[a2W,a2V];exact D,by rw[a2V,a2P,a2W];exact Z,by rw[a6Y];exact F,Nat.le_trans (a6u ps) J,fun x hx=>?_⟩
 obtain⟨U,q,hrw⟩:=M0.mp hx
 obtain⟨j,G,e⟩:=a1G q
 have e:U=j.filter a0I:=e
 have B:x.2.2∈j:=by
  have:=AD hrw
  rw[e]at this
  exact(List.mem_filter.mp this).1
 obtain⟨k,Y⟩:=AT B
 exact O (x.1,k,x.2.2) (M0.mpr ⟨j,G,Y⟩)
theorem a6D{ps:List Pt}(f:a0E ps):a0E (quiet ps):=by
 refine⟨by rw[a4W];exact f.nd,by unfold quiet;rw[List.length_map];exact f.hi,fun pt j=>?_⟩
 obtain⟨B,q,e⟩:=a1G j
 rw[e]
 exact Nat.le_trans (List.length_filter_le _ _) (f.rows _ q)
noncomputable def Y4 (r:Rw):Bool:=match r with
 | .set _ _=>true
 | .take _=>true
 | .say _ _=>true
 | .need _=>true
 | _=>false
noncomputable def a0a:Rw->Option Str
 | .bring m _=>some m
 | _=>none
noncomputable def lay (ps:List Pt):Nat->List Pl->List Str->List Pl->List Pl
 | 0,_,_,o=>o
 | _+1,[],_,o=>o
 | k+1,x::t,b,o=>
  if Y4 x.2.2=true then lay ps k t b (o++[x])
  else match a0a x.2.2 with
   | some m=>if m∈b then lay ps k t b o else lay ps k (J3 m (R0 ps m)++t) (b++[m]) o
   | none=>lay ps k t b o
noncomputable def a0k (ps:List Pt) (b:List Str):Nat:=((ps.filter fun pt=>!decide (pt.1∈b)).map fun pt=>pt.2.length).sum
theorem b0f:∀(ps:List Pt)(b:List Str)(m:Str),a0k ps (b++[m])<=a0k ps b
 | [],b,m=>AI _
 | pt::r,b,m=>by
  have j:=b0f r b m
  unfold a0k at j⊢
  by_cases h1:pt.1∈b
  ·rw[BN (by simp[h1]),BN (by simp[h1])]
   exact j
  ·rw[BT (a:=pt) (l:=r) (p:=fun pt=>!decide (pt.1∈b)) (by simp[h1]),List.map_cons,List.sum_cons]
   by_cases h2:pt.1=m
   ·rw[BN (by simp[h2])]
    omega
   ·rw[BT (by simp[h1,h2]),List.map_cons,List.sum_cons]
    omega
theorem a2B:∀{ps:List Pt}{b:List Str}{m:Str}{rs:List Rw},(m,rs)∈ps->m∉b->a0k ps (b++[m])+rs.length<=a0k ps b
 | [],b,m,rs,h,_=>by simp at h
 | pt::r,b,m,rs,h,q=>by
  unfold a0k
  rcases List.mem_cons.mp h with e | e
  ·have j:pt.1=m:=by rw[<-e]
   have D:pt.2=rs:=by rw[<-e]
   have:=b0f r b m
   unfold a0k at this
   rw[BN (by simp[j]),BT (a:=pt) (l:=r) (p:=fun pt=>!decide (pt.1∈b)) (by simp[j,q]),List.map_cons,List.sum_cons,D]
   omega
  ·have B:=a2B e q
   unfold a0k at B
   by_cases h1:pt.1∈b
   ·rw[BN (by simp[h1]),BN (by simp[h1])]
    exact B
   ·rw[BT (a:=pt) (l:=r) (p:=fun pt=>!decide (pt.1∈b)) (by simp[h1]),List.map_cons,List.sum_cons]
    by_cases h2:pt.1=m
    ·rw[BN (by simp[h2])]
     omega
    ·rw[BT (by simp[h1,h2]),List.map_cons,List.sum_cons]
     omega
theorem b0T{K:W.Frag}{a:Addr}{xs:List V}{g:TG}{tt:TT}{te:TE}{Q:Hp->Prop}{σ:L2.St}{H:Hp}{D:Addr}(F:Nat->L2.St->Hp->Prop)(h0:F 0 σ (upd H D (.lst [])))
  (hl:∀i j H2,F i j H2->SqT K H2 a xs)
  (hs:∀i x p j H2,xs[i]?=some x->F i j H2->H2 p=none->g (.ref p) j (upd H2 p (.tup [.int (i:Int),x])) fun B U=>tt B U fun b G=>
   if b=true then te B G fun y J=>∃ys,J D=some (.lst ys)/\ys.length < sizeLine/\F (i+1) B (upd J D (.lst (ys++[y])))else F (i+1) B G)
  (hd:∀j H2,F xs.length j H2->Q H2):
  ∃W:Nat->Nat->L2.St->Hp->Prop,(∃m,W 0 m σ (upd H D (.lst [])))/\∀i m j H2,W i m j H2->
   ((Ite K a).stop i H2/\Q H2)\/((Ite K a).go i H2/\∃N:L2.St->Hp->Prop,(∀O H',N O H'->∃Z,Z < m/\W (i+1) Z O H')/\∀x Y,(Ite K a).yld i H2 x Y->g x j Y fun B U=>tt B U fun b G=>
    if b=true then te B G fun y J=>∃ys,J D=some (.lst ys)/\ys.length < sizeLine/\N B (upd J D (.lst (ys++[y])))else N B G):=by
 refine a5f xs.length F h0 (fun i j H2 hi p=>?_) fun j H2 p=>⟨⟨xs,hl _ _ _ p,rfl⟩,hd _ _ p⟩
 have e:=AQ hi
 refine⟨⟨xs,_,hl _ _ _ p,e⟩,fun x Y hy=>?_⟩
 obtain⟨q,v,hv,hq,rfl,rfl⟩:=hy
 exact hs i v q j H2 (hv xs (hl _ _ _ p)) p hq
noncomputable def b8l:Sp:=fun vs H Q _=>∃(n:Str)(u:Addr)(ws:List V)(rs:List Rw),vs=[.str n,.ref u]/\H u=some (.tup ws)/\a1o H ws rs/\rs.length<=40/\∀(l:Addr)(us:List V)(H':Hp),G5 H H'->H l=none->H' l=some (.lst us.reverse)->Paired (a2i H') us (J3 n rs)->Q (.ref l) H'
theorem b7d(T:Txt K mg):L2.Cl P w K mg base 1 "last_first" ["part","rows"] b8l:=by
 refine Cl.of T.d_last_first a3h (fun vs H Q E h=>?_) (fun _ _ _ _ _ _ us hl=>by obtain⟨a,b,rfl⟩:=a4j hl;rfl) (fun fa he A outer s H vs Q E hr h=>?_)
 ·obtain⟨n,u,ws,rs,rfl,_⟩:=h
  rfl
 ·obtain⟨n,u,ws,rs,rfl,O,U,hf,q⟩:=h
  have ha:ws.length=rs.length:=AE U
  refine⟨_,(G3 (a5d (j:=2) (M:=["number","row","part"]) (ρ:=[none,none,some 0]) (J4 a0X) ["part","rows","steps"] ⟨rfl,by decide +kernel,by decide +kernel,by decide +kernel,rfl,by decide +kernel,by decide +kernel⟩ a3h.nd rfl (Or.inl rfl) (a5Q (by rfl) T.n_enumerate (G0 (pv 1) G4)) (fun _ _ _ _ _ _=>(a2N (K:=K) (n:=2) rfl rfl (J0 (I9 (i:=0) (show(["number","row","part"]:List Str).Nodup by decide +kernel) rfl (Or.inl rfl)) (J0 (I9 (i:=1) (show(["number","row","part"]:List Str).Nodup by decide +kernel) rfl (Or.inl rfl)) Y2)))) (fun _ _ _ _ _ _=>a1W) (fun _ _ _ _ _ _=>(R1 (G0 (pv 2) (G0 (pv 0) (G0 (pv 1) G4))))))
   (G6 (R9 (a8E rfl (pv 2) (by rfl) T.n_list (by rfl) T.n_reversed)))),?_⟩
  refine⟨_,rfl,u,rfl,⟨_,SqT.of O⟩,fun D hD=>?_⟩
  refine b0T (K:=K) (a:=u) (xs:=ws) (fun i σ H2=>∃(v0 v1:Option V)(us:List V),σ=[v0,v1,some (.str n)]/\G5 H H2/\H2 D=some (.lst us)/\Paired (a2i H2) us (J3 n (rs.take i))) ⟨_,_,[],rfl,(G5.refl H).new hD,G1,by rw[List.take_zero];exact .nil⟩ (fun i hb H2⟨_,_,_,_,F,_⟩=>SqT.of (F _ _ O)) ?_ ?_
  ·rintro i x p σ H2 hx ⟨v0,v1,us,rfl,F,G,B⟩ hp
   obtain⟨rw,hrw,r,er,hra⟩:=Paired.get? U hx
   subst er
   have hi:=(List.getElem?_eq_some_iff.mp hrw).1
   have hc:us.length<=40:=by rw[AE B,Z3,AY];omega
   have s3:G5 H2 (upd H2 p (.tup [.int (i:Int),.ref r])):=(G5.refl H2).new hp
   refine⟨p,_,rfl,SqT.of G1,rfl,_,_,rfl,_,_,rfl,rfl,?_⟩
   refine⟨_,rfl,_,rfl,_,rfl,a0p,fun e ge=>?_⟩
   have Y:G5 H2 (upd (upd H2 p (.tup [.int (i:Int),.ref r])) e (.tup [.str n,.int (i:Int),.ref r])):=s3.new ge
   have J:=Y _ _ G
   have TL:=J9.lst (ys:=us++[.ref e]) J
   refine⟨us,J,J8 (by omega),_,_,us++[.ref e],rfl,(F.trans Y).put hD,G1,?_⟩
   rw[J2 hrw,a2A]
   refine Paired.snoc (Paired.mapP B fun _ _ z=>z.mono (Y.tups.trans TL)) ⟨e,r,rfl,?_,hra.mono ((F.trans Y).tups.trans TL)⟩
   rw[AY,Nat.min_eq_left (by omega)]
   exact TL _ _ G1
  ·rintro σ H2 ⟨v0,v1,us,rfl,F,G,B⟩
   rw[ha,AW]at B
   refine⟨_,rfl,D,_,rfl,SqL.of G,fun l Z=>?_⟩
   exact q l us _ (F.new Z) (F.free Z) G1 (Paired.mapP B fun _ _ z=>z.mono (J9.new Z))
noncomputable def a7e (kvs:List (Key×V)):List Str:=kvs.filterMap fun kv=>match kv.1 with
 | Sum.inr x=>some x
 | _=>none
theorem a7S(l:List Str):a7e (F7 l)=l:=by
 unfold a7e F7
 induction l with
 | nil=>rfl
 | cons x r j=>rw[List.map_cons,BA,j]
noncomputable def muX (ps:List Pt) (bg wt:Addr) (H:Hp):Nat:=match H bg,H wt with
 | some (.dK kvs),some (.lst ws)=>ws.length+a0k ps (a7e kvs)
 | _,_=>0
theorem a7A{ps:List Pt}{q B:Addr}{H:Hp}{b:List Str}{j:List V}(h1:H q=some (.dK (F7 b)))(h2:H B=some (.lst j)):muX ps q B H=j.length+a0k ps b:=by
 unfold muX
 rw[h1,h2]
 show j.length+a0k ps (a7e (F7 b))=_
 rw[a7S]
theorem inW(rw:Rw):inV (.str (R4 rw)) [.str "set",.str "take",.str "say",.str "need"]=Y4 rw:=by
 cases rw<;>(simp only[R4,Y4];decide +kernel)
theorem b2d(ps:List Pt):a0k ps []=(G7 ps).length:=by
 induction ps with
 | nil=>rfl
 | cons pt r j=>
  have e:G7 (pt::r)=J3 pt.1 pt.2++G7 r:=rfl
  rw[e,List.length_append,Z3,<-j]
  unfold a0k
  rw[BT (by simp),List.map_cons,List.sum_cons]
theorem a5F{ps:List Pt}(f:a0E ps){n:Str}{rs:List Rw}(h:(n,rs)∈ps):(J3 n rs).length+a0k ps [n]<=960:=by
 have h1:=a2B h (b:=[]) (by simp)
 rw[b2d,List.nil_append]at h1
 have h2:=a1b f.rows
 have:=f.hi
 rw[Z3]
 omega
theorem a3g{rw:Rw}(h:¬R4 rw="bring"):a0a rw=none:=by
 cases rw with
 | bring m j=>exact absurd rfl h
 | _=>rfl
theorem a3t{rw:Rw}{m:Str}{j:List (Str×Str)}(e:rw= .bring m j){rs:List Rw}(h:rw∈rs):m∈B3 "bring" rs:=(a0L "bring" m rs).mpr ⟨rw,h,by rw[e];simp[Z2]⟩
noncomputable def b6c:Sp:=fun vs H Q _=>∃(a:Addr)(ps:List Pt)(n:Str),vs=[.ref a,.str n]/\D6 H a ps/\a0E ps/\a0l ps/\n∈ps.map (·.1)/\∀(wk:Addr)(us:List V)(H':Hp),G5 H H'->H' wk=some (.lst us)->Paired (a2i H') us (lay ps 960 (J3 n (R0 ps n)) [n] [])->Q (.ref wk) H'
theorem b4P(T:Txt K mg):L2.Cl P w K mg base 2 "work_in_order" ["parts","root"] b6c:=by
 have G:=b7d (P:=P) (w:=w) (base:=base) T
 refine Cl.of T.d_work_in_order O8 (fun vs H Q E h=>?_) (fun _ _ _ _ _ _ us hl=>by obtain⟨a,b,rfl⟩:=a4j hl;rfl) (fun fa zC A outer s H vs Q E hr h=>?_)
 ·obtain⟨a,ps,n,rfl,_⟩:=h
  rfl
 ·obtain⟨a,ps,root,rfl,zr,U,zj,hV,q⟩:=h
  have hu:=B2 hr
  have zD:=U.hi
  obtain⟨o,vs,ha,ho,zh⟩:=id zr
  refine⟨_,(G3 (J1 (i:=2) O8.nd rfl (Or.inl rfl) (Y6 (a3l rfl) (by rfl) T.n_dict boot_dict (G0 (pv 0) G4)))
   (G3 (J1 (i:=3) O8.nd rfl (Or.inl rfl) (b5s (b2U (pv 1) a3D b4L) rfl rfl (List.cons_ne_nil _ _) (by show 1<=15;decide)))
   (G3 (J1 (i:=4) O8.nd rfl (Or.inl rfl) (W0 G hr (by rfl) (G0 (pv 1) (G0 (Z4 hu (pv 2) (pv 1) (fun _ _=>rfl)) G4))))
   (G3 (J1 (i:=5) O8.nd rfl (Or.inl rfl) (Y3 G4))
   (G3 (a1P AN (a8k (pv 4) (fun _=>rfl))
    (G3 (J1 (i:=6) O8.nd rfl (Or.inl rfl) (a7s PySem.F.plainAttrs_list PySem.F.slot_list_pop PySem.F.type_list_pop a7m (pv 4)))
    (G3 (J1 (i:=7) O8.nd rfl (Or.inl rfl) (I0 J5 (pv 6) G2 (fun _ _=>rfl)))
    (G6 (U8 (J6 a4z (I0 J5 (pv 7) G2 (fun _ _=>rfl)) (R1 (G0 R7 (G0 R7 (G0 R7 (G0 R7 G4))))) (by with_unfolding_all rfl))
     (G6 (Y1 (D4 PySem.F.plainAttrs_list PySem.F.slot_list_append PySem.F.type_list_append Y5 (pv 5) (G0 (pv 6) G4)))) (G6 (U8 (PW.pt (a0x (J6 O3 (I0 J5 (pv 7) G2 (fun _ _=>rfl)) R7 (U0 _)) (M1 (a0R (a1M hu (I0 J5 (pv 7) G2 (fun _ _=>rfl)) (pv 3))))))
      (G3 (E5 hu (pv 3) (I0 J5 (pv 7) G2 (fun _ _=>rfl)) a3D rfl)
      (G6 (Y1 (D4 PySem.F.plainAttrs_list PySem.F.slot_list_extend PySem.F.type_list_extend a6N (pv 4) (G0 (W0 G hr (by rfl) (G0 (I0 J5 (pv 7) G2 (fun _ _=>rfl)) (G0 (Z4 hu (pv 2) (I0 J5 (pv 7) G2 (fun _ _=>rfl)) (fun _ _=>rfl)) G4))) G4))))) R8)))))))
   (G6 (R9 (pv 5)))))))),?_⟩
  obtain⟨qs,g1,g2,g3⟩:=a1t (K:=K) zh
  have zE:qs.length=ps.length:=by
   have:=congrArg List.length g2
   simpa using this
  refine⟨_,rfl,a,o,vs,qs,rfl,ha,ho,g1,(by omega),fun rd zu=>?_⟩
  have s1:G5 H (upd H rd (.dK (a0f qs []))):=(G5.refl H).new zu
  have hK:upd H rd (.dK (a0f qs [])) rd=some (.dK (a0f qs [])):=G1
  have sk:∀{H2:Hp}{m:Str}{rs:List Rw},H2 rd=some (.dK (a0f qs []))->(m,rs)∈ps->∃u ws,E3 H2 rd (.str m) (some (.ref u))/\H u=some (.tup ws)/\a1o H ws rs:=fun{H2 m rs}h hm=>by
   obtain⟨u,ws,k1,k2,k3⟩:=g3 m rs hm
   have hg:=E3.k (k:=Sum.inr m) h
   rw[a2T qs [] m (.ref u) (by rw[g2];exact U.nd) (.inl k1)]at hg
   exact⟨u,ws,hg,k2,k3⟩
  generalize upd H rd (.dK (a0f qs []))=H1 at s1 hK⊢
  intro D hT
  refine⟨_,rfl,?_⟩
  refine⟨G1,[(Sum.inr root,.bl true)],rfl,(by show 1<=15;decide),?_⟩
  have s2:G5 H1 (upd (upd H1 D (.dK [])) D (.dK (a2n [] [(Sum.inr root,.bl true)]))):=((G5.refl H1).new hT).put hT
  have hG:upd (upd H1 D (.dK [])) D (.dK (a2n [] [(Sum.inr root,.bl true)])) D=some (.dK (F7 [root])):=G1
  generalize upd (upd H1 D (.dK [])) D (.dK (a2n [] [(Sum.inr root,.bl true)]))=H2 at s2 hG⊢
  obtain⟨hX,hD⟩:=a0q hV
  have hJ:=s2 _ _ hK
  obtain⟨u0,zv,ze,zi,zw⟩:=sk hJ hD
  have sd:=s1.trans s2
  refine⟨_,rfl,_,rfl,_,rfl,rd,_,rfl,ze,?_⟩
  refine⟨root,u0,zv,hX,rfl,sd _ _ zi,zw.mono sd.tups,U.rows _ hD,fun J zf H3 s3 hI sB sZ=>?_⟩
  have sj:=s3 _ _ hJ
  have sf:=s3 _ _ hG
  have za:H D=none:=s1.free hT
  have sv:H J=none:=sd.free hI
  have sF:D≠J:=fun z=>by rw[<-z,hG]at hI;cases hI
  have hrw:rd≠J:=fun z=>by rw[<-z,hJ]at hI;cases hI
  have zp:rd≠D:=fun z=>by rw[<-z,hK]at hT;cases hT
  refine⟨a0s,fun wk hk=>?_⟩
  have s4:G5 H3 (upd H3 wk (.lst [])):=(G5.refl H3).new hk
  have sM:=sd.trans s3
  have sP:H wk=none:=sM.free hk
  have sD:D≠wk:=fun z=>by rw[<-z,sf]at hk;cases hk
  have sQ:rd≠wk:=fun z=>by rw[<-z,sj]at hk;cases hk
  have hS:J≠wk:=fun z=>by rw[<-z,sB]at hk;cases hk
  apply a5n
  ·with_reducible_and_instances rfl
  have zo:R0 ps root=hX:=O6 U.nd hD
  refine a2G (fun σ Y=>∃(O:List Pl)(b:List Str)(oo:List Pl)(us os:List V)(k:Nat)(v6 v7:Option V),σ=[some (.ref a),some (.str root),some (.ref rd),some (.ref D),some (.ref J),some (.ref wk),v6,v7]/\G5 H Y/\Y rd=some (.dK (a0f qs []))/\Y D=some (.dK (F7 b))/\Y J=some (.lst us.reverse)/\Paired (a2i Y) us O/\Y wk=some (.lst os)/\Paired (a2i Y) os oo/\lay ps k O b oo=lay ps 960 (J3 root (R0 ps root)) [root] []/\O.length+a0k ps b<=k/\oo.length+k<=960/\b.Nodup/\(∀x∈b,x∈ps.map (·.1))/\∀x∈O,∃rs,(x.1,rs)∈ps/\x.2.2∈rs) (fun σ Y=>muX ps D J Y)
   ⟨J3 root hX,[root],[],zf,[],960,_,_,rfl,sM.trans s4,s4 _ _ sj,s4 _ _ sf,s4 _ _ sB,Paired.mapP sZ fun _ _ z=>z.mono s4.tups,G1,.nil,by rw[zo],a5F U hD,by simp,by simp,fun x hx=>by rw[AC.mp hx];exact hV,fun x hx=>?_⟩ ?_ ?_
  ·obtain⟨e1,e2⟩:=O9.mp hx
   exact⟨hX,by rw[e1];exact hD,AD e2⟩
  ·rintro σ Y ⟨O,b,oo,us,os,k,v6,v7,rfl,s5,sW,su,hp,zm,sx,hW,hB,sN,hok,se,sb,sO⟩
   refine⟨_,rfl,_,.inl ⟨_,SqL.of hp,rfl⟩,?_⟩
   have zb:=B4 b _ se sb
   rw[List.length_map]at zb
   cases zm with
   | nil=>
    refine F8 ?_
    refine⟨_,rfl,q wk os Y s5 sx ?_⟩
    rw[<-hB]
    cases k with
    | zero=>exact hW
    | succ k=>exact hW
   | @cons v x B t hv sm=>
    obtain⟨c,r,ev,hc,hra⟩:=hv
    subst ev
    rw[show(!((V.ref c::B).reverse).isEmpty)=true by simp]
    refine B9 ?_
    have sI:((V.ref c::B).reverse)[((V.ref c::B).reverse).length - 1]?=some (.ref c):=by simp
    refine⟨_,rfl,.inl ⟨rfl,_,SqL.of hp⟩,J,_,_,rfl,rfl,hp,sI,?_⟩
    rw[show((V.ref c::B).reverse).dropLast=B.reverse by simp]
    have hY:=a7A (ps:=ps) su hp
    rw[BO,List.length_cons]at hY
    have TW:=J9.lst (ys:=B.reverse) hp
    have s6:G5 H (upd Y J (.lst B.reverse)):=s5.put sv
    have si:upd Y J (.lst B.reverse) rd=some (.dK (a0f qs [])):=by rw[G8 hrw];exact sW
    have sy:upd Y J (.lst B.reverse) D=some (.dK (F7 b)):=by rw[G8 sF];exact su
    have sA:upd Y J (.lst B.reverse) wk=some (.lst os):=by rw[G8 hS.symm];exact sx
    have sr:upd Y J (.lst B.reverse) J=some (.lst B.reverse):=G1
    have sJ:=TW _ _ hc
    have hh:=hra.mono TW
    have sC:Paired (a2i (upd Y J (.lst B.reverse))) B t:=Paired.mapP sm fun _ _ z=>z.mono TW
    have ss:Paired (a2i (upd Y J (.lst B.reverse))) os oo:=Paired.mapP hW fun _ _ z=>z.mono TW
    generalize upd Y J (.lst B.reverse)=H6 at s6 si sy sA sr sJ hh sC ss⊢
    refine⟨_,rfl,c,_,_,_,rfl,rfl,SqT.of sJ,rfl,?_⟩
    obtain⟨x1,zt,sT⟩:=hh.kind
    have z0:atI (V.str (R4 x.2.2)::x1::zt) 0=some (.str (R4 x.2.2)):=R3 (j:=0) rfl
    obtain⟨k,rfl⟩:∃k',k=k'+1:=⟨k - 1,by rw[List.length_cons]at sN;omega⟩
    rw[List.length_cons]at sN
    have zB:B.length=t.length:=AE sm
    have zz:os.length=oo.length:=AE hW
    have hH:∀y∈t,∃rs,(y.1,rs)∈ps/\y.2.2∈rs:=fun y hy=>sO y (AK _ hy)
    refine⟨_,rfl,r,_,_,_,rfl,rfl,SqT.of sT,z0,(by show 4<=sizeLine;decide),fun c4 zn=>?_⟩
    have s7:G5 H6 (upd H6 c4 (.tup [.str "set",.str "take",.str "say",.str "need"])):=(G5.refl H6).new zn
    refine⟨c4,_,rfl,.inr (SqT.of G1),rfl,rfl,_,rfl,?_⟩
    rw[if_neg (by decide),inW]
    generalize upd H6 c4 (.tup [.str "set",.str "take",.str "say",.str "need"])=Z at s7⊢
    have sG:=s6.trans s7
    have hR:=s7 _ _ si
    have hf:=s7 _ _ sy
    have hn:=s7 _ _ sA
    have ht:=s7 _ _ sr
    have hM:Paired (a2i Z) B t:=Paired.mapP sC fun _ _ z=>z.mono s7.tups
    have hN:Paired (a2i Z) os oo:=Paired.mapP ss fun _ _ z=>z.mono s7.tups
    by_cases hw:Y4 x.2.2=true
    ·rw[hw]
     refine B9 ?_
     refine⟨_,rfl,.inl ⟨rfl,_,SqL.of hn⟩,_,rfl,wk,_,_,rfl,rfl,hn,J8 (by omega),?_⟩
     have TK:=J9.lst (ys:=os++[.ref c]) hn
     have hj:upd Z wk (.lst (os++[.ref c])) D=some (.dK (F7 b)):=by rw[G8 sD];exact hf
     have he:upd Z wk (.lst (os++[.ref c])) J=some (.lst B.reverse):=by rw[G8 hS];exact ht
     refine⟨⟨t,b,oo++[x],B,os++[.ref c],k,_,_,rfl,sG.put sP,by rw[G8 sQ];exact hR,hj,he,Paired.mapP hM fun _ _ z=>z.mono TK,G1,Paired.snoc (Paired.mapP hN fun _ _ z=>z.mono TK) ⟨c,r,rfl,TK _ _ (s7 _ _ sJ),hh.mono (s7.tups.trans TK)⟩,?_,by omega,by rw[List.length_append,List.length_singleton];omega,se,sb,hH⟩,?_⟩
     ·rw[<-hB]
      show _=lay ps (k+1) (x::t) b oo
      rw[lay,if_pos hw]
     ·show muX ps D J _ < muX ps D J Y
      rw[a7A hj he,hY,BO]
      omega
    ·have zl:Y4 x.2.2=false:=by simpa using hw
     rw[zl]
     refine F8 ?_
     have same:lay ps (k+1) (x::t) b oo=lay ps k t b oo->(∃(O:List Pl)(b:List Str)(oo:List Pl)(us os:List V)(k:Nat)(v6 v7:Option V),[some (V.ref a),some (.str root),some (.ref rd),some (.ref D),some (.ref J),some (.ref wk),some (.ref c),some (.ref r)]=[some (.ref a),some (.str root),some (.ref rd),some (.ref D),some (.ref J),some (.ref wk),v6,v7]/\G5 H Z/\Z rd=some (.dK (a0f qs []))/\Z D=some (.dK (F7 b))/\Z J=some (.lst us.reverse)/\Paired (a2i Z) us O/\Z wk=some (.lst os)/\Paired (a2i Z) os oo/\lay ps k O b oo=lay ps 960 (J3 root (R0 ps root)) [root] []/\O.length+a0k ps b<=k/\oo.length+k<=960/\b.Nodup/\(∀x∈b,x∈ps.map (·.1))/\∀x∈O,∃rs,(x.1,rs)∈ps/\x.2.2∈rs)/\muX ps D J Z < muX ps D J Y:=fun e=>by
      refine⟨⟨t,b,oo,B,os,k,_,_,rfl,sG,hR,hf,ht,hM,hn,hN,by rw[<-e];exact hB,by omega,by omega,se,sb,hH⟩,?_⟩
      rw[a7A hf ht,hY,BO]
      omega
     by_cases hL:R4 x.2.2="bring"
     ·obtain⟨m,hZ,em⟩:∃m hZ,x.2.2= .bring m hZ:=by
       cases e:x.2.2 with
       | bring m hZ=>exact⟨m,hZ,rfl⟩
       | _=>rw[e]at hL;simp only[R4]at hL;exact absurd hL (by decide +kernel)
      rw[em]at hh
      obtain⟨t',sK,_⟩:=hh
      have hA:=s7 _ _ sK
      refine⟨_,rfl,r,_,_,_,rfl,rfl,SqT.of hA,rfl,rfl,_,rfl,D8 ?_⟩
      refine⟨_,rfl,r,_,_,_,rfl,rfl,SqT.of hA,rfl,_,rfl,D,_,rfl,E3.k (k:=Sum.inr m) hf,?_⟩
      refine⟨_,rfl,?_⟩
      rw[a6P]
      by_cases hs:m∈b
      ·rw[decide_eq_true hs]
       refine F8 ?_
       refine same ?_
       rw[lay,if_neg hw,em]
       show(if m∈b then _ else _)=_
       rw[if_pos hs]
      ·rw[AZ hs]
       refine B9 ?_
       obtain⟨zA,sY,zk⟩:=sO x AM
       have sR:m∈ps.map (·.1):=by
        refine zj x.1 (AS (f:=(·.1)) sY) m ?_
        unfold k1
        rw[O6 U.nd sY]
        exact a3t em zk
       obtain⟨rm,hO⟩:=a0q sR
       have sV:a1m b m=b++[m]:=by unfold a1m;rw[if_neg hs]
       have zy:=a2B hO hs
       refine⟨_,rfl,_,rfl,r,_,_,_,rfl,rfl,SqT.of hA,rfl,D,_,rfl,a0z.k (k:=Sum.inr m) hf (J8 (by rw[a3M];omega)),?_⟩
       rw[a5T,sV]
       have TB:J9 Z (upd Z D (.dK (F7 (b++[m])))):=J9.dK hf
       have s8:G5 H (upd Z D (.dK (F7 (b++[m])))):=sG.put za
       have hj:upd Z D (.dK (F7 (b++[m]))) D=some (.dK (F7 (b++[m]))):=G1
       have hF:upd Z D (.dK (F7 (b++[m]))) rd=some (.dK (a0f qs [])):=by rw[G8 zp];exact hR
       have he:upd Z D (.dK (F7 (b++[m]))) J=some (.lst B.reverse):=by rw[G8 sF.symm];exact ht
       have sw:upd Z D (.dK (F7 (b++[m]))) wk=some (.lst os):=by rw[G8 sD.symm];exact hn
       have so:Paired (a2i (upd Z D (.dK (F7 (b++[m]))))) B t:=Paired.mapP hM fun _ _ z=>z.mono TB
       have sl:Paired (a2i (upd Z D (.dK (F7 (b++[m]))))) os oo:=Paired.mapP hN fun _ _ z=>z.mono TB
       have hU:=TB _ _ hA
       generalize upd Z D (.dK (F7 (b++[m])))=H8 at TB s8 hj hF he sw so sl hU⊢
       obtain⟨um,wm,zd,zq,zc⟩:=sk hF hO
       have sU:=U.rows _ hO
       refine⟨_,rfl,.inl ⟨rfl,_,SqL.of he⟩,_,rfl,r,_,_,_,rfl,rfl,SqT.of hU,rfl,_,rfl,_,rfl,r,_,_,_,rfl,rfl,SqT.of hU,rfl,rd,_,rfl,zd,?_⟩
       refine⟨m,um,wm,rm,rfl,s8 _ _ zq,zc.mono s8.tups,sU,fun l hC H9 s9 gl zg sq=>?_⟩
       have sn:=s9 _ _ he
       have zx:hC.length=rm.length:=by rw[AE sq,Z3]
       refine⟨J,l,_,_,rfl,rfl,sn,zg,Nat.le_of_lt (szK (by rw[BO,BO];omega)),?_⟩
       rw[<-List.reverse_append]
       have sH:=J9.lst (ys:=(hC++B).reverse) sn
       have hP:upd H9 J (.lst (hC++B).reverse) D=some (.dK (F7 (b++[m]))):=by rw[G8 sF];exact s9 _ _ hj
       have hE:upd H9 J (.lst (hC++B).reverse) J=some (.lst (hC++B).reverse):=G1
       refine⟨⟨J3 m rm++t,b++[m],oo,hC++B,os,k,_,_,rfl,(s8.trans s9).put sv,by rw[G8 hrw];exact s9 _ _ hF,hP,hE,a3s (Paired.mapP sq fun _ _ z=>z.mono sH) (Paired.mapP so fun _ _ z=>z.mono (s9.tups.trans sH)),by rw[G8 hS.symm];exact s9 _ _ sw,Paired.mapP sl fun _ _ z=>z.mono (s9.tups.trans sH),?_,?_,by omega,?_,fun y hy=>?_,fun y hy=>?_⟩,?_⟩
       ·rw[<-hB]
        show _=lay ps (k+1) (x::t) b oo
        rw[lay,if_neg hw,em]
        show _=(if m∈b then _ else _)
        rw[if_neg hs,O6 U.nd hO]
       ·rw[List.length_append,Z3]
        omega
       ·exact AR.mpr ⟨se,by simp,fun y hy z hz w=>hs (by rw[<-AC.mp hz,<-w];exact hy)⟩
       ·rcases AL.mp hy with z | z
        ·exact sb y z
        ·rw[AC.mp z];exact sR
       ·rcases AL.mp hy with z | z
        ·obtain⟨e1,e2⟩:=O9.mp z
         exact⟨rm,by rw[e1];exact hO,AD e2⟩
        ·exact hH y z
       ·show muX ps D J _ < muX ps D J Y
        rw[a7A hP hE,hY,BO,List.length_append]
        omega
     ·refine⟨_,rfl,r,_,_,_,rfl,rfl,SqT.of (s7 _ _ sT),z0,rfl,_,rfl,U9 hL ?_⟩
      refine F8 ?_
      refine same ?_
      rw[lay,if_neg hw,a3g hL]
  ·rintro σ Y Q1 Q2 hQ ⟨v,e,b,hb,hq⟩
   exact⟨v,e,b,hb,hQ _ _ hq⟩
theorem Dfs.inside{k:Str->List Str}{N:List Str}(D:∀n∈N,∀m∈k n,m∈N){V l R:List Str}(h:Dfs k V l R):(∀x∈V,x∈N)->(∀x∈l,x∈N)->∀x∈R,x∈N:=by
 induction h with
 | nil=>exact fun j _ x hx=>j x hx
 | old _ _ q=>exact fun j hl=>q j fun x hx=>hl x (AK _ hx)
 | new _ _ q=>
  intro j hl
  have B:=hl _ AM
  refine q (fun x hx=>?_) fun x hx=>?_
  ·rcases AL.mp hx with z | z
   ·exact j x z
   ·rw[AC.mp z];exact B
  ·rcases AL.mp hx with z | z
   ·exact D _ B x z
   ·exact hl x (AK _ z)
noncomputable def b3u (ps:List Pt):Prop:=∀pt∈ps,∀r∈pt.2,¬R4 r="ask"
theorem a4Q(ps:List Pt):b3u (quiet ps):=fun pt j r q=>by
 obtain⟨B,_,e⟩:=a1G j
 rw[e]at q
 have:=(List.mem_filter.mp q).2
 intro z
 unfold a0I at this
 rw[decide_eq_true z]at this
 cases this
noncomputable def b2g:Sp:=fun vs H Q _=>∃(a:Addr)(ps:List Pt)(n:Str),vs=[.ref a,.str n]/\D6 H a ps/\a0E ps/\a0l ps/\b3u ps/\n∈ps.map (·.1)/\∀H',G5 H H'->Q .non H'
theorem b0G(T:Txt K mg):L2.Cl P w K mg base 4 "refuse_asks" ["parts","root"] b2g:=by
 have B:=b3r (P:=P) (w:=w) (base:=base) T
 refine Cl.of T.d_refuse_asks B6 (fun vs H Q E h=>?_) (fun _ _ _ _ _ _ us hl=>by obtain⟨a,b,rfl⟩:=a4j hl;rfl) (fun fa hE A outer s H vs Q E hr h=>?_)
 ·obtain⟨a,ps,n,rfl,_⟩:=h
  rfl
 ·obtain⟨a,ps,root,rfl,hh,D,hc,hs,F,q⟩:=h
  have hu:=B2 hr
  have hF:=D.hi
  obtain⟨o,vs,ha,ho,hq⟩:=id hh
  refine⟨_,(G3 (J1 (i:=2) B6.nd rfl (Or.inl rfl) (Y6 (a3l rfl) (by rfl) T.n_dict boot_dict (G0 (pv 0) G4)))
   (G6 (Y9 AN rfl (D1 (W0 B hr (by rfl) (G0 (pv 0) (G0 (pv 1) G4)))) (I9 (i:=3) B6.nd rfl (Or.inl rfl))
    (G6 (Y9 AN rfl (a5Q (by rfl) T.n_enumerate (G0 (Z4 hu (pv 2) (pv 3) (fun _ _=>rfl)) G4)) (E7 rfl (J0 (I9 (i:=4) B6.nd rfl (Or.inl rfl)) (J0 (I9 (i:=5) B6.nd rfl (Or.inl rfl)) Y2)))
     (G6 (U8 (J6 O3 (I0 J5 (pv 5) G2 (fun _ _=>rfl)) R7 (U0 _))
      (G6 b2G) R8))))))),?_⟩
  obtain⟨O,g1,g2,g3⟩:=a1t (K:=K) hq
  have hG:O.length=ps.length:=by
   have:=congrArg List.length g2
   simpa using this
  refine⟨_,rfl,a,o,vs,O,rfl,ha,ho,g1,(by omega),fun Z hC=>?_⟩
  have s1:G5 H (upd H Z (.dK (a0f O []))):=(G5.refl H).new hC
  have G:upd H Z (.dK (a0f O [])) Z=some (.dK (a0f O [])):=G1
  generalize upd H Z (.dK (a0f O []))=H1 at s1 G⊢
  refine⟨_,rfl,_,rfl,a,ps,root,rfl,s1.partsF hh,D,hc,F,fun p R H2 s2 hp hD=>?_⟩
  have hR:=hD.inside hc (fun x hx=>by simp at hx) (fun x hx=>by rw[AC.mp hx];exact F)
  have hj:=s1.trans s2
  have he:=s2 _ _ G
  refine⟨p,rfl,⟨_,SqT.of hp⟩,F9 (K:=K) (a:=p) (xs:=R.map V.str) (fun i σ U=>∃(v3 v4 v5:Option V),σ=[some (.ref a),some (.str root),some (.ref Z),v3,v4,v5]/\G5 H2 U)
   ⟨_,_,_,rfl,G5.refl H2⟩ (fun i σ U _⟨_,_,_,_,Y⟩=>SqT.of (Y _ _ hp)) ?_ ?_⟩
  ·rintro i y σ U hy ⟨v3,v4,v5,rfl,Y⟩
   rw[List.getElem?_map]at hy
   cases hn:R[i]? with
   | none=>rw[hn]at hy;cases hy
   | some n=>
    rw[hn]at hy
    cases hy
    obtain⟨rs,hm⟩:=a0q (hR n (AD hn))
    obtain⟨u,ws,hk,hf,ht⟩:=g3 n rs hm
    have hg:=E3.k (k:=Sum.inr n) (Y _ _ he)
    rw[a2T O [] n (.ref u) (by rw[g2];exact D.nd) (.inl hk)]at hg
    have hb:=hj.trans Y
    show M3 3 _ _ _ _
    refine⟨_,rfl,_,rfl,Z,_,rfl,hg,?_⟩
    refine⟨u,rfl,⟨_,SqT.of (hb _ _ hf)⟩,a8n (K:=K) (a:=u) (xs:=ws) (fun j σ J=>∃(v4 v5:Option V),σ=[some (.ref a),some (.str root),some (.ref Z),some (.str n),v4,v5]/\G5 U J)
     ⟨_,_,rfl,G5.refl U⟩ (fun j σ J _⟨_,_,_,s4⟩=>SqT.of ((hb.trans s4) _ _ hf)) ?_ ?_⟩
    ·rintro j z pp σ J hz ⟨w4,w5,rfl,s4⟩ hw
     obtain⟨rw,hrw,r,er,hra⟩:=Paired.get? ht hz
     subst er
     have s5:G5 J (upd J pp (.tup [.int (j:Int),.ref r])):=(G5.refl J).new hw
     obtain⟨x1,hB,hA⟩:=(hra.mono ((hb.trans s4).trans s5).tups).kind
     have z0:atI (V.str (R4 rw)::x1::hB) 0=some (.str (R4 rw)):=R3 (j:=0) rfl
     refine⟨pp,_,rfl,SqT.of G1,rfl,_,_,rfl,_,_,rfl,rfl,?_⟩
     refine⟨_,rfl,r,_,_,_,rfl,rfl,SqT.of hA,z0,rfl,_,rfl,U9 (hs _ hm rw (AD hrw)) ?_⟩
     exact⟨_,_,rfl,s4.trans s5⟩
    ·rintro σ J ⟨w4,w5,rfl,s4⟩
     exact⟨_,_,_,rfl,Y.trans s4⟩
  ·rintro σ U ⟨v3,v4,v5,rfl,Y⟩
   exact q U (hj.trans Y)
theorem b0L{ps:List Pt}{m:Str}{r:Rw}(h:r∈R0 ps m):(m,R0 ps m)∈ps:=by
 unfold R0 at h⊢
 cases e:ps.find? fun p=>decide (p.1=m)with
 | none=>rw[e]at h;simp at h
 | some pt=>
  have h1:=List.mem_of_find?_eq_some e
  have h2:pt.1=m:=of_decide_eq_true (List.find?_some (p:=fun p:Pt=>decide (p.1=m)) e)
  show(m,pt.2)∈ps
  rw[<-h2]
  exact h1
theorem a4l{ps:List Pt}{C:Pl->Prop}(D:∀m,∀x∈J3 m (R0 ps m),C x):∀(k:Nat)(j:List Pl)(b:List Str)(o:List Pl),(∀x∈j,C x)->(∀x∈o,C x/\Y4 x.2.2=true)->∀x∈lay ps k j b o,C x/\Y4 x.2.2=true
 | 0,j,b,o,_,B=>B
 | _+1,[],b,o,_,B=>B
 | k+1,y::t,b,o,ht,B=>by
  have q:∀x∈t,C x:=fun x hx=>ht x (AK _ hx)
  rw[lay]
  by_cases hw:Y4 y.2.2=true
  ·rw[if_pos hw]
   refine a4l D k t b _ q fun x hx=>?_
   rcases AL.mp hx with z | z
   ·exact B x z
   ·rw[AC.mp z];exact⟨ht y AM,hw⟩
  ·rw[if_neg hw]
   cases a0a y.2.2 with
   | none=>exact a4l D k t b o q B
   | some m=>
    show∀x∈(if m∈b then lay ps k t b o else lay ps k (J3 m (R0 ps m)++t) (b++[m]) o),_
    by_cases F:m∈b
    ·rw[if_pos F];exact a4l D k t b o q B
    ·rw[if_neg F]
     refine a4l D k _ _ o (fun x hx=>?_) B
     rcases AL.mp hx with z | z
     ·exact D m x z
     ·exact q x z
theorem a2d{ps:List Pt}:∀(k:Nat)(j:List Pl)(b:List Str)(o:List Pl),(lay ps k j b o).length<=o.length+k
 | 0,j,b,o=>AI _
 | _+1,[],b,o=>Nat.le_add_right _ _
 | k+1,y::t,b,o=>by
  rw[lay]
  by_cases hw:Y4 y.2.2=true
  ·rw[if_pos hw]
   have:=a2d (ps:=ps) k t b (o++[y])
   rw[List.length_append,List.length_singleton]at this
   omega
  ·rw[if_neg hw]
   cases a0a y.2.2 with
   | none=>
    have:=a2d (ps:=ps) k t b o
    exact Nat.le_trans this (by omega)
   | some m=>
    show(if m∈b then lay ps k t b o else lay ps k (J3 m (R0 ps m)++t) (b++[m]) o).length<=_
    by_cases q:m∈b
    ·rw[if_pos q]
     have:=a2d (ps:=ps) k t b o
     omega
    ·rw[if_neg q]
     have:=a2d (ps:=ps) k (J3 m (R0 ps m)++t) (b++[m]) o
     omega
noncomputable def b0n (ps:List Pt) (x:Pl):Prop:=∃rs,(x.1,rs)∈ps/\rs[x.2.1]?=some x.2.2
theorem b3c{ps:List Pt}{k:Nat}{n:Str}:∀x∈lay ps k (J3 n (R0 ps n)) [n] [],b0n ps x/\Y4 x.2.2=true:=by
 have j:∀m,∀x∈J3 m (R0 ps m),b0n ps x:=fun m x hx=>by
  obtain⟨B,q⟩:=O9.mp hx
  exact⟨R0 ps m,by rw[B];exact b0L (AD q),q⟩
 exact a4l j k _ _ _ (j n) fun x hx=>by simp at hx
theorem a8t{K:W.Frag}{a:Addr}{xs:List V}{g:TG}{tt:TT}{te:TE}{Q:Hp->Prop}{σ:L2.St}{H:Hp}{D:Addr}(B:Nat->L2.St->Hp->Prop)(h0:B 0 σ (upd H D (.lst [])))
  (hl:∀i j H2,B i j H2->SqL K H2 a xs)
  (hs:∀i x j H2,xs[i]?=some x->B i j H2->g x j H2 fun q U=>tt q U fun b F=>
   if b=true then te q F fun y G=>∃ys,G D=some (.lst ys)/\ys.length < sizeLine/\B (i+1) q (upd G D (.lst (ys++[y])))else B (i+1) q F)
  (hd:∀j H2,B xs.length j H2->Q H2):
  ∃W:Nat->Nat->L2.St->Hp->Prop,(∃m,W 0 m σ (upd H D (.lst [])))/\∀i m j H2,W i m j H2->
   ((Itl K a).stop i H2/\Q H2)\/((Itl K a).go i H2/\∃N:L2.St->Hp->Prop,(∀J H',N J H'->∃Y,Y < m/\W (i+1) Y J H')/\∀x O,(Itl K a).yld i H2 x O->g x j O fun q U=>tt q U fun b F=>
    if b=true then te q F fun y G=>∃ys,G D=some (.lst ys)/\ys.length < sizeLine/\N q (upd G D (.lst (ys++[y])))else N q F):=by
 refine a5f xs.length B h0 (fun i j H2 hi p=>?_) fun j H2 p=>⟨⟨xs,hl _ _ _ p,AI _⟩,hd _ _ p⟩
 have e:=AQ hi
 refine⟨⟨xs,_,hl _ _ _ p,e⟩,fun x O Z=>?_⟩
 obtain⟨rfl,hx⟩:=Z
 exact hs i x j O (hx xs (hl _ _ _ p)) p
noncomputable def a9W (NN:Str->Str->Str) (H:Hp) (v:V) (x:Pl):Prop:=∃r,v= .ref r/\RV (NN x.1) H r x.2.2
noncomputable def a9u (H:Hp) (v:V) (x:Pl):Prop:=∃c,v= .ref c/\H c=some (.tup [.str x.1,.int (x.2.1:Int)])
theorem a9W.mono{NN:Str->Str->Str}{H H':Hp}(s:J9 H H'){v:V}{x:Pl}(h:a9W NN H v x):a9W NN H' v x:=by
 obtain⟨r,e,h⟩:=h
 exact⟨r,e,h.mono s⟩
theorem a9u.mono{H H':Hp}(s:J9 H H'){v:V}{x:Pl}(h:a9u H v x):a9u H' v x:=by
 obtain⟨r,e,h⟩:=h
 exact⟨r,e,s _ _ h⟩
noncomputable def a5l (ps:List Pt):Prop:=∀x,b0n ps x->Y4 x.2.2=true->a0t (fun y=>(x.1,y)∈a5a (G7 ps)) x.2.2
noncomputable def b6r:Sp:=fun vs H Q _=>∃(a:Addr)(ps:List Pt)(n:Str),vs=[.ref a,.str n]/\D6 H a ps/\a0E ps/\D9 (G7 ps)/\(∀k∈Z5 (G7 ps),k.2.length<=100)/\a0l ps/\b3u ps/\n∈ps.map (·.1)/\a5l ps/\
 ∀(t rt ot:Addr)(rv ov:List V)(NN:Str->Str->Str)(ts:List Tr)(H':Hp),G5 H H'->H' t=some (.tup [.ref rt,.ref ot])->H' rt=some (.tup rv)->H' ot=some (.tup ov)->ts.map (fun t=>(t.1,t.2.1))=Z5 (G7 ps)->a7v ((Z5 (G7 ps)).map (·.2)) ts->(∀m,IsN (G7 ps) ts m (NN m))->Paired (a9W NN H') rv (lay ps 960 (J3 n (R0 ps n)) [n] [])->Paired (a9u H') ov (lay ps 960 (J3 n (R0 ps n)) [n] [])->Q (.ref t) H'
theorem b4O(T:Txt K mg):L2.Cl P w K mg base 6 "flat" ["parts","root"] b6r:=by
 have J:=b0G (P:=P) (w:=w) (base:=base) T
 have F:=b1F (P:=P) (w:=w) (base:=base) T
 have B:=b4P (P:=P) (w:=w) (base:=base) T
 have G:=b4p (P:=P) (w:=w) (base:=base) T
 refine Cl.of T.d_flat a3y (fun vs H Q E h=>?_) (fun _ _ _ _ _ _ us hl=>by obtain⟨a,b,rfl⟩:=a4j hl;rfl) (fun fa hR A outer s H vs Q E hr h=>?_)
 ·obtain⟨a,ps,n,rfl,_⟩:=h
  rfl
 ·obtain⟨a,ps,n,rfl,ho,ha,hG,hk,ht,hK,hn,hU,q⟩:=h
  refine⟨_,(G3 (Y1 (W0 J hr (by rfl) (G0 (pv 0) (G0 (pv 1) G4))))
   (G3 (J1 (i:=2) a3y.nd rfl (Or.inr rfl) (W0 F hr (by rfl) (G0 (pv 0) G4)))
   (G3 (J1 (i:=3) a3y.nd rfl (Or.inl rfl) (W0 B hr (by rfl) (G0 (pv 0) (G0 (pv 1) G4))))
   (G3 (a5d (j:=4) (M:=["part","number","row","news"]) (ρ:=[none,none,none,some 2]) (J4 a5C) ["parts","root","news","work","rows","origins"] ⟨rfl,by decide +kernel,by decide +kernel,by decide +kernel,rfl,by decide +kernel,by decide +kernel⟩ a3y.nd rfl (Or.inl rfl) (a0Z (pv 3)) (fun _ _ _ _ _ _=>(a2N (K:=K) (n:=3) rfl rfl (J0 (I9 (i:=0) (show(["part","number","row","news"]:List Str).Nodup by decide +kernel) rfl (Or.inl rfl)) (J0 (I9 (i:=1) (show(["part","number","row","news"]:List Str).Nodup by decide +kernel) rfl (Or.inl rfl)) (J0 (I9 (i:=2) (show(["part","number","row","news"]:List Str).Nodup by decide +kernel) rfl (Or.inl rfl)) Y2))))) (fun _ _ _ _ _ _=>a1W) (fun _ _ _ _ _ _=>(W0 G hr (by rfl) (G0 (pv 0) (G0 (pv 2) (G0 (pv 3) G4))))))
   (G3 (a5d (j:=5) (M:=["part","number","row"]) (ρ:=[none,none,none]) (J4 a5C) ["parts","root","news","work","rows","origins"] ⟨rfl,by decide +kernel,by decide +kernel,by decide +kernel,rfl,by decide +kernel,by decide +kernel⟩ a3y.nd rfl (Or.inl rfl) (a0Z (pv 3)) (fun _ _ _ _ _ _=>(a2N (K:=K) (n:=3) rfl rfl (J0 (I9 (i:=0) (show(["part","number","row"]:List Str).Nodup by decide +kernel) rfl (Or.inl rfl)) (J0 (I9 (i:=1) (show(["part","number","row"]:List Str).Nodup by decide +kernel) rfl (Or.inl rfl)) (J0 (I9 (i:=2) (show(["part","number","row"]:List Str).Nodup by decide +kernel) rfl (Or.inl rfl)) Y2))))) (fun _ _ _ _ _ _=>a1W) (fun _ _ _ _ _ _=>(R1 (G0 (pv 0) (G0 (pv 1) G4)))))
   (G6 (R9 (R1 (G0 (Y6 E2 (by rfl) T.n_tuple boot_tuple (G0 (pv 4) G4)) (G0 (Y6 E2 (by rfl) T.n_tuple boot_tuple (G0 (pv 5) G4)) G4)))))))))),?_⟩
  refine⟨_,rfl,_,rfl,a,ps,n,rfl,ho,ha,ht,hK,hn,fun H1 s1=>?_⟩
  refine⟨_,rfl,a,ps,rfl,s1.partsF ho,ha,hG,hk,fun f fkv ts H2 s2 hf hN hI hs=>?_⟩
  have hF:=s1.trans s2
  refine⟨_,rfl,_,rfl,a,ps,n,rfl,hF.partsF ho,ha,ht,hn,fun wk us H3 s3 hh hg=>?_⟩
  have hp:=b3c (ps:=ps) (k:=960) (n:=n)
  have hj:=a2d (ps:=ps) 960 (J3 n (R0 ps n)) [n] []
  generalize hL:lay ps 960 (J3 n (R0 ps n)) [n] []=L at hg hp hj
  have hC:us.length=L.length:=AE hg
  simp only[List.length_nil,Nat.zero_add]at hj
  have hO:=hF.trans s3
  have hJ:=s3 _ _ hf
  have hA:∀m y,(m,y)∈a5a (G7 ps)->b1Q fkv m (fun y=>a8H (W2 fkv (U1 (m,y)))) y/\∃p,Mk (R6 (G7 ps)) (Z6 (G7 ps)) (m,y) p/\(p,a8H (W2 fkv (U1 (m,y))))∈a0J (R6 (G7 ps)) ts:=fun m y hy=>by
   obtain⟨p,nm,h1,h2,h3⟩:=hs _ hy
   refine⟨?_,p,h1,?_⟩
   ·show W2 fkv (U1 (m,y))=some (.str (a8H (W2 fkv (U1 (m,y)))))
    rw[h3]
    rfl
   ·rw[h3]
    exact h2
  refine⟨_,rfl,wk,rfl,⟨_,SqL.of hh⟩,fun D hD=>?_⟩
  refine a8t (K:=K) (a:=wk) (xs:=us) (fun i σ H4=>∃(v0 v1 v2:Option V)(rv:List V),σ=[v0,v1,v2,some (.ref f)]/\G5 H3 H4/\H4 D=some (.lst rv)/\Paired (a9W (fun m y=>a8H (W2 fkv (U1 (m,y)))) H4) rv (L.take i)) ⟨_,_,_,[],rfl,(G5.refl H3).new hD,G1,by rw[List.take_zero];exact .nil⟩ (fun i hH H4⟨_,_,_,_,_,Z,_⟩=>SqL.of (Z _ _ hh)) ?_ ?_
  ·rintro i x σ H4 hx ⟨v0,v1,v2,rv,rfl,Z,hm,he⟩
   obtain⟨y,hy,c,r,ex,hc,hra⟩:=Paired.get? hg hx
   subst ex
   have hS:rv.length<=960:=by rw[AE he,AY];omega
   obtain⟨hE,hM⟩:=hp y (AD hy)
   refine⟨c,_,rfl,SqT.of (Z _ _ hc),rfl,_,_,rfl,_,_,rfl,_,_,rfl,rfl,?_⟩
   refine⟨_,rfl,_,rfl,_,rfl,y.1,r,y.2.2,f,fkv,fun z=>a8H (W2 fkv (U1 (y.1,z))),rfl,hra.mono Z.tups,Z _ _ hJ,(hU y hE hM).imp fun z hz=>(hA y.1 z hz).1,fun r' U Y hu=>?_⟩
   have O:=Y _ _ hm
   have TL:=J9.lst (ys:=rv++[.ref r']) O
   refine⟨rv,O,J8 (by omega),_,_,_,rv++[.ref r'],rfl,(Z.trans Y).put hD,G1,?_⟩
   rw[J2 hy]
   exact Paired.snoc (Paired.mapP he fun _ _ z=>z.mono (Y.tups.trans TL)) ⟨r',rfl,hu.mono TL⟩
  ·rintro σ H4 ⟨v0,v1,v2,rv,rfl,Z,hm,he⟩
   rw[hC,AW]at he
   refine⟨_,rfl,wk,rfl,⟨_,SqL.of (Z _ _ hh)⟩,fun D2 hw=>?_⟩
   refine a8t (K:=K) (a:=wk) (xs:=us) (fun i σ U=>∃(v0 v1 v2:Option V)(ov:List V),σ=[v0,v1,v2]/\G5 H4 U/\U D2=some (.lst ov)/\Paired (a9u U) ov (L.take i)) ⟨_,_,_,[],rfl,(G5.refl H4).new hw,G1,by rw[List.take_zero];exact .nil⟩ (fun i hH U⟨_,_,_,_,_,Y,_⟩=>SqL.of ((Z.trans Y) _ _ hh)) ?_ ?_
   ·rintro i x σ U hx ⟨v0,v1,v2,ov,rfl,Y,O,hb⟩
    obtain⟨y,hy,c,r,ex,hc,hra⟩:=Paired.get? hg hx
    subst ex
    have hQ:ov.length<=960:=by rw[AE hb,AY];omega
    refine⟨c,_,rfl,SqT.of ((Z.trans Y) _ _ hc),rfl,_,_,rfl,_,_,rfl,_,_,rfl,rfl,?_⟩
    refine⟨_,rfl,_,rfl,O4,fun e ge=>?_⟩
    have s6:G5 U (upd U e (.tup [.str y.1,.int (y.2.1:Int)])):=(G5.refl U).new ge
    have hB:=s6 _ _ O
    have TL:=J9.lst (ys:=ov++[.ref e]) hB
    refine⟨ov,hB,J8 (by omega),_,_,_,ov++[.ref e],rfl,(Y.trans s6).put hw,G1,?_⟩
    rw[J2 hy]
    exact Paired.snoc (Paired.mapP hb fun _ _ z=>z.mono (s6.tups.trans TL)) ⟨e,rfl,TL _ _ G1⟩
   ·rintro σ U ⟨v0,v1,v2,ov,rfl,Y,O,hb⟩
    rw[hC,AW]at hb
    refine⟨_,rfl,D,_,rfl,.inl ⟨SqL.of (Y _ _ hm),fun rt hP=>?_⟩⟩
    have s6:G5 U (upd U rt (.tup rv)):=(G5.refl U).new hP
    refine⟨_,rfl,D2,_,rfl,.inl ⟨SqL.of (s6 _ _ O),fun ot hq=>?_⟩⟩
    have s7:=s6.new (o:= .tup ov) hq
    refine⟨O4,fun t gt=>?_⟩
    have s8:=s7.new (o:= .tup [.ref rt,.ref ot]) gt
    exact q t rt ot rv ov _ ts _ (hO.trans (Z.trans (Y.trans s8))) G1 (U2 (U2 G1 hq) gt) (U2 G1 gt) hN hI (fun m y hy=>(hA m y hy).2) (by rw[hL];exact Paired.mapP he fun _ _ z=>z.mono (Y.trans s8).tups) (by rw[hL];exact Paired.mapP hb fun _ _ z=>z.mono s8.tups)
theorem a6m{j:Scope}{N:List Str}{sc:Scope}{M:List Str}{ρ:List (Option Nat)}(kind:sc.kind= .function)(only:∀y∈sc.names,y.2≠ .cell/\y.2≠ .free)(own:∀y∈sc.names,y.2= .local->sc.names.lookup y.1=some .local)(len:ρ.length=M.length)(ren:∀o∈ρ,o=none)(nd:M.Nodup):a2Q j N sc M ρ where
 kind:=kind
 nocell:=fun y q=>(only y q).1
 own:=own
 fre:=fun y q h=>absurd h (only y q).2
 len:=len
 ren:=fun p B=>by
  have h1:=ren p.1 (List.of_mem_zip B).1
  rw[h1]
 nd:=nd
theorem b4b{X:Cx}{K:W.Frag}(h:X.K=K){tg l:Expr}{tl:TE}(hl:PE X l tl):PI X tg l (b6Z K tl):=h▸D1 hl
theorem b3E(r:Rw):decide (V.str (R4 r)=V.str "ask")= !a0I r:=by
 unfold a0I
 by_cases h:R4 r="ask"
 ·rw[h];rfl
 ·rw[AZ h,AZ (fun z=>h (V.str.inj z))];rfl
noncomputable def a7I (ps:List Pt):Prop:=∀pt∈ps,∀r∈pt.2,Y4 r=true\/R4 r="bring" \/R4 r="give"
noncomputable def a3R (H:Hp) (e:Addr) (s:Str×Nat):Prop:=H e=some (.lst [.str s.1,.int (s.2:Int)])
noncomputable def M5 (ps:List Pt) (st:List (Str×Nat)):List Pl:=st.flatMap fun s=>(J3 s.1 (R0 ps s.1)).drop s.2
theorem a5q{n:Str}{rs:List Rw}{k:Nat}{rw:Rw}(h:rs[k]?=some rw):(J3 n rs)[k]?=some (n,k,rw):=by
 unfold J3
 rw[List.getElem?_map,List.getElem?_zipIdx,h]
 simp
theorem b1s{ps:List Pt}{n:Str}{k:Nat}{st:List (Str×Nat)}{rw:Rw}(h:(R0 ps n)[k]?=some rw):M5 ps ((n,k)::st)=(n,k,rw)::M5 ps ((n,k+1)::st):=by
 have h1:=a5q (n:=n) h
 have h2:=(List.getElem?_eq_some_iff.mp h1).1
 have j:=(List.getElem?_eq_some_iff.mp h1).2
 show(J3 n (R0 ps n)).drop k++M5 ps st=(n,k,rw)::((J3 n (R0 ps n)).drop (k+1)++M5 ps st)
 rw[List.drop_eq_getElem_cons h2,j]
 rfl
theorem b2H{ps:List Pt}{n:Str}{k:Nat}{st:List (Str×Nat)}(h:k=(R0 ps n).length):M5 ps ((n,k)::st)=M5 ps st:=by
 show(J3 n (R0 ps n)).drop k++M5 ps st=_
 rw[List.drop_eq_nil_of_le (by rw[Z3,h];exact AI _),List.nil_append]
theorem a3S{r:Rw}(h:Y4 r=true):¬R4 r="bring"/\¬R4 r="give":=by
 cases r with
 | set o ts=>simp only[R4];exact⟨by decide +kernel,by decide +kernel⟩
 | take o=>simp only[R4];exact⟨by decide +kernel,by decide +kernel⟩
 | say ts w=>simp only[R4];exact⟨by decide +kernel,by decide +kernel⟩
 | need ts=>simp only[R4];exact⟨by decide +kernel,by decide +kernel⟩
 | _=>cases h
theorem a0h{α β:Type}{F G:α->β->Prop}:∀{xs:List α}{ys:List β},Paired F xs ys->(∀x y,x∈xs->F x y->G x y)->Paired G xs ys
 | _,_,.nil,_=> .nil
 | _,_,.cons h r,f=> .cons (f _ _ AM h) (a0h r fun x y hx=>f x y (AK _ hx))
theorem a3R.put{H:Hp}{e:Addr}{x:Addr}{o:HO}{s:Str×Nat}(h:a3R H x s)(j:x≠e):a3R (upd H e o) x s:=by
 unfold a3R
 rw[G8 j]
 exact h
theorem a6M{c A B:Prop}[Decidable c](j:¬c)(h:A):if(!decide c)=true then A else B:=by
 rw[AZ j]
 exact B9 h
noncomputable def b7N (K:W.Frag) (te:TE) (tl th tk:TO):TE:=fun σ H Q=>te σ H fun x H1=>tl σ H1 fun _ H2=>th σ H2 fun _ H3=>tk σ H3 fun k H4=>∃a xs i,x= .ref a/\(∀H5,G5 H4 H5->SqT K H5 a xs)/\k=some i/\0 < i/\∀p ys H5,G5 H4 H5->(∀H6,G5 H5 H6->SqT K H6 p ys)->(∀y∈ys,y∈xs)->Q (.ref p) H5
theorem a9M{X:Cx}{e:Expr}{te:TE}{lo hi:Option Expr}{st:Expr}{tl th tk:TO}{pos p2:Pos}(he:PE X e te)(hl:PO X lo tl)(hu:PO X hi th)(hk:PO X (some st) tk):PE X (.Subscript e (.Slice lo hi (some st) p2) pos) (b7N X.K te tl th tk):=by
 unfold PE PO at*
 intro pins s σ H Q I h
 refine Subscript_ (thn (he pins s σ H _ I h) fun v s1⟨x,H1,I1,r1,q1⟩=>?_)
 refine wpAny_Slice (thn (hl pins s1 σ H1 _ I1 q1) fun vl s2⟨l,H2,I2,pl,q2⟩=>thn (hu pins s2 σ H2 _ I2 q2) fun Z s3⟨u,H3,I3,pu,q3⟩=>thn (hk pins s3 σ H3 _ I3 q3) fun vk D⟨k,F,I4,pk,a,xs,i,ex,G,ek,h0,q⟩=>?_)
 subst ex ek
 have hx:=G F (G5.refl F)
 obtain rfl:v=Value.ref a:=r1
 have O:Inv X pins σ F {D with heap:=D.heap.push {cls:= .type "slice",data:= .fields #[vl,Z,vk]}}:=I4.kept (t':=D.toks) fun b ob q=>AF _ q
 obtain⟨B,r,ht,hz⟩:=O.tuple hx
 have ha:=r.length
 have hsz:B.toArray.size=B.length:=List.size_toArray ..
 show wpAny (model X.prog X.w) X.A (subscriptTail e (.Slice lo hi (some st) p2) (.ref a) (.ref D.heap.objs.size)) (EP X pins σ Q) X.xe {D with heap:=D.heap.push {cls:= .type "slice",data:= .fields #[vl,Z,vk]}}
 refine tail_any (ops:=[.ref a,.ref D.heap.objs.size]) ht.typeIs PyProof.Rows.slot_tuple_getitem.lookup ?_ (by with_unfolding_all rfl)
 refine a3x ht (Heap.IsSliceOf.new ..) pl pu pk h0 (by omega) ⟨.ref a,F,O,rfl,q a xs F (G5.refl F) G fun y U=>U⟩ fun J hb=>?_
 obtain⟨ys,h1,h2⟩:=a6R r J
 have e:(J.filterMap fun j=>B.toArray[j]?)=J.filterMap fun j=>B[j]?:=by simp
 rw[e]
 have Y:ys.length<=xs.length:=by
  have h3:=List.length_filterMap_le (fun j=>xs[j]?) J
  rw[<-h2]at h3
  omega
 refine⟨.ref _,_,O.laid (t':=D.toks) (o:= .tup ys) (fun b ob q=>AF _ q) (AI _) ⟨Nat.le_trans Y hz,_,h1,IsTup.new _ _⟩,rfl,q _ ys _ ((G5.refl F).new (O.hok.fresh (AI _))) (fun H6 s6=>SqT.of (s6 _ _ G1)) fun y U=>?_⟩
 rw[h2]at U
 obtain⟨j,_,hj⟩:=List.mem_filterMap.mp U
 exact AD hj
theorem b3f{q owns:List Str}{pr:Pr}{rw:Rw}(f:a1U q owns pr rw)(B:∀y∈a0V pr,y∈owns):a0t (fun y=>y∈owns) rw\/R4 rw="bring" \/R4 rw="give":=by
 cases pr with
 | own k n xs=>
  rcases f with⟨_,e⟩ | ⟨_,ts,e,_,h⟩
  ·subst e;exact .inl (B n (by simp[a0V]))
  ·subst e;exact .inl ⟨B n (by simp[a0V]),fun d hd y e=>h d hd y e⟩
 | bring j ps xs=>obtain⟨nm,_,e⟩:=f;subst e;exact .inr (.inl rfl)
 | give o g xs=>rw[show rw= .give o g from f];exact .inr (.inr rfl)
 | ask j xs=>obtain⟨nm,w,_,e,h⟩:=f;subst e;exact .inl fun y e=>h y e
 | sum k xs=>
  rcases f with⟨_,ts,e,_,h⟩ | ⟨_,ts,w,e,_,h,h2⟩
  ·subst e;exact .inl fun d hd y e=>h d hd y e
  ·subst e;exact .inl ⟨fun d hd y e=>h d hd y e,fun y e=>h2 y e⟩
theorem O7.uses{Y:List Pp}{O b1 U:Int}{ps:List Pt}(d:O7 Y O b1 U ps){pt:Pt}(q:pt∈ps){rw:Rw}(hrw:rw∈pt.2):a0t (fun y=>(pt.1,y)∈a5a (G7 ps)) rw\/R4 rw="bring" \/R4 rw="give":=by
 obtain⟨i,hi⟩:=AT q
 obtain⟨pp,Z,ok,_,hf⟩:=d.at hi
 obtain⟨j,J⟩:=AT hrw
 obtain⟨pr,D,G⟩:=Paired.get?' hf J
 have B:=AD D
 rcases b3f G (fun y F=>ok.md.mem_iff.mp (BH.mpr ⟨pr,B,F⟩))with h | h
 ·refine .inl (h.imp fun y F=>?_)
  have h2:=(a3X hf).mem_iff.mpr (ok.md.mem_iff.mpr F)
  unfold a5a
  rw[a3C,a5z,a9w]
  rcases AL.mp h2 with w | w
  ·exact AX _ (BH.mpr ⟨_,q,AO.mpr ⟨y,w,rfl⟩⟩)
  ·exact AV _ (BH.mpr ⟨_,q,AO.mpr ⟨y,w,rfl⟩⟩)
 ·exact .inr h
theorem a4v{ps:List Pt}{pt:Pt}(h:pt∈quiet ps){r:Rw}(q:r∈pt.2):∃rs,(pt.1,rs)∈ps/\r∈rs/\¬R4 r="ask":=by
 obtain⟨rs,B,e⟩:=a1G h
 have j:=q
 rw[e]at j
 exact⟨rs,B,(List.mem_filter.mp j).1,a4Q ps pt h r q⟩
theorem b1h{C:Str->Prop}{r:Rw}(h:a0t C r)(j:¬R4 r="ask"):Y4 r=true:=by
 cases r with
 | ask p w=>exact absurd rfl j
 | set o ts=>rfl
 | take o=>rfl
 | say ts w=>rfl
 | need ts=>rfl
 | _=>exact h.elim
theorem O7.kindsQ{J:List Pp}{B F D:Int}{ps:List Pt}(d:O7 J B F D ps):a7I (quiet ps):=fun pt q r U=>by
 obtain⟨Y,G,j,O⟩:=a4v q U
 rcases d.uses G j with h | h
 ·exact .inl (b1h h O)
 ·exact .inr h
theorem O7.usesQ{J:List Pp}{B F D:Int}{ps:List Pt}(d:O7 J B F D ps):a5l (quiet ps):=fun x hx hw=>by
 obtain⟨O,h1,h2⟩:=hx
 obtain⟨q,G,j,U⟩:=a4v h1 (AD h2)
 rw[a9U]
 rcases d.uses G j with h | h | h
 ·exact h
 ·exact absurd h (a3S hw).1
 ·exact absurd h (a3S hw).2
theorem O7.closedQ{Y:List Pp}{G O J:Int}{ps:List Pt}(d:O7 Y G O J ps):a0l (quiet ps):=fun n B m D=>by
 have hf:=d.fit
 obtain⟨U,j⟩:=a0q B
 obtain⟨q,F,e⟩:=a1G j
 rw[a4W]at B⊢
 refine d.closedB n B m ?_
 unfold k1 at D⊢
 rw[O6 (a6D hf).nd j,show U=q.filter a0I from e]at D
 rw[O6 hf.nd F]
 obtain⟨rw,h1,h2⟩:=(a0L "bring" m _).mp D
 exact(a0L "bring" m _).mpr ⟨rw,(List.mem_filter.mp h1).1,h2⟩
noncomputable def TmX (H:Hp) (v:V) (d:Int×Th):Prop:=∃p,v= .ref p/\H p=some (.tup [.int d.1,thV d.2])
noncomputable def a7r (H:Hp) (t:Addr) (ts:List (Int×Th)):Prop:=∃vs,H t=some (.tup vs)/\Paired (TmX H) vs ts
theorem TmX.mono{H H':Hp}(s:J9 H H'){v:V}{d:Int×Th}(h:TmX H v d):TmX H' v d:=by
 obtain⟨p,e,h⟩:=h
 exact⟨p,e,s _ _ h⟩
theorem a7r.mono{H H':Hp}(s:J9 H H'){t:Addr}{ts:List (Int×Th)}(h:a7r H t ts):a7r H' t ts:=by
 obtain⟨j,h1,h2⟩:=h
 exact⟨j,s _ _ h1,Paired.mapP h2 fun _ _ z=>z.mono s⟩
noncomputable def a5c (H:Hp) (r:Addr):Rw->Prop
 | .bring p ps=>∃t,H r=some (.tup [.str "bring",.str p,.ref t])/\a0B H t ps
 | .give o g=>H r=some (.tup [.str "give",.str o,.str g])
 | .set o ts=>∃t,H r=some (.tup [.str "set",.str o,.ref t])/\a7r H t ts
 | .take o=>H r=some (.tup [.str "take",.str o])
 | .say ts w=>∃t,H r=some (.tup [.str "say",.ref t,a1h w])/\a7r H t ts
 | .need ts=>∃t,H r=some (.tup [.str "need",.ref t])/\a7r H t ts
 | .ask p w=>H r=some (.tup [.str "ask",.str p,a1h w])
 | .part p=>H r=some (.tup [.str "part",.str p])
 | .doo p=>H r=some (.tup [.str "do",.str p])
theorem a5c.mono{H H':Hp}(s:J9 H H'){r:Addr}{rw:Rw}(h:a5c H r rw):a5c H' r rw:=by
 cases rw with
 | bring p ps=>obtain⟨t,h1,h2⟩:=h;exact⟨t,s _ _ h1,h2.mono s⟩
 | set o ts=>obtain⟨t,h1,h2⟩:=h;exact⟨t,s _ _ h1,h2.mono s⟩
 | say ts w=>obtain⟨t,h1,h2⟩:=h;exact⟨t,s _ _ h1,h2.mono s⟩
 | need ts=>obtain⟨t,h1,h2⟩:=h;exact⟨t,s _ _ h1,h2.mono s⟩
 | _=>exact s _ _ h
theorem a7P{H:Hp}{t:Addr}{ts:List (Int×Th)}(h:a1a H t ts):a7r H t ts:=by
 obtain⟨⟨q,h1,h2⟩,_⟩:=h
 refine⟨q,h1,Paired.mapP h2 fun _ _ z=>?_⟩
 obtain⟨p,e,j,_⟩:=z
 exact⟨p,e,j⟩
theorem b6P{H:Hp}{r:Addr}{rw:Rw}(h:a0U H r rw):a5c H r rw:=by
 cases rw with
 | set o ts=>obtain⟨t,h1,h2⟩:=h;exact⟨t,h1,a7P h2⟩
 | say ts w=>obtain⟨t,h1,h2⟩:=h;exact⟨t,h1,a7P h2⟩
 | need ts=>obtain⟨t,h1,h2⟩:=h;exact⟨t,h1,a7P h2⟩
 | _=>exact h
theorem a5c.kind{H:Hp}{r:Addr}{rw:Rw}(h:a5c H r rw):∃x rest,H r=some (.tup (.str (R4 rw)::x::rest)):=by
 cases rw with
 | bring p ps=>obtain⟨t,h1,_⟩:=h;exact⟨_,_,h1⟩
 | set o ts=>obtain⟨t,h1,_⟩:=h;exact⟨_,_,h1⟩
 | say ts w=>obtain⟨t,h1,_⟩:=h;exact⟨_,_,h1⟩
 | need ts=>obtain⟨t,h1,_⟩:=h;exact⟨_,_,h1⟩
 | _=>exact⟨_,_,h⟩
theorem b3B{H:Hp}{r:Addr}{rw:Rw}(h:a5c H r rw):(∃o rest,(R4 rw="set" \/R4 rw="take")/\E1 rw=some o/\H r=some (.tup (.str (R4 rw):: .str o::rest)))\/(¬(R4 rw="set" \/R4 rw="take")/\E1 rw=none):=by
 cases rw with
 | set o ts=>obtain⟨t,h1,_⟩:=h;exact .inl ⟨o,_,.inl rfl,rfl,h1⟩
 | take o=>exact .inl ⟨o,_,.inr rfl,rfl,h⟩
 | _=>exact .inr ⟨by simp only[R4];decide +kernel,rfl⟩
theorem b0X{H:Hp}{r:Addr}{rw:Rw}(h:a5c H r rw):(∃o g,F4 rw=some (o,g)/\H r=some (.tup [.str "give",.str o,.str g]))\/(¬R4 rw="give"/\F4 rw=none):=by
 cases rw with
 | give o g=>exact .inl ⟨o,g,rfl,h⟩
 | _=>exact .inr ⟨by simp only[R4];decide +kernel,rfl⟩
theorem a9o{H:Hp}{r:Addr}{rw:Rw}(h:a5c H r rw):(∃m ps t,rw= .bring m ps/\H r=some (.tup [.str "bring",.str m,.ref t])/\a0B H t ps)\/(¬R4 rw="bring"/\E6 rw=[]):=by
 cases rw with
 | bring m ps=>obtain⟨t,h1,h2⟩:=h;exact .inl ⟨m,ps,t,rfl,h1,h2⟩
 | _=>exact .inr ⟨by simp only[R4];decide +kernel,rfl⟩
noncomputable def b0e (H:Hp) (v:V) (rw:Rw):Prop:=∃r,v= .ref r/\a5c H r rw
noncomputable abbrev b2y (H:Hp):List V->List Rw->Prop:=Paired (b0e H)
theorem b0e.mono{H H':Hp}(s:J9 H H'){v:V}{rw:Rw}(h:b0e H v rw):b0e H' v rw:=by
 obtain⟨r,e,h⟩:=h
 exact⟨r,e,h.mono s⟩
noncomputable def a6t (H:Hp) (v:V) (p:Pt):Prop:=∃t u vs,v= .ref t/\H t=some (.tup [.str p.1,.ref u])/\H u=some (.tup vs)/\b2y H vs p.2
theorem a6t.mono{H H':Hp}(s:J9 H H'){v:V}{p:Pt}(h:a6t H v p):a6t H' v p:=by
 obtain⟨t,u,j,e,h1,h2,q⟩:=h
 exact⟨t,u,j,e,s _ _ h1,s _ _ h2,Paired.mapP q fun _ _ z=>z.mono s⟩
noncomputable def a3u (H:Hp) (a:Addr) (ps:List Pt):Prop:=∃o vs,H a=some (.frz o (.tup vs))/\o.dict=none/\Paired (a6t H) vs ps
theorem G5.partsX{H H':Hp}(s:G5 H H'){a:Addr}{ps:List Pt}(h:a3u H a ps):a3u H' a ps:=by
 obtain⟨o,j,h1,h2,q⟩:=h
 exact⟨o,j,s _ _ h1,h2,Paired.mapP q fun _ _ z=>z.mono s.tups⟩
theorem b5a{H:Hp}{a:Addr}{ps:List Pt}(h:D6 H a ps):a3u H a ps:=by
 obtain⟨o,F,h1,h2,B⟩:=h
 refine⟨o,F,h1,h2,Paired.mapP B fun _ _ z=>?_⟩
 obtain⟨t,u,G,e,k1,j,D⟩:=z
 refine⟨t,u,G,e,k1,j,Paired.mapP D fun _ _ y=>?_⟩
 obtain⟨r,J,q⟩:=y
 exact⟨r,J,b6P q⟩
structure a5Y(ps:List Pt):Prop where
 nd:(ps.map (·.1)).Nodup
 hi:ps.length<=24
 rows:∀pt∈ps,pt.2.length<=960
theorem b7m{ps:List Pt}(h:a0E ps):a5Y ps:=⟨h.nd,h.hi,fun pt j=>Nat.le_trans (h.rows pt j) (by decide)⟩
noncomputable def a7D (N:Str->Str):Th->Th
 | .num n=> .num n
 | .nam y=> .nam (N y)
noncomputable def a1A (N:Str->Str) (ts:List (Int×Th)):List (Int×Th):=ts.map fun d=>(d.1,a7D N d.2)
noncomputable def a3c (N:Str->Str):Rw->Rw
 | .set o ts=> .set (N o) (a1A N ts)
 | .take o=> .take (N o)
 | .say ts w=> .say (a1A N ts) (w.map N)
 | .need ts=> .need (a1A N ts)
 | r=>r
theorem a7x{N:Str->Str}{H:Hp}{t:Addr}{ts:List (Int×Th)}(h:a8w N H t ts):a7r H t (a1A N ts):=by
 obtain⟨B,h1,h2⟩:=h
 refine⟨B,h1,?_⟩
 clear h1
 induction h2 with
 | nil=>exact .nil
 | @cons v d F j hv _ D=>
  refine .cons ?_ D
  obtain⟨p,e,q⟩:=hv
  refine⟨p,e,?_⟩
  rw[q]
  obtain⟨sg,th⟩:=d
  cases th<;>rfl
theorem b8k{N:Str->Str}{H:Hp}{r:Addr}{rw:Rw}(h:RV N H r rw)(hw:Y4 rw=true):a5c H r (a3c N rw):=by
 cases rw with
 | set o ts=>obtain⟨t,h1,h2⟩:=h;exact⟨t,h1,a7x h2⟩
 | take o=>exact h
 | say ts w=>obtain⟨t,h1,h2⟩:=h;exact⟨t,h1,a7x h2⟩
 | need ts=>obtain⟨t,h1,h2⟩:=h;exact⟨t,h1,a7x h2⟩
 | _=>cases hw
theorem a8g{N:Str->Str}{rw:Rw}:Y4 (a3c N rw)=Y4 rw:=by cases rw<;>rfl
theorem a7h{N:Str->Str}{rw:Rw}(hw:Y4 rw=true):E1 (a3c N rw)=(E1 rw).map N:=by
 cases rw with
 | set o ts=>rfl
 | take o=>rfl
 | say ts w=>rfl
 | need ts=>rfl
 | _=>cases hw
noncomputable def b0M:Sp:=fun vs H Q _=>∃(a:Addr)(ps:List Pt),vs=[.ref a]/\a3u H a ps/\a5Y ps/\D9 (G7 ps)/\∀(d:Addr)(kvs:List (List Key×V))(H':Hp),G5 H H'->H d=none->H' d=some (.dT kvs)->FI (R6 (G7 ps)) (Z6 (G7 ps)) H' kvs->(∀x∈(Z6 (G7 ps)).map (·.1),(W2 kvs (U1 x)).isSome=true)->Q (.ref d) H'
noncomputable def b2f:Sp:=fun vs H Q _=>∃(a:Addr)(ps:List Pt),vs=[.ref a]/\a3u H a ps/\a5Y ps/\D9 (G7 ps)/\∀(d:Addr)(kvs:List (List Key×V))(H':Hp),G5 H H'->H d=none->H' d=some (.dT kvs)->Paired (a3G H') kvs (R6 (G7 ps))->Q (.ref d) H'
theorem b2v(T:Txt K mg):L2.Cl P w K mg base 1 "_law_made" ["_law_parts_here"] b2f:=by
 refine Cl.of T.d_law_made a0H (fun vs H Q E h=>?_) (fun _ _ _ _ _ _ us hl=>by obtain⟨a,rfl⟩:=a3N hl;rfl) (fun fa hH A outer s H vs Q E hr h=>?_)
 ·obtain⟨a,ps,rfl,_⟩:=h
  rfl
 ·obtain⟨a,ps,rfl,hE,hc,he,q⟩:=h
  have hu:=B2 hr
  have hI:=he.len
  obtain⟨o,vs,ha,ho,hp⟩:=id hE
  have hn:∀{H2:Hp},G5 H H2->SqT K H2 a vs:=fun s2=> .inl (.inr ⟨o,s2 _ _ ha⟩)
  have hD:vs.length=ps.length:=AE hp
  have hJ:=hc.hi
  refine⟨_,(G3 (J1 (i:=1) a0H.nd rfl (Or.inl rfl) M8)
   (G3 (Y9 AN rfl (D1 (pv 0)) (E7 rfl (J0 (I9 (i:=2) a0H.nd rfl (Or.inl rfl)) (J0 (I9 (i:=3) a0H.nd rfl (Or.inl rfl)) Y2)))
    (G6 (Y9 AN rfl (a0y (by rfl) T.n_range (G0 (U5 R5 (by rfl) T.n_len PySem.boot_len (G0 (pv 3) G4)) G4)) (I9 (i:=4) a0H.nd rfl (Or.inl rfl))
     (G6 (U8 (PW.pt (b3Q (J6 O3 (I0 J5 (I0 J5 (pv 3) (pv 4) (fun _ _=>rfl)) G2 (fun _ _=>rfl)) R7 (U0 _)) (a9X (J6 O3 (I0 J5 (I0 J5 (pv 3) (pv 4) (fun _ _=>rfl)) G2 (fun _ _=>rfl)) R7 (U0 _)))))
      (G6 (E5 hu (pv 1) (R1 (G0 (pv 2) (G0 (I0 J5 (I0 J5 (pv 3) (pv 4) (fun _ _=>rfl)) G2 (fun _ _=>rfl)) G4))) (R1 (G0 (pv 2) (G0 (pv 4) G4))) rfl)) R8)))))
   (G6 (R9 (pv 1))))),?_⟩
  intro d gd
  have s1:G5 H (upd H d (.dT [])):=(G5.refl H).new gd
  refine⟨_,rfl,a,rfl,⟨_,hn s1⟩,F9 (K:=K) (a:=a) (xs:=vs) (fun i σ H2=>∃(kvs:List (List Key×V))(v3 v4 v5:Option V),σ=[some (.ref a),some (.ref d),v3,v4,v5]/\G5 H H2/\H2 d=some (.dT kvs)/\Paired (a3G H2) kvs (R6 (G7 (ps.take i))))
   ⟨[],none,none,none,rfl,s1,G1,by rw[List.take_zero];exact .nil⟩ (fun i σ H2 _⟨_,_,_,_,_,s3,_⟩=>hn s3) ?_ ?_⟩
  ·rintro i y σ H2 hy ⟨kvs,v3,v4,v5,rfl,s3,hf,hk⟩
   obtain⟨pt,hg,t,u,ws,ey,ht,hw,hA⟩:=Paired.get? hp hy
   subst ey
   have hF:ws.length=pt.2.length:=AE hA
   have hG:=hc.rows _ (AD hg)
   refine⟨t,_,rfl,SqT.of (s3 _ _ ht),rfl,_,_,rfl,_,_,rfl,rfl,?_⟩
   refine⟨_,rfl,u,_,rfl,.inr (SqT.of (s3 _ _ hw)),_,rfl,(by omega),(by omega),a0g (fun j σ J=>∃(kvs:List (List Key×V))(v5:Option V),σ=[some (.ref a),some (.ref d),some (.str pt.1),some (.ref u),v5]/\G5 H J/\J d=some (.dT kvs)/\Paired (a3G J) kvs (R6 (G7 (ps.take i)++J3 pt.1 (pt.2.take j))))
    ⟨kvs,_,rfl,s3,hf,by rw[List.take_zero];show Paired _ kvs (R6 (G7 (ps.take i)++[]));rw[BB];exact hk⟩ ?_ ?_⟩
   ·rintro j σ J hj ⟨B,w5,rfl,s4,Z,D⟩
    rw[Int.zero_add]
    have hC:j < pt.2.length:=by omega
    obtain⟨rr,hrw⟩:∃rr,pt.2[j]?=some rr:=⟨pt.2[j],by simp[hC]⟩
    obtain⟨rest,hm⟩:=a9p hg hrw
    have hX:=a6c (ps:=ps) (i:=i) hrw
    obtain⟨v,hv,r,er,hra⟩:=Paired.get?' hA hrw
    subst er
    have hb:=hra.mono s4.tups
    have O:=s4 _ _ hw
    have G:atI ws (j:Int)=some (.ref r):=R3 hv
    generalize G7 (ps.take i)++J3 pt.1 (pt.2.take j)=Xs at D hm hX
    have hL:Xs.length<=960:=by
     have h1:=congrArg List.length hm
     rw[List.length_append]at h1
     omega
    have hK:B.length<=960:=by
     rw[AE D]
     have:=a3Q Xs
     omega
    have hz:G7 ps=(Xs++[(pt.1,j,rr)])++rest:=by rw[hm,BD];rfl
    rcases b3B hb with⟨o,rs,U,hh,F⟩ | ⟨U,hh⟩
    ·have Y:R6 [(pt.1,j,rr)]=[((pt.1,o),(pt.1,j))]:=by simp[R6,hh]
     have hx:U1 (pt.1,o)∉B.map (·.1):=a2Y (fun _ _ h=>h.1) D (fun z=>by
      have h1:=a2g he.mkNodup (by rw[hz,a1Y])
      rw[a1Y,Y,AG]at h1
      exact(AR.mp h1).2.2 _ z _ (AC.mpr rfl) rfl)
     have z1:∀kd:Str,atI (V.str kd::V.str o::rs) 1=some (.str o):=fun kd=>R3 (j:=1) rfl
     have z0:∀kd:Str,atI (V.str kd::V.str o::rs) 0=some (.str kd):=fun kd=>R3 (j:=0) rfl
     rcases U with e | e<;>rw[e]at F
     refine⟨_,rfl,_,rfl,u,_,_,_,rfl,rfl,SqT.of O,G,r,_,_,_,rfl,rfl,SqT.of F,z0 _,rfl,_,rfl,D8 (B9 ?_)⟩
     rotate_left
     refine⟨_,rfl,_,rfl,u,_,_,_,rfl,rfl,SqT.of O,G,r,_,_,_,rfl,rfl,SqT.of F,z0 _,rfl,_,rfl,U9 (show¬("take":Str)="set" by decide +kernel) ?_⟩
     refine⟨_,rfl,_,rfl,u,_,_,_,rfl,rfl,SqT.of O,G,r,_,_,_,rfl,rfl,SqT.of F,z0 _,rfl,_,rfl,D8 ?_⟩
     all_goals
      refine⟨_,rfl,_,rfl,O4,fun e1 ge=>?_⟩
      have s5:G5 J (upd J e1 (.tup [.str pt.1,.int (j:Int)])):=(G5.refl J).new ge
      refine⟨_,rfl,_,rfl,_,rfl,_,rfl,u,_,_,_,rfl,rfl,SqT.of (s5 _ _ O),G,r,_,_,_,rfl,rfl,SqT.of (s5 _ _ F),z1 _,O4,fun c gc=>?_⟩
      have s6:G5 J (upd (upd J e1 (.tup [.str pt.1,.int (j:Int)])) c (.tup [.str pt.1,.str o])):=s5.new gc
      have hB:upd (upd J e1 (.tup [.str pt.1,.int (j:Int)])) c (.tup [.str pt.1,.str o]) c=some (.tup ((U1 (pt.1,o)).map kV)):=G1
      have hq:upd (upd J e1 (.tup [.str pt.1,.int (j:Int)])) c (.tup [.str pt.1,.str o]) e1=some (.tup [.str pt.1,.int (j:Int)]):=U2 G1 gc
      generalize upd (upd J e1 (.tup [.str pt.1,.int (j:Int)])) c (.tup [.str pt.1,.str o])=H6 at s6 hB hq⊢
      have hs:=s6 _ _ Z
      refine⟨d,_,rfl,a0z.t (k:=U1 (pt.1,o)) hs hB (szK (by omega)),?_⟩
      rw[a0o hx]
      have TD:=J9.dT (kvs':=B++[(U1 (pt.1,o),.ref e1)]) hs
      have T7:=s6.tups.trans TD
      refine⟨B++[(U1 (pt.1,o),.ref e1)],_,rfl,(s4.trans s6).put gd,G1,?_⟩
      rw[hX,a1Y,Y]
      exact Paired.snoc (Paired.mapP D fun _ _ z=>z.mono T7) ⟨rfl,e1,rfl,TD _ _ hq⟩
    ·have Y:R6 [(pt.1,j,rr)]=[]:=by simp[R6,hh]
     obtain⟨x1,rs,F⟩:=hb.kind
     have z0:atI (V.str (R4 rr)::x1::rs) 0=some (.str (R4 rr)):=R3 (j:=0) rfl
     refine⟨_,rfl,_,rfl,u,_,_,_,rfl,rfl,SqT.of O,G,r,_,_,_,rfl,rfl,SqT.of F,z0,rfl,_,rfl,U9 (fun z=>U (.inl z)) ?_⟩
     refine⟨_,rfl,_,rfl,u,_,_,_,rfl,rfl,SqT.of O,G,r,_,_,_,rfl,rfl,SqT.of F,z0,rfl,_,rfl,U9 (fun z=>U (.inr z)) ?_⟩
     exact⟨B,_,rfl,s4,Z,by rw[hX,a1Y,Y,BB];exact D⟩
   ·rintro σ J ⟨B,w5,rfl,s4,Z,D⟩
    rw[hF,Int.toNat_natCast,AW,<-a2e,<-J2 hg]at D
    exact⟨B,_,_,_,rfl,s4,Z,D⟩
  ·rintro σ H2 ⟨kvs,v3,v4,v5,rfl,s3,hf,hk⟩
   rw[hD,AW]at hk
   exact⟨_,rfl,q d kvs H2 s3 gd hf hk⟩
theorem a9H(T:Txt K mg):L2.Cl P w K mg base 2 "_law_makers" ["_law_parts_here"] b0M:=by
 have hn:=b2v (P:=P) (w:=w) (base:=base) T
 refine Cl.of T.d_law_makers W3 (fun vs H Q E h=>?_) (fun _ _ _ _ _ _ us hl=>by obtain⟨a,rfl⟩:=a3N hl;rfl) (fun fa zW A outer s H vs Q E hr h=>?_)
 ·obtain⟨a,ps,rfl,_⟩:=h
  rfl
 ·obtain⟨a,ps,rfl,zm,so,D,q⟩:=h
  have hu:=B2 hr
  have qa:=D.len
  have hG:=D.gk
  obtain⟨o,vs,ha,ho,sU⟩:=id zm
  have sZ:vs.length=ps.length:=AE sU
  have qc:=so.hi
  refine⟨_,(G3 (J1 (i:=1) W3.nd rfl (Or.inl rfl) (W0 hn hr (by rfl) (G0 (pv 0) G4)))
   (G3 (J1 (i:=2) W3.nd rfl (Or.inl rfl) M8)
   (G3 (J1 (i:=3) W3.nd rfl (Or.inl rfl) M8)
   (G3 (Y9 AN rfl (D1 (pv 0)) (E7 rfl (J0 (I9 (i:=4) W3.nd rfl (Or.inl rfl)) (J0 (I9 (i:=5) W3.nd rfl (Or.inl rfl)) Y2)))
    (G6 (Y9 AN rfl (D1 (pv 5)) (I9 (i:=6) W3.nd rfl (Or.inl rfl))
     (G6 (U8 (J6 O3 (I0 J5 (pv 6) G2 (fun _ _=>rfl)) R7 (U0 _))
      (G6 (E5 hu (pv 2) (R1 (G0 (pv 4) (G0 (I0 J5 (pv 6) G2 (fun _ _=>rfl)) G4))) (R1 (G0 (pv 4) (G0 (I0 J5 (pv 6) G2 (fun _ _=>rfl)) G4))) rfl)) R8)))))
   (G3 (Y9 AN rfl (D1 (pv 0)) (E7 rfl (J0 (I9 (i:=4) W3.nd rfl (Or.inl rfl)) (J0 (I9 (i:=5) W3.nd rfl (Or.inl rfl)) Y2)))
    (G6 (Y9 AN rfl (D1 (pv 5)) (I9 (i:=6) W3.nd rfl (Or.inl rfl))
     (G6 (U8 (J6 O3 (I0 J5 (pv 6) G2 (fun _ _=>rfl)) R7 (U0 _))
      (G6 (Y9 AN rfl (D1 (I0 J5 (pv 6) G2 (fun _ _=>rfl))) (E7 rfl (J0 (I9 (i:=7) W3.nd rfl (Or.inl rfl)) (J0 (I9 (i:=8) W3.nd rfl (Or.inl rfl)) Y2)))
       (G6 (E5 hu (pv 3) (R1 (G0 (pv 4) (G0 (pv 8) G4))) (Z4 hu (pv 2) (R1 (G0 (I0 J5 (pv 6) G2 (fun _ _=>rfl)) (G0 (pv 7) G4))) (fun _ _=>rfl)) rfl)))) R8)))))
   (G3 (Y9 AN rfl (a8S (pv 3)) (I9 (i:=9) W3.nd rfl (Or.inl rfl))
    (G3 (J1 (i:=10) W3.nd rfl (Or.inl rfl) (pv 9))
    (G3 (a1P AN (a0R (b3m hu (pv 10) (pv 3)))
     (G6 (J1 (i:=10) W3.nd rfl (Or.inl rfl) (Z4 hu (pv 3) (pv 10) (fun _ _=>rfl)))))
    (G6 (E5 hu (pv 1) (pv 9) (Z4 hu (pv 1) (pv 10) (fun _ _=>rfl)) rfl)))))
   (G6 (R9 (pv 1))))))))),?_⟩
  refine⟨_,rfl,a,ps,rfl,zm,so,D,fun f hM H0 s0 gf zB hU=>?_⟩
  have zv:=s0 _ _ ha
  have sb:Paired (a6t H0) vs ps:=Paired.mapP sU fun _ _ z=>z.mono s0.tups
  intro g gg
  intro d gd
  have si:g≠d:=fun z=>by rw[z]at gg;rw[<-z,G1]at gd;cases gd
  have sy:∀{H2:Hp},G5 H0 H2->SqT K H2 a vs:=fun s2=> .inl (.inr ⟨o,s2 _ _ zv⟩)
  have zr:H0 d=none:=by
   rw[<-G8 (H:=H0) (o:= .dT []) si.symm]
   exact gd
  have s1:G5 H0 (upd (upd H0 g (.dT [])) d (.dT [])):=((G5.refl H0).new gg).new gd
  refine⟨_,rfl,a,rfl,⟨_,sy s1⟩,F9 (K:=K) (a:=a) (xs:=vs) (fun i σ H2=>∃(Y:List (List Key×V))(v4 v5 v6:Option V),σ=[some (.ref a),some (.ref f),some (.ref g),some (.ref d),v4,v5,v6,none,none,none,none]/\G5 H0 H2/\H2 g=some (.dT Y)/\H2 d=some (.dT [])/\Paired (a9N H2) Y (W5 (G7 (ps.take i))))
   ⟨[],none,none,none,rfl,s1,by rw[G8 si,G1],G1,by rw[List.take_zero];exact .nil⟩ (fun i σ H2 _⟨_,_,_,_,_,s3,_⟩=>sy s3) ?_ ?_⟩
  ·rintro i y σ H2 hy ⟨Y,v4,v5,v6,rfl,s3,zF,hF,hY⟩
   obtain⟨pt,hT,t,u,ws,ey,ht,hR,se⟩:=Paired.get? sb hy
   subst ey
   have sI:ws.length=pt.2.length:=AE se
   refine⟨t,_,rfl,SqT.of (s3 _ _ ht),rfl,_,_,rfl,_,_,rfl,rfl,?_⟩
   refine⟨_,rfl,u,rfl,⟨_,SqT.of (s3 _ _ hR)⟩,F9 (K:=K) (a:=u) (xs:=ws) (fun j σ G=>∃(Y:List (List Key×V))(v6:Option V),σ=[some (.ref a),some (.ref f),some (.ref g),some (.ref d),some (.str pt.1),some (.ref u),v6,none,none,none,none]/\G5 H0 G/\G g=some (.dT Y)/\G d=some (.dT [])/\Paired (a9N G) Y (W5 (G7 (ps.take i)++J3 pt.1 (pt.2.take j))))
    ⟨Y,_,rfl,s3,zF,hF,by rw[List.take_zero];show Paired _ Y (W5 (G7 (ps.take i)++[]));rw[BB];exact hY⟩ (fun j σ G _⟨_,_,_,s4,_⟩=>SqT.of (s4 _ _ hR)) ?_ ?_⟩
   ·rintro j y σ G sx ⟨Z,w6,rfl,s4,hJ,U,O⟩
    obtain⟨rr,hrw,r,er,hra⟩:=Paired.get? se sx
    subst er
    obtain⟨rest,hf⟩:=a9p hT hrw
    have hX:=a6c (ps:=ps) (i:=i) hrw
    have hs:=hra.mono s4.tups
    generalize G7 (ps.take i)++J3 pt.1 (pt.2.take j)=Xs at O hf hX
    have qf:Z.length<=960:=by
     rw[AE O]
     have:=b0D Xs
     have h1:=congrArg List.length hf
     rw[List.length_append]at h1
     omega
    have hZ:G7 ps=(Xs++[(pt.1,j,rr)])++rest:=by rw[hf,BD];rfl
    show M3 6 _ _ _ _
    rcases b0X hs with⟨o,gv,sG,hP⟩ | ⟨zC,sG⟩
    ·have sn:W5 [(pt.1,j,rr)]=[((pt.1,gv),o)]:=by simp[W5,sG]
     have hV:U1 (pt.1,gv)∉Z.map (·.1):=a2Y (fun _ _ h=>h.1) O (fun z=>by
      have h1:=a2g D.gk (by rw[hZ,a1S])
      rw[a1S,sn,AG]at h1
      exact(AR.mp h1).2.2 _ z _ (AC.mpr rfl) rfl)
     refine⟨_,rfl,r,_,_,_,rfl,rfl,SqT.of hP,rfl,rfl,_,rfl,D8 ?_⟩
     refine⟨_,rfl,_,rfl,r,_,_,_,rfl,rfl,SqT.of hP,rfl,O4,fun e1 ge=>?_⟩
     have s5:G5 G (upd G e1 (.tup [.str pt.1,.str o])):=(G5.refl G).new ge
     refine⟨_,rfl,_,rfl,_,rfl,r,_,_,_,rfl,rfl,SqT.of (s5 _ _ hP),rfl,O4,fun c gc=>?_⟩
     have s6:G5 G (upd (upd G e1 (.tup [.str pt.1,.str o])) c (.tup [.str pt.1,.str gv])):=s5.new gc
     have zp:upd (upd G e1 (.tup [.str pt.1,.str o])) c (.tup [.str pt.1,.str gv]) c=some (.tup ((U1 (pt.1,gv)).map kV)):=G1
     have sV:upd (upd G e1 (.tup [.str pt.1,.str o])) c (.tup [.str pt.1,.str gv]) e1=some (.tup [.str pt.1,.str o]):=U2 G1 gc
     generalize upd (upd G e1 (.tup [.str pt.1,.str o])) c (.tup [.str pt.1,.str gv])=H6 at s6 zp sV⊢
     have zj:=s6 _ _ hJ
     refine⟨g,_,rfl,a0z.t (k:=U1 (pt.1,gv)) zj zp (szK (by omega)),?_⟩
     rw[a0o hV]
     have TD:=J9.dT (kvs':=Z++[(U1 (pt.1,gv),.ref e1)]) zj
     have T7:=s6.tups.trans TD
     refine⟨Z++[(U1 (pt.1,gv),.ref e1)],_,rfl,(s4.trans s6).put gg,G1,by rw[G8 si.symm];exact s6 _ _ U,?_⟩
     rw[hX,a1S,sn]
     exact Paired.snoc (Paired.mapP O fun _ _ z=>z.mono T7) ⟨rfl,e1,rfl,TD _ _ sV⟩
    ·obtain⟨x1,rs,hA⟩:=hs.kind
     have z0:atI (V.str (R4 rr)::x1::rs) 0=some (.str (R4 rr)):=R3 (j:=0) rfl
     refine⟨_,rfl,r,_,_,_,rfl,rfl,SqT.of hA,z0,rfl,_,rfl,U9 zC ?_⟩
     have h3:W5 [(pt.1,j,rr)]=[]:=by simp[W5,sG]
     exact⟨Z,_,rfl,s4,hJ,U,by rw[hX,a1S,h3,BB];exact O⟩
   ·rintro σ G ⟨Z,w6,rfl,s4,hJ,U,O⟩
    rw[sI,AW,<-a2e,<-J2 hT]at O
    exact⟨Z,_,_,_,rfl,s4,hJ,U,O⟩
  rintro σ H1 ⟨Y,v4,v5,v6,rfl,sg,zi,ze,hY⟩
  rw[sZ,AW]at hY
  obtain⟨Hb,zf⟩:∃Hb:Hp,Hb=fun x=>if x=d then none else H1 x:=⟨_,rfl⟩
  have sd:Hb d=none:=by rw[zf];exact if_pos rfl
  have sk:∀{x:Addr},x≠d->Hb x=H1 x:=fun{x}hx=>by rw[zf];exact if_neg hx
  have sR:G5 Hb H1:=fun x v e=>by
   by_cases hx:x=d
   ·rw[hx,sd]at e;cases e
   ·rw[sk hx]at e;exact e
  have hW:G5 H0 Hb:=fun x v e=>by
   have hx:x≠d:=fun z=>by rw[z,zr]at e;cases e
   rw[sk hx]
   exact sg _ _ e
  have tb:J9 H1 Hb:=fun x v e=>by
   have hx:x≠d:=fun z=>by rw[z,ze]at e;cases e
   rw[sk hx]
   exact e
  have zH:Hb g=some (.dT Y):=by rw[sk si];exact zi
  have zt:Paired (a9N Hb) Y (W5 (G7 ps)):=Paired.mapP hY fun _ _ z=>z.mono tb
  have sY:Paired (a6t Hb) vs ps:=Paired.mapP sb fun _ _ z=>z.mono hW.tups
  have sF:Hb f=some (.dT hM):=hW _ _ zB
  have zh:Paired (a3G Hb) hM (R6 (G7 ps)):=Paired.mapP hU fun _ _ z=>z.mono hW.tups
  have sK:∀{H2:Hp},G5 Hb H2->SqT K H2 a vs:=fun s2=>sy (hW.trans s2)
  have sT:G5 H Hb:=s0.trans hW
  clear tb hY sb zi sg hU
  refine⟨_,rfl,a,rfl,⟨_,sK sR⟩,F9 (K:=K) (a:=a) (xs:=vs) (fun i σ H2=>∃(kvs:List (List Key×V))(v3 v4 v5 v6 v7 v9 hz:Option V),σ=[some (.ref a),some (.ref f),some (.ref g),some (.ref d),v3,v4,v5,v6,v7,v9,hz]/\G5 Hb H2/\H2 d=some (.dT kvs)/\Paired (a2o H2) kvs (llG (W5 (G7 ps)) (W4 (G7 (ps.take i)))))
   ⟨[],_,_,_,_,_,_,_,rfl,sR,ze,by rw[List.take_zero];exact .nil⟩ (fun i σ H2 _⟨_,_,_,_,_,_,_,_,_,s3,_⟩=>sK s3) ?_ ?_⟩
  ·rintro i y σ H2 hy ⟨kvs,v3,v4,v5,v6,v7,v9,hz,rfl,s3,hF,hk⟩
   obtain⟨pt,hT,t,u,ws,ey,ht,hR,se⟩:=Paired.get? sY hy
   subst ey
   have sI:ws.length=pt.2.length:=AE se
   refine⟨t,_,rfl,SqT.of (s3 _ _ ht),rfl,_,_,rfl,_,_,rfl,rfl,?_⟩
   refine⟨_,rfl,u,rfl,⟨_,SqT.of (s3 _ _ hR)⟩,F9 (K:=K) (a:=u) (xs:=ws) (fun j σ G=>∃(kvs:List (List Key×V))(v5 v6 v7:Option V),σ=[some (.ref a),some (.ref f),some (.ref g),some (.ref d),some (.str pt.1),some (.ref u),v5,v6,v7,v9,hz]/\G5 Hb G/\G d=some (.dT kvs)/\Paired (a2o G) kvs (llG (W5 (G7 ps)) (W4 (G7 (ps.take i)++J3 pt.1 (pt.2.take j)))))
    ⟨kvs,_,_,_,rfl,s3,hF,by rw[List.take_zero];show Paired _ kvs (llG _ (W4 (G7 (ps.take i)++[])));rw[BB];exact hk⟩ (fun j σ G _⟨_,_,_,_,_,s4,_⟩=>SqT.of (s4 _ _ hR)) ?_ ?_⟩
   ·rintro j y σ G sx ⟨hm,w5,w6,w7,rfl,s4,U,hH⟩
    obtain⟨rr,hrw,r,er,hra⟩:=Paired.get? se sx
    subst er
    obtain⟨rest,hf⟩:=a9p hT hrw
    have hX:=a6c (ps:=ps) (i:=i) hrw
    have hs:=hra.mono s4.tups
    generalize G7 (ps.take i)++J3 pt.1 (pt.2.take j)=Xs at hH hf hX
    have zS:∀x∈Xs,x∈G7 ps:=fun x hx=>by rw[hf];exact AX _ hx
    have sH:(pt.1,j,rr)∈G7 ps:=by rw[hf];exact AV _ AM
    have zV:(W4 Xs).length<=5760:=by
     have h1:=a2S (pls:=Xs) fun x hx=>D.brs x (zS x hx)
     have h2:=congrArg List.length hf
     rw[List.length_append]at h2
     omega
    have hZ:G7 ps=(Xs++[(pt.1,j,rr)])++rest:=by rw[hf,BD];rfl
    show M3 6 _ _ _ _
    rcases a9o hs with⟨m,he,t',e,hA,⟨hL,zg,sw⟩,zX⟩ | ⟨zy,sj⟩
    ·subst e
     have ss:hL.length=he.length:=AE sw
     refine⟨_,rfl,r,_,_,_,rfl,rfl,SqT.of hA,rfl,rfl,_,rfl,D8 ?_⟩
     have zT:((W4 Xs).map (·.1)++(a1p pt.1 m he).map (·.1)).Nodup:=by
      have h1:=D.keys
      rw[hZ,a2U,a2U,a5m,AG,AG,<-BD]at h1
      have h2:=(AR.mp h1).1
      exact(AR.mp h2).2.1
     refine⟨_,rfl,r,_,_,_,rfl,rfl,SqT.of hA,rfl,t',rfl,⟨_,SqT.of zg⟩,F9 (K:=K) (a:=t') (xs:=hL) (fun k σ J=>∃(kvs:List (List Key×V))(v6 v7:Option V),σ=[some (.ref a),some (.ref f),some (.ref g),some (.ref d),some (.str pt.1),some (.ref u),some (.ref r),v6,v7,v9,hz]/\G5 Hb J/\J9 G J/\J d=some (.dT kvs)/\Paired (a2o J) kvs (llG (W5 (G7 ps)) (W4 Xs++a1p pt.1 m (he.take k))))
      ⟨hm,_,_,rfl,s4,J9.refl G,U,by rw[List.take_zero];show Paired _ hm (llG _ (W4 Xs++[]));rw[BB];exact hH⟩ (fun k σ J _⟨_,_,_,_,_,TT,_⟩=>SqT.of (TT _ _ zg)) ?_ ?_⟩
     ·rintro k y σ J zu ⟨hw,x6,x7,rfl,s5,T4,sA,hI⟩
      obtain⟨qq,hq,c,ec,hc,_,_⟩:=Paired.get? sw zu
      subst ec
      have hj:k < he.length:=(List.getElem?_eq_some_iff.mp hq).1
      have zq:=T4 _ _ hA
      have sm:a1p pt.1 m (he.take (k+1))=a1p pt.1 m (he.take k)++[((pt.1,qq.2),(m,qq.1))]:=by
       rw[J2 hq]
       unfold a1p
       rw[AG]
       rfl
      have zN:hw.length<=6000:=by
       rw[AE hI]
       unfold llG
       rw[List.length_map,List.length_append]
       have:(a1p pt.1 m (he.take k)).length=k:=by unfold a1p;rw[List.length_map,AY];omega
       omega
      have zz:((pt.1,qq.2),(m,qq.1))∈W4 (G7 ps):=by
       unfold W4
       refine BH.mpr ⟨_,sH,?_⟩
       exact AO.mpr ⟨(m,qq),AO.mpr ⟨qq,AD hq,rfl⟩,rfl⟩
      obtain⟨o',sj⟩:=D.gv _ zz
      have zw:a4Z (W5 (G7 ps)) (m,qq.1)=o':=a4f hG sj
      obtain⟨qg,⟨_,t0,zI,zK⟩,zE⟩:=a3p (F:=a9N Hb) (fun _ _ h=>h.1) zt hG sj
      refine⟨c,_,rfl,SqT.of (T4 _ _ hc),rfl,_,_,rfl,_,_,rfl,rfl,?_⟩
      refine⟨_,rfl,_,rfl,r,_,_,_,rfl,rfl,SqT.of zq,rfl,_,rfl,O4,fun e ge=>?_⟩
      have s6:G5 J (upd J e (.tup [.str m,.str qq.1])):=(G5.refl J).new ge
      have hJ:upd J e (.tup [.str m,.str qq.1]) g=some (.dT Y):=s6 _ _ (s5 _ _ zH)
      have hO:E3 (upd J e (.tup [.str m,.str qq.1])) g (.ref e) (some (.ref t0)):=by
       have h1:=E3.t (k:=U1 (m,qq.1)) hJ (show upd J e (.tup [.str m,.str qq.1]) e=some (.tup ((U1 (m,qq.1)).map kV))from G1)
       rw[zE,zI]at h1
       exact h1
      refine⟨g,_,rfl,hO,?_⟩
      refine⟨_,rfl,_,rfl,_,rfl,O4,fun b gb=>?_⟩
      have s8:=s6.new (o:= .tup [.str pt.1,.str qq.2]) gb
      have sQ:=s8 _ _ sA
      have zO:upd (upd J e (.tup [.str m,.str qq.1])) b (.tup [.str pt.1,.str qq.2]) b=some (.tup ((U1 (pt.1,qq.2)).map kV)):=G1
      refine⟨d,_,rfl,a0z.t (k:=U1 (pt.1,qq.2)) sQ zO (szK (by omega)),?_⟩
      have hV:U1 (pt.1,qq.2)∉hw.map (·.1):=a2Y (F:=a2o J) (fun _ _ h=>h.1) hI (fun z=>by
       rw[a8A,AG]at z
       have zn:((W4 Xs).map (·.1)++(a1p pt.1 m (he.take (k+1))).map (·.1)).Sublist ((W4 Xs).map (·.1)++(a1p pt.1 m he).map (·.1)):=by
        refine List.Sublist.append_left ?_ _
        unfold a1p
        exact((List.take_sublist _ _).map _).map _
       have h1:=zn.nodup zT
       rw[sm,AG,<-BD]at h1
       exact(AR.mp h1).2.2 _ z _ (AC.mpr rfl) rfl)
      rw[a0o hV]
      have TD:=J9.dT (kvs':=hw++[(U1 (pt.1,qq.2),.ref t0)]) sQ
      have T8:=s8.tups.trans TD
      have s9:=(s5.trans s8).put (o:= .dT (hw++[(U1 (pt.1,qq.2),.ref t0)])) sd
      refine⟨hw++[(U1 (pt.1,qq.2),.ref t0)],_,_,rfl,s9,T4.trans T8,G1,?_⟩
      rw[sm,<-BD,b0t]
      refine Paired.snoc (Paired.mapP hI fun _ _ z=>z.mono T8) ⟨rfl,t0,rfl,?_⟩
      show _=some (HO.tup [V.str m,V.str (a4Z (W5 (G7 ps)) (m,qq.1))])
      rw[zw]
      exact s9 _ _ zK
     ·rintro σ J ⟨hw,x6,x7,rfl,s5,T4,sA,hI⟩
      rw[ss,AW]at hI
      refine⟨hw,_,_,_,rfl,s5,sA,?_⟩
      rw[hX,a2U,a5m]
      exact hI
    ·obtain⟨x1,rs,hA⟩:=hs.kind
     have z0:atI (V.str (R4 rr)::x1::rs) 0=some (.str (R4 rr)):=R3 (j:=0) rfl
     refine⟨_,rfl,r,_,_,_,rfl,rfl,SqT.of hA,z0,rfl,_,rfl,U9 zy ?_⟩
     have h3:W4 [(pt.1,j,rr)]=[]:=by unfold W4;simp[sj]
     exact⟨hm,_,_,_,rfl,s4,U,by rw[hX,a2U,h3,BB];exact hH⟩
   ·rintro σ G ⟨hm,w5,w6,w7,rfl,s4,U,hH⟩
    rw[sI,AW,<-a2e,<-J2 hT]at hH
    exact⟨hm,_,_,_,_,_,_,_,rfl,s4,U,hH⟩
  rintro σ H2 ⟨B,v3,v4,v5,v6,v7,v9,hz,rfl,s3,hF,hN⟩
  rw[sZ,AW]at hN
  have hN:Paired (a2o H2) B (Z6 (G7 ps)):=hN
  obtain⟨r,zA⟩:=D.rk
  have qb:=a3Q (G7 ps)
  have qd:(Z6 (G7 ps)).length<=5760:=by
   have h1:=a2S D.brs
   unfold Z6
   rw[List.length_map]
   omega
  have sN:=fun{x:Kk×Kk}(hx:x∈Z6 (G7 ps))=>D.tgt hx
  have zd:=D.lkNodup
  have zP:FI (R6 (G7 ps)) (Z6 (G7 ps)) H2 hM:=(b5A D zh).mono s3.tups
  generalize R6 (G7 ps)=sl at*
  generalize Z6 (G7 ps)=ls at*
  have zx:=s3 _ _ sF
  have zc:f≠d:=fun z=>by rw[z,sd]at sF;cases sF
  have zG:H d=none:=by
   cases e:H d with
   | none=>rfl
   | some v=>rw[sT _ _ e]at sd;cases sd
  refine⟨_,rfl,d,B,rfl,hF,fun ob hL zk=>?_⟩
  have ss:hL.length=B.length:=AE zk
  have zU:B.length=ls.length:=AE hN
  have T3:J9 H2 (upd H2 d (.frz ob (.dT B))):=J9.frz hF
  have za:G5 H (upd H2 d (.frz ob (.dT B))):=(sT.trans s3).put zG
  have zb:upd H2 d (.frz ob (.dT B)) f=some (.dT hM):=by rw[G8 zc];exact zx
  have U:upd H2 d (.frz ob (.dT B)) d=some (.frz ob (.dT B)):=G1
  have zl:=zP.mono T3
  have hD:Paired (a2o (upd H2 d (.frz ob (.dT B)))) B ls:=Paired.mapP hN fun _ _ z=>z.mono T3
  have sr:Paired (a4c (upd H2 d (.frz ob (.dT B)))) hL B:=Paired.mapP zk fun _ _⟨b,e,hb⟩=>⟨b,e,T3 _ _ hb⟩
  generalize upd H2 d (.frz ob (.dT B))=G at T3 za zb U zl hD sr⊢
  refine a7W (d:=d) (o:=ob) (u:= .dT B) (ks:=hL) (fun i σ J=>∃(kvs:List (List Key×V))(v9 hz:Option V),σ=[some (.ref a),some (.ref f),some (.ref g),some (.ref d),v3,v4,v5,v6,v7,v9,hz]/\G5 H J/\J d=some (.frz ob (.dT B))/\J9 G J/\J f=some (.dT kvs)/\FI sl ls J kvs/\∀j x,j < i->ls[j]?=some x->(W2 kvs (U1 x.1)).isSome=true)
   ⟨hM,_,_,rfl,za,U,J9.refl G,zb,zl,fun j x hj=>by omega⟩ (fun i σ J _⟨_,_,_,_,_,h,_⟩=>h) ?_ ?_
  ·rintro i y σ J hy ⟨kvs,w9,zQ,rfl,s4,hE,T4,hS,hK,hC⟩
   obtain⟨zY,zo,hB,zR,zL⟩:=Paired.get? sr hy
   subst zR
   obtain⟨x0,sW,sM,_⟩:=Paired.get? hD zo
   have sq:x0∈ls:=AD sW
   have su:J hB=some (.tup [.str x0.1.1,.str x0.1.2]):=by
    have:=T4 _ _ zL
    rw[sM]at this
    exact this
   have zN:=hK.len
   refine⟨_,rfl,?_⟩
   apply a5n
   ·with_reducible_and_instances rfl
   refine a2G (fun σ H5=>∃(x:Kk)(b:Addr),σ=[some (.ref a),some (.ref f),some (.ref g),some (.ref d),v3,v4,v5,v6,v7,some (.ref hB),some (.ref b)]/\H5=J/\J b=some (.tup [.str x.1,.str x.2])/\(x∈sl.map (·.1)\/x∈ls.map (·.1))/\∀p,Mk sl ls x p->Mk sl ls x0.1 p) (fun σ H5=>muM r 10 σ H5)
    ⟨x0.1,hB,rfl,rfl,su,.inr (AS (f:=(·.1)) sq),fun p hp=>hp⟩ ?_ ?_
   ·rintro σ H5 ⟨x,b,rfl,rfl,sf,zM,hU⟩
    refine⟨_,rfl,_,rfl,d,_,rfl,(.inr ⟨B,U1 x,b,.inr ⟨ob,hE⟩,rfl,sf,rfl⟩:E3 H5 d (.ref b) (W2 B (U1 x))),_,rfl,?_⟩
    by_cases sC:x∈ls.map (·.1)
    ·obtain⟨yx,sD,sO⟩:=AO.mp sC
     obtain⟨qe,⟨_,t',e1,e2⟩,e3⟩:=a3p (F:=a2o G) (fun _ _ h=>h.1) hD zd sD
     rw[sO]at e3
     have sv:(x,yx.2)∈ls:=by rw[<-sO];exact sD
     have zJ:r yx.2 < r x:=zA _ sv
     rw[e3]
     refine B9 ?_
     have sJ:=T4 _ _ e2
     refine⟨_,rfl,_,rfl,d,_,rfl,(.inr ⟨B,U1 x,b,.inr ⟨ob,hE⟩,rfl,sf,by rw[e3,e1]⟩:E3 H5 d (.ref b) (some (.ref t'))),?_⟩
     refine⟨⟨yx.2,t',rfl,rfl,sJ,sN sD,fun p hp=>hU p (.step sv hp)⟩,?_⟩
     show muM r 10 [some (V.ref a),some (.ref f),some (.ref g),some (.ref d),v3,v4,v5,v6,v7,some (.ref hB),some (.ref t')] H5 < muM r 10 [some (V.ref a),some (.ref f),some (.ref g),some (.ref d),v3,v4,v5,v6,v7,some (.ref hB),some (.ref b)] H5
     have m1:muM r 10 [some (V.ref a),some (.ref f),some (.ref g),some (.ref d),v3,v4,v5,v6,v7,some (.ref hB),some (.ref t')] H5=r yx.2:=by
      unfold muM
      simp only[List.getElem?_cons_succ,List.getElem?_cons_zero]
      rw[sJ]
     have m2:muM r 10 [some (V.ref a),some (.ref f),some (.ref g),some (.ref d),v3,v4,v5,v6,v7,some (.ref hB),some (.ref b)] H5=r x:=by
      unfold muM
      simp only[List.getElem?_cons_succ,List.getElem?_cons_zero]
      rw[sf]
     rw[m1,m2]
     exact zJ
    ·rw[a5M (F:=a2o G) (fun _ _ h=>h.1) hD sC]
     refine F8 ?_
     have sH:=zM.resolve_right sC
     have hh:=hK.has x sH
     cases e:W2 kvs (U1 x)with
     | none=>rw[e]at hh;cases hh
     | some v=>
      obtain⟨t,p,ev,ht,sP⟩:=hK.val x v e
      subst ev
      have hO:E3 H5 f (.ref b) (some (.ref t)):=by
       have h1:=E3.t (k:=U1 x) hS sf
       rw[e]at h1
       exact h1
      refine⟨_,rfl,_,rfl,f,_,rfl,hO,_,rfl,_,rfl,f,_,rfl,a0z.t (k:=U1 x0.1) hS su (szK (by omega)),?_⟩
      have T7:=J9.dT (kvs':=U7 kvs (U1 x0.1) (.ref t)) hS
      refine⟨U7 kvs (U1 x0.1) (.ref t),_,_,rfl,s4.put gf,by rw[G8 zc.symm];exact hE,T4.trans T7,G1,(hK.put (AV _ (AS (f:=(·.1)) sq)) ht (hU p sP)).mono T7,fun j y hj sB=>?_⟩
      rw[O1]
      by_cases zD:j=i
      ·subst zD
       rw[sW]at sB
       cases sB
       rw[if_pos rfl]
       rfl
      ·split
       ·rfl
       ·exact hC j y (by omega) sB
   ·rintro σ H5 Q1 Q2 hQ ⟨v,e,v2,e2,a2,o,e7,hg,c,e8,hq⟩
    exact⟨v,e,v2,e2,a2,o,e7,hg,c,e8,hQ _ _ hq⟩
  ·rintro σ J ⟨kvs,w9,zQ,rfl,s4,hE,T4,hS,hK,hC⟩
   refine⟨_,rfl,q f kvs J s4 gf hS hK fun x hx=>?_⟩
   obtain⟨y,hy,ey⟩:=AO.mp hx
   obtain⟨j,hj⟩:=AT hy
   have zZ:=(List.getElem?_eq_some_iff.mp hj).1
   rw[<-ey]
   exact hC j y (by omega) hj
noncomputable abbrev KM:=Str->Str->Option (Str×Nat)
structure RS where
 tk:Nat
 gv:List (List Key×V)
 tr:List (Str×Int×Str×Nat)
 ft:Option (Str×Str×Nat×Int)
noncomputable def r0:RS:=⟨0,[],[],none⟩
noncomputable def lkK (km:KM) (gv:List (List Key×V)) (p x:Str):Option V:=(km p x).bind fun q=>W2 gv (kp q)
noncomputable def ivK:Option V->Int
 | some (.int i)=>i
 | _=>0
noncomputable def tvK (km:KM) (gv:List (List Key×V)) (p:Str):Th->Int
 | .num n=>n
 | .nam x=>ivK (lkK km gv p x)
noncomputable def M4 (km:KM) (gv:List (List Key×V)) (p:Str) (ts:List (Int×Th)):Int:=ts.foldl (fun a t=>a+t.1*tvK km gv p t.2) 0
theorem b1M(km:KM)(gv:List (List Key×V))(p:Str)(ts:List (Int×Th))(t:Int×Th):M4 km gv p (ts++[t])=M4 km gv p ts+t.1*tvK km gv p t.2:=by
 unfold M4
 rw[List.foldl_append]
 rfl
noncomputable def a8f (km:KM) (gv:List (List Key×V)) (p:Str) (d:Int×Th):Bool:=match d.2 with
 | .num _=>false
 | .nam x=>!(lkK km gv p x).isSome
noncomputable def D5 (km:KM) (gv:List (List Key×V)) (p:Str) (ts:List (Int×Th)):Option Nat:=ts.findIdx? (a8f km gv p)
theorem b2q{α:Type}{f:α->Bool}:∀{l:List α}{i:Nat}{x:α},(∀y∈l.take i,f y=false)->l[i]?=some x->f x=true->l.findIdx? f=some i
 | [],_,_,_,h,_=>by simp at h
 | a::l,0,x,_,h,hx=>by
  have e:a=x:=by simpa using h
  subst e
  rw[List.findIdx?_cons,hx]
  rfl
 | a::l,i+1,x,j,h,hx=>by
  have B:f a=false:=j a (by rw[List.take_succ_cons];exact AM)
  rw[List.findIdx?_cons,B,b2q (l:=l) (i:=i) (fun y q=>j y (by rw[List.take_succ_cons];exact AK _ q)) (by simpa using h) hx]
  rfl
theorem b3C{α:Type}{f:α->Bool}{l:List α}(h:∀y∈l,f y=false):l.findIdx? f=none:=by
 induction l with
 | nil=>rfl
 | cons a l j=>rw[List.findIdx?_cons,h a AM,j fun y q=>h y (AK _ q)];rfl
theorem b4I{α β:Type}{f:α->Bool}{g:β->Bool}{m:α->β}{l:List α}(h:∀y∈l,g (m y)=f y):(l.map m).findIdx? g=l.findIdx? f:=by
 induction l with
 | nil=>rfl
 | cons a l j=>rw[List.map_cons,List.findIdx?_cons,List.findIdx?_cons,h a AM,j fun y q=>h y (AK _ q)]
noncomputable def a4r (km:KM) (S:RS) (p:Str) (j:Nat) (ts:List (Int×Th)):RS:=match D5 km S.gv p ts with
 | some k=>{S with ft:=some ("early",p,j,1+2*(k:Int))}
 | none=>{S with tr:=S.tr++[(("say":Str),M4 km S.gv p ts,p,j)]}
noncomputable def F6 (km:KM) (nums:List Int) (S:RS) (p:Str) (j:Nat):Rw->RS
 | .take _=>{S with tk:=if S.tk=nums.length then S.tk else S.tk+1,gv:=U7 S.gv (kp (p,j)) (.int (nums.getD S.tk 0)),tr:=S.tr++[(("take":Str),nums.getD S.tk 0,p,j)]}
 | .set _ ts=>match D5 km S.gv p ts with
  | some k=>{S with ft:=some ("early",p,j,3+2*(k:Int))}
  | none=>{S with gv:=U7 S.gv (kp (p,j)) (.int (M4 km S.gv p ts))}
 | .say ts none=>a4r km S p j ts
 | .say ts (some x)=>if(lkK km S.gv p x).isSome=true then(if ivK (lkK km S.gv p x)<=0 then S else a4r km S p j ts)else{S with ft:=some ("early",p,j,2*(ts.length:Int)+1)}
 | .need ts=>match D5 km S.gv p ts with
  | some k=>{S with ft:=some ("early",p,j,1+2*(k:Int))}
  | none=>if M4 km S.gv p ts<=0 then{S with ft:=some ("need",p,j,0)}else S
 | _=>S
noncomputable def a0v (km:KM) (nums:List Int) (S:RS) (x:Pl):RS:=if S.ft≠none then S else F6 km nums S x.1 x.2.1 x.2.2
noncomputable def a0P (km:KM) (nums:List Int) (L:List Pl):RS:=L.foldl (a0v km nums) r0
theorem a8K{km:KM}{nums:List Int}{S:RS}(h:S.ft≠none):∀L:List Pl,L.foldl (a0v km nums) S=S
 | []=>rfl
 | x::L=>by
  rw[List.foldl_cons,show a0v km nums S x=S from if_pos h]
  exact a8K h L
theorem b4B(km:KM)(nums:List Int)(S:RS)(p:Str)(j:Nat)(rw:Rw):(F6 km nums S p j rw).tr.length<=S.tr.length+1/\(F6 km nums S p j rw).gv.length<=S.gv.length+1:=by
 have q:∀ts,(a4r km S p j ts).tr.length<=S.tr.length+1/\(a4r km S p j ts).gv.length<=S.gv.length+1:=fun ts=>by
  unfold a4r
  split
  ·exact⟨BM _,BM _⟩
  ·exact⟨by show(S.tr++[_]).length<=_;rw[List.length_append];exact AI _,BM _⟩
 cases rw with
 | take o=>exact⟨by show(S.tr++[_]).length<=_;rw[List.length_append];exact AI _,F3 _ _ _⟩
 | set o ts=>
  simp only[F6]
  split
  ·exact⟨BM _,BM _⟩
  ·exact⟨BM _,F3 _ _ _⟩
 | say ts w=>
  cases w with
  | none=>exact q ts
  | some x=>
   simp only[F6]
   split
   ·split
    ·exact⟨BM _,BM _⟩
    ·exact q ts
   ·exact⟨BM _,BM _⟩
 | need ts=>
  simp only[F6]
  split
  ·exact⟨BM _,BM _⟩
  ·split
   ·exact⟨BM _,BM _⟩
   ·exact⟨BM _,BM _⟩
 | _=>exact⟨BM _,BM _⟩
theorem b4A(km:KM)(nums:List Int)(S:RS)(x:Pl):(a0v km nums S x).tr.length<=S.tr.length+1/\(a0v km nums S x).gv.length<=S.gv.length+1:=by
 unfold a0v
 split
 ·exact⟨BM _,BM _⟩
 ·exact b4B _ _ _ _ _ _
theorem a9Y(km:KM)(nums:List Int):∀(L:List Pl)(S:RS),(L.foldl (a0v km nums) S).tr.length<=S.tr.length+L.length/\(L.foldl (a0v km nums) S).gv.length<=S.gv.length+L.length
 | [],S=>⟨AI _,AI _⟩
 | x::L,S=>by
  rw[List.foldl_cons,List.length_cons]
  have h1:=a9Y km nums L (a0v km nums S x)
  have h2:=b4A km nums S x
  omega
noncomputable def a9h:Pl:=("",0,.take "")
noncomputable def a6p (L:List Pl) (d:Str×Int×Str×Nat):Str×Int×Str×Nat:=(d.1,d.2.1,(L.getD d.2.2.2 a9h).1,(L.getD d.2.2.2 a9h).2.1)
noncomputable def a7u (L:List Pl) (f:Str×Str×Nat×Int):Str×Str×Nat×Int:=(f.1,(L.getD f.2.2.1 a9h).1,(L.getD f.2.2.1 a9h).2.1,f.2.2.2)
structure Alk(root:Str)(L:List Pl)(S S2:RS):Prop where
 tk:S.tk=S2.tk
 gv:∀k z,L[k]?=some z->W2 S.gv (kp (z.1,z.2.1))=W2 S2.gv (kp (root,k))
 tr:S.tr=S2.tr.map (a6p L)
 ft:S.ft=S2.ft.map (a7u L)
 tb:∀d∈S2.tr,d.2.2.2 < L.length
 fb:∀f,S2.ft=some f->f.2.2.1 < L.length
theorem Alk.zero(root:Str)(L:List Pl):Alk root L r0 r0:=⟨rfl,fun _ _ _=>rfl,rfl,rfl,(fun d hd=>by cases hd),(fun f hf=>by cases hf)⟩
noncomputable def a2C (km km2:KM) (root:Str) (L:List Pl) (N:Str->Str) (p y:Str):Prop:=∃(k:Nat)(z:Pl),L[k]?=some z/\km p y=some (z.1,z.2.1)/\km2 root (N y)=some (root,k)
theorem a9C{km km2:KM}{root:Str}{L:List Pl}{S S2:RS}(h:Alk root L S S2){N:Str->Str}{p y:Str}(m:a2C km km2 root L N p y):lkK km2 S2.gv root (N y)=lkK km S.gv p y:=by
 obtain⟨k,z,h1,h2,j⟩:=m
 unfold lkK
 rw[h2,j]
 exact(h.gv k z h1).symm
theorem a4I{km km2:KM}{root:Str}{L:List Pl}{S S2:RS}(h:Alk root L S S2){N:Str->Str}{p:Str}{ts:List (Int×Th)}(u:a2j (a2C km km2 root L N p) ts):D5 km2 S2.gv root (a1A N ts)=D5 km S.gv p ts:=by
 unfold D5 a1A
 refine b4I fun d hd=>?_
 obtain⟨sg,th⟩:=d
 cases th with
 | num n=>rfl
 | nam y=>
  show(!(lkK km2 S2.gv root (N y)).isSome)= !(lkK km S.gv p y).isSome
  rw[a9C h (u _ hd y rfl)]
theorem a7q{km km2:KM}{root:Str}{L:List Pl}{S S2:RS}(h:Alk root L S S2){N:Str->Str}{p:Str}{ts:List (Int×Th)}(u:a2j (a2C km km2 root L N p) ts):M4 km2 S2.gv root (a1A N ts)=M4 km S.gv p ts:=by
 unfold M4 a1A
 have:∀(l:List (Int×Th))(a:Int),(∀d∈l,d∈ts)->(l.map fun d=>(d.1,a7D N d.2)).foldl (fun a t=>a+t.1*tvK km2 S2.gv root t.2) a=l.foldl (fun a t=>a+t.1*tvK km S.gv p t.2) a:=by
  intro l
  induction l with
  | nil=>exact fun _ _=>rfl
  | cons d l q=>
   intro a hl
   rw[List.map_cons,List.foldl_cons,List.foldl_cons]
   have e:tvK km2 S2.gv root (a7D N d.2)=tvK km S.gv p d.2:=by
    cases e:d.2 with
    | num n=>rfl
    | nam y=>
     show ivK (lkK km2 S2.gv root (N y))=ivK (lkK km S.gv p y)
     rw[a9C h (u _ (hl d AM) y e)]
   show(l.map fun d=>(d.1,a7D N d.2)).foldl _ (a+d.1*tvK km2 S2.gv root (a7D N d.2))=_
   rw[e]
   exact q _ fun y j=>hl y (AK _ j)
 exact this ts 0 fun d hd=>hd
theorem a7j{L:List Pl}{i:Nat}{x:Pl}(h:L[i]?=some x):L.getD i a9h=x:=by
 rw[BE,h]
 rfl
section
variable{km km2:KM}{root:Str}{L:List Pl}{S S2:RS}{i:Nat}{x:Pl}
theorem Alk.fault(h:Alk root L S S2)(hi:L[i]?=some x)(k:Str)(w:Int):Alk root L {S with ft:=some (k,x.1,x.2.1,w)} {S2 with ft:=some (k,root,i,w)}:=
 ⟨h.tk,h.gv,h.tr,by show some _=some (a7u L (k,root,i,w));unfold a7u;rw[a7j hi],h.tb,fun f hf=>by cases hf;exact(List.getElem?_eq_some_iff.mp hi).1⟩
theorem Alk.push(h:Alk root L S S2)(hi:L[i]?=some x)(k:Str)(v:Int):Alk root L {S with tr:=S.tr++[(k,v,x.1,x.2.1)]} {S2 with tr:=S2.tr++[(k,v,root,i)]}:=by
 refine⟨h.tk,h.gv,?_,h.ft,fun d hd=>?_,h.fb⟩
 ·show S.tr++[(k,v,x.1,x.2.1)]=(S2.tr++[(k,v,root,i)]).map (a6p L)
  rw[AG,h.tr]
  show _=_++[a6p L (k,v,root,i)]
  unfold a6p
  rw[a7j hi]
 ·rcases AL.mp hd with z | z
  ·exact h.tb d z
  ·rw[AC.mp z];exact(List.getElem?_eq_some_iff.mp hi).1
theorem Alk.put(q:(L.map fun x=>(x.1,x.2.1)).Nodup)(h:Alk root L S S2)(hi:L[i]?=some x)(v:V):Alk root L {S with gv:=U7 S.gv (kp (x.1,x.2.1)) v} {S2 with gv:=U7 S2.gv (kp (root,i)) v}:=by
 refine⟨h.tk,fun k z j=>?_,h.tr,h.ft,h.tb,h.fb⟩
 show W2 (U7 S.gv (kp (x.1,x.2.1)) v) (kp (z.1,z.2.1))=W2 (U7 S2.gv (kp (root,i)) v) (kp (root,k))
 rw[O1,O1]
 by_cases e:k=i
 ·subst e
  rw[hi]at j
  cases j
  rw[if_pos rfl,if_pos rfl]
 ·have n1:¬kp (z.1,z.2.1)=kp (x.1,x.2.1):=fun w=>e (by
   have h1:(L.map fun x=>(x.1,x.2.1))[k]?=some (z.1,z.2.1):=by rw[List.getElem?_map,j];rfl
   have h2:(L.map fun x=>(x.1,x.2.1))[i]?=some (x.1,x.2.1):=by rw[List.getElem?_map,hi];rfl
   have D:k < (L.map fun x=>(x.1,x.2.1)).length:=(List.getElem?_eq_some_iff.mp h1).1
   exact(List.getElem?_inj D q).mp (by rw[h1,h2,a7E w]))
  have B:¬kp (root,k)=kp (root,i):=fun w=>e (Prod.mk.inj (a7E w)).2
  rw[if_neg n1,if_neg B]
  exact h.gv k z j
theorem Alk.say(h:Alk root L S S2)(hi:L[i]?=some x){N:Str->Str}{ts:List (Int×Th)}(u:a2j (a2C km km2 root L N x.1) ts):Alk root L (a4r km S x.1 x.2.1 ts) (a4r km2 S2 root i (a1A N ts)):=by
 unfold a4r
 rw[a4I h u]
 cases D5 km S.gv x.1 ts with
 | some k=>exact h.fault hi _ _
 | none=>
  show Alk root L {S with tr:=S.tr++[(("say":Str),M4 km S.gv x.1 ts,x.1,x.2.1)]} {S2 with tr:=S2.tr++[(("say":Str),M4 km2 S2.gv root (a1A N ts),root,i)]}
  rw[a7q h u]
  exact h.push hi _ _
theorem Alk.done(nums:List Int)(j:(L.map fun x=>(x.1,x.2.1)).Nodup)(h:Alk root L S S2)(hi:L[i]?=some x){N:Str->Str}(u:a0t (a2C km km2 root L N x.1) x.2.2):Alk root L (F6 km nums S x.1 x.2.1 x.2.2) (F6 km2 nums S2 root i (a3c N x.2.2)):=by
 cases er:x.2.2 with
 | take o=>
  have h1:=(h.put j hi (.int (nums.getD S.tk 0))).push hi "take" (nums.getD S.tk 0)
  show Alk root L {S with tk:=if S.tk=nums.length then S.tk else S.tk+1,gv:=U7 S.gv (kp (x.1,x.2.1)) (.int (nums.getD S.tk 0)),tr:=S.tr++[(("take":Str),nums.getD S.tk 0,x.1,x.2.1)]} {S2 with tk:=if S2.tk=nums.length then S2.tk else S2.tk+1,gv:=U7 S2.gv (kp (root,i)) (.int (nums.getD S2.tk 0)),tr:=S2.tr++[(("take":Str),nums.getD S2.tk 0,root,i)]}
  rw[<-h.tk]
  exact⟨rfl,h1.gv,h1.tr,h1.ft,h1.tb,h1.fb⟩
 | set o ts=>
  rw[er]at u
  show Alk root L (match D5 km S.gv x.1 ts with | some k=>{S with ft:=some ("early",x.1,x.2.1,3+2*(k:Int))} | none=>{S with gv:=U7 S.gv (kp (x.1,x.2.1)) (.int (M4 km S.gv x.1 ts))}) (match D5 km2 S2.gv root (a1A N ts)with | some k=>{S2 with ft:=some ("early",root,i,3+2*(k:Int))} | none=>{S2 with gv:=U7 S2.gv (kp (root,i)) (.int (M4 km2 S2.gv root (a1A N ts)))})
  rw[a4I h u.2,a7q h u.2]
  cases D5 km S.gv x.1 ts with
  | some k=>exact h.fault hi _ _
  | none=>exact h.put j hi _
 | say ts w=>
  rw[er]at u
  cases w with
  | none=>exact h.say hi u.1
  | some y=>
   show Alk root L (if(lkK km S.gv x.1 y).isSome=true then(if ivK (lkK km S.gv x.1 y)<=0 then S else a4r km S x.1 x.2.1 ts)else{S with ft:=some ("early",x.1,x.2.1,2*(ts.length:Int)+1)}) (if(lkK km2 S2.gv root (N y)).isSome=true then(if ivK (lkK km2 S2.gv root (N y))<=0 then S2 else a4r km2 S2 root i (a1A N ts))else{S2 with ft:=some ("early",root,i,2*((a1A N ts).length:Int)+1)})
   rw[a9C h (u.2 y rfl),show(a1A N ts).length=ts.length from List.length_map _]
   split
   ·split
    ·exact h
    ·exact h.say hi u.1
   ·exact h.fault hi _ _
 | need ts=>
  rw[er]at u
  show Alk root L (match D5 km S.gv x.1 ts with | some k=>{S with ft:=some ("early",x.1,x.2.1,1+2*(k:Int))} | none=>if M4 km S.gv x.1 ts<=0 then{S with ft:=some ("need",x.1,x.2.1,0)}else S) (match D5 km2 S2.gv root (a1A N ts)with | some k=>{S2 with ft:=some ("early",root,i,1+2*(k:Int))} | none=>if M4 km2 S2.gv root (a1A N ts)<=0 then{S2 with ft:=some ("need",root,i,0)}else S2)
  rw[a4I h u,a7q h u]
  cases D5 km S.gv x.1 ts with
  | some k=>exact h.fault hi _ _
  | none=>
   show Alk root L (if M4 km S.gv x.1 ts<=0 then _ else _) (if M4 km S.gv x.1 ts<=0 then _ else _)
   split
   ·exact h.fault hi _ _
   ·exact h
 | _=>exact h
end
noncomputable def a0G (root:Str) (NN:Str->Str->Str) (L:List Pl):List Pl:=J3 root (L.map fun x=>a3c (NN x.1) x.2.2)
theorem a3V{root:Str}{NN:Str->Str->Str}{L:List Pl}{i:Nat}{x:Pl}(h:L[i]?=some x):(a0G root NN L)[i]?=some (root,i,a3c (NN x.1) x.2.2):=a5q (by rw[List.getElem?_map,h];rfl)
theorem a1c{root:Str}{NN:Str->Str->Str}{L:List Pl}:(a0G root NN L).length=L.length:=by unfold a0G;rw[Z3,List.length_map]
theorem b0v{km km2:KM}{nums:List Int}{root:Str}{L:List Pl}{NN:Str->Str->Str}(q:(L.map fun x=>(x.1,x.2.1)).Nodup)(B:∀x∈L,a0t (a2C km km2 root L (NN x.1) x.1) x.2.2):∀i,i<=L.length->Alk root L ((L.take i).foldl (a0v km nums) r0) (((a0G root NN L).take i).foldl (a0v km2 nums) r0)
 | 0,_=>by rw[List.take_zero,List.take_zero];exact Alk.zero root L
 | i+1,hi=>by
  have j:=b0v (nums:=nums) (NN:=NN) q B i (by omega)
  have hx:L[i]?=some L[i]:=AQ (by omega)
  generalize L[i]=x at hx
  rw[J2 hx,J2 (a3V (root:=root) (NN:=NN) hx),List.foldl_append,List.foldl_append]
  show Alk root L (a0v km nums _ x) (a0v km2 nums _ (root,i,a3c (NN x.1) x.2.2))
  generalize (L.take i).foldl (a0v km nums) r0=S at j
  generalize ((a0G root NN L).take i).foldl (a0v km2 nums) r0=S2 at j
  unfold a0v
  have hf:S.ft≠none↔S2.ft≠none:=by
   rw[j.ft]
   cases S2.ft<;>simp
  by_cases h:S2.ft≠none
  ·rw[if_pos h,if_pos (hf.mpr h)]
   exact j
  ·rw[if_neg h,if_neg fun z=>h (hf.mp z)]
   exact j.done nums q hx (B x (AD hx))
theorem b5x{km km2:KM}{nums:List Int}{root:Str}{L:List Pl}{NN:Str->Str->Str}(j:(L.map fun x=>(x.1,x.2.1)).Nodup)(q:∀x∈L,a0t (a2C km km2 root L (NN x.1) x.1) x.2.2):Alk root L (a0P km nums L) (a0P km2 nums (a0G root NN L)):=by
 have:=b0v (nums:=nums) j q L.length (AI _)
 rw[AW,List.take_of_length_le (by rw[a1c];exact AI _)]at this
 exact this
noncomputable def b1G (H:Hp) (mkv:List (List Key×V)) (km:KM) (p y:Str):Prop:=∃t q,W2 mkv (U1 (p,y))=some (.ref t)/\H t=some (.tup [.str q.1,.int (q.2:Int)])/\km p y=some q
theorem b1G.mono{H H':Hp}(s:J9 H H'){j:List (List Key×V)}{km:KM}{p y:Str}(h:b1G H j km p y):b1G H' j km p y:=by
 obtain⟨t,q,h1,h2,B⟩:=h
 exact⟨t,q,h1,s _ _ h2,B⟩
noncomputable def b2F (gv:List (List Key×V)):Prop:=∀k v,W2 gv k=some v->∃i:Int,v= .int i
theorem b2N{km:KM}{gv:List (List Key×V)}(hg:b2F gv){p y:Str}{q:Str×Nat}(h:km p y=some q)(j:(W2 gv (kp q)).isSome=true):∃i:Int,W2 gv (kp q)=some (.int i)/\lkK km gv p y=some (.int i):=by
 cases e:W2 gv (kp q)with
 | none=>rw[e]at j;cases j
 | some v=>
  obtain⟨i,rfl⟩:=hg _ _ e
  exact⟨i,rfl,by unfold lkK;rw[h];exact e⟩
noncomputable def b5q:Sp:=fun vs H Q _=>∃(t mk va:Addr)(at':Int)(p:Str)(ts:List (Int×Th))(mkv gv:List (List Key×V))(km:KM),vs=[.ref t,.int at',.str p,.ref mk,.ref va]/\H mk=some (.dT mkv)/\H va=some (.dT gv)/\a7r H t ts/\a2j (b1G H mkv km p) ts/\b2F gv/\(∀d∈ts,d.1=1\/d.1= -1)/\ts.length<=6/\
 ∀(c:Addr)(a:Int)(wv:V)(H':Hp),G5 H H'->H' c=some (.tup [.int a,wv])->(∀k,D5 km gv p ts=some k->wv= .int (at'+2*(k:Int)))->(D5 km gv p ts=none->a=M4 km gv p ts/\wv= .non)->Q (.ref c) H'
theorem b1C(T:Txt K mg):L2.Cl P w K mg base 1 "_law_sum_of" ["_law_terms","_law_at","_law_part","_law_makers_here","_law_values"] b5q:=by
 refine Cl.of T.d_law_sum_of D3 (fun vs H Q E h=>?_) (fun _ _ _ _ _ _ us hl=>match us,hl with | [_,_,_,_,_],_=>rfl) (fun fa hE A outer s H vs Q E hr h=>?_)
 ·obtain⟨t,mk,va,hb,p,ts,hq,gv,km,rfl,_⟩:=h
  rfl
 ·obtain⟨t,mk,va,hb,p,ts,hq,gv,km,rfl,hy,ho,⟨vs,ht,hp⟩,hU,hg,hB,h6,q⟩:=h
  have hu:=B2 hr
  have hx:vs.length=ts.length:=AE hp
  refine⟨_,(G3 (J1 (i:=5) D3.nd rfl (Or.inl rfl) G2)
   (G3 (Y9 AN rfl (a0y (by rfl) T.n_range (G0 (U5 R5 (by rfl) T.n_len PySem.boot_len (G0 (pv 0) G4)) G4)) (I9 (i:=6) D3.nd rfl (Or.inl rfl))
    (G3 (a4F (I0 J5 (pv 0) (pv 6) (fun _ _=>rfl)) (E7 rfl (J0 (I9 (i:=7) D3.nd rfl (Or.inl rfl)) (J0 (I9 (i:=8) D3.nd rfl (Or.inl rfl)) Y2))))
    (G3 (U8 (a5x (U5 a4V (by rfl) T.n_isinstance PyProof.Rows.boot_isinstance (G0 (pv 8) (G0 (b0w (v:= .ty "str") (by rfl) T.n_str boot_str rfl) G4))))
     (G3 (U8 (a0R (a1M hu (Z4 hu (pv 3) (R1 (G0 (pv 2) (G0 (pv 8) G4))) (fun _ _=>rfl)) (pv 4)))
      (G6 (R9 (R1 (G0 G2 (G0 (G9 Z7 (pv 1) (G9 E8 G2 (pv 6))) G4))))) R8)
     (G6 (J1 (i:=8) D3.nd rfl (Or.inl rfl) (Z4 hu (pv 4) (Z4 hu (pv 3) (R1 (G0 (pv 2) (G0 (pv 8) G4))) (fun _ _=>rfl)) (fun _ _=>rfl))))) R8)
    (G6 (J1 (i:=5) D3.nd rfl (Or.inl rfl) (G9 Z7 (pv 5) (G9 E8 (pv 7) (pv 8))))))))
   (G6 (R9 (R1 (G0 (pv 5) (G0 a2u G4))))))),?_⟩
  refine⟨_,rfl,t,_,rfl,.inr (SqT.of ht),_,rfl,(by omega),(by omega),?_⟩
  refine a0g (n:=vs.length) (fun i σ H2=>∃v6 v7 v8:Option V,σ=[some (.ref t),some (.int hb),some (.str p),some (.ref mk),some (.ref va),some (.int (M4 km gv p (ts.take i))),v6,v7,v8]/\G5 H H2/\∀d∈ts.take i,a8f km gv p d=false) ⟨none,none,none,rfl,G5.refl H,fun d hd=>by simp at hd⟩ ?_ ?_
  ·rintro i σ H2 hi ⟨v6,v7,v8,rfl,Y,j⟩
   have e1:(0:Int)+(i:Int)=((i:Nat):Int):=by omega
   obtain⟨d,hd,tp,ep,hs⟩:=Paired.get? hp (AQ hi)
   have ha:=AD hd
   have h1:=hB d ha
   have D:=b1M km gv p (ts.take i) d
   have ai:atI vs (0+(i:Int))=some (.ref tp):=by rw[e1];exact R3 (by rw[AQ hi,ep])
   refine⟨_,rfl,_,rfl,t,_,_,_,rfl,rfl,SqT.of (Y _ _ ht),ai,tp,_,rfl,SqT.of (Y _ _ hs),rfl,_,_,rfl,_,_,rfl,rfl,?_⟩
   have O:a8f km gv p d=false->∀d'∈ts.take (i+1),a8f km gv p d'=false:=fun h d' hm=>by
    rw[J2 hd]at hm
    rcases AL.mp hm with z | z
    ·exact j d' z
    ·rw[AC.mp z];exact h
   cases B:d.2 with
   | num n=>
    rw[B]at D
    refine⟨_,rfl,_,_,_,_,rfl,.int n,a4N _,_,rfl,F8 ?_⟩
    refine⟨_,rfl,_,rfl,_,rfl,_,_,rfl,rfl,.inl ⟨by omega,by omega⟩,_,_,rfl,rfl,?_⟩
    refine⟨some (.int (0+(i:Int))),some (.int d.1),some (.int n),?_,Y,O (by unfold a8f;rw[B])⟩
    rw[J2 hd,D]
    rfl
   | nam y=>
    rw[B]at D
    obtain⟨tm,qm,hC,hn,hh⟩:=hU d ha y B
    have J:∀{F:Hp}{c:Addr},G5 H2 F->F c=some (.tup [.str p,.str y])->E3 F mk (.ref c) (some (.ref tm)):=fun{F c}Z hc=>by
     have:=E3.t (k:=U1 (p,y)) (Z _ _ (Y _ _ hy)) hc
     rw[hC]at this
     exact this
    refine⟨_,rfl,_,_,_,_,rfl,.str y,a8i _ _,_,rfl,B9 ?_⟩
    refine⟨_,rfl,_,rfl,_,rfl,O4,fun c gc=>?_⟩
    have Z:G5 H2 (upd H2 c (.tup [.str p,thV (.nam y)])):=(G5.refl H2).new gc
    have hj:upd H2 c (.tup [.str p,thV (.nam y)]) c=some (.tup [.str p,.str y]):=G1
    generalize upd H2 c (.tup [.str p,thV (.nam y)])=F at Z hj⊢
    have G:=Y.trans Z
    refine⟨mk,_,rfl,J Z hj,_,rfl,va,_,rfl,E3.t (k:=kp qm) (G _ _ ho) (G _ _ hn),_,rfl,?_⟩
    cases ek:(W2 gv (kp qm)).isSome with
    | false=>
     refine B9 ?_
     have hD:a8f km gv p d=true:=by
      unfold a8f
      rw[B]
      show(!(lkK km gv p y).isSome)=true
      unfold lkK
      rw[hh]
      show(!(W2 gv (kp qm)).isSome)=true
      rw[ek]
      rfl
     have he:D5 km gv p ts=some i:=b2q j hd hD
     refine⟨_,rfl,_,rfl,_,_,rfl,rfl,.inl ⟨by decide,by decide⟩,_,_,rfl,rfl,O4,fun e ge=>?_⟩
     refine q e 0 _ _ (G.new ge) G1 (fun k hk=>?_) (fun z=>by rw[he]at z;cases z)
     rw[he]at hk
     cases hk
     rw[e1]
    | true=>
     refine F8 ?_
     obtain⟨iv,h3,h4⟩:=b2N hg hh ek
     have hz:tvK km gv p (.nam y)=iv:=by show ivK (lkK km gv p y)=iv;rw[h4];rfl
     rw[hz]at D
     refine⟨_,rfl,_,rfl,_,rfl,_,rfl,O4,fun c' hw=>?_⟩
     have s4:G5 F (upd F c' (.tup [.str p,thV (.nam y)])):=(G5.refl F).new hw
     have hf:upd F c' (.tup [.str p,thV (.nam y)]) c'=some (.tup [.str p,.str y]):=G1
     generalize upd F c' (.tup [.str p,thV (.nam y)])=H4 at s4 hf⊢
     have U:=G.trans s4
     have hA:E3 H4 va (.ref tm) (some (.int iv)):=by
      have:=E3.t (k:=kp qm) (U _ _ ho) (U _ _ hn)
      rw[h3]at this
      exact this
     refine⟨mk,_,rfl,J (Z.trans s4) hf,va,_,rfl,hA,?_⟩
     refine⟨_,rfl,_,rfl,_,rfl,_,_,rfl,rfl,.inl ⟨by omega,by omega⟩,_,_,rfl,rfl,?_⟩
     refine⟨some (.int (0+(i:Int))),some (.int d.1),some (.int iv),?_,U,O ?_⟩
     ·rw[J2 hd,D]
      rfl
     ·unfold a8f
      rw[B]
      show(!(lkK km gv p y).isSome)=false
      rw[h4]
      rfl
  ·rintro σ H2 ⟨v6,v7,v8,rfl,Y,j⟩
   rw[hx,AW]at j⊢
   have he:D5 km gv p ts=none:=b3C j
   refine⟨_,rfl,O4,fun e ge=>?_⟩
   exact q e _ _ _ (Y.new ge) G1 (fun k z=>by rw[he]at z;cases z) (fun _=>⟨rfl,rfl⟩)
noncomputable def DdX (H:Hp) (v:V) (d:Str×Int×Str×Nat):Prop:=∃t,v= .ref t/\H t=some (.tup [.str d.1,.int d.2.1,.str d.2.2.1,.int (d.2.2.2:Int)])
noncomputable def FtX (H:Hp) (v:V):Option (Str×Str×Nat×Int)->Prop
 | none=>v= .non
 | some f=>∃t,v= .ref t/\H t=some (.tup [.str f.1,.str f.2.1,.int (f.2.2.1:Int),.int f.2.2.2])
theorem DdX.mono{H H':Hp}(s:J9 H H'){v:V}{d:Str×Int×Str×Nat}(h:DdX H v d):DdX H' v d:=by
 obtain⟨t,e,h⟩:=h
 exact⟨t,e,s _ _ h⟩
theorem FtX.mono{H H':Hp}(s:J9 H H'){v:V}{f:Option (Str×Str×Nat×Int)}(h:FtX H v f):FtX H' v f:=by
 cases f with
 | none=>exact h
 | some f=>obtain⟨t,e,h⟩:=h;exact⟨t,e,s _ _ h⟩
noncomputable def a1Q (a b c:Addr) (H H':Hp):Prop:=∀x o,x≠a->x≠b->x≠c->H x=some o->H' x=some o
theorem a1Q.of{a b c:Addr}{H H':Hp}(s:G5 H H'):a1Q a b c H H':=fun x o _ _ _ h=>s x o h
theorem a1Q.same{a b c:Addr}{H H1 H2:Hp}(h:a1Q a b c H H1)(s:G5 H1 H2):a1Q a b c H H2:=fun x o h1 h2 j q=>s _ _ (h x o h1 h2 j q)
theorem a1Q.put{a b c y:Addr}{H H1:Hp}{o:HO}(h:a1Q a b c H H1)(j:y=a\/y=b\/y=c):a1Q a b c H (upd H1 y o):=fun x u h1 h2 q B=>by
 have:x≠y:=by rcases j with rfl | rfl | rfl<;>assumption
 rw[G8 this]
 exact h x u h1 h2 q B
structure RSt(H:Hp)(va lf de:Addr)(nums:List Int)(S:RS):Prop where
 hv:H va=some (.dT S.gv)
 hl:H lf=some (.lst ((nums.drop S.tk).reverse.map V.int))
 hd:∃vs,H de=some (.lst vs)/\Paired (DdX H) vs S.tr
 n1:lf≠de
 gi:b2F S.gv
 tkl:S.tk<=nums.length
section
variable{H H':Hp}{va lf de:Addr}{nums:List Int}{S:RS}
theorem RSt.apart(h:RSt H va lf de nums S):va≠lf/\va≠de:=by
 obtain⟨j,h2,_⟩:=h.hd
 exact⟨a5p h.hv h.hl (by intro z;cases z),a5p h.hv h2 (by intro z;cases z)⟩
theorem RSt.same(h:RSt H va lf de nums S)(s:G5 H H'):RSt H' va lf de nums S:=by
 obtain⟨j,h1,h2⟩:=h.hd
 exact⟨s _ _ h.hv,s _ _ h.hl,⟨j,s _ _ h1,Paired.mapP h2 fun _ _ z=>z.mono s.tups⟩,h.n1,h.gi,h.tkl⟩
theorem RSt.tups(h:RSt H va lf de nums S)(b:a1Q va lf de H H'):J9 H H':=fun c zs e=>by
 obtain⟨j,h2,_⟩:=h.hd
 exact b c _ (fun z=>by rw[z,h.hv]at e;cases e) (fun z=>by rw[z,h.hl]at e;cases e) (fun z=>by rw[z,h2]at e;cases e) e
theorem RSt.put(h:RSt H va lf de nums S)(k:Str×Nat)(i:Int):RSt (upd H va (.dT (U7 S.gv (kp k) (.int i)))) va lf de nums {S with gv:=U7 S.gv (kp k) (.int i)}:=by
 obtain⟨D,B⟩:=h.apart
 obtain⟨F,h1,h2⟩:=h.hd
 have T:J9 H (upd H va (.dT (U7 S.gv (kp k) (.int i)))):=J9.dT h.hv
 refine⟨G1,by rw[G8 D.symm];exact h.hl,⟨F,by rw[G8 B.symm];exact h1,Paired.mapP h2 fun _ _ z=>z.mono T⟩,h.n1,fun q w e=>?_,h.tkl⟩
 have j:W2 (U7 S.gv (kp k) (.int i)) q=some w:=e
 rw[O1]at j
 split at j
 ·exact⟨i,(Option.some.inj j).symm⟩
 ·exact h.gi q w j
theorem RSt.push(h:RSt H va lf de nums S){us:List V}{v:V}{d:Str×Int×Str×Nat}(j:H de=some (.lst us))(hv:DdX H v d):RSt (upd H de (.lst (us++[v]))) va lf de nums {S with tr:=S.tr++[d]}:=by
 obtain⟨B,q⟩:=h.apart
 obtain⟨D,h1,h2⟩:=h.hd
 rw[j]at h1
 cases h1
 have T:=J9.lst (ys:=us++[v]) j
 exact⟨by rw[G8 q];exact h.hv,by rw[G8 h.n1];exact h.hl,⟨_,G1,Paired.snoc (Paired.mapP h2 fun _ _ z=>z.mono T) (hv.mono T)⟩,h.n1,h.gi,h.tkl⟩
theorem RSt.told(h:RSt H va lf de nums S){k:Nat}(q:k<=nums.length):RSt (upd H lf (.lst ((nums.drop k).reverse.map V.int))) va lf de nums {S with tk:=k}:=by
 obtain⟨j,D⟩:=h.apart
 obtain⟨B,h1,h2⟩:=h.hd
 have T:=J9.lst (ys:=(nums.drop k).reverse.map V.int) h.hl
 exact⟨by rw[G8 j];exact h.hv,G1,⟨B,by rw[G8 h.n1.symm];exact h1,Paired.mapP h2 fun _ _ z=>z.mono T⟩,h.n1,h.gi,q⟩
end
theorem a9v{κ:Type}[DecidableEq κ](kvs:List (κ×V))(k:κ)(a b:V):U7 (U7 kvs k a) k b=U7 kvs k b:=by
 have h1:((U7 kvs k a).any fun j=>decide (j.1=k))=true:=by
  unfold U7
  split
  ·rename_i h
   rw[List.any_eq_true]at h⊢
   obtain⟨j,q,e⟩:=h
   exact⟨_,AO.mpr ⟨j,q,rfl⟩,by rw[if_pos (of_decide_eq_true e)];exact e⟩
  ·rw[List.any_eq_true]
   exact⟨(k,a),AV _ (AC.mpr rfl),decide_eq_true rfl⟩
 have B:∀l:List (κ×V),(l.any fun j=>decide (j.1=k))=true->U7 l k b=l.map (fun j=>if j.1=k then(j.1,b)else j):=fun l h=>by
  unfold U7
  rw[if_pos h]
 rw[B _ h1]
 unfold U7
 split
 ·rw[List.map_map]
  refine List.map_congr_left fun j _=>?_
  show(if(if j.1=k then(j.1,a)else j).1=k then((if j.1=k then(j.1,a)else j).1,b)else(if j.1=k then(j.1,a)else j))=_
  by_cases h:j.1=k
  ·simp[h]
  ·simp[h]
 ·rename_i h
  rw[AG]
  have:kvs.map (fun j=>if j.1=k then(j.1,b)else j)=kvs:=by
   conv=>rhs;rw[<-List.map_id kvs]
   refine List.map_congr_left fun j q=>?_
   rw[if_neg]
   ·rfl
   ·intro e
    exact h (List.any_eq_true.mpr ⟨j,q,decide_eq_true e⟩)
  rw[this]
  show kvs++[if k=k then(k,b)else(k,a)]=_
  rw[if_pos rfl]
noncomputable def SgR:Rw->Prop
 | .set _ ts=>(∀d∈ts,d.1=1\/d.1= -1)/\ts.length<=6
 | .say ts _=>(∀d∈ts,d.1=1\/d.1= -1)/\ts.length<=6
 | .need ts=>(∀d∈ts,d.1=1\/d.1= -1)/\ts.length<=6
 | _=>True
theorem b7Y{X R:TS}{D:a0m}{r:VK}{b k:L2.St->Hp->Prop}{i:Nat}{v:V}{σ:L2.St}{H:Hp}(h:a3e X R D (σ.set i (some v)) H):M3 i v σ H (a0m.nx ⟨a3e X R D,r,b,k⟩):=h
theorem a4q{X R:TS}{D:a0m}{r:VK}{b k:L2.St->Hp->Prop}{σ:L2.St}{H:Hp}(h:a3e X R D σ H):a2p ⟨a3e X R D,r,b,k⟩ σ H:=h
theorem b8p{X R:TS}{D:a0m}{r:VK}{b k:L2.St->Hp->Prop}{σ:L2.St}{H:Hp}(h:a3e X R D σ H):a0m.nx ⟨a3e X R D,r,b,k⟩ σ H:=h
theorem b4r{t:TT}{B R:TS}{D:a0m}{σ:L2.St}{H:Hp}(C:Bool->Hp->Prop)(J:L2.St->Hp->Prop)(ht:∀Q:Bool->Hp->Prop,(∀b H1,C b H1->Q b H1)->t σ H Q)(h1:∀H1,C true H1->∀O:a0m,(∀q H',J q H'->O.nx q H')->B O σ H1)(h2:∀H1,C false H1->J σ H1)(G:∀q H',J q H'->R D q H'):a3e (a5I t B a2p) R D σ H:=by
 refine ht _ fun b H1 F=>?_
 cases b with
 | true=>exact B9 (h1 H1 F _ fun q H' j=>G q H' j)
 | false=>exact F8 (G σ H1 (h2 H1 F))
theorem b4f{t:TT}{B R:TS}{D:a0m}{σ:L2.St}{H:Hp}(C:Bool->Hp->Prop)(J:L2.St->Hp->Prop)(ht:∀Q:Bool->Hp->Prop,(∀b H1,C b H1->Q b H1)->t σ H Q)(h1:∀H1,C true H1->∀F:a0m,(∀v H2,D.rt v H2->F.rt v H2)->(∀q H',J q H'->F.nx q H')->B F σ H1)(h2:∀H1,C false H1->J σ H1)(O:∀q H',J q H'->R D q H'):a3e (a5I t B a2p) R D σ H:=by
 refine ht _ fun b H1 G=>?_
 cases b with
 | true=>exact B9 (h1 H1 G _ (fun _ _ z=>z) fun q H' j=>O q H' j)
 | false=>exact F8 (O σ H1 (h2 H1 G))
noncomputable def b1y:Sp:=fun vs H Q _=>∃(r sp mk va lf de:Addr)(p:Str)(j:Nat)(rw:Rw)(mkv:List (List Key×V))(km:KM)(nums:List Int)(S:RS),vs=[.ref r,.ref sp,.ref mk,.ref va,.ref lf,.ref de]/\a5c H r rw/\Y4 rw=true/\SgR rw/\H sp=some (.tup [.str p,.int (j:Int)])/\H mk=some (.dT mkv)/\mk≠va/\RSt H va lf de nums S/\a0t (b1G H mkv km p) rw/\S.ft=none/\S.tr.length<=2000/\S.gv.length<=2000/\
 ∀(v:V)(H':Hp),a1Q va lf de H H'->RSt H' va lf de nums (F6 km nums S p j rw)->FtX H' v (F6 km nums S p j rw).ft->Q v H'
theorem a8T(T:Txt K mg):L2.Cl P w K mg base 2 "_law_row_done" ["_law_row_here","_law_spot","_law_makers_here","_law_values","_law_left","_law_deeds"] b1y:=by
 have hf:=b1C (P:=P) (w:=w) (base:=base) T
 refine Cl.of T.d_law_row_done a0b (fun vs H Q E h=>?_) (fun _ _ _ _ _ _ us hl=>match us,hl with | [_,_,_,_,_,_],_=>rfl) (fun fa sB A outer s H vs Q E hr h=>?_)
 ·obtain⟨r,sp,mk,va,lf,de,p,j,rw,hC,km,nums,S,rfl,_⟩:=h
  rfl
 ·obtain⟨r,sp,mk,va,lf,de,p,j,hP,hC,km,nums,S,rfl,hra,hw,hm,O,hE,sC,Y,hU,hx,sA,sH,q⟩:=h
  have hu:=B2 hr
  have sn:=Nat.lt_of_succ_lt hu
  have sD:sizeLine=16777216:=sizeLine_eq
  obtain⟨us,ss,sj⟩:=Y.hd
  have sG:=AE sj
  have fault:∀{H1:Hp}{k:Str}{w':Int}{Q':VK},G5 H H1->F6 km nums S p j hP={S with ft:=some (k,p,j,w')}->(∀v H2,Q v H2->Q' v H2)->∀Z,H1 Z=none->∀t2,upd H1 Z (.tup [.str k]) t2=none->∀B,upd (upd H1 Z (.tup [.str k])) t2 (.tup ([.str k]++[.str p,.int (j:Int)])) B=none->∀G,upd (upd (upd H1 Z (.tup [.str k])) t2 (.tup ([.str k]++[.str p,.int (j:Int)]))) B (.tup [.int w']) G=none->Q' (.ref G) (upd (upd (upd (upd H1 Z (.tup [.str k])) t2 (.tup ([.str k]++[.str p,.int (j:Int)]))) B (.tup [.int w'])) G (.tup (([.str k]++[.str p,.int (j:Int)])++[.int w']))):=fun{H1 k w' Q'}s1 e hQ Z g1 t2 g2 B g3 G g4=>by
   have s4:=(((s1.new (o:= .tup [.str k]) g1).new (o:= .tup ([.str k]++[.str p,.int (j:Int)])) g2).new (o:= .tup [.int w']) g3).new (o:= .tup (([.str k]++[.str p,.int (j:Int)])++[.int w'])) g4
   refine hQ _ _ (q _ _ (a1Q.of s4) ?_ ?_)
   ·rw[e]
    have h2:=Y.same s4
    exact⟨h2.hv,h2.hl,h2.hd,h2.n1,h2.gi,h2.tkl⟩
   ·rw[e]
    exact⟨G,rfl,G1⟩
  refine⟨_,(G3 (U8 (J6 O3 (I0 J5 (pv 0) G2 (fun _ _=>rfl)) R7 (U0 _))
    (G3 (E5 hu (pv 3) (pv 1) G2 rfl)
    (G3 (U8 (J6 (a1j sn) (pv 4) (Y3 G4) (U0 _))
     (G6 (E5 hu (pv 3) (pv 1) (a7s PySem.F.plainAttrs_list PySem.F.slot_list_pop PySem.F.type_list_pop a7m (pv 4)) rfl)) R8)
    (G3 (Y1 (D4 PySem.F.plainAttrs_list PySem.F.slot_list_append PySem.F.type_list_append Y5 (pv 5) (G0 (G9 a1s (R1 (G0 R7 (G0 (Z4 hu (pv 3) (pv 1) (fun _ _=>rfl)) G4))) (pv 1)) G4)))
    (G6 (R9 a2u))))) R8)
   (G3 (U8 (PW.pt (a0x (J6 O3 (I0 J5 (pv 0) G2 (fun _ _=>rfl)) R7 (U0 _)) (M1 (a0R (a7d (I0 J5 (pv 0) G2 (fun _ _=>rfl)))))))
    (G3 (U8 (a0R (a1M hu (Z4 hu (pv 2) (R1 (G0 (I0 J5 (pv 1) G2 (fun _ _=>rfl)) (G0 (I0 J5 (pv 0) G2 (fun _ _=>rfl)) G4))) (fun _ _=>rfl)) (pv 3)))
     (G6 (R9 (G9 a1s (G9 a1s (R1 (G0 R7 G4)) (pv 1)) (R1 (G0 (G9 Z7 (G9 E8 G2 (U5 R5 (by rfl) T.n_len PySem.boot_len (G0 (I0 J5 (pv 0) G2 (fun _ _=>rfl)) G4))) G2) G4))))) R8)
    (G6 (U8 (J6 b5C (Z4 hu (pv 3) (Z4 hu (pv 2) (R1 (G0 (I0 J5 (pv 1) G2 (fun _ _=>rfl)) (G0 (I0 J5 (pv 0) G2 (fun _ _=>rfl)) G4))) (fun _ _=>rfl)) (fun _ _=>rfl)) G2 (U0 _))
     (G6 (R9 a2u)) R8))) R8)
   (G3 (J1 (i:=6) a0b.nd rfl (Or.inl rfl) (Y6 b1u (by rfl) T.n_int boot_int (G0 (b0g O3 (I0 J5 (pv 0) G2 (fun _ _=>rfl)) R7 (U0 _)) G4)))
   (G3 (a4F (W0 hf hr (by rfl) (G0 (I0 J5 (pv 0) (G9 Z7 G2 (pv 6)) (fun _ _=>rfl)) (G0 (G9 Z7 G2 (G9 E8 G2 (pv 6))) (G0 (I0 J5 (pv 1) G2 (fun _ _=>rfl)) (G0 (pv 2) (G0 (pv 3) G4)))))) (E7 rfl (J0 (I9 (i:=7) a0b.nd rfl (Or.inl rfl)) (J0 (I9 (i:=8) a0b.nd rfl (Or.inl rfl)) Y2))))
   (G3 (U8 (a0R (a7d (pv 8)))
    (G6 (R9 (G9 a1s (G9 a1s (R1 (G0 R7 G4)) (pv 1)) (R1 (G0 (pv 8) G4))))) R8)
   (G3 (U8 (PW.pt (a0x (J6 O3 (I0 J5 (pv 0) G2 (fun _ _=>rfl)) R7 (U0 _)) (M1 (J6 b5C (pv 7) G2 (U0 _)))))
    (G6 (R9 (G9 a1s (G9 a1s (R1 (G0 R7 G4)) (pv 1)) (R1 (G0 G2 G4))))) R8)
   (G3 (U8 (J6 O3 (I0 J5 (pv 0) G2 (fun _ _=>rfl)) R7 (U0 _))
    (G6 (E5 hu (pv 3) (pv 1) (pv 7) rfl)) R8)
   (G3 (U8 (J6 O3 (I0 J5 (pv 0) G2 (fun _ _=>rfl)) R7 (U0 _))
    (G6 (Y1 (D4 PySem.F.plainAttrs_list PySem.F.slot_list_append PySem.F.type_list_append Y5 (pv 5) (G0 (G9 a1s (R1 (G0 R7 (G0 (pv 7) G4))) (pv 1)) G4)))) R8)
   (G6 (R9 a2u)))))))))),?_⟩
  cases hP with
  | take o=>
   have h1:H r=some (.tup [.str "take",.str o]):=hra
   refine⟨_,rfl,r,_,_,_,rfl,rfl,SqT.of h1,R3 (j:=0) rfl,rfl,_,rfl,D8 ?_⟩
   refine⟨_,rfl,_,rfl,va,_,rfl,a0z.t (k:=kp (p,j)) Y.hv O (by omega),?_⟩
   have b1:a1Q va lf de H (upd H va (.dT (U7 S.gv (kp (p,j)) (.int 0)))):=(a1Q.of (G5.refl H)).put (.inl rfl)
   have U:=Y.put (p,j) 0
   generalize upd H va (.dT (U7 S.gv (kp (p,j)) (.int 0)))=H1 at b1 U⊢
   have T1:=Y.tups b1
   refine b8p ?_
   refine b4r (fun b D=>G5 H1 D/\b= !((nums.drop S.tk).reverse.map V.int).isEmpty) (fun hz D=>hz=[some (.ref r),some (.ref sp),some (.ref mk),some (.ref va),some (.ref lf),some (.ref de),none,none,none]/\a1Q va lf de H D/\RSt D va lf de nums {S with tk:=if S.tk=nums.length then S.tk else S.tk+1,gv:=U7 S.gv (kp (p,j)) (.int (nums.getD S.tk 0))}) ?_ ?_ ?_ ?_
   ·intro Q' h
    exact⟨_,rfl,a0s,fun z gz=>⟨lf,z,_,rfl,rfl,SqL.of (U2 U.hl gz),SqL.of G1,_,rfl,h _ _ ⟨(G5.refl H1).new gz,rfl⟩⟩⟩
   ·rintro D ⟨s5,hb⟩ D' hJ
    have ho:=U.same s5
    have hF:¬S.tk=nums.length:=fun z=>by rw[z,List.drop_length]at hb;cases hb
    have so:=Y.tkl
    have hG:S.tk < nums.length:=by omega
    have ed:(nums.drop S.tk).reverse.map V.int=(nums.drop (S.tk+1)).reverse.map V.int++[.int nums[S.tk]]:=by rw[List.drop_eq_getElem_cons hG,List.reverse_cons,AG];rfl
    have eg:nums.getD S.tk 0=nums[S.tk]:=by rw[BE,AQ hG];rfl
    have hs:D lf=some (.lst ((nums.drop S.tk).reverse.map V.int)):=ho.hl
    rw[ed]at hs
    refine⟨_,rfl,.inl ⟨rfl,_,SqL.of hs⟩,lf,_,.int nums[S.tk],rfl,rfl,hs,by simp,?_⟩
    rw[List.dropLast_concat]
    have hM:=ho.told (k:=S.tk+1) (by omega)
    have b6:=(b1.same s5).put (y:=lf) (o:= .lst ((nums.drop (S.tk+1)).reverse.map V.int)) (.inr (.inl rfl))
    generalize upd D lf (.lst ((nums.drop (S.tk+1)).reverse.map V.int))=H6 at hM b6⊢
    have sF:=F3 S.gv (kp (p,j)) (.int 0)
    refine⟨_,rfl,_,rfl,va,_,rfl,a0z.t (k:=kp (p,j)) hM.hv (Y.tups b6 _ _ O) (by show(U7 S.gv (kp (p,j)) (.int 0)).length < sizeLine;omega),?_⟩
    have sk:=hM.put (p,j) nums[S.tk]
    refine hJ _ _ ⟨rfl,b6.put (.inl rfl),?_⟩
    have e7:U7 (U7 S.gv (kp (p,j)) (.int 0)) (kp (p,j)) (.int nums[S.tk])=U7 S.gv (kp (p,j)) (.int nums[S.tk]):=a9v _ _ _ _
    rw[if_neg hF,eg]
    have hN:RSt (upd H6 va (.dT (U7 (U7 S.gv (kp (p,j)) (.int 0)) (kp (p,j)) (.int nums[S.tk])))) va lf de nums {S with tk:=S.tk+1,gv:=U7 (U7 S.gv (kp (p,j)) (.int 0)) (kp (p,j)) (.int nums[S.tk])}:=sk
    rw[e7]at hN
    show RSt (upd H6 va (.dT (U7 (U7 S.gv (kp (p,j)) (.int 0)) (kp (p,j)) (.int nums[S.tk])))) va lf de nums _
    rw[e7]
    exact hN
   ·rintro D ⟨s5,hb⟩
    have hF:S.tk=nums.length:=by
     have so:=Y.tkl
     by_cases z:S.tk=nums.length
     ·exact z
     ·have hG:S.tk < nums.length:=by omega
      rw[List.drop_eq_getElem_cons hG,List.reverse_cons,AG]at hb
      simp at hb
    refine⟨rfl,b1.same s5,?_⟩
    have eg:nums.getD S.tk 0=0:=by rw[hF];simp
    rw[if_pos hF,eg]
    exact U.same s5
   rintro hz D ⟨rfl,b5,ho⟩
   obtain⟨sw,hB,hW⟩:=ho.hd
   have sy:sw.length=S.tr.length:=AE hW
   have hI:=Y.tups b5 _ _ O
   have su:E3 D va (.ref sp) (some (.int (nums.getD S.tk 0))):=by
    have:=E3.t (k:=kp (p,j)) ho.hv hI
    rw[O1,if_pos rfl]at this
    exact this
   refine⟨_,rfl,.inl ⟨rfl,_,SqL.of hB⟩,_,rfl,_,rfl,va,_,rfl,su,O4,fun B hL=>?_⟩
   have s6:G5 D (upd D B (.tup [.str "take",.int (nums.getD S.tk 0)])):=(G5.refl D).new hL
   have hq:upd D B (.tup [.str "take",.int (nums.getD S.tk 0)]) B=some (.tup [.str "take",.int (nums.getD S.tk 0)]):=G1
   generalize upd D B (.tup [.str "take",.int (nums.getD S.tk 0)])=H6 at s6 hq⊢
   refine⟨_,rfl,B,sp,_,_,rfl,rfl,SqT.of hq,SqT.of (s6 _ _ hI),(by show 4<=sizeLine;decide),(fun z=>by cases z),(fun _ z=>by cases z),fun _ _ G hK=>?_⟩
   have s7:G5 D (upd H6 G (.tup ([.str "take",.int (nums.getD S.tk 0)]++[.str p,.int (j:Int)]))):=s6.new hK
   have ht:upd H6 G (.tup ([.str "take",.int (nums.getD S.tk 0)]++[.str p,.int (j:Int)])) G=some (.tup ([.str "take",.int (nums.getD S.tk 0)]++[.str p,.int (j:Int)])):=G1
   generalize upd H6 G (.tup ([.str "take",.int (nums.getD S.tk 0)]++[.str p,.int (j:Int)]))=H7 at s7 ht⊢
   refine⟨de,_,_,rfl,rfl,s7 _ _ hB,by omega,?_⟩
   exact q _ _ ((b5.same s7).put (.inr (.inr rfl))) ((ho.same s7).push (d:=("take",nums.getD S.tk 0,p,j)) (s7 _ _ hB) ⟨G,rfl,ht⟩) (by show FtX _ _ S.ft;rw[hx];rfl)
  | set o ts=>
   obtain⟨t,h1,hp⟩:=hra
   refine⟨_,rfl,r,_,_,_,rfl,rfl,SqT.of h1,R3 (j:=0) rfl,rfl,_,rfl,U9 (by decide +kernel) (a4q ?_)⟩
   refine⟨_,rfl,r,_,_,_,rfl,rfl,SqT.of h1,R3 (j:=0) rfl,rfl,_,rfl,U9 (by decide +kernel) (F8 (a4q ?_))⟩
   refine⟨_,rfl,r,_,_,_,rfl,rfl,SqT.of h1,R3 (j:=0) rfl,rfl,.inr ⟨_,rfl,?_⟩⟩
   rw[decide_eq_true rfl,if_pos rfl]
   refine⟨_,rfl,_,rfl,_,_,rfl,rfl,r,_,_,_,rfl,rfl,SqT.of h1,R3 (j:=2) rfl,_,rfl,_,_,rfl,rfl,.inl ⟨by decide,by decide⟩,_,_,rfl,rfl,_,rfl,sp,_,_,_,rfl,rfl,SqT.of O,R3 (j:=0) rfl,_,rfl,_,rfl,t,mk,va,3,p,ts,hC,S.gv,km,rfl,hE,Y.hv,hp,hU.2,Y.gi,hm.1,hm.2,fun c a wv H1 s1 hc hk hn=>?_⟩
   refine⟨c,_,rfl,SqT.of hc,rfl,_,_,rfl,_,_,rfl,rfl,?_⟩
   have U:=Y.same s1
   have J:=s1 _ _ O
   cases he:D5 km S.gv p ts with
   | some k=>
    have hA:=hk k he
    subst hA
    refine⟨_,rfl,_,rfl,a6M (fun z=>by cases z) ?_⟩
    have hd:F6 km nums S p j (.set o ts)={S with ft:=some ("early",p,j,3+2*(k:Int))}:=by simp only[F6];rw[he]
    refine⟨a3d,fun Z g1=>⟨_,rfl,Z,sp,_,_,rfl,rfl,SqT.of G1,SqT.of (U2 J g1),a0p,(fun z=>by cases z),(fun _ z=>by cases z),fun _ _ t2 g2=>⟨_,rfl,a3d,fun B g3=>⟨t2,B,_,_,rfl,rfl,SqT.of (U2 G1 g3),SqT.of G1,(by show 4<=sizeLine;decide),(fun z=>by cases z),(fun _ z=>by cases z),fun _ _ G g4=>fault s1 hd (fun _ _ z=>z) Z g1 t2 g2 B g3 G g4⟩⟩⟩⟩
   | none=>
    obtain⟨rfl,rfl⟩:=hn he
    have hd:F6 km nums S p j (.set o ts)={S with gv:=U7 S.gv (kp (p,j)) (.int (M4 km S.gv p ts))}:=by simp only[F6];rw[he]
    have ha:=s1 _ _ h1
    refine⟨_,rfl,_,rfl,a5u rfl (a4q ?_)⟩
    refine⟨_,rfl,r,_,_,_,rfl,rfl,SqT.of ha,R3 (j:=0) rfl,rfl,_,rfl,U9 (by decide +kernel) (F8 (a4q ?_))⟩
    refine⟨_,rfl,r,_,_,_,rfl,rfl,SqT.of ha,R3 (j:=0) rfl,rfl,_,rfl,D8 ?_⟩
    refine⟨_,rfl,_,rfl,_,rfl,va,_,rfl,a0z.t (k:=kp (p,j)) U.hv J (by omega),?_⟩
    have b2:a1Q va lf de H (upd H1 va (.dT (U7 S.gv (kp (p,j)) (.int (M4 km S.gv p ts))))):=(a1Q.of s1).put (.inl rfl)
    have hZ:=U.put (p,j) (M4 km S.gv p ts)
    generalize upd H1 va (.dT (U7 S.gv (kp (p,j)) (.int (M4 km S.gv p ts))))=H2 at b2 hZ⊢
    refine⟨_,rfl,r,_,_,_,rfl,rfl,SqT.of (Y.tups b2 _ _ h1),R3 (j:=0) rfl,rfl,_,rfl,U9 (by decide +kernel) ?_⟩
    exact q _ _ b2 (by rw[hd];exact hZ) (by rw[hd];show FtX _ _ S.ft;rw[hx];rfl)
  | need ts=>
   obtain⟨t,h1,hp⟩:=hra
   refine⟨_,rfl,r,_,_,_,rfl,rfl,SqT.of h1,R3 (j:=0) rfl,rfl,_,rfl,U9 (by decide +kernel) (a4q ?_)⟩
   refine⟨_,rfl,r,_,_,_,rfl,rfl,SqT.of h1,R3 (j:=0) rfl,rfl,_,rfl,U9 (by decide +kernel) (F8 (a4q ?_))⟩
   refine⟨_,rfl,r,_,_,_,rfl,rfl,SqT.of h1,R3 (j:=0) rfl,rfl,.inr ⟨_,rfl,?_⟩⟩
   rw[AZ (by decide +kernel),if_neg AH]
   refine⟨_,rfl,_,rfl,_,_,rfl,rfl,r,_,_,_,rfl,rfl,SqT.of h1,R3 (j:=1) rfl,_,rfl,_,_,rfl,rfl,.inl ⟨by decide,by decide⟩,_,_,rfl,rfl,_,rfl,sp,_,_,_,rfl,rfl,SqT.of O,R3 (j:=0) rfl,_,rfl,_,rfl,t,mk,va,1,p,ts,hC,S.gv,km,rfl,hE,Y.hv,hp,hU,Y.gi,hm.1,hm.2,fun c a wv H1 s1 hc hk hn=>?_⟩
   refine⟨c,_,rfl,SqT.of hc,rfl,_,_,rfl,_,_,rfl,rfl,?_⟩
   have U:=Y.same s1
   have J:=s1 _ _ O
   cases he:D5 km S.gv p ts with
   | some k=>
    have hA:=hk k he
    subst hA
    refine⟨_,rfl,_,rfl,a6M (fun z=>by cases z) ?_⟩
    have hd:F6 km nums S p j (.need ts)={S with ft:=some ("early",p,j,1+2*(k:Int))}:=by simp only[F6];rw[he]
    refine⟨a3d,fun Z g1=>⟨_,rfl,Z,sp,_,_,rfl,rfl,SqT.of G1,SqT.of (U2 J g1),a0p,(fun z=>by cases z),(fun _ z=>by cases z),fun _ _ t2 g2=>⟨_,rfl,a3d,fun B g3=>⟨t2,B,_,_,rfl,rfl,SqT.of (U2 G1 g3),SqT.of G1,(by show 4<=sizeLine;decide),(fun z=>by cases z),(fun _ z=>by cases z),fun _ _ G g4=>fault s1 hd (fun _ _ z=>z) Z g1 t2 g2 B g3 G g4⟩⟩⟩⟩
   | none=>
    obtain⟨rfl,rfl⟩:=hn he
    have ha:=s1 _ _ h1
    refine⟨_,rfl,_,rfl,a5u rfl (a4q ?_)⟩
    refine⟨_,rfl,r,_,_,_,rfl,rfl,SqT.of ha,R3 (j:=0) rfl,rfl,_,rfl,D8 ?_⟩
    refine⟨_,rfl,_,_,rfl,rfl,_,rfl,a3q (fun hg=>?_) (fun hg=>a4q ?_)⟩
    ·have hd:F6 km nums S p j (.need ts)={S with ft:=some ("need",p,j,0)}:=by simp only[F6];rw[he];exact if_pos (of_decide_eq_true hg)
     exact⟨a3d,fun Z g1=>⟨_,rfl,Z,sp,_,_,rfl,rfl,SqT.of G1,SqT.of (U2 J g1),a0p,(fun z=>by cases z),(fun _ z=>by cases z),fun _ _ t2 g2=>⟨a3d,fun B g3=>⟨t2,B,_,_,rfl,rfl,SqT.of (U2 G1 g3),SqT.of G1,(by show 4<=sizeLine;decide),(fun z=>by cases z),(fun _ z=>by cases z),fun _ _ G g4=>fault s1 hd (fun _ _ z=>z) Z g1 t2 g2 B g3 G g4⟩⟩⟩⟩
    ·have hd:F6 km nums S p j (.need ts)=S:=by simp only[F6];rw[he];exact if_neg fun z=>hg (decide_eq_true z)
     refine⟨_,rfl,r,_,_,_,rfl,rfl,SqT.of ha,R3 (j:=0) rfl,rfl,_,rfl,U9 (by decide +kernel) (a4q ?_)⟩
     refine⟨_,rfl,r,_,_,_,rfl,rfl,SqT.of ha,R3 (j:=0) rfl,rfl,_,rfl,U9 (by decide +kernel) ?_⟩
     exact q _ _ (a1Q.of s1) (by rw[hd];exact U) (by rw[hd,hx];rfl)
  | say ts wh=>
   obtain⟨t,h1,hp⟩:=hra
   have z0:atI [V.str "say",V.ref t,a1h wh] 0=some (.str "say"):=R3 (j:=0) rfl
   have z2:atI [V.str "say",V.ref t,a1h wh] 2=some (a1h wh):=R3 (j:=2) rfl
   refine⟨_,rfl,r,_,_,_,rfl,rfl,SqT.of h1,z0,rfl,_,rfl,U9 (by decide +kernel) (a4q ?_)⟩
   refine b4f (fun b D=>D=H/\b= !decide (a1h wh= .non)) (fun hz D=>hz=[some (.ref r),some (.ref sp),some (.ref mk),some (.ref va),some (.ref lf),some (.ref de),none,none,none]/\G5 H D/\F6 km nums S p j (.say ts wh)=a4r km S p j ts) ?_ ?_ ?_ ?_
   ·intro Q' h
    exact⟨_,rfl,r,_,_,_,rfl,rfl,SqT.of h1,z0,rfl,_,rfl,D8 ⟨_,rfl,r,_,_,_,rfl,rfl,SqT.of h1,z2,_,rfl,h _ _ ⟨rfl,rfl⟩⟩⟩
   ·rintro D ⟨rfl,hb⟩ D' sb hJ
    cases wh with
    | none=>cases hb
    | some x=>
     obtain⟨tm,qm,sx,sf,hY⟩:=hU.2 x rfl
     have hH:∀{H3:Hp}{c:Addr},G5 D H3->H3 c=some (.tup [.str p,a1h (some x)])->E3 H3 mk (.ref c) (some (.ref tm)):=fun{H3 c}s3 hc=>by
      have:=E3.t (k:=U1 (p,x)) (s3 _ _ hE) hc
      rw[sx]at this
      exact this
     refine⟨_,rfl,_,rfl,sp,_,_,_,rfl,rfl,SqT.of O,R3 (j:=0) rfl,_,rfl,r,_,_,_,rfl,rfl,SqT.of h1,z2,O4,fun c gc=>?_⟩
     have s3:G5 D (upd D c (.tup [.str p,a1h (some x)])):=(G5.refl D).new gc
     have se:upd D c (.tup [.str p,a1h (some x)]) c=some (.tup [.str p,a1h (some x)]):=G1
     generalize upd D c (.tup [.str p,a1h (some x)])=H3 at s3 se⊢
     refine⟨mk,_,rfl,hH s3 se,_,rfl,va,_,rfl,E3.t (k:=kp qm) (s3 _ _ Y.hv) (s3 _ _ sf),_,rfl,?_⟩
     cases ek:(W2 S.gv (kp qm)).isSome with
     | false=>
      have hD:¬(lkK km S.gv p x).isSome=true:=by
       unfold lkK
       rw[hY]
       show¬(W2 S.gv (kp qm)).isSome=true
       rw[ek]
       exact AH
      have hd:F6 km nums S p j (.say ts (some x))={S with ft:=some ("early",p,j,2*(ts.length:Int)+1)}:=by simp only[F6];exact if_neg hD
      obtain⟨tv,sr,sl⟩:=hp
      have hR:tv.length=ts.length:=AE sl
      refine B9 ?_
      have hO:=s3 _ _ O
      refine⟨a3d,fun Z g1=>⟨_,rfl,Z,sp,_,_,rfl,rfl,SqT.of G1,SqT.of (U2 hO g1),a0p,(fun z=>by cases z),(fun _ z=>by cases z),fun _ _ t2 g2=>?_⟩⟩
      have k1:∀{a:Addr}{o:HO},D a=some o->upd (upd H3 Z (.tup [.str "early"])) t2 (.tup ([.str "early"]++[.str p,.int (j:Int)])) a=some o:=fun{a o}h=>U2 (U2 (s3 _ _ h) g1) g2
      refine⟨_,rfl,r,_,_,_,rfl,rfl,SqT.of (k1 h1),R3 (j:=1) rfl,t,_,rfl,.inr (SqT.of (k1 sr)),_,_,rfl,rfl,.inl ⟨by decide,by decide⟩,_,_,rfl,rfl,a3d,fun B g3=>?_⟩
      rw[hR]
      exact⟨t2,B,_,_,rfl,rfl,SqT.of (U2 G1 g3),SqT.of G1,(by show 4<=sizeLine;decide),(fun z=>by cases z),(fun _ z=>by cases z),fun _ _ G g4=>fault s3 hd sb Z g1 t2 g2 B g3 G g4⟩
     | true=>
      refine F8 ?_
      obtain⟨iv,h3,h4⟩:=b2N Y.gi hY ek
      refine⟨_,rfl,_,rfl,_,rfl,sp,_,_,_,rfl,rfl,SqT.of (s3 _ _ O),R3 (j:=0) rfl,_,rfl,r,_,_,_,rfl,rfl,SqT.of (s3 _ _ h1),z2,O4,fun c' sm=>?_⟩
      have s4:G5 H3 (upd H3 c' (.tup [.str p,a1h (some x)])):=(G5.refl H3).new sm
      have hX:upd H3 c' (.tup [.str p,a1h (some x)]) c'=some (.tup [.str p,a1h (some x)]):=G1
      generalize upd H3 c' (.tup [.str p,a1h (some x)])=H4 at s4 hX⊢
      have hh:=s3.trans s4
      have sv:E3 H4 va (.ref tm) (some (.int iv)):=by
       have:=E3.t (k:=kp qm) (hh _ _ Y.hv) (hh _ _ sf)
       rw[h3]at this
       exact this
      have hD:(lkK km S.gv p x).isSome=true:=by rw[h4];rfl
      have hT:ivK (lkK km S.gv p x)=iv:=by rw[h4];rfl
      refine⟨mk,_,rfl,hH hh hX,va,_,rfl,sv,_,_,rfl,rfl,_,rfl,a3q (fun hg=>?_) (fun hg=>?_)⟩
      ·have hd:F6 km nums S p j (.say ts (some x))=S:=by
        simp only[F6]
        rw[if_pos hD,if_pos (by rw[hT];exact of_decide_eq_true hg)]
       exact sb _ _ (q _ _ (a1Q.of hh) (by rw[hd];exact Y.same hh) (by rw[hd,hx];rfl))
      ·refine hJ _ _ ⟨rfl,hh,?_⟩
       simp only[F6]
       rw[if_pos hD,if_neg (by rw[hT];exact fun z=>hg (decide_eq_true z))]
   ·rintro D ⟨rfl,hb⟩
    cases wh with
    | none=>exact⟨rfl,G5.refl _,rfl⟩
    | some x=>cases hb
   rintro hz H0 ⟨rfl,s0,si⟩
   have sq:=Y.same s0
   have sd:=s0 _ _ h1
   have hV:=s0 _ _ O
   refine⟨_,rfl,r,_,_,_,rfl,rfl,SqT.of sd,z0,rfl,.inr ⟨_,rfl,?_⟩⟩
   rw[AZ (by decide +kernel),if_neg AH]
   refine⟨_,rfl,_,rfl,_,_,rfl,rfl,r,_,_,_,rfl,rfl,SqT.of sd,R3 (j:=1) rfl,_,rfl,_,_,rfl,rfl,.inl ⟨by decide,by decide⟩,_,_,rfl,rfl,_,rfl,sp,_,_,_,rfl,rfl,SqT.of hV,R3 (j:=0) rfl,_,rfl,_,rfl,t,mk,va,1,p,ts,hC,S.gv,km,rfl,s0 _ _ hE,sq.hv,hp.mono s0.tups,(fun d hd y e=>(hU.1 d hd y e).mono s0.tups),Y.gi,hm.1,hm.2,fun c a wv H1 s1 hc hk hn=>?_⟩
   refine⟨c,_,rfl,SqT.of hc,rfl,_,_,rfl,_,_,rfl,rfl,?_⟩
   have hj:=s0.trans s1
   have U:=Y.same hj
   have J:=hj _ _ O
   cases he:D5 km S.gv p ts with
   | some k=>
    have hA:=hk k he
    subst hA
    refine⟨_,rfl,_,rfl,a6M (fun z=>by cases z) ?_⟩
    have hd:F6 km nums S p j (.say ts wh)={S with ft:=some ("early",p,j,1+2*(k:Int))}:=by rw[si];unfold a4r;rw[he]
    exact⟨a3d,fun Z g1=>⟨_,rfl,Z,sp,_,_,rfl,rfl,SqT.of G1,SqT.of (U2 J g1),a0p,(fun z=>by cases z),(fun _ z=>by cases z),fun _ _ t2 g2=>⟨_,rfl,a3d,fun B g3=>⟨t2,B,_,_,rfl,rfl,SqT.of (U2 G1 g3),SqT.of G1,(by show 4<=sizeLine;decide),(fun z=>by cases z),(fun _ z=>by cases z),fun _ _ G g4=>fault hj hd (fun _ _ z=>z) Z g1 t2 g2 B g3 G g4⟩⟩⟩⟩
   | none=>
    obtain⟨rfl,rfl⟩:=hn he
    have hd:F6 km nums S p j (.say ts wh)={S with tr:=S.tr++[(("say":Str),M4 km S.gv p ts,p,j)]}:=by rw[si];unfold a4r;rw[he]
    have ha:=hj _ _ h1
    have hy:=hj _ _ ss
    refine⟨_,rfl,_,rfl,a5u rfl (a4q ?_)⟩
    refine⟨_,rfl,r,_,_,_,rfl,rfl,SqT.of ha,z0,rfl,_,rfl,U9 (by decide +kernel) (F8 (a4q ?_))⟩
    refine⟨_,rfl,r,_,_,_,rfl,rfl,SqT.of ha,z0,rfl,_,rfl,U9 (by decide +kernel) (a4q ?_)⟩
    refine⟨_,rfl,r,_,_,_,rfl,rfl,SqT.of ha,z0,rfl,_,rfl,D8 ?_⟩
    refine⟨_,rfl,.inl ⟨rfl,_,SqL.of hy⟩,_,rfl,O4,fun B hL=>?_⟩
    have s6:G5 H1 (upd H1 B (.tup [.str "say",.int (M4 km S.gv p ts)])):=(G5.refl H1).new hL
    have hq:upd H1 B (.tup [.str "say",.int (M4 km S.gv p ts)]) B=some (.tup [.str "say",.int (M4 km S.gv p ts)]):=G1
    generalize upd H1 B (.tup [.str "say",.int (M4 km S.gv p ts)])=H6 at s6 hq⊢
    refine⟨_,rfl,B,sp,_,_,rfl,rfl,SqT.of hq,SqT.of (s6 _ _ J),(by show 4<=sizeLine;decide),(fun z=>by cases z),(fun _ z=>by cases z),fun _ _ G hK=>?_⟩
    have s7:G5 H1 (upd H6 G (.tup ([.str "say",.int (M4 km S.gv p ts)]++[.str p,.int (j:Int)]))):=s6.new hK
    have ht:upd H6 G (.tup ([.str "say",.int (M4 km S.gv p ts)]++[.str p,.int (j:Int)])) G=some (.tup ([.str "say",.int (M4 km S.gv p ts)]++[.str p,.int (j:Int)])):=G1
    generalize upd H6 G (.tup ([.str "say",.int (M4 km S.gv p ts)]++[.str p,.int (j:Int)]))=H7 at s7 ht⊢
    refine⟨de,_,_,rfl,rfl,s7 _ _ hy,by omega,?_⟩
    exact q _ _ ((a1Q.of (hj.trans s7)).put (.inr (.inr rfl))) (by rw[hd];exact(U.same s7).push (d:=("say",M4 km S.gv p ts,p,j)) (s7 _ _ hy) ⟨G,rfl,ht⟩) (by rw[hd];show FtX _ _ S.ft;rw[hx];rfl)
  | _=>cases hw
theorem a1O{ps:List Pt}:∀(k:Nat)(q:List Pl)(b:List Str)(o:List Pl),((o++q).map fun x=>(x.1,x.2.1)).Nodup->(∀x∈o++q,x.1∈b)->((lay ps k q b o).map fun x=>(x.1,x.2.1)).Nodup
 | 0,q,b,o,h,_=>by
  rw[AG]at h
  exact(AR.mp h).1
 | _+1,[],b,o,h,_=>by
  rw[BB]at h
  exact h
 | k+1,y::t,b,o,h,Z=>by
  have D:(o++t).Sublist (o++y::t):=List.Sublist.append_left (List.sublist_cons_self y t) o
  have j:((o++t).map fun x=>(x.1,x.2.1)).Nodup:=(D.map _).nodup h
  have B:∀x∈o++t,x.1∈b:=fun x hx=>Z x (D.subset hx)
  rw[lay]
  by_cases hw:Y4 y.2.2=true
  ·rw[if_pos hw]
   refine a1O k t b (o++[y]) (by rw[BD];exact h) (fun x hx=>Z x (by rw[BD]at hx;exact hx))
  ·rw[if_neg hw]
   cases a0a y.2.2 with
   | none=>exact a1O k t b o j B
   | some m=>
    show((if m∈b then lay ps k t b o else lay ps k (J3 m (R0 ps m)++t) (b++[m]) o).map _).Nodup
    by_cases G:m∈b
    ·rw[if_pos G];exact a1O k t b o j B
    ·rw[if_neg G]
     have F:=j
     rw[AG]at F
     obtain⟨ho,ht,hd⟩:=AR.mp F
     have Y:∀x∈(J3 m (R0 ps m)).map (fun x=>(x.1,x.2.1)),x.1=m:=fun x hx=>by
      obtain⟨x',h1,e⟩:=AO.mp hx
      rw[<-e]
      exact(O9.mp h1).1
     have hB:∀l:List Pl,(∀x∈l,x.1∈b)->∀x∈l.map (fun x=>(x.1,x.2.1)),x.1∈b:=fun l hl x hx=>by
      obtain⟨x',h1,e⟩:=AO.mp hx
      rw[<-e]
      exact hl x' h1
     have O:=hB o fun x hx=>B x (AX _ hx)
     have J:=hB t fun x hx=>B x (AV _ hx)
     refine a1O k _ _ o ?_ (fun x hx=>?_)
     ·rw[AG,AG]
      refine AR.mpr ⟨ho,AR.mpr ⟨a1Z _ _,ht,fun x hx z U e=>?_⟩,fun x hx z U e=>?_⟩
      ·have h1:=Y x hx
       have h2:=J z U
       rw[<-e,h1]at h2
       exact G h2
      ·rcases AL.mp U with w | w
       ·have h1:=Y z w
        have h2:=O x hx
        rw[e,h1]at h2
        exact G h2
       ·exact hd x hx z w e
     ·rcases AL.mp hx with w | w
      ·exact AX _ (B x (AX _ w))
      ·rcases AL.mp w with u | u
       ·rw[(O9.mp u).1];exact AV _ (AC.mpr rfl)
       ·exact AX _ (B x (AV _ u))
theorem a4h{ps:List Pt}:∀(k:Nat)(j:List Pl)(b:List Str)(o:List Pl),∃r,lay ps k j b o=o++r
 | 0,j,b,o=>⟨[],by rw[BB];rfl⟩
 | _+1,[],b,o=>⟨[],by rw[BB];rfl⟩
 | k+1,y::t,b,o=>by
  rw[lay]
  by_cases hw:Y4 y.2.2=true
  ·rw[if_pos hw]
   obtain⟨r,e⟩:=a4h (ps:=ps) k t b (o++[y])
   exact⟨y::r,by rw[e,BD];rfl⟩
  ·rw[if_neg hw]
   cases a0a y.2.2 with
   | none=>exact a4h k t b o
   | some m=>
    show∃r,(if m∈b then lay ps k t b o else lay ps k (J3 m (R0 ps m)++t) (b++[m]) o)=o++r
    by_cases q:m∈b
    ·rw[if_pos q];exact a4h k t b o
    ·rw[if_neg q];exact a4h k _ _ o
noncomputable def a5R (ps:List Pt) (b:List Str) (todo o:List Pl):Prop:=∀m∈b,∀y∈J3 m (R0 ps m),(Y4 y.2.2=true->y∈o\/y∈todo)/\(Y4 y.2.2=false->∀q,a0a y.2.2=some q->q∈b\/y∈todo)
theorem a2H{ps:List Pt}(U:(ps.map (·.1)).Nodup)(O:a0l ps):∀(k:Nat)(D:List Pl)(b:List Str)(o:List Pl),D.length+a0k ps b<=k->(∀m∈b,m∈ps.map (·.1))->(∀x∈D,x.1∈b/\x∈J3 x.1 (R0 ps x.1))->(∀x∈o,x.1∈b)->a5R ps b D o->∃B,(∀m∈b,m∈B)/\a5R ps B [] (lay ps k D b o)/\∀x∈lay ps k D b o,x.1∈B
 | 0,D,b,o,hf,_,_,ho,h=>by
  have:D=[]:=List.length_eq_zero_iff.mp (by omega)
  subst this
  exact⟨b,fun _ z=>z,h,ho⟩
 | _+1,[],b,o,_,_,_,ho,h=>⟨b,fun _ z=>z,h,ho⟩
 | k+1,y::t,b,o,hf,Y,hb,ho,h=>by
  rw[List.length_cons]at hf
  have G:∀x∈t,x.1∈b/\x∈J3 x.1 (R0 ps x.1):=fun x hx=>hb x (AK _ hx)
  rw[lay]
  by_cases hw:Y4 y.2.2=true
  ·rw[if_pos hw]
   refine a2H U O k t b (o++[y]) (by omega) Y G (fun x hx=>?_) fun m Z z hz=>⟨fun j=>?_,fun j q F=>?_⟩
   ·rcases AL.mp hx with w | w
    ·exact ho x w
    ·rw[AC.mp w];exact(hb y AM).1
   ·rcases(h m Z z hz).1 j with w | w
    ·exact .inl (AX _ w)
    ·rcases List.mem_cons.mp w with u | u
     ·exact .inl (AV _ (AC.mpr u))
     ·exact .inr u
   ·rcases(h m Z z hz).2 j q F with w | w
    ·exact .inl w
    ·rcases List.mem_cons.mp w with u | u
     ·rw[u,hw]at j;cases j
     ·exact .inr u
  ·rw[if_neg hw]
   have hh:Y4 y.2.2=false:=by simpa using hw
   have J:∀(b':List Str)(t':List Pl),(∀m∈b,m∈b')->(∀x∈t,x∈t')->(∀q,a0a y.2.2=some q->q∈b')->∀m∈b,∀z∈J3 m (R0 ps m),(Y4 z.2.2=true->z∈o\/z∈t')/\(Y4 z.2.2=false->∀q,a0a z.2.2=some q->q∈b'\/z∈t'):=fun b' t' hn hc hj m Z z hz=>by
    refine⟨fun j=>?_,fun j q F=>?_⟩
    ·rcases(h m Z z hz).1 j with w | w
     ·exact .inl w
     ·rcases List.mem_cons.mp w with u | u
      ·rw[u,hh]at j;cases j
      ·exact .inr (hc z u)
    ·rcases(h m Z z hz).2 j q F with w | w
     ·exact .inl (hn q w)
     ·rcases List.mem_cons.mp w with u | u
      ·rw[u]at F;exact .inl (hj q F)
      ·exact .inr (hc z u)
   cases eb:a0a y.2.2 with
   | none=>exact a2H U O k t b o (by omega) Y G ho (J b t (fun _ z=>z) (fun _ z=>z) fun q F=>by rw[eb]at F;cases F)
   | some m=>
    show∃B,_/\a5R ps B [] (if m∈b then lay ps k t b o else lay ps k (J3 m (R0 ps m)++t) (b++[m]) o)/\∀x∈(if m∈b then lay ps k t b o else lay ps k (J3 m (R0 ps m)++t) (b++[m]) o),x.1∈B
    by_cases Z:m∈b
    ·rw[if_pos Z]
     exact a2H U O k t b o (by omega) Y G ho (J b t (fun _ z=>z) (fun _ z=>z) fun q F=>by rw[eb]at F;cases F;exact Z)
    ·rw[if_neg Z]
     obtain⟨hs,hr⟩:=hb y AM
     have hk:=Y _ hs
     have ha:=(O9.mp hr).2
     have hg:m∈ps.map (·.1):=by
      refine O y.1 hk m ?_
      unfold k1
      cases er:y.2.2 with
      | bring m' hu=>
       rw[er]at eb ha
       have:m'=m:=Option.some.inj eb
       subst this
       exact a3t rfl (AD ha)
      | _=>rw[er]at eb;cases eb
     obtain⟨rm,he⟩:=a0q hg
     have ht:=a2B he Z
     have hp:=O6 U he
     have a1:∀q∈b++[m],q∈ps.map (·.1):=fun q F=>by
      rcases AL.mp F with w | w
      ·exact Y q w
      ·rw[AC.mp w];exact hg
     have a2:∀x∈J3 m (R0 ps m)++t,x.1∈b++[m]/\x∈J3 x.1 (R0 ps x.1):=fun x hx=>by
      rcases AL.mp hx with w | w
      ·have e:=(O9.mp w).1
       exact⟨by rw[e];exact AV _ (AC.mpr rfl),by rw[e];exact w⟩
      ·exact⟨AX _ (G x w).1,(G x w).2⟩
     have a3:a5R ps (b++[m]) (J3 m (R0 ps m)++t) o:=fun q F z hz=>by
      rcases AL.mp F with w | w
      ·exact J (b++[m]) (J3 m (R0 ps m)++t) (fun _ z=>AX _ z) (fun _ z=>AV _ z) (fun q F=>by rw[eb]at F;cases F;exact AV _ (AC.mpr rfl)) q w z hz
      ·rw[AC.mp w]at hz
       exact⟨fun _=> .inr (AX _ hz),fun _ _ _=> .inr (AX _ hz)⟩
     obtain⟨B,h1,h2,h3⟩:=a2H U O k (J3 m (R0 ps m)++t) (b++[m]) o (by rw[List.length_append,Z3,hp];omega) a1 a2 (fun x hx=>AX _ (ho x hx)) a3
     exact⟨B,fun q F=>h1 q (AX _ F),h2,h3⟩
noncomputable def D0 (ps:List Pt) (n:Str):List Pl:=lay ps 960 (J3 n (R0 ps n)) [n] []
theorem a6e(ps:List Pt)(n:Str):((D0 ps n).map fun x=>(x.1,x.2.1)).Nodup:=a1O 960 _ _ [] (a1Z _ _) (fun x hx=>by rw[(O9.mp hx).1];exact AC.mpr rfl)
theorem b1D{ps:List Pt}(F:(ps.map (·.1)).Nodup)(j:a0l ps){n:Str}(J:n∈ps.map (·.1))(hf:(J3 n (R0 ps n)).length+a0k ps [n]<=960):∃B,a5R ps B [] (D0 ps n)/\∀x∈D0 ps n,x.1∈B:=by
 have O:∀x∈J3 n (R0 ps n),x.1∈[n]/\x∈J3 x.1 (R0 ps x.1):=fun x hx=>by
  have e:=(O9.mp hx).1
  exact⟨by rw[e];exact AC.mpr rfl,by rw[e];exact hx⟩
 have U:a5R ps [n] (J3 n (R0 ps n)) []:=fun m q z D=>by
  rw[AC.mp q]at D
  exact⟨fun _=> .inr D,fun _ _ _=> .inr D⟩
 obtain⟨B,_,h2,G⟩:=a2H F j 960 (J3 n (R0 ps n)) [n] [] hf (fun m q=>by rw[AC.mp q];exact J) O (fun x hx=>by cases hx) U
 exact⟨B,h2,G⟩
theorem b0a{ps:List Pt}(j:(ps.map (·.1)).Nodup){x:Pl}(h:x∈G7 ps):x∈J3 x.1 (R0 ps x.1):=by
 obtain⟨q,h1,h2⟩:=M0.mp h
 rw[O6 j h1]
 exact O9.mpr ⟨rfl,h2⟩
theorem b2X{rw:Rw}{o:Str}(h:E1 rw=some o):Y4 rw=true:=by
 cases rw with
 | set o ts=>rfl
 | take o=>rfl
 | _=>cases h
theorem a9L{pls:List Pl}{k:Kk}{q:Str×Nat}:(k,q)∈R6 pls↔∃x∈pls,∃o,E1 x.2.2=some o/\k=(x.1,o)/\q=(x.1,x.2.1):=by
 unfold R6
 rw[List.mem_filterMap]
 constructor
 ·rintro⟨x,hx,e⟩
  obtain⟨o,B,j⟩:=Option.map_eq_some_iff.mp e
  exact⟨x,hx,o,B,(Prod.mk.inj j).1.symm,(Prod.mk.inj j).2.symm⟩
 ·rintro⟨x,hx,o,B,D,j⟩
  exact⟨x,hx,by rw[B,D,j];rfl⟩
theorem b4g{ps:List Pt}(D:(ps.map (·.1)).Nodup){B:List Str}{L:List Pl}(Z:a5R ps B [] L){k:Kk}{q:Str×Nat}(h:Mk (R6 (G7 ps)) (Z6 (G7 ps)) k q):k.1∈B->∃z∈L,∃o,E1 z.2.2=some o/\q=(z.1,z.2.1)/\((z.1,o),q)∈R6 (G7 ps):=by
 induction h with
 | @base k q h=>
  intro F
  obtain⟨x,hx,o,ho,Y,G⟩:=a9L.mp h
  rw[Y]at F
  rcases(Z x.1 F x (b0a D hx)).1 (b2X ho)with w | w
  ·exact⟨x,w,o,ho,G,by rw[<-Y];exact h⟩
  ·cases w
 | @step k k' q h _ ih=>
  intro F
  refine ih ?_
  unfold Z6 at h
  obtain⟨y,U,e⟩:=AO.mp h
  unfold W4 at U
  obtain⟨x,hx,hq⟩:=BH.mp U
  obtain⟨O,j,G⟩:=AO.mp hq
  have ek:k=(x.1,O.2.2):=by rw[<-(Prod.mk.inj e).1,<-G]
  have J:k'.1=O.1:=by rw[<-(Prod.mk.inj e).2,<-G]
  rw[ek]at F
  rw[J]
  cases er:x.2.2 with
  | bring m ha=>
   rw[er]at j
   obtain⟨pr,_,e3⟩:=AO.mp j
   have em:O.1=m:=by rw[<-e3]
   rw[em]
   rcases(Z x.1 F x (b0a D hx)).2 (by rw[er];rfl) m (by rw[er];rfl)with w | w
   ·exact w
   ·cases w
  | _=>rw[er]at j;cases j
open Classical in
noncomputable def a5U (ps:List Pt):KM:=fun p x=>if h:∃q,Mk (R6 (G7 ps)) (Z6 (G7 ps)) (p,x) q then some (Classical.choose h)else none
theorem a7J{ps:List Pt}(j:D9 (G7 ps)){p x:Str}{q:Str×Nat}(h:Mk (R6 (G7 ps)) (Z6 (G7 ps)) (p,x) q):a5U ps p x=some q:=by
 unfold a5U
 have B:∃q,Mk (R6 (G7 ps)) (Z6 (G7 ps)) (p,x) q:=⟨q,h⟩
 rw[dif_pos B,j.uniq (Classical.choose_spec B) h]
theorem a9k{D:List Str}{ts:List Tr}(h:a7v D ts):(W7 ts).Nodup:=by
 have:∀i,(W7 (ts.take i)).Nodup:=by
  intro i
  induction i with
  | zero=>simp[W7]
  | succ i q=>
   cases e:ts[i]? with
   | none=>
    rw[List.take_of_length_le (by have:=List.getElem?_eq_none_iff.mp e;omega)]at q⊢
    exact q
   | some t=>
    rw[J2 e]
    unfold W7 at q⊢
    rw[AG]
    refine AR.mpr ⟨q,by simp,fun a B b G z=>?_⟩
    obtain⟨h1,h2⟩:=h i t e
    have J:b=t.2.2:=AC.mp G
    rw[z,J]at B
    by_cases j:t.2.1∈W7 (ts.take i)
    ·obtain⟨k,_,_,_,F,_⟩:=h2 j
     exact F B
    ·rw[h1 j]at B
     exact j B
 have:=this ts.length
 rw[AW]at this
 exact this
theorem b2P{α β:Type}{l:List (α×β)}{a b:α}{n:β}(h:(l.map (·.2)).Nodup)(h1:(a,n)∈l)(h2:(b,n)∈l):a=b:=by
 obtain⟨i,hi⟩:=AT h1
 obtain⟨j,q⟩:=AT h2
 have hl:i < (l.map (·.2)).length:=by rw[List.length_map];exact(List.getElem?_eq_some_iff.mp hi).1
 have e:i=j:=(List.getElem?_inj hl h).mp (by rw[List.getElem?_map,List.getElem?_map,hi,q];rfl)
 subst e
 rw[hi]at q
 exact(Prod.mk.inj (Option.some.inj q)).1
theorem b3V{j:List (Kk×(Str×Nat))}{ts:List Tr}(h:ts.length=j.length):(a0J j ts).map (·.2)=W7 ts:=by
 unfold a0J W7
 rw[List.map_snd_zip]
 rw[List.length_map,List.length_map]
 omega
theorem a2M{r:Rw}(h:Y4 r=true):E6 r=[]/\F4 r=none/\Z2 "bring" r=none:=by
 cases r with
 | set o ts=>exact⟨rfl,rfl,rfl⟩
 | take o=>exact⟨rfl,rfl,rfl⟩
 | say ts w=>exact⟨rfl,rfl,rfl⟩
 | need ts=>exact⟨rfl,rfl,rfl⟩
 | _=>cases h
structure FL(ps:List Pt)(n:Str)(NN:Str->Str->Str)(ts:List Tr):Prop where
 nd:(ps.map (·.1)).Nodup
 net:D9 (G7 ps)
 tl:ts.length=(R6 (G7 ps)).length
 nn:a7v ((Z5 (G7 ps)).map (·.2)) ts
 isn:∀m,IsN (G7 ps) ts m (NN m)
 cl:a0l ps
 us:a5l ps
 nm:n∈ps.map (·.1)
 fu:(J3 n (R0 ps n)).length+a0k ps [n]<=960
section
variable{ps:List Pt}{n:Str}{NN:Str->Str->Str}{ts:List Tr}
theorem FL.inn(f:FL ps n NN ts){x:Pl}(hx:x∈D0 ps n):b0n ps x/\Y4 x.2.2=true:=b3c x hx
theorem FL.len(f:FL ps n NN ts):(D0 ps n).length<=960:=by
 have:=a2d (ps:=ps) 960 (J3 n (R0 ps n)) [n] []
 simp only[List.length_nil,Nat.zero_add]at this
 exact this
theorem FL.own(f:FL ps n NN ts){x:Pl}(hx:x∈D0 ps n){o:Str}(B:E1 x.2.2=some o):((x.1,o),(x.1,x.2.1))∈R6 (G7 ps)/\((x.1,x.2.1),NN x.1 o)∈a0J (R6 (G7 ps)) ts:=by
 have q:x∈G7 ps:=M0.mpr (f.inn hx).1
 have j:((x.1,o),(x.1,x.2.1))∈R6 (G7 ps):=a9L.mpr ⟨x,q,o,B,rfl,rfl⟩
 obtain⟨p,h1,h2⟩:=f.isn x.1 o (AX _ (AS (f:=(·.1)) j))
 rw[f.net.uniq h1 (.base j)]at h2
 exact⟨j,h2⟩
theorem FL.hit(f:FL ps n NN ts){x:Pl}(hx:x∈D0 ps n){y:Str}(G:(x.1,y)∈a5a (G7 ps)):∃(k:Nat)(z:Pl)(o:Str),(D0 ps n)[k]?=some z/\E1 z.2.2=some o/\a5U ps x.1 y=some (z.1,z.2.1)/\NN z.1 o=NN x.1 y:=by
 obtain⟨B,J,O⟩:=b1D f.nd f.cl f.nm f.fu
 obtain⟨p,h1,h2⟩:=f.isn x.1 y G
 obtain⟨z,F,o,D,e,Y⟩:=b4g f.nd J h1 (O x hx)
 obtain⟨k,U⟩:=AT F
 refine⟨k,z,o,U,D,by rw[a7J f.net h1,e],?_⟩
 have q:=(f.own F D).2
 rw[<-e]at q
 have j:((a0J (R6 (G7 ps)) ts).map (·.1)).Nodup:=by rw[b0F f.tl];exact a3T f.nd
 exact a3E j q h2
noncomputable def a3i (ps:List Pt) (n:Str) (NN:Str->Str->Str):List Rw:=(D0 ps n).map fun x=>a3c (NN x.1) x.2.2
noncomputable def ps2 (ps:List Pt) (n:Str) (NN:Str->Str->Str):List Pt:=[(n,a3i ps n NN)]
theorem b7n:G7 (ps2 ps n NN)=a0G n NN (D0 ps n):=by
 show J3 n (a3i ps n NN)++[]=_
 rw[BB]
 rfl
theorem b3R{root:Str}{L:List Pl}{r:Pl}(h:r∈a0G root NN L):∃k x,L[k]?=some x/\r=(root,k,a3c (NN x.1) x.2.2):=by
 obtain⟨k,j⟩:=AT h
 have hl:k < L.length:=by have:=(List.getElem?_eq_some_iff.mp j).1;rw[a1c]at this;exact this
 have hx:L[k]?=some L[k]:=AQ hl
 rw[a3V hx]at j
 exact⟨k,_,hx,(Option.some.inj j).symm⟩
theorem FL.workF(f:FL ps n NN ts){r:Pl}(h:r∈a0G n NN (D0 ps n)):Y4 r.2.2=true:=by
 obtain⟨k,x,hx,e⟩:=b3R h
 rw[e]
 show Y4 (a3c (NN x.1) x.2.2)=true
 rw[a8g]
 exact(f.inn (AD hx)).2
theorem FL.keysF(f:FL ps n NN ts):(Z5 (a0G n NN (D0 ps n))).Nodup:=by
 have hL:=a6e ps n
 have hs:((a0J (R6 (G7 ps)) ts).map (·.2)).Nodup:=by rw[b3V f.tl];exact a9k f.nn
 unfold Z5
 refine List.Pairwise.filterMap (R:=fun a b:Pl=>∀o o',E1 a.2.2=some o->E1 b.2.2=some o'->o≠o') _ (fun a b Y u hu w hw e=>?_) ?_
 ·obtain⟨o,h1,h2⟩:=Option.map_eq_some_iff.mp hu
  obtain⟨o',h3,h4⟩:=Option.map_eq_some_iff.mp hw
  rw[<-h2,<-h4]at e
  exact Y o o' h1 h3 (Prod.mk.inj e).2
 ·rw[List.pairwise_iff_getElem]
  intro i j hi O hc o o' J D e
  rw[a1c]at hi O
  have q:(D0 ps n)[i]?=some (D0 ps n)[i]:=AQ hi
  have B:(D0 ps n)[j]?=some (D0 ps n)[j]:=AQ O
  have ei:(a0G n NN (D0 ps n))[i]'(by rw[a1c];exact hi)=(n,i,a3c (NN (D0 ps n)[i].1) (D0 ps n)[i].2.2):=(List.getElem?_eq_some_iff.mp (a3V q)).2
  have ej:(a0G n NN (D0 ps n))[j]'(by rw[a1c];exact O)=(n,j,a3c (NN (D0 ps n)[j].1) (D0 ps n)[j].2.2):=(List.getElem?_eq_some_iff.mp (a3V B)).2
  rw[ei]at J
  rw[ej]at D
  generalize (D0 ps n)[i]=xi at q J
  generalize (D0 ps n)[j]=xj at B D
  have F:=AD q
  have G:=AD B
  rw[a7h (f.inn F).2]at J
  rw[a7h (f.inn G).2]at D
  obtain⟨a,ha,ea⟩:=Option.map_eq_some_iff.mp J
  obtain⟨b,hb,eb⟩:=Option.map_eq_some_iff.mp D
  have h1:=(f.own F ha).2
  have h2:=(f.own G hb).2
  rw[ea,e]at h1
  rw[eb]at h2
  have U:=b2P hs h1 h2
  have Z:i < ((D0 ps n).map fun x=>(x.1,x.2.1)).length:=by rw[List.length_map];exact hi
  have:i=j:=(List.getElem?_inj Z hL).mp (by rw[List.getElem?_map,List.getElem?_map,q,B];exact congrArg some U)
  omega
theorem FL.net2(f:FL ps n NN ts):D9 (G7 (ps2 ps n NN)):=by
 rw[b7n]
 have j:W4 (a0G n NN (D0 ps n))=[]:=by
  unfold W4
  rw[List.flatMap_eq_nil_iff]
  intro x hx
  rw[(a2M (f.workF hx)).1]
  rfl
 have hg:W5 (a0G n NN (D0 ps n))=[]:=by
  unfold W5
  rw[List.filterMap_eq_nil_iff]
  intro x hx
  rw[(a2M (f.workF hx)).2.1]
  rfl
 refine⟨?_,by rw[hg];exact List.nodup_nil,(fun x hx=>by rw[j]at hx;cases hx),(fun y q=>by rw[hg]at q;cases q),⟨fun _=>0,fun x hx=>?_⟩,by rw[a1c];exact f.len,fun x hx=>by rw[(a2M (f.workF hx)).1];exact Nat.zero_le _⟩
 ·rw[j,List.map_nil,BB,<-a0w]
  exact f.keysF
 ·unfold Z6 at hx
  rw[j]at hx
  cases hx
theorem FL.km2(f:FL ps n NN ts){k:Nat}{z:Pl}{o:Str}(hz:(D0 ps n)[k]?=some z)(j:E1 z.2.2=some o):((n,NN z.1 o),(n,k))∈R6 (G7 (ps2 ps n NN)):=by
 rw[b7n]
 refine a9L.mpr ⟨_,AD (a3V hz),NN z.1 o,?_,rfl,rfl⟩
 show E1 (a3c (NN z.1) z.2.2)=some (NN z.1 o)
 rw[a7h (f.inn (AD hz)).2,j]
 rfl
theorem FL.maps(f:FL ps n NN ts):∀x∈D0 ps n,a0t (a2C (a5U ps) (a5U (ps2 ps n NN)) n (D0 ps n) (NN x.1) x.1) x.2.2:=fun x hx=>by
 obtain⟨j,hw⟩:=f.inn hx
 refine(f.us x j hw).imp fun y D=>?_
 obtain⟨k,z,o,h1,h2,q,B⟩:=f.hit hx D
 refine⟨k,z,h1,q,?_⟩
 rw[<-B]
 exact a7J f.net2 (.base (f.km2 h1 h2))
theorem b3x{C:Str->Prop}{N:Str->Str}{rw:Rw}(hw:Y4 rw=true)(u:a0t (fun y=>C (N y)) rw):a0t C (a3c N rw):=by
 have hT:∀{ts:List (Int×Th)},a2j (fun y=>C (N y)) ts->a2j C (a1A N ts):=fun{ts}h d hd y e=>by
  obtain⟨d',h1,h2⟩:=AO.mp hd
  rw[<-h2]at e
  cases j:d'.2 with
  | num k=>rw[show(d'.1,a7D N d'.2).2=a7D N d'.2 from rfl,j]at e;cases e
  | nam z=>
   rw[show(d'.1,a7D N d'.2).2=a7D N d'.2 from rfl,j]at e
   have:N z=y:=Th.nam.inj e
   rw[<-this]
   exact h d' h1 z j
 have q:∀{w:Option Str},a5H (fun y=>C (N y)) w->a5H C (w.map N):=fun{w}h y e=>by
  obtain⟨z,h1,h2⟩:=Option.map_eq_some_iff.mp e
  rw[<-h2]
  exact h z h1
 cases rw with
 | set o ts=>exact⟨u.1,hT u.2⟩
 | take o=>exact u
 | say ts w=>exact⟨hT u.1,q u.2⟩
 | need ts=>exact hT u
 | _=>cases hw
theorem FL.uses2(f:FL ps n NN ts):∀r∈a3i ps n NN,a0t (fun y=>(n,y)∈a5a (G7 (ps2 ps n NN))) r:=fun r q=>by
 obtain⟨x,hx,e⟩:=AO.mp q
 obtain⟨j,hw⟩:=f.inn hx
 rw[<-e]
 refine b3x hw ((f.us x j hw).imp fun y D=>?_)
 obtain⟨k,z,o,h1,h2,_,B⟩:=f.hit hx D
 rw[<-B]
 exact AX _ (AS (f:=(·.1)) (f.km2 h1 h2))
theorem b6d{N:Str->Str}{rw:Rw}(h:SgR rw):SgR (a3c N rw):=by
 have j:∀{ts:List (Int×Th)},((∀d∈ts,d.1=1\/d.1= -1)/\ts.length<=6)->((∀d∈a1A N ts,d.1=1\/d.1= -1)/\(a1A N ts).length<=6):=fun{ts}h=>by
  refine⟨fun d hd=>?_,by unfold a1A;rw[List.length_map];exact h.2⟩
  obtain⟨d',h1,h2⟩:=AO.mp hd
  rw[<-h2]
  exact h.1 d' h1
 cases rw with
 | set o ts=>exact j h
 | say ts w=>exact j h
 | need ts=>exact j h
 | _=>exact h
theorem a7Z{ps:List Pt}:∀(j:List Pl)(k:Nat)(b:List Str)(o:List Pl),(∀x∈j,Y4 x.2.2=true)->j.length<=k->lay ps k j b o=o++j
 | [],0,b,o,_,_=>by rw[BB];rfl
 | [],_+1,b,o,_,_=>by rw[BB];rfl
 | y::t,0,b,o,_,h=>by rw[List.length_cons]at h;omega
 | y::t,k+1,b,o,hw,h=>by
  rw[lay,if_pos (hw y AM),a7Z t k b (o++[y]) (fun x hx=>hw x (AK _ hx)) (by rw[List.length_cons]at h;omega),BD]
  rfl
theorem a7w:R0 (ps2 ps n NN) n=a3i ps n NN:=O6 (by simp[ps2]) (AC.mpr rfl)
theorem FL.lay2(f:FL ps n NN ts):D0 (ps2 ps n NN) n=a0G n NN (D0 ps n):=by
 unfold D0
 rw[a7w]
 have:=a7Z (ps:=ps2 ps n NN) (J3 n (a3i ps n NN)) 960 [n] [] (fun x hx=>f.workF hx) (by rw[Z3];unfold a3i;rw[List.length_map];exact f.len)
 rw[this]
 rfl
theorem FL.fuel2(f:FL ps n NN ts):(J3 n (R0 (ps2 ps n NN) n)).length+a0k (ps2 ps n NN) [n]<=960:=by
 rw[a7w,Z3]
 have j:a0k (ps2 ps n NN) [n]=0:=by unfold a0k ps2;simp
 rw[j]
 unfold a3i
 rw[List.length_map]
 exact f.len
theorem FL.fit2(f:FL ps n NN ts):a5Y (ps2 ps n NN):=⟨by simp[ps2],by show 1<=24;decide,fun pt j=>by rw[AC.mp j];show(a3i ps n NN).length<=960;unfold a3i;rw[List.length_map];exact f.len⟩
theorem FL.work2(f:FL ps n NN ts):∀r∈a3i ps n NN,Y4 r=true:=fun r j=>by
 obtain⟨x,hx,e⟩:=AO.mp j
 rw[<-e,a8g]
 exact(f.inn hx).2
theorem FL.closed2(f:FL ps n NN ts):a0l (ps2 ps n NN):=fun m B q j=>by
 have D:m=n:=by simpa [ps2]using B
 subst D
 unfold k1 at j
 rw[a7w]at j
 obtain⟨r,h1,h2⟩:=(a0L "bring" q _).mp j
 rw[(a2M (f.work2 r h1)).2.2]at h2
 cases h2
theorem FL.kinds2(f:FL ps n NN ts):a7I (ps2 ps n NN):=fun pt j r q=>by
 rw[AC.mp j]at q
 exact .inl (f.work2 r q)
end
theorem a9F{ts:List (Int×Th)}(h:a8I ts):(∀d∈ts,d.1=1\/d.1= -1)/\ts.length<=6:=⟨h.sg,h.hi⟩
theorem b6C{q owns:List Str}{pr:Pr}{rw:Rw}(f:a1U q owns pr rw):SgR rw:=by
 cases pr with
 | own k n xs=>
  rcases f with⟨_,e⟩ | ⟨_,ts,e,h,_⟩
  ·subst e;trivial
  ·subst e;exact a9F h
 | bring j ps xs=>obtain⟨nm,_,e⟩:=f;subst e;trivial
 | give o g xs=>rw[show rw= .give o g from f];trivial
 | ask j xs=>obtain⟨nm,w,_,e,_⟩:=f;subst e;trivial
 | sum k xs=>
  rcases f with⟨_,ts,e,h,_⟩ | ⟨_,ts,w,e,h,_⟩
  ·subst e;exact a9F h
  ·subst e;exact a9F h
theorem O7.sg{Y:List Pp}{J Z O:Int}{ps:List Pt}(d:O7 Y J Z O ps):∀pt∈quiet ps,∀r∈pt.2,SgR r:=fun pt B r G=>by
 obtain⟨rs,U,q,_⟩:=a4v B G
 obtain⟨i,hi⟩:=AT U
 obtain⟨pp,_,_,_,hf⟩:=d.at hi
 obtain⟨j,F⟩:=AT q
 obtain⟨pr,_,D⟩:=Paired.get?' hf F
 exact b6C D
noncomputable def b2L (ps:List Pt):Prop:=∀pt∈ps,∀r∈pt.2,Y4 r=true->SgR r/\a0t (fun y=>(pt.1,y)∈a5a (G7 ps)) r
noncomputable def a2k (H:Hp) (c:Addr) (R:RS):Prop:=∃(de:Addr)(vs:List V)(v:V),H c=some (.tup [.ref de,v])/\H de=some (.lst vs)/\Paired (DdX H) vs R.tr/\FtX H v R.ft
noncomputable def b5L:Sp:=fun vs H Q _=>∃(a nu:Addr)(ps:List Pt)(n:Str)(nums:List Int),vs=[.ref a,.str n,.ref nu]/\a3u H a ps/\a5Y ps/\D9 (G7 ps)/\a0l ps/\a7I ps/\b2L ps/\n∈ps.map (·.1)/\(J3 n (R0 ps n)).length+a0k ps [n]<=960/\H nu=some (.lst (nums.map V.int))/\nums.length<=100/\∀(c:Addr)(H':Hp),G5 H H'->a2k H' c (a0P (a5U ps) nums (D0 ps n))->Q (.ref c) H'
theorem b3n(km:KM)(nums:List Int)(L:List Pl)(x:Pl):a0P km nums (L++[x])=a0v km nums (a0P km nums L) x:=by
 unfold a0P
 rw[List.foldl_append]
 rfl
theorem RSt.off{H:Hp}{va lf de x:Addr}{nums:List Int}{S:RS}{o:HO}(h:RSt H va lf de nums S)(hx:x≠va/\x≠lf/\x≠de)(T:J9 H (upd H x o)):RSt (upd H x o) va lf de nums S:=by
 obtain⟨j,h1,h2⟩:=h.hd
 exact⟨by rw[G8 hx.1.symm];exact h.hv,by rw[G8 hx.2.1.symm];exact h.hl,⟨j,by rw[G8 hx.2.2.symm];exact h1,Paired.mapP h2 fun _ _ z=>z.mono T⟩,h.n1,h.gi,h.tkl⟩
theorem G5.but3{H H1 H2:Hp}{va lf de:Addr}(s:G5 H H1)(b:a1Q va lf de H1 H2)(q:H va=none)(B:H lf=none)(j:H de=none):G5 H H2:=fun x o h=>b x o (fun z=>by rw[z,q]at h;cases h) (fun z=>by rw[z,B]at h;cases h) (fun z=>by rw[z,j]at h;cases h) (s _ _ h)
theorem b4H(T:Txt K mg):L2.Cl P w K mg base 3 "_law_run" ["_law_parts_here","_law_root","_law_numbers_here"] b5L:=by
 have hg:=a9H (P:=P) (w:=w) (base:=base) T
 have hc:=a8T (P:=P) (w:=w) (base:=base) T
 refine Cl.of T.d_law_run O0 (fun vs H Q E h=>?_) (fun _ _ _ _ _ _ us hl=>by obtain⟨a,b,c,rfl⟩:=a6n hl;rfl) (fun fa jr A outer s HH vs Q E hr h=>?_)
 ·obtain⟨a,nu,ps,n,nums,rfl,_⟩:=h
  rfl
 ·obtain⟨a,nu,ps,root,nums,rfl,sK,hh,zy,qA,qS,zD,hT,qs,zh,jp,q0⟩:=h
  have hu:=B2 hr
  have qL:=Nat.lt_of_succ_lt hu
  have jl:=hh.hi
  have jo:sizeLine=16777216:=sizeLine_eq
  refine⟨_,(G3 (J1 (i:=3) O0.nd rfl (Or.inl rfl) (W0 hg hr (by rfl) (G0 (pv 0) G4)))
   (G3 (J1 (i:=4) O0.nd rfl (Or.inl rfl) a3W)
   (G3 (Y9 AN rfl (D1 (pv 0)) (E7 rfl (J0 (I9 (i:=5) O0.nd rfl (Or.inl rfl)) (J0 (I9 (i:=6) O0.nd rfl (Or.inl rfl)) Y2)))
    (G6 (E5 hu (pv 4) (pv 5) (pv 6) rfl)))
   (G3 (J1 (i:=7) O0.nd rfl (Or.inl rfl) (Y3 (G0 (pv 1) G4)))
   (G3 (J1 (i:=8) O0.nd rfl (Or.inl rfl) (Y3 (G0 (Y3 (G0 (pv 1) (G0 G2 G4))) G4)))
   (G3 (J1 (i:=9) O0.nd rfl (Or.inl rfl) M8)
   (G3 (J1 (i:=10) O0.nd rfl (Or.inl rfl) (Y3 G4))
   (G3 (J1 (i:=11) O0.nd rfl (Or.inl rfl) (a8E rfl (pv 2) (by rfl) T.n_list (by rfl) T.n_reversed))
   (G3 (J1 (i:=12) O0.nd rfl (Or.inl rfl) a2u)
   (G3 (a1P AN (PW.pt (a0x (J6 (a1j qL) (pv 8) (Y3 G4) (U0 _)) (M1 (a0R (b2z (pv 12))))))
    (G3 (a4F (I0 J7 (pv 8) (b0c a7l G2) (fun _ _=>rfl)) (b4G rfl (J0 (I9 (i:=5) O0.nd rfl (Or.inl rfl)) (J0 (I9 (i:=13) O0.nd rfl (Or.inl rfl)) Y2))))
    (G6 (U8 (J6 O3 (pv 13) (U5 R5 (by rfl) T.n_len PySem.boot_len (G0 (Z4 hu (pv 4) (pv 5) (fun _ _=>rfl)) G4)) (U0 _))
     (G6 (Y1 (a7s PySem.F.plainAttrs_list PySem.F.slot_list_pop PySem.F.type_list_pop a7m (pv 8)))) (G3 (a4F (G9 Z7 (pv 13) G2) (b5X (I0 J7 (pv 8) (b0c a7l G2) (fun _ _=>rfl)) G2 b2O))
     (G3 (J1 (i:=14) O0.nd rfl (Or.inl rfl) (I0 J5 (Z4 hu (pv 4) (pv 5) (fun _ _=>rfl)) (pv 13) (fun _ _=>rfl)))
     (G3 (U8 (PW.pt (a0x (J6 O3 (I0 J5 (pv 14) G2 (fun _ _=>rfl)) R7 (U0 _)) (M1 (J6 a7M (I0 J5 (pv 14) G2 (fun _ _=>rfl)) (pv 7) (by with_unfolding_all rfl)))))
      (G3 (Y1 (D4 PySem.F.plainAttrs_list PySem.F.slot_list_append PySem.F.type_list_append Y5 (pv 7) (G0 (I0 J5 (pv 14) G2 (fun _ _=>rfl)) G4)))
      (G6 (Y1 (D4 PySem.F.plainAttrs_list PySem.F.slot_list_append PySem.F.type_list_append Y5 (pv 8) (G0 (Y3 (G0 (I0 J5 (pv 14) G2 (fun _ _=>rfl)) (G0 G2 G4))) G4))))) R8)
     (G6 (U8 (PW.pt (a0x (J6 b0u (I0 J5 (pv 14) G2 (fun _ _=>rfl)) R7 (U0 _)) (M1 (J6 b0u (I0 J5 (pv 14) G2 (fun _ _=>rfl)) R7 (U0 _)))))
      (G6 (J1 (i:=12) O0.nd rfl (Or.inl rfl) (W0 hc hr (by rfl) (G0 (pv 14) (G0 (R1 (G0 (pv 5) (G0 (pv 13) G4))) (G0 (pv 3) (G0 (pv 9) (G0 (pv 11) (G0 (pv 10) G4))))))))) R8)))))))))
   (G6 (R9 (R1 (G0 (pv 10) (G0 (pv 12) G4))))))))))))))),?_⟩
  refine⟨_,rfl,a,ps,rfl,sK,hh,zy,fun mk zc H s1 jt zA fi qb=>?_⟩
  have qR:=G5.partsX s1 sK
  have je:=s1 _ _ zh
  have q:∀(c:Addr)(H':Hp),G5 H H'->a2k H' c (a0P (a5U ps) nums (D0 ps root))->Q (.ref c) H':=fun c H' s' r=>q0 c H' (s1.trans s') r
  have qp:∀p y,(p,y)∈a5a (G7 ps)->b1G H zc (a5U ps) p y:=fun p y hy=>by
   have sD:(W2 zc (U1 (p,y))).isSome=true:=by
    rcases AL.mp hy with w | w
    ·exact fi.has _ w
    ·exact qb _ w
   cases e:W2 zc (U1 (p,y))with
   | none=>rw[e]at sD;cases sD
   | some v=>
    obtain⟨t,q',ev,ht,hm⟩:=fi.val _ v e
    exact⟨t,q',by rw[<-ev];exact e,ht,a7J zy hm⟩
  clear q0 sK zh
  generalize a5U ps=km at q qp
  obtain⟨o,vs,ha,ho,qv⟩:=id qR
  have zV:∀{H2:Hp},G5 H H2->SqT K H2 a vs:=fun s2=> .inl (.inr ⟨o,s2 _ _ ha⟩)
  have qK:vs.length=ps.length:=AE qv
  intro rd zE
  refine⟨_,rfl,a,rfl,⟨_,zV ((G5.refl H).new zE)⟩,F9 (K:=K) (a:=a) (xs:=vs) (fun i σ H2=>∃(kvs:List (Key×V))(v5 v6:Option V),σ=[some (.ref a),some (.str root),some (.ref nu),some (.ref mk),some (.ref rd),v5,v6,none,none,none,none,none,none,none,none]/\G5 H H2/\H2 rd=some (.dK kvs)/\kvs.length<=i/\∀pt∈ps.take i,∃u ws,W2 kvs (Sum.inr pt.1)=some (.ref u)/\H u=some (.tup ws)/\b2y H ws pt.2)
   ⟨[],none,none,rfl,(G5.refl H).new zE,G1,by simp,fun pt sb=>by simp at sb⟩ (fun i σ H2 _⟨_,_,_,_,s2,_⟩=>zV s2) ?_ ?_⟩
  ·rintro i y σ H2 hy ⟨kvs,v3,v4,rfl,s2,sf,qF,hV⟩
   obtain⟨pt,sb,t,u,ws,ey,ht,qW,jg⟩:=Paired.get? qv hy
   subst ey
   have hi:=(List.getElem?_eq_some_iff.mp sb).1
   refine⟨t,_,rfl,SqT.of (s2 _ _ ht),rfl,_,_,rfl,_,_,rfl,rfl,?_⟩
   refine⟨_,rfl,_,rfl,_,rfl,rd,_,rfl,a0z.k (k:=Sum.inr pt.1) sf (J8 (by omega)),?_⟩
   have jj:=F3 kvs (Sum.inr pt.1) (.ref u)
   refine⟨_,_,_,rfl,s2.put zE,G1,by omega,fun p hp=>?_⟩
   rw[J2 sb]at hp
   rcases AL.mp hp with z | z
   ·obtain⟨u',qT,h1,h2,h3⟩:=hV p z
    refine⟨u',qT,?_,h2,h3⟩
    rw[O1]
    by_cases e:p.1=pt.1
    ·exfalso
     have zZ:=hh.nd
     rw[<-BQ i ps,AG]at zZ
     have hd:pt∈ps.drop i:=by
      rw[List.drop_eq_getElem_cons hi]
      rw[AQ hi]at sb
      rw[<-Option.some.inj sb]
      exact AM
     exact(AR.mp zZ).2.2 p.1 (AS (f:=(·.1)) z) pt.1 (AS (f:=(·.1)) hd) e
    ·rw[if_neg fun z=>e (Sum.inr.inj z)]
     exact h1
   ·rw[AC.mp z]
    exact⟨u,ws,by rw[O1,if_pos rfl],qW,jg⟩
  ·rintro σ H2 ⟨kvs,v3,v4,rfl,s2,sf,qF,hV⟩
   rw[qK,AW]at hV
   refine⟨_,rfl,a3d,fun bg sZ=>?_⟩
   have s3:G5 H2 (upd H2 bg (.lst [.str root])):=(G5.refl H2).new sZ
   have hX:upd H2 bg (.lst [.str root]) bg=some (.lst [.str root]):=G1
   have qJ:rd≠bg:=fun z=>by rw[<-z,sf]at sZ;cases sZ
   generalize upd H2 bg (.lst [.str root])=H3 at s3 hX⊢
   refine⟨_,rfl,O4,fun e0 so=>?_⟩
   have s4:G5 H3 (upd H3 e0 (.lst [.str root,.int 0])):=(G5.refl H3).new so
   have sP:upd H3 e0 (.lst [.str root,.int 0]) e0=some (.lst [.str root,.int 0]):=G1
   have jf:e0≠bg:=fun z=>by rw[z,hX]at so;cases so
   have qU:e0≠rd:=fun z=>by rw[z,s3 _ _ sf]at so;cases so
   generalize upd H3 e0 (.lst [.str root,.int 0])=H4 at s4 sP⊢
   refine⟨a3d,fun am hC=>?_⟩
   have s5:G5 H4 (upd H4 am (.lst [.ref e0])):=(G5.refl H4).new hC
   have hH:upd H4 am (.lst [.ref e0]) am=some (.lst [.ref e0]):=G1
   have qY:e0≠am:=fun z=>by rw[<-z,sP]at hC;cases hC
   have zN:bg≠am:=fun z=>by rw[<-z,s4 _ _ hX]at hC;cases hC
   have qk:rd≠am:=fun z=>by rw[<-z,s4 _ _ (s3 _ _ sf)]at hC;cases hC
   generalize upd H4 am (.lst [.ref e0])=H5 at s5 hH⊢
   have se:G5 H2 H5:=s3.trans (s4.trans s5)
   have hZ:=se _ _ sf
   have hY:H5 bg=some (.lst [.str root]):=s5 _ _ (s4 _ _ hX)
   have hW:H5 e0=some (.lst [.str root,.int 0]):=s5 _ _ sP
   intro va zS
   have sv:G5 H5 (upd H5 va (.dT [])):=(G5.refl H5).new zS
   have sY:upd H5 va (.dT []) va=some (.dT []):=G1
   have hJ:∀{x:Addr}{u:HO},H5 x=some u->x≠va:=fun{x u}h z=>by rw[z,zS]at h;cases h
   generalize upd H5 va (.dT [])=sH at sv sY⊢
   refine⟨a0s,fun de sn=>?_⟩
   have sd:G5 sH (upd sH de (.lst [])):=(G5.refl sH).new sn
   have zQ:upd sH de (.lst []) de=some (.lst []):=G1
   have hK:∀{x:Addr}{u:HO},H5 x=some u->x≠de:=fun{x u}h z=>by rw[<-z,sv _ _ h]at sn;cases sn
   have jm:va≠de:=fun z=>by rw[<-z,sY]at sn;cases sn
   generalize upd sH de (.lst [])=sI at sd zQ⊢
   have zf:=sv.trans sd
   refine⟨_,rfl,nu,_,rfl,SqL.of ((s2.trans se).trans zf _ _ je),fun lf hL=>?_⟩
   have sl:G5 sI (upd sI lf (.lst (nums.map V.int).reverse)):=(G5.refl sI).new hL
   have qz:upd sI lf (.lst (nums.map V.int).reverse) lf=some (.lst ((nums.drop 0).reverse.map V.int)):=by rw[G1,List.drop_zero,List.map_reverse]
   have hN:∀{x:Addr}{u:HO},H5 x=some u->x≠lf:=fun{x u}h z=>by rw[<-z,zf _ _ h]at hL;cases hL
   have qC:lf≠de:=fun z=>by rw[z,zQ]at hL;cases hL
   have jn:va≠lf:=fun z=>by rw[<-z,sd _ _ sY]at hL;cases hL
   generalize upd sI lf (.lst (nums.map V.int).reverse)=H6 at sl qz⊢
   have sC:=zf.trans sl
   have qj:H bg=none:=s2.free sZ
   have qd:H e0=none:=(s2.trans s3).free so
   have zp:H am=none:=((s2.trans s3).trans s4).free hC
   have zj:H va=none:=(s2.trans se).free zS
   have qx:H de=none:=(s2.trans (se.trans sv)).free sn
   have qf:H lf=none:=(s2.trans (se.trans zf)).free hL
   have ji:G5 H H6:=(s2.trans se).trans sC
   have zU:=sC _ _ hZ
   have qi:=sC _ _ hY
   have zT:=sC _ _ hH
   have qe:=sC _ _ hW
   have qE:RSt H6 va lf de nums r0:=⟨sl _ _ (sd _ _ sY),qz,⟨[],sl _ _ zQ,.nil⟩,qC,(fun k v e=>by simp[W2,r0]at e),Nat.zero_le _⟩
   have zJ:rd≠va/\rd≠lf/\rd≠de:=⟨hJ hZ,hN hZ,hK hZ⟩
   have sW:bg≠va/\bg≠lf/\bg≠de:=⟨hJ hY,hN hY,hK hY⟩
   have sG:am≠va/\am≠lf/\am≠de:=⟨hJ hH,hN hH,hK hH⟩
   have qB:e0≠va/\e0≠lf/\e0≠de:=⟨hJ hW,hN hW,hK hW⟩
   have jc:mk≠va:=fun z=>by rw[z,zj]at zA;cases zA
   clear hJ hK hN
   obtain⟨qI,jb⟩:=a0q hT
   have js:R0 ps root=qI:=O6 hh.nd jb
   have zI:(D0 ps root).length<=960:=by
    have:=a2d (ps:=ps) 960 (J3 root (R0 ps root)) [root] []
    simp only[List.length_nil,Nat.zero_add]at this
    exact this
   have sR:lay ps 960 (J3 root (R0 ps root)) [root] []=D0 ps root:=rfl
   generalize D0 ps root=L at q sR zI
   refine b7Y ?_
   refine⟨fun m σ H7=>∃(st:List (Str×Nat))(as:List Addr)(b:List Str)(O:List Pl)(k:Nat)(vf:V)(v5 v6 za sU:Option V),σ=[some (.ref a),some (.str root),some (.ref nu),some (.ref mk),some (.ref rd),v5,v6,some (.ref bg),some (.ref am),some (.ref va),some (.ref de),some (.ref lf),some vf,za,sU]/\G5 H H7/\H7 rd=some (.dK kvs)/\H7 bg=some (.lst (b.map V.str))/\H7 am=some (.lst (as.map V.ref).reverse)/\Paired (a3R H7) as st/\as.Nodup/\(∀x∈as,x≠rd/\x≠bg/\x≠am/\(x≠va/\x≠lf/\x≠de)/\H x=none)/\RSt H7 va lf de nums (a0P km nums O)/\FtX H7 vf (a0P km nums O).ft/\lay ps k (M5 ps st) b O=L/\(M5 ps st).length+a0k ps b<=k/\O.length+k<=960/\b.Nodup/\(∀x∈b,x∈ps.map (·.1))/\st.length<=b.length/\(∀x∈st,x.1∈ps.map (·.1)/\x.2<=(R0 ps x.1).length)/\m=2*((M5 ps st).length+a0k ps b)+st.length,
    ⟨_,[(root,0)],[e0],[root],[],960,.non,_,_,_,_,rfl,ji,zU,qi,zT,.cons qe .nil,by simp,fun x hx=>by rw[AC.mp hx];exact⟨qU,jf,qY,qB,qd⟩,qE,rfl,?_,?_,by simp,by simp,fun x hx=>by rw[AC.mp hx];exact hT,AI _,fun x hx=>by rw[AC.mp hx];exact⟨hT,Nat.zero_le _⟩,rfl⟩,?_⟩
   ·rw[<-sR]
    show lay ps 960 (((J3 root (R0 ps root)).drop 0)++[]) [root] []=_
    rw[List.drop_zero,BB]
   ·show(((J3 root (R0 ps root)).drop 0)++[]).length+a0k ps [root]<=960
    rw[List.drop_zero,BB]
    exact qs
   ·rintro m σ H7 ⟨st,as,b,O,k,vf,v5,v6,za,sU,rfl,s7,zv,zm,sM,qr,hF,J,zW,qt,Y,zd,hok,sq,sk,zk,zx,rfl⟩
    have qH:=B4 b _ sq sk
    rw[List.length_map]at qH
    refine⟨_,rfl,a0s,fun z gz=>?_⟩
    have s8:G5 H7 (upd H7 z (.lst [])):=(G5.refl H7).new gz
    refine⟨am,z,_,rfl,rfl,SqL.of (s8 _ _ sM),SqL.of G1,_,rfl,?_⟩
    generalize upd H7 z (.lst [])=H8 at s8⊢
    have ze:=s7.trans s8
    have sA:=s8 _ _ zv
    have zi:=s8 _ _ zm
    have hj:=s8 _ _ sM
    have zG:=zW.same s8
    have hP:=qt.mono s8.tups
    have qg:Paired (a3R H8) as st:=Paired.mapP qr fun _ _ z=>s8 _ _ z
    clear qr sM zm zv zW qt
    have sB:a0P km nums L=a0P km nums O->∀c,H8 c=none->Q (.ref c) (upd H8 c (.tup [.ref de,vf])):=fun e c gc=>by
     obtain⟨ws,qD,qV⟩:=zG.hd
     have s9:G5 H8 (upd H8 c (.tup [.ref de,vf])):=(G5.refl H8).new gc
     refine q c _ (ze.trans s9) ?_
     rw[e]
     exact⟨de,ws,vf,G1,s9 _ _ qD,Paired.mapP qV fun _ _ z=>z.mono s9.tups,hP.mono s9.tups⟩
    cases qg with
    | nil=>
     refine F8 ?_
     refine F8 ?_
     refine⟨_,rfl,_,rfl,O4,fun c gc=>sB ?_ c gc⟩
     have:lay ps k [] b O=O:=by cases k<;>rfl
     rw[<-Y]
     show a0P km nums (lay ps k [] b O)=_
     rw[this]
    | @cons e sx D G he zw=>
     obtain⟨n,B⟩:=sx
     rw[show(!((e::D).map V.ref).reverse.isEmpty)=true by simp]
     refine B9 ?_
     refine⟨_,rfl,_,rfl,?_⟩
     by_cases zM:(a0P km nums O).ft≠none
     ·have zH:¬vf= .non:=fun z=>by
       cases ef:(a0P km nums O).ft with
       | none=>exact zM ef
       | some f=>
        rw[ef]at hP
        obtain⟨t,et,_⟩:=hP
        rw[et]at z
        cases z
      refine b7C zH ?_
      refine⟨_,rfl,_,rfl,O4,fun c gc=>sB ?_ c gc⟩
      obtain⟨r,er⟩:=a4h (ps:=ps) k (M5 ps ((n,B)::G)) b O
      rw[<-Y,er]
      unfold a0P
      rw[List.foldl_append]
      exact a8K zM r
     have sr:(a0P km nums O).ft=none:=by
      cases ef:(a0P km nums O).ft with
      | none=>rfl
      | some f=>exact absurd (by rw[ef];simp) zM
     have zH:vf= .non:=by rw[sr]at hP;exact hP
     refine b6V zH ?_
     refine⟨fun qo H'=>∃m',m' < 2*((M5 ps ((n,B)::G)).length+a0k ps b)+((n,B)::G).length/\∃(st:List (Str×Nat))(as:List Addr)(b:List Str)(O:List Pl)(k:Nat)(vf:V)(v5 v6 za sU:Option V),qo=[some (.ref a),some (.str root),some (.ref nu),some (.ref mk),some (.ref rd),v5,v6,some (.ref bg),some (.ref am),some (.ref va),some (.ref de),some (.ref lf),some vf,za,sU]/\G5 H H'/\H' rd=some (.dK kvs)/\H' bg=some (.lst (b.map V.str))/\H' am=some (.lst (as.map V.ref).reverse)/\Paired (a3R H') as st/\as.Nodup/\(∀x∈as,x≠rd/\x≠bg/\x≠am/\(x≠va/\x≠lf/\x≠de)/\H x=none)/\RSt H' va lf de nums (a0P km nums O)/\FtX H' vf (a0P km nums O).ft/\lay ps k (M5 ps st) b O=L/\(M5 ps st).length+a0k ps b<=k/\O.length+k<=960/\b.Nodup/\(∀x∈b,x∈ps.map (·.1))/\st.length<=b.length/\(∀x∈st,x.1∈ps.map (·.1)/\x.2<=(R0 ps x.1).length)/\m'=2*((M5 ps st).length+a0k ps b)+st.length,fun qo H' z=>z,?_⟩
     have sy:atI ((e::D).map V.ref).reverse (-1)=some (.ref e):=by
      rw[List.map_cons,List.reverse_cons]
      exact b3I _ _
     have zK:H8 e=some (.lst [.str n,.int (B:Int)]):=he
     obtain⟨zR,jd⟩:=zx (n,B) AM
     have sJ:∀x∈G,x.1∈ps.map (·.1)/\x.2<=(R0 ps x.1).length:=fun x hx=>zx x (AK _ hx)
     obtain⟨zX,qm,qa,qn,qX⟩:=J e AM
     have sT:∀x∈D,x≠rd/\x≠bg/\x≠am/\(x≠va/\x≠lf/\x≠de)/\H x=none:=fun x hx=>J x (AK _ hx)
     obtain⟨qM,zC⟩:=BK.mp hF
     obtain⟨rs,hm⟩:=a0q zR
     have su:R0 ps n=rs:=O6 hh.nd hm
     obtain⟨u,ws,zO,qw,zq⟩:=hV _ hm
     have jh:ws.length=rs.length:=AE zq
     have ql:∀{H9:Hp},H9 rd=some (.dK kvs)->E3 H9 rd (.str n) (some (.ref u)):=fun h9=>by
      have:=E3.k (k:=Sum.inr n) h9
      rw[show W2 kvs (Sum.inr n)=some (.ref u)from zO]at this
      exact this
     rw[List.length_cons]at zk
     refine⟨_,rfl,_,rfl,am,_,_,_,rfl,rfl,SqL.of hj,sy,e,_,rfl,SqL.of zK,rfl,_,_,rfl,_,_,rfl,rfl,?_⟩
     refine⟨_,rfl,_,rfl,_,rfl,rd,_,rfl,ql sA,u,_,rfl,.inr (SqT.of (ze _ _ qw)),rfl,_,rfl,?_⟩
     have qh:B<=(R0 ps n).length:=jd
     rw[su]at qh
     by_cases zo:B=rs.length
     ·rw[jh,zo]
      refine b7G ?_
      have zP:(((e::D).map V.ref).reverse)[(((e::D).map V.ref).reverse).length - 1]?=some (.ref e):=by simp
      refine⟨_,rfl,.inl ⟨rfl,_,SqL.of hj⟩,am,_,_,rfl,rfl,hj,zP,?_⟩
      rw[show(((e::D).map V.ref).reverse).dropLast=(D.map V.ref).reverse by simp]
      have TA:=J9.lst (ys:=(D.map V.ref).reverse) hj
      have zg:M5 ps ((n,rs.length)::G)=M5 ps G:=b2H (by rw[su])
      rw[zo,zg]at Y zd
      refine⟨_,?_,G,D,b,O,k,_,_,_,_,_,rfl,ze.put zp,by rw[G8 qk];exact sA,by rw[G8 zN];exact zi,G1,?_,zC,sT,zG.off sG TA,hP.mono TA,Y,zd,hok,sq,sk,by omega,sJ,rfl⟩
      ·rw[zg,List.length_cons]
       omega
      ·exact a0h zw fun x y hx z=>a3R.put z (sT x hx).2.2.1
     ·refine b6Q (by omega) ?_
      have qQ:B < rs.length:=by omega
      obtain⟨rr,sO⟩:∃rr,rs[B]?=some rr:=⟨rs[B],by simp[qQ]⟩
      obtain⟨v,hv,r,er,hra⟩:=Paired.get?' zq sO
      subst er
      have qc:atI ws (B:Int)=some (.ref r):=R3 hv
      have zg:=b1s (st:=G) (show(R0 ps n)[B]?=some rr by rw[su];exact sO)
      rw[zg]at Y zd⊢
      rw[List.length_cons]at zd
      obtain⟨k,rfl⟩:∃k',k=k'+1:=⟨k - 1,by omega⟩
      refine⟨_,rfl,_,_,rfl,rfl,_,rfl,_,rfl,am,_,_,_,rfl,rfl,SqL.of hj,sy,e,_,1,1,rfl,rfl,zK,rfl,?_⟩
      rw[show([V.str n,V.int (B:Int)].set 1 (V.int ((B:Int)+1)))=[V.str n,V.int ((B+1:Nat):Int)]by simp]
      have TE:=J9.lst (ys:=[V.str n,V.int ((B+1:Nat):Int)]) zK
      have s9:G5 H (upd H8 e (.lst [.str n,.int ((B+1:Nat):Int)])):=ze.put qX
      have hk:upd H8 e (.lst [.str n,.int ((B+1:Nat):Int)]) rd=some (.dK kvs):=by rw[G8 zX.symm];exact sA
      have hb:upd H8 e (.lst [.str n,.int ((B+1:Nat):Int)]) bg=some (.lst (b.map V.str)):=by rw[G8 qm.symm];exact zi
      have hM:upd H8 e (.lst [.str n,.int ((B+1:Nat):Int)]) am=some (.lst ((e::D).map V.ref).reverse):=by rw[G8 qa.symm];exact hj
      have hE:Paired (a3R (upd H8 e (.lst [.str n,.int ((B+1:Nat):Int)]))) (e::D) ((n,B+1)::G):= .cons G1 (a0h zw fun x y hx z=>a3R.put z fun w=>qM (w▸hx))
      have sw:=zG.off qn TE
      have sV:=hP.mono TE
      generalize upd H8 e (.lst [.str n,.int ((B+1:Nat):Int)])=H9 at TE s9 hk hb hM sw sV hE⊢
      refine⟨_,rfl,_,rfl,rd,_,rfl,ql hk,_,rfl,u,_,_,_,rfl,rfl,SqT.of (s9 _ _ qw),qc,?_⟩
      have sF:=hra.mono s9.tups
      obtain⟨x1,qG,si⟩:=sF.kind
      have z0:atI (V.str (R4 rr)::x1::qG) 0=some (.str (R4 rr)):=R3 (j:=0) rfl
      have hn:∀x∈(n,B+1)::G,x.1∈ps.map (·.1)/\x.2<=(R0 ps x.1).length:=fun x hx=>by
       rcases List.mem_cons.mp hx with z | z
       ·rw[z];exact⟨zR,by rw[su];omega⟩
       ·exact sJ x z
      have hU:((n,B+1)::G).length<=b.length:=zk
      rcases qS _ hm rr (AD sO)with hw | zB | zF
      ·obtain⟨sj,qN⟩:=a3S hw
       refine⟨_,rfl,r,_,_,_,rfl,rfl,SqT.of si,z0,rfl,_,rfl,U9 sj ?_⟩
       refine F8 ?_
       refine⟨_,rfl,r,_,_,_,rfl,rfl,SqT.of si,z0,rfl,_,rfl,a6M (fun z=>sj (V.str.inj z)) ?_⟩
       refine⟨_,rfl,r,_,_,_,rfl,rfl,SqT.of si,z0,rfl,_,rfl,a6M (fun z=>qN (V.str.inj z)) ?_⟩
       refine⟨_,rfl,_,rfl,_,rfl,O4,fun c gc=>?_⟩
       have hf:G5 H9 (upd H9 c (.tup [.str n,.int (B:Int)])):=(G5.refl H9).new gc
       have zu:upd H9 c (.tup [.str n,.int (B:Int)]) c=some (.tup [.str n,.int (B:Int)]):=G1
       generalize upd H9 c (.tup [.str n,.int (B:Int)])=hR at hf zu⊢
       have ss:=s9.trans hf
       obtain⟨ja,qZ⟩:=zD _ hm rr (AD sO) hw
       have hsz:=a9Y km nums O r0
       refine⟨_,rfl,_,rfl,_,rfl,_,rfl,r,c,mk,va,lf,de,n,B,rr,zc,km,nums,a0P km nums O,rfl,sF.mono hf.tups,hw,ja,zu,ss _ _ zA,jc,sw.same hf,a0t.imp (fun y hy=>(qp n y hy).mono ss.tups) qZ,sr,?_,?_,fun v qO hI zr zl=>?_⟩
       ·have h1:(a0P km nums O).tr.length<=0+O.length:=hsz.1
        omega
       ·have h1:(a0P km nums O).gv.length<=0+O.length:=hsz.2
        omega
       have qq:a0P km nums (O++[(n,B,rr)])=F6 km nums (a0P km nums O) n B rr:=by
        rw[b3n]
        unfold a0v
        rw[if_neg (by rw[sr];simp)]
       rw[<-qq]at zr zl
       refine⟨_,?_,(n,B+1)::G,e::D,b,O++[(n,B,rr)],k,v,_,_,_,_,rfl,G5.but3 ss hI zj qf qx,hI _ _ zJ.1 zJ.2.1 zJ.2.2 (hf _ _ hk),hI _ _ sW.1 sW.2.1 sW.2.2 (hf _ _ hb),hI _ _ sG.1 sG.2.1 sG.2.2 (hf _ _ hM),?_,hF,J,zr,zl,?_,by omega,by rw[List.length_append,List.length_singleton];omega,sq,sk,hU,hn,rfl⟩
       ·simp only[List.length_cons]
        omega
       ·exact a0h hE fun x y hx z=>hI _ _ (J x hx).2.2.2.1.1 (J x hx).2.2.2.1.2.1 (J x hx).2.2.2.1.2.2 (hf _ _ z)
       ·rw[lay,if_pos hw]at Y
        exact Y
      ·obtain⟨Z,zb,em⟩:∃Z zb,rr= .bring Z zb:=by
        cases e:rr with
        | bring Z zb=>exact⟨Z,zb,rfl⟩
        | _=>rw[e]at zB;simp only[R4]at zB;exact absurd zB (by decide +kernel)
       subst em
       obtain⟨t',hG,_⟩:=sF
       have hs:(if Z∈b then lay ps k (M5 ps ((n,B+1)::G)) b O else lay ps k (J3 Z (R0 ps Z)++M5 ps ((n,B+1)::G)) (b++[Z]) O)=L:=Y
       refine⟨_,rfl,r,_,_,_,rfl,rfl,SqT.of hG,rfl,rfl,_,rfl,D8 ?_⟩
       refine⟨_,rfl,r,_,_,_,rfl,rfl,SqT.of hG,rfl,_,rfl,bg,_,rfl,.inl (SqL.of hb),rfl,b1c b,_,rfl,?_⟩
       rw[if_pos (by decide),a5N]
       by_cases sm:Z∈b
       ·rw[if_pos sm]at hs
        rw[decide_eq_true sm]
        refine F8 ?_
        refine⟨_,rfl,r,_,_,_,rfl,rfl,SqT.of hG,rfl,rfl,_,rfl,a5u rfl ?_⟩
        refine F8 ?_
        exact⟨_,by simp only[List.length_cons];omega,(n,B+1)::G,e::D,b,O,k,_,_,_,_,_,rfl,s9,hk,hb,hM,hE,hF,J,sw,sV,hs,by omega,by omega,sq,sk,hU,hn,rfl⟩
       ·rw[if_neg sm]at hs
        rw[AZ sm]
        refine B9 ?_
        have zL:Z∈ps.map (·.1):=by
         refine qA n zR Z ?_
         unfold k1
         rw[su]
         exact a3t rfl (AD sO)
        obtain⟨rm,zY⟩:=a0q zL
        have qu:R0 ps Z=rm:=O6 hh.nd zY
        have jk:=a2B zY sm
        refine⟨_,rfl,.inl ⟨rfl,_,SqL.of hb⟩,_,rfl,r,_,_,_,rfl,rfl,SqT.of hG,rfl,bg,_,_,rfl,rfl,hb,J8 (by rw[List.length_map];omega),?_⟩
        have TB:=J9.lst (ys:=b.map V.str++[.str Z]) hb
        have hf:G5 H (upd H9 bg (.lst (b.map V.str++[.str Z]))):=s9.put qj
        have hQ:upd H9 bg (.lst (b.map V.str++[.str Z])) bg=some (.lst ((b++[Z]).map V.str)):=by rw[G1,AG];rfl
        have hS:upd H9 bg (.lst (b.map V.str++[.str Z])) rd=some (.dK kvs):=by rw[G8 qJ];exact hk
        have hA:upd H9 bg (.lst (b.map V.str++[.str Z])) am=some (.lst ((e::D).map V.ref).reverse):=by rw[G8 zN.symm];exact hM
        have hB:Paired (a3R (upd H9 bg (.lst (b.map V.str++[.str Z])))) (e::D) ((n,B+1)::G):=a0h hE fun x y hx z=>a3R.put z (J x hx).2.1
        have hO:=TB _ _ hG
        have hD:=sw.off sW TB
        have zn:=sV.mono TB
        generalize upd H9 bg (.lst (b.map V.str++[.str Z]))=hR at TB hf hQ hS hA hB hD zn hO⊢
        refine⟨_,rfl,.inl ⟨rfl,_,SqL.of hA⟩,_,rfl,r,_,_,_,rfl,rfl,SqT.of hO,rfl,O4,fun e1 U=>?_⟩
        have hq:G5 hR (upd hR e1 (.lst [.str Z,.int 0])):=(G5.refl hR).new U
        have zt:upd hR e1 (.lst [.str Z,.int 0]) e1=some (.lst [.str Z,.int 0]):=G1
        have w1:e1≠rd:=fun z=>by rw[z,hS]at U;cases U
        have w2:e1≠bg:=fun z=>by rw[z,hQ]at U;cases U
        have w3:e1≠am:=fun z=>by rw[z,hA]at U;cases U
        have w4:e1≠va/\e1≠lf/\e1≠de:=by
         obtain⟨dvs,zz,_⟩:=hD.hd
         exact⟨fun z=>(by rw[z,hD.hv]at U;cases U),fun z=>(by rw[z,hD.hl]at U;cases U),fun z=>(by rw[z,zz]at U;cases U)⟩
        have w5:e1∉e::D:=fun z=>by
         obtain⟨i,hi⟩:=AT z
         obtain⟨y,_,hy⟩:=Paired.get? hB hi
         rw[show hR e1=_ from hy]at U
         cases U
        have qy:H e1=none:=hf.free U
        generalize upd hR e1 (.lst [.str Z,.int 0])=qO at hq zt⊢
        have sN:=hq _ _ hA
        have jq:(e::D).length<=100:=by
         have:=AE hB
         rw[this,List.length_cons]
         omega
        refine⟨am,_,_,rfl,rfl,sN,J8 (by rw[BO,List.length_map];omega),?_⟩
        have TA:=J9.lst (ys:=((e::D).map V.ref).reverse++[.ref e1]) sN
        refine⟨_,rfl,r,_,_,_,rfl,rfl,SqT.of (TA _ _ (hq _ _ hO)),rfl,rfl,_,rfl,a5u rfl ?_⟩
        refine F8 ?_
        have sQ:M5 ps ((Z,0)::(n,B+1)::G)=J3 Z rm++M5 ps ((n,B+1)::G):=by
         show(J3 Z (R0 ps Z)).drop 0++_=_
         rw[List.drop_zero,qu]
         rfl
        refine⟨_,?_,(Z,0)::(n,B+1)::G,e1::e::D,b++[Z],O,k,_,_,_,_,_,rfl,(hf.trans hq).put zp,by rw[G8 qk];exact hq _ _ hS,by rw[G8 zN];exact hq _ _ hQ,?_,.cons (a3R.put zt w3) (a0h hB fun x y hx z=>a3R.put (hq _ _ z) (J x hx).2.2.1),BK.mpr ⟨w5,hF⟩,fun x hx=>?_,(hD.same hq).off sG TA,zn.mono (hq.tups.trans TA),?_,?_,by omega,?_,fun y hy=>?_,?_,fun x hx=>?_,rfl⟩
        ·rw[sQ,List.length_append,Z3]
         simp only[List.length_cons]
         omega
        ·rw[G1,List.map_cons (l:=e::D),List.reverse_cons]
        ·rcases List.mem_cons.mp hx with z | z
         ·rw[z];exact⟨w1,w2,w3,w4,qy⟩
         ·exact J x z
        ·rw[sQ,<-qu]
         exact hs
        ·rw[sQ,List.length_append,Z3]
         omega
        ·exact AR.mpr ⟨sq,by simp,fun y hy z hz w=>sm (by rw[<-AC.mp hz,<-w];exact hy)⟩
        ·rcases AL.mp hy with z | z
         ·exact sk y z
         ·rw[AC.mp z];exact zL
        ·rw[List.length_cons,List.length_append,List.length_singleton]
         omega
        ·rcases List.mem_cons.mp hx with z | z
         ·rw[z];exact⟨zL,Nat.zero_le _⟩
         ·exact hn x z
      ·have sj:¬R4 rr="bring":=fun z=>by rw[zF]at z;exact absurd z (by decide +kernel)
       have hw:¬Y4 rr=true:=fun z=>(a3S z).2 zF
       rw[lay,if_neg hw,a3g sj]at Y
       refine⟨_,rfl,r,_,_,_,rfl,rfl,SqT.of si,z0,rfl,_,rfl,U9 sj ?_⟩
       refine F8 ?_
       refine⟨_,rfl,r,_,_,_,rfl,rfl,SqT.of si,z0,rfl,_,rfl,a6M (fun z=>sj (V.str.inj z)) ?_⟩
       refine⟨_,rfl,r,_,_,_,rfl,rfl,SqT.of si,z0,rfl,_,rfl,a5u (by rw[zF]) ?_⟩
       exact⟨_,by simp only[List.length_cons];omega,(n,B+1)::G,e::D,b,O,k,_,_,_,_,_,rfl,s9,hk,hb,hM,hE,hF,J,sw,sV,Y,by omega,by omega,sq,sk,hU,hn,rfl⟩
theorem b3q(ns:List Int)(lo hi:Option Int):∃j:List Int,b1H (ns.map V.int) lo hi=j.map V.int/\j.length<=ns.length:=by
 unfold b1H
 refine⟨_,by rw[<-List.map_drop,<-List.map_take],?_⟩
 rw[AY,List.length_drop]
 omega
noncomputable def b6D (K:W.Frag):Sp:=fun vs H Q _=>∃(a:Addr)(ns:List Int),vs=[.ref a,.int 65]/\SqL K H a (ns.map V.int)/\ns.length<=63/\
 ∀(c:Addr)(nums:List Int)(H':Hp),G5 H H'->H' c=some (.lst (nums.map V.int))->nums.length<=100->Q (.ref c) H'
theorem b5e(T:Txt K mg):L2.Cl P w K mg base 1 "_law_numbers" ["_law_script","_law_most"] (b6D K):=by
 refine Cl.of T.d_law_numbers a0r (fun vs H Q E h=>?_) (fun _ _ _ _ _ _ us hl=>by obtain⟨a,b,rfl⟩:=a4j hl;rfl) (fun f hj A outer s H vs Q E hr h=>?_)
 ·obtain⟨a,ns,rfl,_⟩:=h
  rfl
 ·obtain⟨a,ns,rfl,hS,hg,q⟩:=h
  refine⟨_,(G3 (J1 (i:=2) a0r.nd rfl (Or.inl rfl) (Y3 G4))
   (G3 (Y9 AN rfl (a0Z (b2B b4s (pv 0) (a5i G2) (a5i (pv 1)))) (I9 (i:=3) a0r.nd rfl (Or.inl rfl))
    (G3 (J1 (i:=4) a0r.nd rfl (Or.inl rfl) (G9 U6 (pv 3) G2))
    (G6 (U8 (J6 O3 (pv 4) G2 (U0 _))
     (G6 (Y1 (D4 PySem.F.plainAttrs_list PySem.F.slot_list_append PySem.F.type_list_append Y5 (pv 2) (G0 (G9 U6 (G9 W8 (pv 3) G2) (G9 a9V G2 G2)) G4)))) (G6 (U8 (J6 O3 (pv 4) G2 (U0 _))
      (G6 (Y1 (D4 PySem.F.plainAttrs_list PySem.F.slot_list_append PySem.F.type_list_append Y5 (pv 2) (G0 (G9 a9J G2 (G9 U6 (G9 W8 (pv 3) G2) (G9 a9V G2 G2))) G4)))) (G6 (Y1 (D4 PySem.F.plainAttrs_list PySem.F.slot_list_append PySem.F.type_list_append Y5 (pv 2) (G0 (G9 a9J (G9 U6 (G9 W8 (pv 3) G2) G2) G2) G4))))))))))
   (G6 (R9 (pv 2))))),?_⟩
  refine⟨a0s,fun j ha=>?_⟩
  have s1:G5 H (upd H j (.lst [])):=(G5.refl H).new ha
  have Y:upd H j (.lst []) j=some (.lst []):=G1
  generalize upd H j (.lst [])=H1 at s1 Y⊢
  obtain⟨U,hc,hh⟩:=b3q ns (some 3) (some 65)
  refine⟨_,rfl,_,rfl,_,rfl,_,rfl,a,_,rfl,s1.seq hS,fun p gp=>?_⟩
  rw[hc]
  have he:j≠p:=fun z=>by rw[<-z,Y]at gp;cases gp
  have s2:G5 H1 (upd H1 p (.lst (U.map V.int))):=(G5.refl H1).new gp
  have hp:upd H1 p (.lst (U.map V.int)) p=some (.lst (U.map V.int)):=G1
  have O:=s2 _ _ Y
  generalize upd H1 p (.lst (U.map V.int))=H2 at s2 hp O⊢
  have hf:=s1.trans s2
  refine⟨p,rfl,⟨_,SqL.of hp⟩,a1g (K:=K) (a:=p) (xs:=U.map V.int) (fun i σ J=>∃(v3 v4:Option V)(nums:List Int),σ=[some (.ref a),some (.int 65),some (.ref j),v3,v4]/\G5 H J/\J p=some (.lst (U.map V.int))/\J j=some (.lst (nums.map V.int))/\nums.length<=i) ⟨_,_,[],rfl,hf,hp,O,AI _⟩ (fun i σ J _⟨_,_,_,_,_,h3,_⟩=>SqL.of h3) ?_ ?_⟩
  ·rintro i y σ J hy ⟨v3,v4,nums,rfl,s3,hb,B,Z⟩
   have hi:i < U.length:=by
    have:=(List.getElem?_eq_some_iff.mp hy).1
    rw[List.length_map]at this
    exact this
   obtain⟨c,rfl⟩:∃c:Int,y= .int c:=by
    obtain⟨c,_,e⟩:=AO.mp (AD hy)
    exact⟨c,e.symm⟩
   have G:∀(z:Int),∃(v3 v4:Option V)(D:List Int),[some (.ref a),some (.int 65),some (.ref j),some (.int c),some (.int (c % 4))]=[some (.ref a),some (.int 65),some (.ref j),v3,v4]/\G5 H (upd J j (.lst (nums.map V.int++[.int z])))/\upd J j (.lst (nums.map V.int++[.int z])) p=some (.lst (U.map V.int))/\upd J j (.lst (nums.map V.int++[.int z])) j=some (.lst (D.map V.int))/\D.length<=i+1:=fun z=>⟨_,_,nums++[z],rfl,s3.put ha,by rw[G8 he.symm];exact hb,by rw[G1,AG];rfl,by rw[List.length_append,List.length_singleton];omega⟩
   have hsz:(nums.map V.int).length+1<=sizeLine:=J8 (by rw[List.length_map];omega)
   refine⟨_,rfl,_,_,rfl,rfl,(by show(0:Int) < 4;decide),?_⟩
   refine⟨_,rfl,rfl,_,rfl,a3q (fun _=>?_) (fun _=>?_)⟩
   ·exact⟨_,rfl,.inl ⟨rfl,_,SqL.of B⟩,_,rfl,_,_,rfl,rfl,⟨by decide,by decide⟩,_,_,rfl,rfl,⟨by decide,by decide,by decide⟩,_,_,rfl,rfl,(by show(0:Int) < 10 ^ (60:Int).toNat;decide),j,_,_,rfl,rfl,B,hsz,G _⟩
   ·refine⟨_,rfl,rfl,_,rfl,a3q (fun _=>?_) (fun _=>?_)⟩
    ·exact⟨_,rfl,.inl ⟨rfl,_,SqL.of B⟩,_,rfl,_,_,rfl,rfl,⟨by decide,by decide⟩,_,_,rfl,rfl,⟨by decide,by decide,by decide⟩,_,_,rfl,rfl,(by show(0:Int) < 10 ^ (60:Int).toNat;decide),_,_,rfl,rfl,j,_,_,rfl,rfl,B,hsz,G _⟩
    ·exact⟨_,rfl,.inl ⟨rfl,_,SqL.of B⟩,_,rfl,_,_,rfl,rfl,⟨by decide,by decide⟩,_,_,rfl,rfl,(by show(0:Int) < 9;decide),_,_,rfl,rfl,j,_,_,rfl,rfl,B,hsz,G _⟩
  ·rintro σ J ⟨v3,v4,nums,rfl,s3,hb,B,Z⟩
   rw[List.length_map]at Z
   exact⟨_,rfl,q j nums J s3 B (by omega)⟩
noncomputable def b8h (L:List Pl) (R:RS):RS:={R with tr:=R.tr.map (a6p L),ft:=R.ft.map (a7u L)}
noncomputable def b7s:Sp:=fun vs H Q _=>∃(c ot:Addr)(ov:List V)(L:List Pl)(R:RS),vs=[.ref c,.ref ot]/\a2k H c R/\H ot=some (.tup ov)/\Paired (a9u H) ov L/\(∀d∈R.tr,d.2.2.2 < L.length)/\(∀f,R.ft=some f->f.2.2.1 < L.length)/\R.tr.length<=960/\
 ∀(c':Addr)(H':Hp),G5 H H'->a2k H' c' (b8h L R)->Q (.ref c') H'
theorem b5Q(T:Txt K mg):L2.Cl P w K mg base 1 "_law_led" ["_law_done","_law_origins"] b7s:=by
 refine Cl.of T.d_law_led B5 (fun vs H Q E h=>?_) (fun _ _ _ _ _ _ us hl=>by obtain⟨a,b,rfl⟩:=a4j hl;rfl) (fun f hz A outer s H vs Q E hr h=>?_)
 ·obtain⟨c,ot,ov,L,R,rfl,_⟩:=h
  rfl
 ·obtain⟨c,ot,ov,L,R,rfl,⟨de,vs,vf,hc,hk,hq,Z⟩,hh,hu,hb,hw,hx,q⟩:=h
  have hs:vs.length=R.tr.length:=AE hq
  have hm:∀{j:Nat},j < L.length->∃(g:Addr),atI ov (j:Int)=some (.ref g)/\H g=some (.tup [.str (L.getD j a9h).1,.int ((L.getD j a9h).2.1:Int)]):=fun{j}hj=>by
   obtain⟨v,hv,g,eg,hg⟩:=Paired.get?' hu (AQ hj)
   refine⟨g,R3 (by rw[hv,eg]),?_⟩
   rw[a7j (AQ hj)]
   exact hg
  refine⟨_,(G3 (J1 (i:=2) B5.nd rfl (Or.inl rfl) (Y3 G4))
   (G3 (Y9 AN rfl (a0Z (I0 J5 (pv 0) G2 (fun _ _=>rfl))) (E7 rfl (J0 (I9 (i:=3) B5.nd rfl (Or.inl rfl)) (J0 (I9 (i:=4) B5.nd rfl (Or.inl rfl)) (J0 (I9 (i:=5) B5.nd rfl (Or.inl rfl)) (J0 (I9 (i:=6) B5.nd rfl (Or.inl rfl)) Y2)))))
    (G6 (Y1 (D4 PySem.F.plainAttrs_list PySem.F.slot_list_append PySem.F.type_list_append Y5 (pv 2) (G0 (R1 (G0 (pv 3) (G0 (pv 4) (G0 (I0 J5 (I0 J5 (pv 1) (pv 6) (fun _ _=>rfl)) G2 (fun _ _=>rfl)) (G0 (I0 J5 (I0 J5 (pv 1) (pv 6) (fun _ _=>rfl)) G2 (fun _ _=>rfl)) G4))))) G4)))))
   (G3 (J1 (i:=7) B5.nd rfl (Or.inl rfl) (I0 J5 (pv 0) G2 (fun _ _=>rfl)))
   (G3 (U8 (a0R (a7d (pv 7)))
    (G6 (J1 (i:=7) B5.nd rfl (Or.inl rfl) (R1 (G0 (I0 J5 (pv 7) G2 (fun _ _=>rfl)) (G0 (I0 J5 (I0 J5 (pv 1) (I0 J5 (pv 7) G2 (fun _ _=>rfl)) (fun _ _=>rfl)) G2 (fun _ _=>rfl)) (G0 (I0 J5 (I0 J5 (pv 1) (I0 J5 (pv 7) G2 (fun _ _=>rfl)) (fun _ _=>rfl)) G2 (fun _ _=>rfl)) (G0 (I0 J5 (pv 7) G2 (fun _ _=>rfl)) G4))))))) R8)
   (G6 (R9 (R1 (G0 (pv 2) (G0 (pv 7) G4))))))))),?_⟩
  refine⟨a0s,fun D gD=>?_⟩
  have s1:G5 H (upd H D (.lst [])):=(G5.refl H).new gD
  have hD:upd H D (.lst []) D=some (.lst []):=G1
  generalize upd H D (.lst [])=H1 at s1 hD⊢
  refine⟨_,rfl,c,_,_,_,rfl,rfl,SqT.of (s1 _ _ hc),rfl,de,rfl,⟨_,SqL.of (s1 _ _ hk)⟩,a1g (K:=K) (a:=de) (xs:=vs) (fun i σ O=>∃(v3 v4 v5 v6:Option V)(us:List V),σ=[some (.ref c),some (.ref ot),some (.ref D),v3,v4,v5,v6,none]/\G5 H O/\O D=some (.lst us)/\Paired (DdX O) us ((R.tr.take i).map (a6p L))) ⟨_,_,_,_,[],rfl,s1,hD,by rw[List.take_zero];exact .nil⟩ (fun i σ O _⟨_,_,_,_,_,_,h3,_⟩=>SqL.of (h3 _ _ hk)) ?_ ?_⟩
  ·rintro i y σ O hy ⟨v3,v4,v5,v6,us,rfl,B,U,G⟩
   obtain⟨d,hd,t,ey,ht⟩:=Paired.get? hq hy
   subst ey
   have hi:=(List.getElem?_eq_some_iff.mp hd).1
   obtain⟨g,J,ha⟩:=hm (hb d (AD hd))
   have hA:us.length<=960:=by
    rw[AE G,List.length_map,AY]
    omega
   refine⟨t,_,rfl,SqT.of (B _ _ ht),rfl,_,_,rfl,_,_,rfl,_,_,rfl,_,_,rfl,rfl,?_⟩
   refine⟨_,rfl,.inl ⟨rfl,_,SqL.of U⟩,_,rfl,_,rfl,_,rfl,_,rfl,ot,_,_,_,rfl,rfl,SqT.of (B _ _ hh),J,g,_,_,_,rfl,rfl,SqT.of (B _ _ ha),rfl,_,rfl,_,rfl,ot,_,_,_,rfl,rfl,SqT.of (B _ _ hh),J,g,_,_,_,rfl,rfl,SqT.of (B _ _ ha),rfl,(by show 4<=sizeLine;decide),fun e ge=>?_⟩
   have s4:=(G5.refl O).new (o:= .tup [.str (a6p L d).1,.int (a6p L d).2.1,.str (a6p L d).2.2.1,.int ((a6p L d).2.2.2:Int)]) ge
   have ho:=s4 _ _ U
   have TL:=J9.lst (ys:=us++[.ref e]) ho
   refine⟨D,_,_,rfl,rfl,ho,J8 (by omega),_,_,_,_,us++[.ref e],rfl,(B.trans s4).put gD,G1,?_⟩
   rw[J2 hd,AG]
   exact Paired.snoc (Paired.mapP G fun _ _ z=>z.mono (s4.tups.trans TL)) ⟨e,rfl,TL _ _ G1⟩
  ·rintro σ O ⟨v3,v4,v5,v6,us,rfl,B,U,G⟩
   rw[hs,AW]at G
   refine⟨_,rfl,c,_,_,_,rfl,rfl,SqT.of (B _ _ hc),rfl,?_⟩
   have fin:∀{H4:Hp}{v:V},G5 O H4->FtX H4 v (R.ft.map (a7u L))->∀c',H4 c'=none->Q (.ref c') (upd H4 c' (.tup [.ref D,v])):=fun{H4 v}s4 hf c' gc=>by
    have s5:=s4.new (o:= .tup [.ref D,v]) gc
    exact q c' _ (B.trans s5) ⟨D,us,v,G1,s5 _ _ U,Paired.mapP G fun _ _ z=>z.mono s5.tups,hf.mono (J9.new gc)⟩
   cases ef:R.ft with
   | none=>
    rw[ef]at Z fin
    have hn:vf= .non:=Z
    subst hn
    refine⟨_,rfl,_,rfl,?_⟩
    refine F8 ?_
    exact⟨_,rfl,_,rfl,O4,fun c' gc=>fin (G5.refl O) rfl c' gc⟩
   | some f=>
    rw[ef]at Z fin
    obtain⟨t,et,ht⟩:=Z
    subst et
    obtain⟨g,J,ha⟩:=hm (hw f ef)
    have Y:=SqT.of (K:=K) (B _ _ ht)
    have he:=SqT.of (K:=K) (B _ _ hh)
    have hp:=SqT.of (K:=K) (B _ _ ha)
    refine⟨_,rfl,_,rfl,?_⟩
    refine B9 ?_
    refine⟨_,rfl,t,_,_,_,rfl,rfl,Y,rfl,_,rfl,_,rfl,t,_,_,_,rfl,rfl,Y,rfl,ot,_,_,_,rfl,rfl,he,J,g,_,_,_,rfl,rfl,hp,rfl,_,rfl,_,rfl,t,_,_,_,rfl,rfl,Y,rfl,ot,_,_,_,rfl,rfl,he,J,g,_,_,_,rfl,rfl,hp,rfl,_,rfl,t,_,_,_,rfl,rfl,Y,rfl,(by show 4<=sizeLine;decide),fun e ge=>?_⟩
    have s4:=(G5.refl O).new (o:= .tup [.str (a7u L f).1,.str (a7u L f).2.1,.int ((a7u L f).2.2.1:Int),.int (a7u L f).2.2.2]) ge
    exact⟨_,rfl,_,rfl,O4,fun c' gc=>fin s4 ⟨e,rfl,G1⟩ c' gc⟩
theorem DdX.eqm{K:W.Frag}{H:Hp}{x y:V}{d:Str×Int×Str×Nat}(h1:DdX H x d)(h2:DdX H y d):EqM K H 1 x y:=by
 obtain⟨t,rfl,ht⟩:=h1
 obtain⟨u,rfl,j⟩:=h2
 exact .inr ⟨t,u,_,_,rfl,rfl,.inl ⟨SqT.of ht,SqT.of j⟩,.cons ⟨rfl,rfl⟩ (.cons ⟨rfl,rfl⟩ (.cons ⟨rfl,rfl⟩ (.cons ⟨rfl,rfl⟩ .nil)))⟩
theorem b3j{K:W.Frag}{H:Hp}:∀{xs ys:List V}{ds:List (Str×Int×Str×Nat)},Paired (DdX H) xs ds->Paired (DdX H) ys ds->Paired (EqM K H 1) xs ys
 | _,_,_,.nil,.nil=> .nil
 | _,_,_,.cons h1 j,.cons h2 q=> .cons (h1.eqm h2) (b3j j q)
theorem FtX.eqm{K:W.Frag}{H:Hp}{x y:V}{f:Option (Str×Str×Nat×Int)}(h1:FtX H x f)(h2:FtX H y f):EqM K H 2 x y:=by
 cases f with
 | none=>
  have q:x= .non:=h1
  have D:y= .non:=h2
  subst q
  subst D
  exact .inl ⟨rfl,rfl⟩
 | some f=>
  obtain⟨t,rfl,ht⟩:=h1
  obtain⟨u,rfl,B⟩:=h2
  have j:∀{z:V},a1L z=true->EqM K H 1 z z:=fun h=> .inl ⟨rfl,h⟩
  exact .inr ⟨t,u,_,_,rfl,rfl,.inl ⟨SqT.of ht,SqT.of B⟩,.cons (j rfl) (.cons (j rfl) (.cons (j rfl) (.cons (j rfl) .nil)))⟩
theorem a2k.eqm{K:W.Frag}{H:Hp}{a b:Addr}{R S:RS}(h1:a2k H a R)(h2:a2k H b S)(ht:R.tr=S.tr)(hf:R.ft=S.ft):∃xs ys,SqT K H a xs/\SqT K H b ys/\Paired (EqM K H 2) xs ys:=by
 obtain⟨d1,F,Y,k1,D,j,q⟩:=h1
 obtain⟨O,B,U,l1,l2,J,G⟩:=h2
 rw[ht]at j
 rw[hf]at q
 exact⟨_,_,SqT.of k1,SqT.of l1,.cons (.inr ⟨d1,O,F,B,rfl,rfl,.inr ⟨SqL.of D,SqL.of l2⟩,b3j j J⟩) (.cons (q.eqm G) .nil)⟩
theorem a2k.same{H H':Hp}(s:G5 H H'){c:Addr}{R:RS}(h:a2k H c R):a2k H' c R:=by
 obtain⟨de,j,v,h1,h2,q,B⟩:=h
 exact⟨de,j,v,s _ _ h1,s _ _ h2,Paired.mapP q fun _ _ z=>z.mono s.tups,B.mono s.tups⟩
theorem b5j{ps:List Pt}(D:a5l ps)(q:∀pt∈ps,∀r∈pt.2,SgR r):b2L ps:=fun pt j r B hw=>by
 refine⟨q pt j r B,?_⟩
 obtain⟨i,hi⟩:=AT B
 exact D (pt.1,i,r) ⟨pt.2,j,hi⟩ hw
theorem FL.need2{ps:List Pt}{n:Str}{NN:Str->Str->Str}{ts:List Tr}(f:FL ps n NN ts)(j:∀pt∈ps,∀r∈pt.2,SgR r):b2L (ps2 ps n NN):=fun pt B r q hw=>by
 rw[AC.mp B]at q⊢
 refine⟨?_,f.uses2 r q⟩
 obtain⟨x,hx,rfl⟩:=AO.mp q
 obtain⟨⟨D,h1,h2⟩,_⟩:=f.inn hx
 exact b6d (j _ h1 _ (AD h2))
theorem b0p{NN:Str->Str->Str}{H:Hp}:∀{j:List V}{L:List Pl},(∀x∈L,Y4 x.2.2=true)->Paired (a9W NN H) j L->b2y H j (L.map fun x=>a3c (NN x.1) x.2.2)
 | _,_,_,.nil=> .nil
 | _,_,h,.cons ⟨r,e,q⟩ t=> .cons ⟨r,e,b8k q (h _ AM)⟩ (b0p (fun x hx=>h x (AK _ hx)) t)
theorem b6j{f:Addr}{fd:FuncData}(F:Fun K "law" "law" a8q f fd)(T:Txt K mg):a6j P w K mg base CX0 9 f fd ["_law_script"] (b0z K):=by
 have J:=a4d (P:=P) (w:=w) (base:=base) T
 have U:=b2o (P:=P) (w:=w) (base:=base) T
 have hB:=b4O (P:=P) (w:=w) (base:=base) T
 have O:=b4H (P:=P) (w:=w) (base:=base) T
 have B:=b5e (P:=P) (w:=w) (base:=base) T
 have Z:=b5Q (P:=P) (w:=w) (base:=base) T
 refine F.ok a1V (fun vs H Q E h=>?_) (fun zg A outer s H vs Q E hr h=>?_)
 ·obtain⟨a,ns,rfl,_⟩:=h
  rfl
 ·obtain⟨a,ns,rfl,hS,sw,q⟩:=h
  have hu:=B2 hr
  have sn:=Nat.lt_of_le_of_lt (Nat.add_le_add_left (by decide:1+2<=64) _) hr.units
  rw[<-Nat.add_assoc]at sn
  refine⟨_,(@G3 _ _ _ _ _ (@J1 _ _ (1) _ _ _ _ a1V.nd rfl (Or.inl rfl) (@Y6 _ _ _ _ _ _ _ _ _ (@a2F _) (by rfl) T.n_tuple boot_tuple (@G0 _ _ _ _ _ (@a5e _ _ _ _ _ _ _ (["_law_name_here","_law_rows"]) ([none,none]) _ _ _ _ (J4 a8q) ["_law_script","_law_parts_here","_law_numbers_here","_law_step","_law_name_here","_law_rows","_law_laid","_law_origins","_law_found"] ⟨rfl,by decide +kernel,by decide +kernel,by decide +kernel,rfl,by decide +kernel,by decide +kernel⟩ (@D1 _ _ _ _ (@W0 _ _ _ _ _ _ _ _ _ _ _ U hr (by rfl) (@G0 _ _ _ _ _ (@pv _ 0 _ _ (by rfl) (by first | exact Or.inl rfl | exact Or.inr (Or.inl rfl) | exact Or.inr (Or.inr rfl)) (by decide) (by decide)) (@G4 _) (by rfl)) (by decide) (by decide) (by rfl) (by rfl))) (fun _ _ _ _ _ _=>(@a2N _ (K) _ _ _ _ (2) rfl rfl (@J0 _ _ _ _ _ (@I9 _ _ (0) _ (show(["_law_name_here","_law_rows"]:List Str).Nodup by decide +kernel) rfl (Or.inl rfl) (by first | exact .inl rfl | exact .inr rfl | assumption)) (@J0 _ _ _ _ _ (@I9 _ _ (1) _ (show(["_law_name_here","_law_rows"]:List Str).Nodup by decide +kernel) rfl (Or.inl rfl) (by first | exact .inl rfl | exact .inr rfl | assumption)) (@Y2 _) (by rfl)) (by rfl)) (by rfl) (by rfl))) (fun _ _ _ _ _ _=>@a1W _) (fun _ _ _ _ _ _=>(@R1 _ _ _ _ _ (@G0 _ _ _ _ _ (@pv _ 0 _ _ (by rfl) (by first | exact Or.inl rfl | exact Or.inr (Or.inl rfl) | exact Or.inr (Or.inr rfl)) (by decide) (by decide)) (@G0 _ _ _ _ _ (@Y6 _ _ _ _ _ _ _ _ _ (@a5S _ (K) rfl) (by rfl) T.n_tuple boot_tuple (@G0 _ _ _ _ _ (@a5e _ _ _ _ _ _ _ (["_law_row_here"]) ([none]) _ _ _ _ _ ["_law_name_here","_law_rows"] (@a6m _ _ _ _ _ rfl (by decide +kernel) (by decide +kernel) rfl (by decide +kernel) (by decide +kernel)) (@b4b _ (K) rfl _ _ _ (@pv _ 1 _ _ (by rfl) (by first | exact Or.inl rfl | exact Or.inr (Or.inl rfl) | exact Or.inr (Or.inr rfl)) (by decide) (by decide))) (fun _ _ _ _ _ _=>(@I9 _ _ (0) _ (show(["_law_row_here"]:List Str).Nodup by decide +kernel) rfl (Or.inl rfl) (by first | exact .inl rfl | exact .inr rfl | assumption))) (fun _ _ _ _ _ _=>(@b4o _ _ _ (@J6 _ _ _ _ _ _ _ _ (@b0u _) (@I0 _ _ _ _ _ _ _ (b4a (K:=K) rfl) (@pv _ 0 _ _ (by rfl) (by first | exact Or.inl rfl | exact Or.inr (Or.inl rfl) | exact Or.inr (Or.inr rfl)) (by decide) (by decide)) (@G2 _ _ _ _) (fun _ _=>rfl)) (@R7 _ _ _ _) (U0 _)))) (fun _ _ _ _ _ _=>(@pv _ 0 _ _ (by rfl) (by first | exact Or.inl rfl | exact Or.inr (Or.inl rfl) | exact Or.inr (Or.inr rfl)) (by decide) (by decide))) (by rfl) (by rfl) (by rfl) (by intro _;rfl)) (@G4 _) (by rfl)) (by decide) (by decide) (by rfl) (by rfl)) (@G4 _) (by rfl)) (by rfl)))) (by rfl) (by rfl) (by rfl) (by intro _;rfl)) (@G4 _) (by rfl)) (by decide) (by decide) (by rfl) (by rfl)) (by rfl) (by first | exact .inl rfl | exact .inr rfl | assumption)) (@G3 _ _ _ _ _ (@J1 _ _ (2) _ _ _ _ a1V.nd rfl (Or.inl rfl) (@W0 _ _ _ _ _ _ _ _ _ _ _ B hr (by rfl) (@G0 _ _ _ _ _ (@pv _ 0 _ _ (by rfl) (by first | exact Or.inl rfl | exact Or.inr (Or.inl rfl) | exact Or.inr (Or.inr rfl)) (by decide) (by decide)) (@G0 _ _ _ _ _ (@G2 _ _ _ _) (@G4 _) (by rfl)) (by rfl)) (by decide) (by decide) (by rfl) (by rfl)) (by rfl) (by first | exact .inl rfl | exact .inr rfl | assumption)) (@G3 _ _ _ _ _ (@J1 _ _ (3) _ _ _ _ a1V.nd rfl (Or.inl rfl) (@G9 _ _ _ _ _ _ _ _ (@Z7 _) (@G2 _ _ _ _) (@G9 _ _ _ _ _ _ _ _ (@W8 _) (@U5 _ _ _ _ _ _ _ _ _ R5 (by rfl) T.n_len PySem.boot_len (@G0 _ _ _ _ _ (@pv _ 1 _ _ (by rfl) (by first | exact Or.inl rfl | exact Or.inr (Or.inl rfl) | exact Or.inr (Or.inr rfl)) (by decide) (by decide)) (@G4 _) (by rfl)) (by decide) (by decide) (by rfl) (by rfl)) (@G2 _ _ _ _))) (by rfl) (by first | exact .inl rfl | exact .inr rfl | assumption)) (@G3 _ _ _ _ _ (@Y9 _ _ _ _ _ _ _ _ AN rfl (@D1 _ _ _ _ (@a9M _ _ _ _ _ _ _ _ _ _ _ (@pv _ 1 _ _ (by rfl) (by first | exact Or.inl rfl | exact Or.inr (Or.inl rfl) | exact Or.inr (Or.inr rfl)) (by decide) (by decide)) (@a5i _ _ _ (@G9 _ _ _ _ _ _ _ _ (@U6 _) (@G9 _ _ _ _ _ _ _ _ (@W8 _) (@W0 _ _ _ _ _ _ _ _ _ _ _ J hr (by rfl) (@G0 _ _ _ _ _ (@pv _ 0 _ _ (by rfl) (by first | exact Or.inl rfl | exact Or.inr (Or.inl rfl) | exact Or.inr (Or.inr rfl)) (by decide) (by decide)) (@G0 _ _ _ _ _ (@G2 _ _ _ _) (@G4 _) (by rfl)) (by rfl)) (by decide) (by decide) (by rfl) (by rfl)) (@G2 _ _ _ _)) (@pv _ 3 _ _ (by rfl) (by first | exact Or.inl rfl | exact Or.inr (Or.inl rfl) | exact Or.inr (Or.inr rfl)) (by decide) (by decide)))) (@b4l _) (@a5i _ _ _ (@pv _ 3 _ _ (by rfl) (by first | exact Or.inl rfl | exact Or.inr (Or.inl rfl) | exact Or.inr (Or.inr rfl)) (by decide) (by decide))))) (@E7 _ _ _ _ _ _ rfl (@J0 _ _ _ _ _ (@I9 _ _ (4) _ a1V.nd rfl (Or.inl rfl) (by first | exact .inl rfl | exact .inr rfl | assumption)) (@J0 _ _ _ _ _ (@I9 _ _ (5) _ a1V.nd rfl (Or.inl rfl) (by first | exact .inl rfl | exact .inr rfl | assumption)) (@Y2 _) (by rfl)) (by rfl)) (by rfl) (by rfl)) (@G3 _ _ _ _ _ (@a4F _ _ _ _ _ _ (@W0 _ _ _ _ _ _ _ _ _ _ _ hB hr (by rfl) (@G0 _ _ _ _ _ (@pv _ 1 _ _ (by rfl) (by first | exact Or.inl rfl | exact Or.inr (Or.inl rfl) | exact Or.inr (Or.inr rfl)) (by decide) (by decide)) (@G0 _ _ _ _ _ (@pv _ 4 _ _ (by rfl) (by first | exact Or.inl rfl | exact Or.inr (Or.inl rfl) | exact Or.inr (Or.inr rfl)) (by decide) (by decide)) (@G4 _) (by rfl)) (by rfl)) (by decide) (by decide) (by rfl) (by rfl)) (@E7 _ _ _ _ _ _ rfl (@J0 _ _ _ _ _ (@I9 _ _ (6) _ a1V.nd rfl (Or.inl rfl) (by first | exact .inl rfl | exact .inr rfl | assumption)) (@J0 _ _ _ _ _ (@I9 _ _ (7) _ a1V.nd rfl (Or.inl rfl) (by first | exact .inl rfl | exact .inr rfl | assumption)) (@Y2 _) (by rfl)) (by rfl)) (by rfl) (by rfl)) (by rfl) (by rfl) (by rfl)) (@G3 _ _ _ _ _ (@U8 _ _ _ _ _ _ _ _ (@J6 _ _ _ _ _ _ _ _ (@b0u _) (@U5 _ _ _ _ _ _ _ _ _ R5 (by rfl) T.n_len PySem.boot_len (@G0 _ _ _ _ _ (@pv _ 6 _ _ (by rfl) (by first | exact Or.inl rfl | exact Or.inr (Or.inl rfl) | exact Or.inr (Or.inr rfl)) (by decide) (by decide)) (@G4 _) (by rfl)) (by decide) (by decide) (by rfl) (by rfl)) (@U5 _ _ _ _ _ _ _ _ _ R5 (by rfl) T.n_len PySem.boot_len (@G0 _ _ _ _ _ (@pv _ 7 _ _ (by rfl) (by first | exact Or.inl rfl | exact Or.inr (Or.inl rfl) | exact Or.inr (Or.inr rfl)) (by decide) (by decide)) (@G4 _) (by rfl)) (by decide) (by decide) (by rfl) (by rfl)) (U0 _)) (@G6 _ _ _ (@R9 _ _ _ _ (@a3D _ _ _ _))) (@R8 _)) (@G3 _ _ _ _ _ (@J1 _ _ (8) _ _ _ _ a1V.nd rfl (Or.inl rfl) (@W0 _ _ _ _ _ _ _ _ _ _ _ Z hr (by rfl) (@G0 _ _ _ _ _ (@W0 _ _ _ _ _ _ _ _ _ _ _ O hr (by rfl) (@G0 _ _ _ _ _ (@b4W _ _ _ _ _ (@G0 _ _ _ _ _ (@R1 _ _ _ _ _ (@G0 _ _ _ _ _ (@pv _ 4 _ _ (by rfl) (by first | exact Or.inl rfl | exact Or.inr (Or.inl rfl) | exact Or.inr (Or.inr rfl)) (by decide) (by decide)) (@G0 _ _ _ _ _ (@pv _ 6 _ _ (by rfl) (by first | exact Or.inl rfl | exact Or.inr (Or.inl rfl) | exact Or.inr (Or.inr rfl)) (by decide) (by decide)) (@G4 _) (by rfl)) (by rfl))) (@G4 _) (by rfl))) (@G0 _ _ _ _ _ (@pv _ 4 _ _ (by rfl) (by first | exact Or.inl rfl | exact Or.inr (Or.inl rfl) | exact Or.inr (Or.inr rfl)) (by decide) (by decide)) (@G0 _ _ _ _ _ (@pv _ 2 _ _ (by rfl) (by first | exact Or.inl rfl | exact Or.inr (Or.inl rfl) | exact Or.inr (Or.inr rfl)) (by decide) (by decide)) (@G4 _) (by rfl)) (by rfl)) (by rfl)) (by decide) (by decide) (by rfl) (by rfl)) (@G0 _ _ _ _ _ (@pv _ 7 _ _ (by rfl) (by first | exact Or.inl rfl | exact Or.inr (Or.inl rfl) | exact Or.inr (Or.inr rfl)) (by decide) (by decide)) (@G4 _) (by rfl)) (by rfl)) (by decide) (by decide) (by rfl) (by rfl)) (by rfl) (by first | exact .inl rfl | exact .inr rfl | assumption)) (@G6 _ _ _ (@U8 _ _ _ _ _ _ _ _ (@J6 _ _ _ _ _ _ _ _ (@b5W _ 2 sn) (@pv _ 8 _ _ (by rfl) (by first | exact Or.inl rfl | exact Or.inr (Or.inl rfl) | exact Or.inr (Or.inr rfl)) (by decide) (by decide)) (@W0 _ _ _ _ _ _ _ _ _ _ _ O hr (by rfl) (@G0 _ _ _ _ _ (@pv _ 1 _ _ (by rfl) (by first | exact Or.inl rfl | exact Or.inr (Or.inl rfl) | exact Or.inr (Or.inr rfl)) (by decide) (by decide)) (@G0 _ _ _ _ _ (@pv _ 4 _ _ (by rfl) (by first | exact Or.inl rfl | exact Or.inr (Or.inl rfl) | exact Or.inr (Or.inr rfl)) (by decide) (by decide)) (@G0 _ _ _ _ _ (@pv _ 2 _ _ (by rfl) (by first | exact Or.inl rfl | exact Or.inr (Or.inl rfl) | exact Or.inr (Or.inr rfl)) (by decide) (by decide)) (@G4 _) (by rfl)) (by rfl)) (by rfl)) (by decide) (by decide) (by rfl) (by rfl)) (U0 _)) (@G6 _ _ _ (@R9 _ _ _ _ (@a3D _ _ _ _))) (@R8 _)))))) (by intro _;rfl)) (@G6 _ _ _ (@R9 _ _ _ _ (@a3D _ _ _ _))))))),?_⟩
  refine⟨_,rfl,a,ns,rfl,hS,by omega,fun x0 hs b0 b1 b2 Y H0 s0 hM hd=>?_⟩
  obtain⟨o0,hW,sJ,zh,hw⟩:=id hM
  have hQ:∀{H2:Hp},G5 H0 H2->SqT K H2 x0 hW:=fun s2=> .inl (.inr ⟨o0,s2 _ _ sJ⟩)
  have hL:hW.length=Y.length:=AE hw
  have hz:=hd.fit
  have zf:=hz.hi
  refine⟨x0,rfl,⟨_,hQ (G5.refl H0)⟩,fun D hD=>?_⟩
  refine a4i (K:=K) (a:=x0) (xs:=hW) (fun i σ H2=>∃(v0 v1:Option V)(us:List V),σ=[v0,v1]/\G5 H0 H2/\H2 D=some (.lst us)/\Paired (a3v H2) us (quiet (Y.take i))) ⟨_,_,[],rfl,(G5.refl H0).new hD,G1,by rw[List.take_zero];exact .nil⟩ (fun i sD H2⟨_,_,_,_,s2,_⟩=>hQ s2) ?_ ?_
  ·rintro i x σ H2 hx ⟨v0,v1,us,rfl,s2,hE,he⟩
   obtain⟨pt,hp,t,u,ws,ex,ht,hR,hZ⟩:=Paired.get? hw hx
   subst ex
   have hi:=(List.getElem?_eq_some_iff.mp hp).1
   have zc:ws.length=pt.2.length:=AE hZ
   have ze:=hz.rows _ (AD hp)
   have zn:us.length<=100:=by
    have:=AE he
    unfold quiet at this
    rw[List.length_map,AY]at this
    omega
   refine⟨t,_,rfl,SqT.of (s2 _ _ ht),rfl,_,_,rfl,_,_,rfl,rfl,?_⟩
   refine⟨_,rfl,_,rfl,u,rfl,⟨_,SqT.of (s2 _ _ hR)⟩,fun D2 hH=>?_⟩
   refine a4i (K:=K) (a:=u) (xs:=ws) (fun j σ H3=>∃(v0:Option V)(zs:List V),σ=[v0]/\G5 H2 H3/\H3 D2=some (.lst zs)/\a1o H3 zs ((pt.2.take j).filter a0I)) ⟨_,[],rfl,(G5.refl H2).new hH,G1,by rw[List.take_zero];exact .nil⟩ (fun i sD H3⟨_,_,_,s3,_⟩=>SqT.of ((s2.trans s3) _ _ hR)) ?_ ?_
   ·rintro j y σ H3 hy ⟨w0,zs,rfl,s3,hh,hf⟩
    obtain⟨rw,hrw,r,er,hra⟩:=Paired.get? hZ hy
    subst er
    have hj:=(List.getElem?_eq_some_iff.mp hrw).1
    have hI:=hra.mono (s2.trans s3).tups
    obtain⟨x1,za,hF⟩:=hI.kind
    have z0:atI (V.str (R4 rw)::x1::za) 0=some (.str (R4 rw)):=R3 (j:=0) rfl
    have zq:zs.length<=40:=by
     rw[AE hf]
     refine Nat.le_trans (List.length_filter_le _ _) ?_
     rw[AY]
     omega
    refine⟨_,rfl,r,_,_,_,rfl,rfl,SqT.of hF,z0,rfl,?_⟩
    rw[b3E]
    cases hk:a0I rw with
    | false=>
     refine⟨_,rfl,F8 ?_⟩
     refine⟨_,zs,rfl,s3,hh,?_⟩
     rw[J2 hrw,List.filter_append,BN (by rw[hk];decide),List.filter_nil,BB]
     exact hf
    | true=>
     refine⟨_,rfl,B9 ?_⟩
     have TL:=J9.lst (ys:=zs++[.ref r]) hh
     refine⟨_,rfl,zs,hh,J8 (by omega),_,zs++[.ref r],rfl,s3.put hH,G1,?_⟩
     rw[J2 hrw,List.filter_append,BT hk,List.filter_nil]
     exact Paired.snoc (hf.mono TL) ⟨r,rfl,hI.mono TL⟩
   ·rintro σ H3 ⟨w0,zs,rfl,s3,hh,hf⟩
    rw[zc,AW]at hf
    refine⟨D2,_,rfl,.inl ⟨SqL.of hh,fun p gp=>?_⟩⟩
    have s4:G5 H2 (upd H3 p (.tup zs)):=s3.new gp
    refine⟨O4,fun e ge=>?_⟩
    have s5:=s4.new (o:= .tup [.str pt.1,.ref p]) ge
    have si:=s5 _ _ hE
    have TL:=J9.lst (ys:=us++[.ref e]) si
    refine⟨us,si,J8 (by omega),_,_,us++[.ref e],rfl,(s2.trans s5).put hD,G1,?_⟩
    have eq:quiet (Y.take (i+1))=quiet (Y.take i)++[(pt.1,pt.2.filter a0I)]:=by
     rw[J2 hp]
     unfold quiet
     rw[AG]
     rfl
    rw[eq]
    refine Paired.snoc (Paired.mapP he fun _ _ z=>z.mono (s5.tups.trans TL)) ⟨e,p,zs,rfl,TL _ _ G1,TL _ _ (U2 G1 ge),?_⟩
    exact hf.mono (((J9.new gp).trans (J9.new ge)).trans TL)
  rintro zo H2 ⟨v0,v1,us,rfl,s2,hE,he⟩
  rw[hL,AW]at he
  refine⟨D,_,rfl,SqL.of hE,fun x o' hx sU=>?_⟩
  have s3:G5 H2 (upd H2 x (.frz o' (.tup us))):=(G5.refl H2).new hx
  have hX:D6 (upd H2 x (.frz o' (.tup us))) x (quiet Y):=⟨o',us,G1,sU,Paired.mapP he fun _ _ z=>z.mono s3.tups⟩
  have s1:=s2.trans s3
  generalize upd H2 x (.frz o' (.tup us))=H1 at s1 hX⊢
  clear s3 he hE s2 hL hQ hw
  have G:=a6D hd.fit
  have hc:=b0J hd.net
  obtain⟨sf,hb⟩:=hd.keys
  have hC:=hd.closedQ
  have sA:=hd.kindsQ
  have hU:=hd.usesQ
  have hV:=hd.sg
  have sk:=a4Q Y
  have hg:∀k∈Z5 (G7 (quiet Y)),k.2.length<=100:=by
   rw[a0w,a2P,<-a0w]
   exact hb
  generalize quiet Y=ps at hX G hc hg hC sA hU sk hV
  clear hd hM sf hb
  have hY:=b5j hU hV
  have se:=s0.trans s1
  refine⟨_,rfl,a,ns,rfl,se.seq hS,sw,fun nu nums H3 s3 hP su=>?_⟩
  have hq:=s3.partsF hX
  have sM:=se.trans s3
  obtain⟨o,vs,hx,ho,sj⟩:=id hq
  have ss:∀{H5:Hp},G5 H3 H5->SqT K H5 x vs:=fun s5=> .inl (.inr ⟨o,s5 _ _ hx⟩)
  have zi:vs.length=ps.length:=AE sj
  have zk:=G.hi
  refine⟨_,rfl,x,_,rfl,.inr (ss (G5.refl H3)),_,_,rfl,rfl,⟨by decide,by decide⟩,_,_,rfl,rfl,?_⟩
  have sB:0 < (1:Int)+(vs.length:Int)/4:=by omega
  refine⟨_,rfl,_,rfl,a,ns,_,rfl,sM.seq hS,(by decide),fun cc=>?_⟩
  refine⟨_,_,rfl,rfl,⟨by decide,by decide⟩,_,rfl,_,_,rfl,rfl,sB,_,rfl,_,rfl,_,rfl,x,vs,_,rfl,(fun H5 s5=>ss s5),rfl,sB,fun p ys H5 s5 sr sC=>?_⟩
  refine⟨p,rfl,⟨_,sr H5 (G5.refl H5)⟩,F9 (K:=K) (a:=p) (xs:=ys) (fun i σ H6=>∃(v4 v5 v6 v7 v8:Option V),σ=[some (.ref a),some (.ref x),some (.ref nu),some (.int (1+(vs.length:Int)/4)),v4,v5,v6,v7,v8]/\G5 H5 H6)
   ⟨_,_,_,_,_,rfl,G5.refl H5⟩ (fun i σ H6 _⟨_,_,_,_,_,_,s6⟩=>sr _ s6) ?_ ?_⟩
  ·rintro i y σ H6 hy ⟨w4,w5,w6,w7,w8,rfl,s6⟩
   have hT:=s5.trans s6
   obtain⟨j,hj⟩:=AT (sC y (AD hy))
   obtain⟨pt,hp,t,u,ws,ey,ht,hR,hZ⟩:=Paired.get? sj hj
   subst ey
   have ha:pt.1∈ps.map (·.1):=AS (f:=(·.1)) (AD hp)
   have sd:(J3 pt.1 (R0 ps pt.1)).length+a0k ps [pt.1]<=960:=by
    obtain⟨rs,hm⟩:=a0q ha
    rw[O6 G.nd hm]
    exact a5F G hm
   refine⟨t,_,rfl,SqT.of (hT _ _ ht),rfl,_,_,rfl,_,_,rfl,rfl,?_⟩
   refine⟨_,rfl,_,rfl,x,ps,pt.1,rfl,hT.partsF hq,G,hc,hg,hC,sk,ha,hU,fun t' rt ot rv ov NN ts H7 s7 sQ hF sm sR sF hN sY sP=>?_⟩
   have sW:=hT.trans s7
   have sG:ts.length=(R6 (G7 ps)).length:=by
    have:=congrArg List.length sR
    rw[List.length_map,a0w,List.length_map]at this
    exact this
   have fl:FL ps pt.1 NN ts:=⟨G.nd,hc,sG,sF,hN,hC,hU,ha,sd⟩
   have hO:Paired (a9u H7) ov (D0 ps pt.1):=sP
   have hK:Paired (a9W NN H7) rv (D0 ps pt.1):=sY
   have sH:=AE hO
   have zd:=AE hK
   refine⟨t',_,rfl,SqT.of sQ,rfl,_,_,rfl,_,_,rfl,rfl,?_⟩
   refine⟨_,rfl,rt,_,rfl,.inr (SqT.of hF),_,rfl,ot,_,rfl,.inr (SqT.of sm),rfl,_,rfl,?_⟩
   rw[zd,sH]
   refine b8i ?_
   refine⟨_,rfl,_,rfl,O4,fun g gg=>?_⟩
   have s8:G5 H7 (upd H7 g (.tup [.str pt.1,.ref rt])):=(G5.refl H7).new gg
   have sb:upd H7 g (.tup [.str pt.1,.ref rt]) g=some (.tup [.str pt.1,.ref rt]):=G1
   generalize upd H7 g (.tup [.str pt.1,.ref rt])=H8 at s8 sb⊢
   refine⟨a3d,fun b ob gb sK=>?_⟩
   have s9:G5 H8 (upd H8 b (.frz ob (.tup [.ref g]))):=(G5.refl H8).new gb
   have sy:upd H8 b (.frz ob (.tup [.ref g])) b=some (.frz ob (.tup [.ref g])):=G1
   generalize upd H8 b (.frz ob (.tup [.ref g]))=H9 at s9 sy⊢
   have hG:=s8.trans s9
   have sl:=sW.trans hG
   have sN:a3u H9 b (ps2 ps pt.1 NN):=by
    refine⟨ob,_,sy,sK,.cons ⟨g,rt,rv,rfl,s9 _ _ sb,hG _ _ hF,?_⟩ .nil⟩
    exact b0p (fun y hy=>(fl.inn hy).2) (Paired.mapP hK fun _ _ z=>z.mono hG.tups)
   refine⟨_,rfl,_,rfl,b,nu,ps2 ps pt.1 NN,pt.1,nums,rfl,sN,fl.fit2,fl.net2,fl.closed2,fl.kinds2,fl.need2 hV,AC.mpr rfl,fl.fuel2,sl _ _ hP,su,fun c1 zp sv so=>?_⟩
   rw[fl.lay2]at so
   have hA:=b5x (nums:=nums) (a6e ps pt.1) fl.maps
   have hn:=hG.trans sv
   have hsz:=a9Y (a5U (ps2 ps pt.1 NN)) nums (a0G pt.1 NN (D0 ps pt.1)) r0
   rw[a1c]at hsz
   have zm:=fl.len
   refine⟨_,rfl,c1,ot,ov,D0 ps pt.1,_,rfl,so,hn _ _ sm,Paired.mapP hO fun _ _ z=>z.mono hn.tups,hA.tb,hA.fb,?_,fun c2 zj sq sV=>?_⟩
   ·have h1:(a0P (a5U (ps2 ps pt.1 NN)) nums (a0G pt.1 NN (D0 ps pt.1))).tr.length<=0+(D0 ps pt.1).length:=hsz.1
    omega
   have hJ:=(sl.trans sv).trans sq
   refine⟨_,rfl,_,rfl,_,rfl,_,rfl,x,nu,ps,pt.1,nums,rfl,b5a (hJ.partsF hq),b7m G,hc,hC,sA,hY,ha,sd,hJ _ _ hP,su,fun c3 zl sx sT=>?_⟩
   obtain⟨xs,zb,sO,sI,sZ⟩:=a2k.eqm (K:=K) (a2k.same sx sV) sT hA.tr.symm hA.ft.symm
   refine⟨c2,c3,xs,zb,rfl,rfl,sO,sI,sZ,_,rfl,F8 ?_⟩
   exact⟨_,_,_,_,_,rfl,s6.trans (s7.trans (hn.trans (sq.trans sx)))⟩
  ·rintro σ H6 ⟨w4,w5,w6,w7,w8,rfl,s6⟩
   exact q H6
end
end K45
namespace K45
open PySem L2
noncomputable def DA (K:W.Frag) (x:Str) (st:Stmt):Prop:=∃f od an sl oc kV dc pm cd ct,W.nsIn K mainGlobals x=some (some (.ref f))/\K.lookup f=some ⟨oc,od,.func (W.fnOf x x (a1r st) (a0A st) (J4 st) .none kV dc pm an cd ct),sl⟩/\W.codeIn K cd x=true/\W.keepIn K (.ref f)=true
theorem DA.has{K:W.Frag}{h:Heap}{mg:Str->Option Value}{x:Str}{st:Stmt}(X:K.In h)(G:h.Ns mainGlobals mg)(d:DA K x st):W1 K mg x st:=by
 obtain⟨f,j,O,B,q,kV,J,D,F,ct,a,l,c,k⟩:=d
 exact b0O X G a l c k
theorem DA.mk{K:W.Frag}{x:Str}{st:Stmt}{f:Addr}{F B:Option Addr}{D:Array (Option Value)}{J kV G q j ct:Value}(a:W.nsIn K mainGlobals x=some (some (.ref f)))(l:K.lookup f=some ⟨J,F,.func (W.fnOf x x (a1r st) (a0A st) (J4 st) .none kV G q B j ct),D⟩)(c:W.codeIn K j x=true)(k:W.keepIn K (.ref f)=true):DA K x st:=⟨f,F,B,D,J,kV,G,q,j,ct,a,l,c,k⟩
theorem b6s{l:W.OpenLaw}{w:World}{K:W.Frag}{h:Heap}{mg:Str->Option Value}{fa:Addr}(X:K.In h)(G:h.Ns mainGlobals mg)(B:mg "law"=some (.ref fa))
  (hd:DA K "placed_rows" a1C/\
  DA K "given_owns" a2b/\
  DA K "links" a7z/\
  DA K "makers" a6g/\
  DA K "made" a9A/\
  DA K "brings" a5r/\
  DA K "named_parts" a1y/\
  DA K "order" a7c/\
  DA K "new_names" a2s/\
  DA K "numbered" a3n/\
  DA K "makers_names" a1f/\
  DA K "renamed_row" a1E/\
  DA K "renamed_sum" a0C/\
  DA K "renamed_thing" a0O/\
  DA K "renamed_when" a1n/\
  DA K "flat" a5C/\
  DA K "refuse_asks" a1B/\
  DA K "work_in_order" a0Q/\
  DA K "last_first" a0X/\
  DA K "_law_cell_at" a1x/\
  DA K "_law_stream" a2c/\
  DA K "_law_name" a3w/\
  DA K "_law_pool" a3o/\
  DA K "_law_begun" a2v/\
  DA K "_law_fresh" a2z/\
  DA K "_law_pairs" a2L/\
  DA K "_law_added" a2w/\
  DA K "_law_sum" a4M/\
  DA K "_law_row" a4m/\
  DA K "_law_owned" a1v/\
  DA K "_law_finished" a0n/\
  DA K "_law_pools" a2J/\
  DA K "_law_parts" a2t/\
  DA K "_law_made" a3k/\
  DA K "_law_makers" a2h/\
  DA K "_law_sum_of" a2a/\
  DA K "_law_row_done" a1e/\
  DA K "_law_run" a4y/\
  DA K "_law_numbers" a1z/\
  DA K "_law_led" a4J/\
  DA K "law" a8q)
  (z0:W.nsIn K mainGlobals "len"=some none)
  (z1:W.nsIn K mainGlobals "range"=some none)
  (z2:W.nsIn K mainGlobals "str"=some none)
  (z3:W.nsIn K mainGlobals "tuple"=some none)
  (z4:W.nsIn K mainGlobals "list"=some none)
  (z5:W.nsIn K mainGlobals "dict"=some none)
  (z6:W.nsIn K mainGlobals "enumerate"=some none)
  (z7:W.nsIn K mainGlobals "isinstance"=some none)
  (z8:W.nsIn K mainGlobals "min"=some none)
  (z9:W.nsIn K mainGlobals "max"=some none)
  (z10:W.nsIn K mainGlobals "zip"=some none)
  (z11:W.nsIn K mainGlobals "int"=some none)
  (z12:W.nsIn K mainGlobals "bool"=some none)
  (z13:W.nsIn K mainGlobals "reversed"=some none):
  ∃fd:FuncData,(∀(s:Shared)(v:Value),BindsTo s fd ⟨[v],[]⟩ [("_law_script",v)])/\∀base:Heap,K.In base->base.Ns mainGlobals mg->a6j l.prog w K mg base CX0 9 fa fd ["_law_script"] (b0z K):=by
 obtain⟨d0,d1,d2,d3,d4,d5,d6,d7,d8,d9,q,hy,hq,D,j,he,O,hs,hb,F,ha,hg,ht,Y,hx,hn,hk,hu,U,Z,hf,ho,J,hj,hh,hw,hc,hr,hm,hp,f,od,an,sl,oc,kV,dc,pm,cd,ct,a,l,c,k⟩:=hd
 have e:=B.symm.trans (W.mg_of X G a)
 cases e
 have T:Txt K mg:=⟨W.mg_none_of X G z0,W.mg_none_of X G z1,W.mg_none_of X G z2,W.mg_none_of X G z3,W.mg_none_of X G z4,W.mg_none_of X G z5,W.mg_none_of X G z6,W.mg_none_of X G z7,W.mg_none_of X G z8,W.mg_none_of X G z9,W.mg_none_of X G z10,W.mg_none_of X G z11,W.mg_none_of X G z12,W.mg_none_of X G z13,d0.has X G,d1.has X G,d2.has X G,d3.has X G,d4.has X G,d5.has X G,d6.has X G,d7.has X G,d8.has X G,d9.has X G,q.has X G,hy.has X G,hq.has X G,D.has X G,j.has X G,he.has X G,O.has X G,hs.has X G,hb.has X G,F.has X G,ha.has X G,hg.has X G,ht.has X G,Y.has X G,hx.has X G,hn.has X G,hk.has X G,hu.has X G,U.has X G,Z.has X G,hf.has X G,ho.has X G,J.has X G,hj.has X G,hh.has X G,hw.has X G,hc.has X G,hr.has X G,hm.has X G,hp.has X G⟩
 exact⟨_,fun s v=> .of_eq rfl,fun base _ _=>b6j (b2i (st:=a8q) l c k) T⟩
theorem b8v{l:W.OpenLaw}{q:Program}{j:List Str}{XP:(Str->Option Value)->Heap->Prop}{YP:World->Heap->Prop}{d:DefRec}{K:Params->W.Frag}(G:l.most=some 63)(B:d.params.defaults=[])
  (O:∀(w:World)(h:Heap),YP w h->(K w.params).In h)
  (F:∀(w:World)(mg:Str->Option Value)(D:Addr)(h:Heap),(K w.params).In h->h.Ns mainGlobals mg->mg d.name=some (.ref D)->
   ∃fd:FuncData,(∀(s:Shared)(u:Value),BindsTo s fd ⟨[u],[]⟩ [("_law_script",u)])/\∀base:Heap,(K w.params).In base->base.Ns mainGlobals mg->a6j l.prog w (K w.params) mg base CX0 9 D fd ["_law_script"] (b0z (K w.params))):
  W.WalkO q j XP YP l.row.toRowW d [] (fun f vs=>PySem.call f vs):=
 L2.b5n (n:=63) (k:=9) (x:="_law_script") (CX:=fun _=>CX0) (sp:=fun w=>b0z (K w.params)) G (by decide) B ⟨rfl,by decide,by decide⟩ O F (fun _ _ a ns hl _ J=>⟨a,ns,rfl,J,hl,fun _=>rfl⟩) fun _ _ _ _ _ z=>z
end K45
open PySem PySem.W PyProof.Rows
set_option maxRecDepth 100000 in
set_option maxHeartbeats 0 in
theorem PySem.Challenge.cw_bundlehouse_k45_whole_flat_rows_done_holds : PySem.Challenge.rw_bundlehouse_k45_whole_flat_rows_done.Holds := by
 w_on
 refine HD.b4Q (l:=PySem.Challenge.rw_bundlehouse_k45_whole_flat_rows_done) (q:=HD.b5z PySem.Challenge.rw_bundlehouse_k45_whole_flat_rows_done.prog [48]) (K:=K45.a7b) (as:=K45.a6V) (N:=4236) K45.b3w K45.b5O K45.b3X (by rfl) (by rfl) (by rfl) (by rfl) (by decide +kernel) ⟨rfl,rfl,rfl,rfl,rfl,by decide +kernel⟩ ?hw ?hc
 (case hw=>w_witness2)
 k_fill
 refine K45.b8v (l:=PySem.Challenge.rw_bundlehouse_k45_whole_flat_rows_done) rfl rfl (fun w h Y=>W.kIn_of Y) ?F
 case F=>
  intro w mg D h B G j
  refine' K45.b6s B G j ?hd ?z0 ?z1 ?z2 ?z3 ?z4 ?z5 ?z6 ?z7 ?z8 ?z9 ?z10 ?z11 ?z12 ?z13
  case hd=>
   iterate 40 (refine⟨?_,?_⟩;focus (apply K45.DA.mk;k_is;k_is;k_is;k_is))
   apply K45.DA.mk;k_is;k_is;k_is;k_is
  (case z0=>k_is);(case z1=>k_is);(case z2=>k_is);(case z3=>k_is);(case z4=>k_is);(case z5=>k_is);(case z6=>k_is);(case z7=>k_is);(case z8=>k_is);(case z9=>k_is);(case z10=>k_is);(case z11=>k_is);(case z12=>k_is);(case z13=>k_is)