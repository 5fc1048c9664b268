import PyProof.Rows.All
import Wide.All
import OpenK.AllK
import Wide.FinOn
import Lean
import PyProof.EqAt
import PyProof.EqKinds
import PyProof.TupleCall
import PySem.Challenge.RW_bundlehouse_k62_play_row_by_row
set_option Elab.async false
set_option linter.all false
set_option maxRecDepth 100000
section
open PySem PySem.Spec PyProof.Rows
def AA:=@wpAny_bind
def AB:=@List.getElem?_eq_some_iff
def AC:=@List.mem_singleton
def AD:=@Bool.false_ne_true
def AE:=@Nat.le_refl
def AF:=@List.mem_of_getElem?
def AG:=@List.getElem?_eq_getElem
def AH:=@Heap.get?_push_of_some
def AI:=@Paired.length
def AJ:=@wpAny_pure
def AK:=@List.mem_append
def AL:=@PassesOwn.never
def AM:=@decide_eq_false
def AN:=@List.getElem?_map
def AO:=@List.mem_cons_of_mem
def AQ:=@List.mem_cons_self
def AR:=@List.take_length
def AS:=@Heap.get?_push_size
def AT:=@Heap.lt_size
def AU:=@List.length_take
def AV:=@List.mem_map
def AW:=@List.mem_append_right
def AX:=@Option.map_eq_some_iff
def AY:=@Nat.lt_of_lt_of_le
def AZ:=@Nat.zero_le
def BA:=@List.mem_append_left
def BB:=@List.getElem?_of_mem
def BC:=@List.length_filter_le
end
theorem a1G:0<=PySem.sizeLine:=by decide
theorem a3Y:1<=PySem.sizeLine:=by decide
theorem a0p:2<=PySem.sizeLine:=by decide
theorem a7Q:3<=PySem.sizeLine:=by decide
namespace HD
open PySem PySem.W
noncomputable abbrev b4L (p:Program) (ks:List Nat):Program:=
 {p with main:={p.main with body:=ks.filterMap fun i=>p.main.body[i]?}}
noncomputable abbrev en (P:Params) (x:Str) (t:Tok) (v:Value):DictEntry:=⟨PyData.keyHash P x,.str x t,v⟩
noncomputable abbrev tp (p:Program) (i:Nat):Stmt:=p.main.body.getD i (.Pass ⟨0,0,0,0⟩)
noncomputable def inC (s:Stmt) (i:Nat):Stmt:=match s with
 | .ClassDef _ _ _ b _ _ _ _ _ _ _=>b.getD i (.Pass ⟨0,0,0,0⟩)
 | _=> .Pass ⟨0,0,0,0⟩
noncomputable def dA (s:Stmt):Arguments:=match s with
 | .FunctionDef _ a _ _ _ _ _ _ _ _=>a
 | _=>⟨[],[],none,[],[],none,[]⟩
noncomputable def dB (s:Stmt):List Stmt:=match s with
 | .FunctionDef _ _ b _ _ _ _ _ _ _=>b
 | _=> []
noncomputable def dS (s:Stmt):Scope:=match s with
 | .FunctionDef _ _ _ _ _ _ c _ _ _=>c
 | _=>default
theorem b3g{p q:Program}{lo:List Str}{Xt:Shared->Bool}{K:Params->Frag}{as:List Addr}(n:Nat){e:∀P,as=(K P).map (·.1)}{N:Nat}
  (h1:∀w,((openEnds treeTable p w N).map fun s=>openSeen q lo (importedModules p.main.body) Xt true s)=some (openGood q lo))
  (h6:∀w,((openEnds treeTable p w N).map fun s=>(as.take n).map s.heap.get?)=some (((K w.params).take n).map fun p=>some p.2))
  (h7:∀w,((openEnds treeTable p w N).map fun s=>(as.drop n).map s.heap.get?)=some (((K w.params).drop n).map fun p=>some p.2)):LeftO p q lo Xt (kHook K as e).obs (kHook K as e).val N:=by
 intro w
 have a1:=h1 w
 have a6:=h6 w
 have a7:=h7 w
 generalize openEnds treeTable p w N=r at a1 a6 a7⊢
 cases r with
 | none=>cases a6
 | some s=>
  have b1:openSeen q lo (importedModules p.main.body) Xt true s=openGood q lo:=Option.some.inj a1
  have b6:(as.take n).map s.heap.get?=((K w.params).take n).map fun p=>some p.2:=Option.some.inj a6
  have b7:(as.drop n).map s.heap.get?=((K w.params).drop n).map fun p=>some p.2:=Option.some.inj a7
  have b8:as.map s.heap.get?=(K w.params).map fun p=>some p.2:=by rw[<-List.take_append_drop n as,List.map_append,b6,b7,<-List.map_append,List.take_append_drop]
  show some (openSeen q lo (importedModules p.main.body) Xt true s,as.map s.heap.get?)=some (openGood q lo,(K w.params).map fun p=>some p.2)
  rw[b1,b8]
theorem b4t{l:OpenLaw}{q:Program}{lo:List Str}{K:Params->Frag}{as:List Addr}{N:Nat}{d:DefRec}{kwd:List (Str×Expr)}
  (e:∀P,as=(K P).map (·.1))(b5l:l.wellSaid=true)
  (hl:LeftO l.row.prog q lo (fun s=>xlAt q [] s && recOk (RowW.records l.row.toRowW) s) (kHook K as e).obs (kHook K as e).val N)
  (h1:defOf q l.row.name=some (d,kwd))(h2:l.row.prog.theDef l.row.name=some (d.params,d.body,d.scope))
  (h3:kwWritten? d.params.kwonlyargs d.params.kw_defaults=some kwd)(h4:(!l.row.writes || l.row.records.isEmpty)=true)
  (h5:(chainsOk q && opensWell l.row.prog && (frees l.row.toRowW && l.row.within.isEmpty))=true)
  (h6:l.row.prog.bare)(h7:l.row.toRowW.promised)
  (go:WalkO q lo (XL q []) (kHook K as e).says l.row.toRowW d kwd fun f vs=>PySem.call f vs):l.Holds:=by
 refine holds_law b5l fun sd=>?_
 refine holds_open (XP:=XL q []) (YP:=(kHook K as e).says) hl (kHook K as e).of (kHook K as e).keeps ?_ XL.keeps h1 h2 h3 ?_ h4 sd h5 h6 h7 go
 ·intro s x
  exact xl_of s (Bool.and_eq_true_iff.mp x).1
 ·intro s x
  exact recFacts_of (Bool.and_eq_true_iff.mp x).2
end HD
namespace K62
open PySem PySem.W
abbrev zP:=PySem.Challenge.pw_bundlehouse_k62_play_row_by_row
theorem a5b{α:Type}{us:List α}(h:us.length=1):∃a,us=[a]:=by
 match us,h with
 | [a],_=>exact⟨a,rfl⟩
theorem a2F{α:Type}{us:List α}(h:us.length=2):∃a b,us=[a,b]:=by
 match us,h with
 | [a,b],_=>exact⟨a,b,rfl⟩
theorem a6v{α:Type}{us:List α}(h:us.length=3):∃a b c,us=[a,b,c]:=by
 match us,h with
 | [a,b,c],_=>exact⟨a,b,c,rfl⟩
theorem b0O{α:Type}{us:List α}(h:us.length=4):∃a b c d,us=[a,b,c,d]:=by
 match us,h with
 | [a,b,c,d],_=>exact⟨a,b,c,d,rfl⟩
set_option maxHeartbeats 0
noncomputable def a6V (P:Params):W.Frag:=
 (nat_lit 2,{cls:= .none,data:= .dict #[]})::
 (nat_lit 3,{cls:= .type "dict",data:= .dict #[HD.en P "__name__" 165 (.str "law_bundlehouse_k62_play_row_by_row" 572),HD.en P "__doc__" 166 (.none),HD.en P "__package__" 167 (.none),HD.en P "__loader__" 168 (.builtin "__main__.__loader__#opaque"),HD.en P "__spec__" 169 (.none),HD.en P "__annotations__" 170 (.ref 6),HD.en P "__builtins__" 171 (.ref 4),HD.en P "__file__" 173 (.str "/claim/cut.py" 172),HD.en P "__cached__" 174 (.none),HD.en P "words_of" 196 (.ref 21),HD.en P "pair_words" 206 (.ref 28),HD.en P "sum_words" 216 (.ref 35),HD.en P "when_words" 223 (.ref 42),HD.en P "read_names" 231 (.ref 49),HD.en P "sum_names" 242 (.ref 56),HD.en P "when_names" 249 (.ref 63),HD.en P "spread" 262 (.ref 70),HD.en P "Walk" 327 (.ref 115),HD.en P "Going" 484 (.ref 220),HD.en P "play" 496 (.ref 232),HD.en P "PacksWalk" 552 (.ref 271),HD.en P "blocks_in" 565 (.ref 280),HD.en P "next_parts" 571 (.ref 285),HD.en P "_law_cell_at" 581 (.ref 292),HD.en P "_law_stream" 592 (.ref 299),HD.en P "_law_names" 598 (.ref 304),HD.en P "_law_sum" 611 (.ref 311),HD.en P "_law_row" 623 (.ref 318),HD.en P "_law_blocks" 629 (.ref 323),HD.en P "_law_there" 642 (.ref 330),HD.en P "_law_roots" 648 (.ref 335),HD.en P "_law_made" 654 (.ref 340),HD.en P "_law_reads" 665 (.ref 347),HD.en P "_law_load" 674 (.ref 354),HD.en P "_law_value" 685 (.ref 361),HD.en P "_law_begin" 697 (.ref 368),HD.en P "_law_done" 711 (.ref 375),HD.en P "_law_told" 725 (.ref 382),HD.en P "_law_same" 734 (.ref 389),HD.en P "law" 740 (.ref 394)] 40})::
 (nat_lit 15,{cls:= .type "tuple",data:= .seq #[]})::
 (nat_lit 17,{cls:= .type "tuple",data:= .seq #[.str "row" 192,.str "kind" 193]})::
 (nat_lit 18,{cls:= .type "tuple",data:= .seq #[]})::
 (nat_lit 20,{cls:= .type "code",data:= .fields #[.str "words_of" 189,.str "words_of" 190,.str "/claim/cut.py" 191,.int 2 0,.int 1 0,.int 0 0,.int 0 0,.int 3 0,.ref 15,.bool true,.int 181 0,.ref 16,.none,.ref 17,.ref 18,.ref 19,.int 194 0,.int 2 0,.str "/claim/cut.py" 195]})::
 (nat_lit 21,⟨.type "function",none,.func (W.fnOf "words_of" "words_of" (HD.dA (HD.tp zP 1)) (HD.dB (HD.tp zP 1)) (HD.dS (HD.tp zP 1)) (.none) (.none) (.none) (.str "bundlehouse.rows" 187) (none) (.ref 20) (.none)), #[]⟩)::
 (nat_lit 22,{cls:= .type "tuple",data:= .seq #[]})::
 (nat_lit 24,{cls:= .type "tuple",data:= .seq #[.str "pairs" 200,.str "words" 201,.str "given" 202,.str "own" 203]})::
 (nat_lit 25,{cls:= .type "tuple",data:= .seq #[]})::
 (nat_lit 27,{cls:= .type "code",data:= .fields #[.str "pair_words" 197,.str "pair_words" 198,.str "/claim/cut.py" 199,.int 17 0,.int 1 0,.int 0 0,.int 0 0,.int 3 0,.ref 22,.bool true,.int 181 0,.ref 23,.none,.ref 24,.ref 25,.ref 26,.int 204 0,.int 17 0,.str "/claim/cut.py" 205]})::
 (nat_lit 28,⟨.type "function",none,.func (W.fnOf "pair_words" "pair_words" (HD.dA (HD.tp zP 2)) (HD.dB (HD.tp zP 2)) (HD.dS (HD.tp zP 2)) (.none) (.none) (.none) (.str "bundlehouse.rows" 187) (none) (.ref 27) (.none)), #[]⟩)::
 (nat_lit 29,{cls:= .type "tuple",data:= .seq #[]})::
 (nat_lit 31,{cls:= .type "tuple",data:= .seq #[.str "terms" 210,.str "words" 211,.str "sign" 212,.str "thing" 213]})::
 (nat_lit 32,{cls:= .type "tuple",data:= .seq #[]})::
 (nat_lit 34,{cls:= .type "code",data:= .fields #[.str "sum_words" 207,.str "sum_words" 208,.str "/claim/cut.py" 209,.int 22 0,.int 1 0,.int 0 0,.int 0 0,.int 3 0,.ref 29,.bool true,.int 181 0,.ref 30,.none,.ref 31,.ref 32,.ref 33,.int 214 0,.int 22 0,.str "/claim/cut.py" 215]})::
 (nat_lit 35,⟨.type "function",none,.func (W.fnOf "sum_words" "sum_words" (HD.dA (HD.tp zP 3)) (HD.dB (HD.tp zP 3)) (HD.dS (HD.tp zP 3)) (.none) (.none) (.none) (.str "bundlehouse.rows" 187) (none) (.ref 34) (.none)), #[]⟩)::
 (nat_lit 36,{cls:= .type "tuple",data:= .seq #[]})::
 (nat_lit 38,{cls:= .type "tuple",data:= .seq #[.str "when" 220]})::
 (nat_lit 39,{cls:= .type "tuple",data:= .seq #[]})::
 (nat_lit 41,{cls:= .type "code",data:= .fields #[.str "when_words" 217,.str "when_words" 218,.str "/claim/cut.py" 219,.int 29 0,.int 1 0,.int 0 0,.int 0 0,.int 3 0,.ref 36,.bool true,.int 181 0,.ref 37,.none,.ref 38,.ref 39,.ref 40,.int 221 0,.int 29 0,.str "/claim/cut.py" 222]})::
 (nat_lit 42,⟨.type "function",none,.func (W.fnOf "when_words" "when_words" (HD.dA (HD.tp zP 4)) (HD.dB (HD.tp zP 4)) (HD.dS (HD.tp zP 4)) (.none) (.none) (.none) (.str "bundlehouse.rows" 187) (none) (.ref 41) (.none)), #[]⟩)::
 (nat_lit 43,{cls:= .type "tuple",data:= .seq #[]})::
 (nat_lit 45,{cls:= .type "tuple",data:= .seq #[.str "row" 227,.str "kind" 228]})::
 (nat_lit 46,{cls:= .type "tuple",data:= .seq #[]})::
 (nat_lit 48,{cls:= .type "code",data:= .fields #[.str "read_names" 224,.str "read_names" 225,.str "/claim/cut.py" 226,.int 33 0,.int 1 0,.int 0 0,.int 0 0,.int 3 0,.ref 43,.bool true,.int 181 0,.ref 44,.none,.ref 45,.ref 46,.ref 47,.int 229 0,.int 33 0,.str "/claim/cut.py" 230]})::
 (nat_lit 49,⟨.type "function",none,.func (W.fnOf "read_names" "read_names" (HD.dA (HD.tp zP 5)) (HD.dB (HD.tp zP 5)) (HD.dS (HD.tp zP 5)) (.none) (.none) (.none) (.str "bundlehouse.rows" 187) (none) (.ref 48) (.none)), #[]⟩)::
 (nat_lit 50,{cls:= .type "tuple",data:= .seq #[]})::
 (nat_lit 52,{cls:= .type "tuple",data:= .seq #[.str "terms" 235,.str "first" 236,.str "names" 237,.str "place" 238,.str "term" 239]})::
 (nat_lit 53,{cls:= .type "tuple",data:= .seq #[]})::
 (nat_lit 55,{cls:= .type "code",data:= .fields #[.str "sum_names" 232,.str "sum_names" 233,.str "/claim/cut.py" 234,.int 44 0,.int 2 0,.int 0 0,.int 0 0,.int 3 0,.ref 50,.bool true,.int 181 0,.ref 51,.none,.ref 52,.ref 53,.ref 54,.int 240 0,.int 44 0,.str "/claim/cut.py" 241]})::
 (nat_lit 56,⟨.type "function",none,.func (W.fnOf "sum_names" "sum_names" (HD.dA (HD.tp zP 6)) (HD.dB (HD.tp zP 6)) (HD.dS (HD.tp zP 6)) (.none) (.none) (.none) (.str "bundlehouse.rows" 187) (none) (.ref 55) (.none)), #[]⟩)::
 (nat_lit 57,{cls:= .type "tuple",data:= .seq #[]})::
 (nat_lit 59,{cls:= .type "tuple",data:= .seq #[.str "row" 246]})::
 (nat_lit 60,{cls:= .type "tuple",data:= .seq #[]})::
 (nat_lit 62,{cls:= .type "code",data:= .fields #[.str "when_names" 243,.str "when_names" 244,.str "/claim/cut.py" 245,.int 50 0,.int 1 0,.int 0 0,.int 0 0,.int 3 0,.ref 57,.bool true,.int 181 0,.ref 58,.none,.ref 59,.ref 60,.ref 61,.int 247 0,.int 50 0,.str "/claim/cut.py" 248]})::
 (nat_lit 63,⟨.type "function",none,.func (W.fnOf "when_names" "when_names" (HD.dA (HD.tp zP 7)) (HD.dB (HD.tp zP 7)) (HD.dS (HD.tp zP 7)) (.none) (.none) (.none) (.str "bundlehouse.rows" 187) (none) (.ref 62) (.none)), #[]⟩)::
 (nat_lit 64,{cls:= .type "tuple",data:= .seq #[]})::
 (nat_lit 66,{cls:= .type "tuple",data:= .seq #[.str "onward" 255,.str "some" 256,.str "found" 257,.str "waiting" 258,.str "part" 259]})::
 (nat_lit 67,{cls:= .type "tuple",data:= .seq #[]})::
 (nat_lit 69,{cls:= .type "code",data:= .fields #[.str "spread" 252,.str "spread" 253,.str "/claim/cut.py" 254,.int 55 0,.int 2 0,.int 0 0,.int 0 0,.int 3 0,.ref 64,.bool true,.int 181 0,.ref 65,.none,.ref 66,.ref 67,.ref 68,.int 260 0,.int 55 0,.str "/claim/cut.py" 261]})::
 (nat_lit 70,⟨.type "function",none,.func (W.fnOf "spread" "spread" (HD.dA (HD.tp zP 9)) (HD.dB (HD.tp zP 9)) (HD.dS (HD.tp zP 9)) (.none) (.none) (.none) (.str "bundlehouse.knots" 250) (none) (.ref 69) (.none)), #[]⟩)::
 (nat_lit 78,{cls:= .type "tuple",data:= .seq #[]})::
 (nat_lit 80,{cls:= .type "tuple",data:= .seq #[.str "self" 280,.str "part" 281]})::
 (nat_lit 81,{cls:= .type "tuple",data:= .seq #[]})::
 (nat_lit 83,{cls:= .type "code",data:= .fields #[.str "rows_of" 277,.str "Walk.rows_of" 278,.str "/claim/cut.py" 279,.int 67 0,.int 2 0,.int 0 0,.int 0 0,.int 3 0,.ref 78,.bool true,.int 181 0,.ref 79,.none,.ref 80,.ref 81,.ref 82,.int 282 0,.int 67 0,.str "/claim/cut.py" 283]})::
 (nat_lit 85,{cls:= .type "tuple",data:= .seq #[]})::
 (nat_lit 87,{cls:= .type "tuple",data:= .seq #[.str "self" 288,.str "part" 289,.str "name" 290]})::
 (nat_lit 88,{cls:= .type "tuple",data:= .seq #[]})::
 (nat_lit 90,{cls:= .type "code",data:= .fields #[.str "key_of" 285,.str "Walk.key_of" 286,.str "/claim/cut.py" 287,.int 70 0,.int 3 0,.int 0 0,.int 0 0,.int 3 0,.ref 85,.bool true,.int 181 0,.ref 86,.none,.ref 87,.ref 88,.ref 89,.int 291 0,.int 70 0,.str "/claim/cut.py" 292]})::
 (nat_lit 91,⟨.type "function",none,.func (W.fnOf "key_of" "Walk.key_of" (HD.dA (HD.inC (HD.tp zP 11) 1)) (HD.dB (HD.inC (HD.tp zP 11) 1)) (HD.dS (HD.inC (HD.tp zP 11) 1)) (.none) (.none) (.none) (.str "bundlehouse.run" 263) (none) (.ref 90) (.none)), #[]⟩)::
 (nat_lit 92,{cls:= .type "tuple",data:= .seq #[]})::
 (nat_lit 94,{cls:= .type "tuple",data:= .seq #[.str "self" 297,.str "part" 298]})::
 (nat_lit 95,{cls:= .type "tuple",data:= .seq #[]})::
 (nat_lit 97,{cls:= .type "code",data:= .fields #[.str "loads_of" 294,.str "Walk.loads_of" 295,.str "/claim/cut.py" 296,.int 73 0,.int 2 0,.int 0 0,.int 0 0,.int 3 0,.ref 92,.bool true,.int 181 0,.ref 93,.none,.ref 94,.ref 95,.ref 96,.int 299 0,.int 73 0,.str "/claim/cut.py" 300]})::
 (nat_lit 99,{cls:= .type "tuple",data:= .seq #[]})::
 (nat_lit 101,{cls:= .type "tuple",data:= .seq #[.str "self" 305,.str "root" 306]})::
 (nat_lit 102,{cls:= .type "tuple",data:= .seq #[]})::
 (nat_lit 104,{cls:= .type "code",data:= .fields #[.str "ahead_of" 302,.str "Walk.ahead_of" 303,.str "/claim/cut.py" 304,.int 76 0,.int 2 0,.int 0 0,.int 0 0,.int 3 0,.ref 99,.bool true,.int 181 0,.ref 100,.none,.ref 101,.ref 102,.ref 103,.int 307 0,.int 76 0,.str "/claim/cut.py" 308]})::
 (nat_lit 106,{cls:= .type "tuple",data:= .seq #[]})::
 (nat_lit 108,{cls:= .type "tuple",data:= .seq #[.str "self" 313,.str "root" 314,.str "numbers" 315,.str "going" 316]})::
 (nat_lit 109,{cls:= .type "tuple",data:= .seq #[]})::
 (nat_lit 111,{cls:= .type "code",data:= .fields #[.str "go" 310,.str "Walk.go" 311,.str "/claim/cut.py" 312,.int 79 0,.int 3 0,.int 0 0,.int 0 0,.int 3 0,.ref 106,.bool true,.int 181 0,.ref 107,.none,.ref 108,.ref 109,.ref 110,.int 317 0,.int 79 0,.str "/claim/cut.py" 318]})::
 (nat_lit 112,⟨.type "function",none,.func (W.fnOf "go" "Walk.go" (HD.dA (HD.inC (HD.tp zP 11) 4)) (HD.dB (HD.inC (HD.tp zP 11) 4)) (HD.dS (HD.inC (HD.tp zP 11) 4)) (.none) (.none) (.none) (.str "bundlehouse.run" 263) (none) (.ref 111) (.none)), #[]⟩)::
 (nat_lit 113,{cls:= .type "tuple",data:= .seq #[]})::
 (nat_lit 114,{cls:= .type "dict",data:= .dict #[HD.en P "__module__" 272 (.str "bundlehouse.run" 263),HD.en P "__firstlineno__" 276 (.int 65 275),HD.en P "rows_of" 284 (.ref 84),HD.en P "key_of" 293 (.ref 91),HD.en P "loads_of" 301 (.ref 98),HD.en P "ahead_of" 309 (.ref 105),HD.en P "go" 319 (.ref 112),HD.en P "__static_attributes__" 320 (.ref 113),HD.en P "__dict__" 322 (.ref 116),HD.en P "__weakref__" 324 (.ref 117),HD.en P "__doc__" 325 (.none)] 4})::
 (nat_lit 115,{cls:= .type "type",data:= .cls {name:="Walk",bases:=[.type "object"],mro:=[.ref 115,.type "object"],ns:=114,qualname:="Walk",subclasses:=[.ref 271]},slots:= #[none,none,some (.str "Walk" 265),some (.str "Walk" 273),some (.builtin "object.__new__"),some (.bool true)]})::
 (nat_lit 116,{cls:= .type "getset_descriptor",data:= .fields #[.str "__dict__" 321,.ref 115,.builtin "function.__dict__",.builtin "function.__dict__#set"]})::
 (nat_lit 117,{cls:= .type "getset_descriptor",data:= .fields #[.str "__weakref__" 323,.ref 115,.builtin "ExceptionGroup.__weakref__",.none]})::
 (nat_lit 127,{cls:= .type "tuple",data:= .seq #[]})::
 (nat_lit 129,{cls:= .type "tuple",data:= .seq #[.str "self" 343,.str "walk" 344,.str "numbers" 345]})::
 (nat_lit 130,{cls:= .type "tuple",data:= .seq #[]})::
 (nat_lit 132,{cls:= .type "code",data:= .fields #[.str "__init__" 340,.str "Going.__init__" 341,.str "/claim/cut.py" 342,.int 88 0,.int 3 0,.int 0 0,.int 0 0,.int 3 0,.ref 127,.bool true,.int 181 0,.ref 128,.none,.ref 129,.ref 130,.ref 131,.int 346 0,.int 88 0,.str "/claim/cut.py" 347]})::
 (nat_lit 133,⟨.type "function",none,.func (W.fnOf "__init__" "Going.__init__" (HD.dA (HD.inC (HD.tp zP 12) 0)) (HD.dB (HD.inC (HD.tp zP 12) 0)) (HD.dS (HD.inC (HD.tp zP 12) 0)) (.none) (.none) (.none) (.str "bundlehouse.run" 263) (none) (.ref 132) (.none)), #[]⟩)::
 (nat_lit 134,{cls:= .type "tuple",data:= .seq #[]})::
 (nat_lit 136,{cls:= .type "tuple",data:= .seq #[.str "self" 352,.str "packs" 353,.str "pack" 354]})::
 (nat_lit 137,{cls:= .type "tuple",data:= .seq #[]})::
 (nat_lit 139,{cls:= .type "code",data:= .fields #[.str "load" 349,.str "Going.load" 350,.str "/claim/cut.py" 351,.int 99 0,.int 2 0,.int 0 0,.int 0 0,.int 3 0,.ref 134,.bool true,.int 181 0,.ref 135,.none,.ref 136,.ref 137,.ref 138,.int 355 0,.int 99 0,.str "/claim/cut.py" 356]})::
 (nat_lit 140,⟨.type "function",none,.func (W.fnOf "load" "Going.load" (HD.dA (HD.inC (HD.tp zP 12) 1)) (HD.dB (HD.inC (HD.tp zP 12) 1)) (HD.dS (HD.inC (HD.tp zP 12) 1)) (.none) (.none) (.none) (.str "bundlehouse.run" 263) (none) (.ref 139) (.none)), #[]⟩)::
 (nat_lit 141,{cls:= .type "tuple",data:= .seq #[]})::
 (nat_lit 143,{cls:= .type "tuple",data:= .seq #[.str "self" 361,.str "part" 362,.str "place" 363,.str "number" 364,.str "row" 365]})::
 (nat_lit 144,{cls:= .type "tuple",data:= .seq #[]})::
 (nat_lit 146,{cls:= .type "code",data:= .fields #[.str "begin" 358,.str "Going.begin" 359,.str "/claim/cut.py" 360,.int 105 0,.int 2 0,.int 0 0,.int 0 0,.int 3 0,.ref 141,.bool true,.int 181 0,.ref 142,.none,.ref 143,.ref 144,.ref 145,.int 366 0,.int 105 0,.str "/claim/cut.py" 367]})::
 (nat_lit 147,⟨.type "function",none,.func (W.fnOf "begin" "Going.begin" (HD.dA (HD.inC (HD.tp zP 12) 2)) (HD.dB (HD.inC (HD.tp zP 12) 2)) (HD.dS (HD.inC (HD.tp zP 12) 2)) (.none) (.none) (.none) (.str "bundlehouse.run" 263) (none) (.ref 146) (.none)), #[]⟩)::
 (nat_lit 148,{cls:= .type "tuple",data:= .seq #[]})::
 (nat_lit 150,{cls:= .type "tuple",data:= .seq #[.str "self" 372,.str "step" 373]})::
 (nat_lit 151,{cls:= .type "tuple",data:= .seq #[]})::
 (nat_lit 153,{cls:= .type "code",data:= .fields #[.str "go_on" 369,.str "Going.go_on" 370,.str "/claim/cut.py" 371,.int 110 0,.int 1 0,.int 0 0,.int 0 0,.int 3 0,.ref 148,.bool true,.int 181 0,.ref 149,.none,.ref 150,.ref 151,.ref 152,.int 374 0,.int 110 0,.str "/claim/cut.py" 375]})::
 (nat_lit 154,⟨.type "function",none,.func (W.fnOf "go_on" "Going.go_on" (HD.dA (HD.inC (HD.tp zP 12) 3)) (HD.dB (HD.inC (HD.tp zP 12) 3)) (HD.dS (HD.inC (HD.tp zP 12) 3)) (.none) (.none) (.none) (.str "bundlehouse.run" 263) (none) (.ref 153) (.none)), #[]⟩)::
 (nat_lit 155,{cls:= .type "tuple",data:= .seq #[]})::
 (nat_lit 157,{cls:= .type "tuple",data:= .seq #[.str "self" 380,.str "part" 381,.str "where" 382,.str "row" 383,.str "word" 384]})::
 (nat_lit 158,{cls:= .type "tuple",data:= .seq #[]})::
 (nat_lit 160,{cls:= .type "code",data:= .fields #[.str "do_row" 377,.str "Going.do_row" 378,.str "/claim/cut.py" 379,.int 115 0,.int 4 0,.int 0 0,.int 0 0,.int 3 0,.ref 155,.bool true,.int 181 0,.ref 156,.none,.ref 157,.ref 158,.ref 159,.int 385 0,.int 115 0,.str "/claim/cut.py" 386]})::
 (nat_lit 161,⟨.type "function",none,.func (W.fnOf "do_row" "Going.do_row" (HD.dA (HD.inC (HD.tp zP 12) 4)) (HD.dB (HD.inC (HD.tp zP 12) 4)) (HD.dS (HD.inC (HD.tp zP 12) 4)) (.none) (.none) (.none) (.str "bundlehouse.run" 263) (none) (.ref 160) (.none)), #[]⟩)::
 (nat_lit 162,{cls:= .type "tuple",data:= .seq #[]})::
 (nat_lit 164,{cls:= .type "tuple",data:= .seq #[.str "self" 391,.str "part" 392,.str "row" 393,.str "key" 394]})::
 (nat_lit 165,{cls:= .type "tuple",data:= .seq #[]})::
 (nat_lit 167,{cls:= .type "code",data:= .fields #[.str "is_off" 388,.str "Going.is_off" 389,.str "/claim/cut.py" 390,.int 126 0,.int 3 0,.int 0 0,.int 0 0,.int 3 0,.ref 162,.bool true,.int 181 0,.ref 163,.none,.ref 164,.ref 165,.ref 166,.int 395 0,.int 126 0,.str "/claim/cut.py" 396]})::
 (nat_lit 168,⟨.type "function",none,.func (W.fnOf "is_off" "Going.is_off" (HD.dA (HD.inC (HD.tp zP 12) 5)) (HD.dB (HD.inC (HD.tp zP 12) 5)) (HD.dS (HD.inC (HD.tp zP 12) 5)) (.none) (.none) (.none) (.str "bundlehouse.run" 263) (none) (.ref 167) (.none)), #[]⟩)::
 (nat_lit 169,{cls:= .type "tuple",data:= .seq #[]})::
 (nat_lit 171,{cls:= .type "tuple",data:= .seq #[.str "self" 401,.str "part" 402,.str "row" 403,.str "word" 404,.str "name" 405]})::
 (nat_lit 172,{cls:= .type "tuple",data:= .seq #[]})::
 (nat_lit 174,{cls:= .type "code",data:= .fields #[.str "early_word" 398,.str "Going.early_word" 399,.str "/claim/cut.py" 400,.int 132 0,.int 3 0,.int 0 0,.int 0 0,.int 3 0,.ref 169,.bool true,.int 181 0,.ref 170,.none,.ref 171,.ref 172,.ref 173,.int 406 0,.int 132 0,.str "/claim/cut.py" 407]})::
 (nat_lit 175,⟨.type "function",none,.func (W.fnOf "early_word" "Going.early_word" (HD.dA (HD.inC (HD.tp zP 12) 6)) (HD.dB (HD.inC (HD.tp zP 12) 6)) (HD.dS (HD.inC (HD.tp zP 12) 6)) (.none) (.none) (.none) (.str "bundlehouse.run" 263) (none) (.ref 174) (.none)), #[]⟩)::
 (nat_lit 176,{cls:= .type "tuple",data:= .seq #[]})::
 (nat_lit 178,{cls:= .type "tuple",data:= .seq #[.str "self" 412,.str "kind" 413,.str "part" 414]})::
 (nat_lit 179,{cls:= .type "tuple",data:= .seq #[]})::
 (nat_lit 181,{cls:= .type "code",data:= .fields #[.str "enter" 409,.str "Going.enter" 410,.str "/claim/cut.py" 411,.int 138 0,.int 3 0,.int 0 0,.int 0 0,.int 3 0,.ref 176,.bool true,.int 181 0,.ref 177,.none,.ref 178,.ref 179,.ref 180,.int 415 0,.int 138 0,.str "/claim/cut.py" 416]})::
 (nat_lit 182,⟨.type "function",none,.func (W.fnOf "enter" "Going.enter" (HD.dA (HD.inC (HD.tp zP 12) 7)) (HD.dB (HD.inC (HD.tp zP 12) 7)) (HD.dS (HD.inC (HD.tp zP 12) 7)) (.none) (.none) (.none) (.str "bundlehouse.run" 263) (none) (.ref 181) (.none)), #[]⟩)::
 (nat_lit 183,{cls:= .type "tuple",data:= .seq #[]})::
 (nat_lit 185,{cls:= .type "tuple",data:= .seq #[.str "self" 421,.str "part" 422,.str "where" 423,.str "row" 424,.str "kind" 425,.str "value" 426]})::
 (nat_lit 186,{cls:= .type "tuple",data:= .seq #[]})::
 (nat_lit 188,{cls:= .type "code",data:= .fields #[.str "do_work" 418,.str "Going.do_work" 419,.str "/claim/cut.py" 420,.int 145 0,.int 4 0,.int 0 0,.int 0 0,.int 3 0,.ref 183,.bool true,.int 181 0,.ref 184,.none,.ref 185,.ref 186,.ref 187,.int 427 0,.int 145 0,.str "/claim/cut.py" 428]})::
 (nat_lit 189,⟨.type "function",none,.func (W.fnOf "do_work" "Going.do_work" (HD.dA (HD.inC (HD.tp zP 12) 8)) (HD.dB (HD.inC (HD.tp zP 12) 8)) (HD.dS (HD.inC (HD.tp zP 12) 8)) (.none) (.none) (.none) (.str "bundlehouse.run" 263) (none) (.ref 188) (.none)), #[]⟩)::
 (nat_lit 190,{cls:= .type "tuple",data:= .seq #[]})::
 (nat_lit 192,{cls:= .type "tuple",data:= .seq #[.str "self" 433,.str "part" 434,.str "name" 435,.str "value" 436]})::
 (nat_lit 193,{cls:= .type "tuple",data:= .seq #[]})::
 (nat_lit 195,{cls:= .type "code",data:= .fields #[.str "give" 430,.str "Going.give" 431,.str "/claim/cut.py" 432,.int 158 0,.int 4 0,.int 0 0,.int 0 0,.int 3 0,.ref 190,.bool true,.int 181 0,.ref 191,.none,.ref 192,.ref 193,.ref 194,.int 437 0,.int 158 0,.str "/claim/cut.py" 438]})::
 (nat_lit 196,⟨.type "function",none,.func (W.fnOf "give" "Going.give" (HD.dA (HD.inC (HD.tp zP 12) 9)) (HD.dB (HD.inC (HD.tp zP 12) 9)) (HD.dS (HD.inC (HD.tp zP 12) 9)) (.none) (.none) (.none) (.str "bundlehouse.run" 263) (none) (.ref 195) (.none)), #[]⟩)::
 (nat_lit 197,{cls:= .type "tuple",data:= .seq #[]})::
 (nat_lit 199,{cls:= .type "tuple",data:= .seq #[.str "self" 443]})::
 (nat_lit 200,{cls:= .type "tuple",data:= .seq #[]})::
 (nat_lit 202,{cls:= .type "code",data:= .fields #[.str "next_told" 440,.str "Going.next_told" 441,.str "/claim/cut.py" 442,.int 161 0,.int 1 0,.int 0 0,.int 0 0,.int 3 0,.ref 197,.bool true,.int 181 0,.ref 198,.none,.ref 199,.ref 200,.ref 201,.int 444 0,.int 161 0,.str "/claim/cut.py" 445]})::
 (nat_lit 203,⟨.type "function",none,.func (W.fnOf "next_told" "Going.next_told" (HD.dA (HD.inC (HD.tp zP 12) 10)) (HD.dB (HD.inC (HD.tp zP 12) 10)) (HD.dS (HD.inC (HD.tp zP 12) 10)) (.none) (.none) (.none) (.str "bundlehouse.run" 263) (none) (.ref 202) (.none)), #[]⟩)::
 (nat_lit 204,{cls:= .type "tuple",data:= .seq #[]})::
 (nat_lit 206,{cls:= .type "tuple",data:= .seq #[.str "self" 450,.str "part" 451,.str "terms" 452,.str "total" 453,.str "sign" 454,.str "thing" 455]})::
 (nat_lit 207,{cls:= .type "tuple",data:= .seq #[]})::
 (nat_lit 209,{cls:= .type "code",data:= .fields #[.str "value_of" 447,.str "Going.value_of" 448,.str "/claim/cut.py" 449,.int 167 0,.int 3 0,.int 0 0,.int 0 0,.int 3 0,.ref 204,.bool true,.int 181 0,.ref 205,.none,.ref 206,.ref 207,.ref 208,.int 456 0,.int 167 0,.str "/claim/cut.py" 457]})::
 (nat_lit 210,⟨.type "function",none,.func (W.fnOf "value_of" "Going.value_of" (HD.dA (HD.inC (HD.tp zP 12) 11)) (HD.dB (HD.inC (HD.tp zP 12) 11)) (HD.dS (HD.inC (HD.tp zP 12) 11)) (.none) (.none) (.none) (.str "bundlehouse.run" 263) (none) (.ref 209) (.none)), #[]⟩)::
 (nat_lit 211,{cls:= .type "tuple",data:= .seq #[]})::
 (nat_lit 213,{cls:= .type "tuple",data:= .seq #[.str "self" 462,.str "part" 463,.str "thing" 464]})::
 (nat_lit 214,{cls:= .type "tuple",data:= .seq #[]})::
 (nat_lit 216,{cls:= .type "code",data:= .fields #[.str "thing_value" 459,.str "Going.thing_value" 460,.str "/claim/cut.py" 461,.int 173 0,.int 3 0,.int 0 0,.int 0 0,.int 3 0,.ref 211,.bool true,.int 181 0,.ref 212,.none,.ref 213,.ref 214,.ref 215,.int 465 0,.int 173 0,.str "/claim/cut.py" 466]})::
 (nat_lit 217,⟨.type "function",none,.func (W.fnOf "thing_value" "Going.thing_value" (HD.dA (HD.inC (HD.tp zP 12) 12)) (HD.dB (HD.inC (HD.tp zP 12) 12)) (HD.dS (HD.inC (HD.tp zP 12) 12)) (.none) (.none) (.none) (.str "bundlehouse.run" 263) (none) (.ref 216) (.none)), #[]⟩)::
 (nat_lit 218,{cls:= .type "tuple",data:= .seq #[.str "begun" 468,.str "fault" 469,.str "given" 470,.str "loaded" 471,.str "numbers" 472,.str "taken" 473,.str "trace" 474,.str "waiting" 475,.str "walk" 476]})::
 (nat_lit 219,{cls:= .type "dict",data:= .dict #[HD.en P "__module__" 335 (.str "bundlehouse.run" 263),HD.en P "__firstlineno__" 339 (.int 86 338),HD.en P "__init__" 348 (.ref 133),HD.en P "load" 357 (.ref 140),HD.en P "begin" 368 (.ref 147),HD.en P "go_on" 376 (.ref 154),HD.en P "do_row" 387 (.ref 161),HD.en P "is_off" 397 (.ref 168),HD.en P "early_word" 408 (.ref 175),HD.en P "enter" 417 (.ref 182),HD.en P "do_work" 429 (.ref 189),HD.en P "give" 439 (.ref 196),HD.en P "next_told" 446 (.ref 203),HD.en P "value_of" 458 (.ref 210),HD.en P "thing_value" 467 (.ref 217),HD.en P "__static_attributes__" 477 (.ref 218),HD.en P "__dict__" 479 (.ref 221),HD.en P "__weakref__" 481 (.ref 222),HD.en P "__doc__" 482 (.none)] 4})::
 (nat_lit 220,{cls:= .type "type",data:= .cls {name:="Going",bases:=[.type "object"],mro:=[.ref 220,.type "object"],ns:=219,qualname:="Going"},slots:= #[none,none,some (.str "Going" 328),some (.str "Going" 336),some (.builtin "object.__new__"),some (.bool true)]})::
 (nat_lit 221,{cls:= .type "getset_descriptor",data:= .fields #[.str "__dict__" 478,.ref 220,.builtin "function.__dict__",.builtin "function.__dict__#set"]})::
 (nat_lit 222,{cls:= .type "getset_descriptor",data:= .fields #[.str "__weakref__" 480,.ref 220,.builtin "ExceptionGroup.__weakref__",.none]})::
 (nat_lit 225,{cls:= .type "tuple",data:= .seq #[.bool false]})::
 (nat_lit 226,{cls:= .type "tuple",data:= .seq #[]})::
 (nat_lit 228,{cls:= .type "tuple",data:= .seq #[.str "bundle" 490,.str "root" 491,.str "numbers" 492,.str "ahead" 493]})::
 (nat_lit 229,{cls:= .type "tuple",data:= .seq #[]})::
 (nat_lit 231,{cls:= .type "code",data:= .fields #[.str "play" 487,.str "play" 488,.str "/claim/cut.py" 489,.int 178 0,.int 4 0,.int 0 0,.int 0 0,.int 3 0,.ref 226,.bool true,.int 181 0,.ref 227,.none,.ref 228,.ref 229,.ref 230,.int 494 0,.int 178 0,.str "/claim/cut.py" 495]})::
 (nat_lit 232,⟨.type "function",none,.func (W.fnOf "play" "play" (HD.dA (HD.tp zP 14)) (HD.dB (HD.tp zP 14)) (HD.dS (HD.tp zP 14)) (.ref 225) (.none) (.none) (.str "bundlehouse.play" 485) (none) (.ref 231) (.none)), #[]⟩)::
 (nat_lit 233,{cls:= .type "tuple",data:= .seq #[.ref 115]})::
 (nat_lit 240,{cls:= .type "tuple",data:= .seq #[.bool false]})::
 (nat_lit 241,{cls:= .type "tuple",data:= .seq #[]})::
 (nat_lit 243,{cls:= .type "tuple",data:= .seq #[.str "self" 512,.str "bundle" 513,.str "ahead" 514]})::
 (nat_lit 244,{cls:= .type "tuple",data:= .seq #[]})::
 (nat_lit 246,{cls:= .type "code",data:= .fields #[.str "__init__" 509,.str "PacksWalk.__init__" 510,.str "/claim/cut.py" 511,.int 182 0,.int 3 0,.int 0 0,.int 0 0,.int 3 0,.ref 241,.bool true,.int 181 0,.ref 242,.none,.ref 243,.ref 244,.ref 245,.int 515 0,.int 182 0,.str "/claim/cut.py" 516]})::
 (nat_lit 247,⟨.type "function",none,.func (W.fnOf "__init__" "PacksWalk.__init__" (HD.dA (HD.inC (HD.tp zP 15) 0)) (HD.dB (HD.inC (HD.tp zP 15) 0)) (HD.dS (HD.inC (HD.tp zP 15) 0)) (.ref 240) (.none) (.none) (.str "bundlehouse.play" 485) (none) (.ref 246) (.none)), #[]⟩)::
 (nat_lit 248,{cls:= .type "tuple",data:= .seq #[]})::
 (nat_lit 250,{cls:= .type "tuple",data:= .seq #[.str "self" 521,.str "part" 522]})::
 (nat_lit 251,{cls:= .type "tuple",data:= .seq #[]})::
 (nat_lit 253,{cls:= .type "code",data:= .fields #[.str "rows_of" 518,.str "PacksWalk.rows_of" 519,.str "/claim/cut.py" 520,.int 187 0,.int 2 0,.int 0 0,.int 0 0,.int 3 0,.ref 248,.bool true,.int 181 0,.ref 249,.none,.ref 250,.ref 251,.ref 252,.int 523 0,.int 187 0,.str "/claim/cut.py" 524]})::
 (nat_lit 254,⟨.type "function",none,.func (W.fnOf "rows_of" "PacksWalk.rows_of" (HD.dA (HD.inC (HD.tp zP 15) 1)) (HD.dB (HD.inC (HD.tp zP 15) 1)) (HD.dS (HD.inC (HD.tp zP 15) 1)) (.none) (.none) (.none) (.str "bundlehouse.play" 485) (none) (.ref 253) (.none)), #[]⟩)::
 (nat_lit 255,{cls:= .type "tuple",data:= .seq #[]})::
 (nat_lit 257,{cls:= .type "tuple",data:= .seq #[.str "self" 529,.str "part" 530]})::
 (nat_lit 258,{cls:= .type "tuple",data:= .seq #[]})::
 (nat_lit 260,{cls:= .type "code",data:= .fields #[.str "loads_of" 526,.str "PacksWalk.loads_of" 527,.str "/claim/cut.py" 528,.int 190 0,.int 2 0,.int 0 0,.int 0 0,.int 3 0,.ref 255,.bool true,.int 181 0,.ref 256,.none,.ref 257,.ref 258,.ref 259,.int 531 0,.int 190 0,.str "/claim/cut.py" 532]})::
 (nat_lit 261,⟨.type "function",none,.func (W.fnOf "loads_of" "PacksWalk.loads_of" (HD.dA (HD.inC (HD.tp zP 15) 2)) (HD.dB (HD.inC (HD.tp zP 15) 2)) (HD.dS (HD.inC (HD.tp zP 15) 2)) (.none) (.none) (.none) (.str "bundlehouse.play" 485) (none) (.ref 260) (.none)), #[]⟩)::
 (nat_lit 262,{cls:= .type "tuple",data:= .seq #[]})::
 (nat_lit 264,{cls:= .type "tuple",data:= .seq #[.str "self" 537,.str "root" 538,.str "come" 539,.str "found" 540,.str "other" 541,.str "packs" 542]})::
 (nat_lit 265,{cls:= .type "tuple",data:= .seq #[]})::
 (nat_lit 267,{cls:= .type "code",data:= .fields #[.str "ahead_of" 534,.str "PacksWalk.ahead_of" 535,.str "/claim/cut.py" 536,.int 193 0,.int 2 0,.int 0 0,.int 0 0,.int 3 0,.ref 262,.bool true,.int 181 0,.ref 263,.none,.ref 264,.ref 265,.ref 266,.int 543 0,.int 193 0,.str "/claim/cut.py" 544]})::
 (nat_lit 268,⟨.type "function",none,.func (W.fnOf "ahead_of" "PacksWalk.ahead_of" (HD.dA (HD.inC (HD.tp zP 15) 3)) (HD.dB (HD.inC (HD.tp zP 15) 3)) (HD.dS (HD.inC (HD.tp zP 15) 3)) (.none) (.none) (.none) (.str "bundlehouse.play" 485) (none) (.ref 267) (.none)), #[]⟩)::
 (nat_lit 269,{cls:= .type "tuple",data:= .seq #[.str "ahead" 546,.str "blocks" 547,.str "loads" 548]})::
 (nat_lit 270,{cls:= .type "dict",data:= .dict #[HD.en P "__module__" 504 (.str "bundlehouse.play" 485),HD.en P "__firstlineno__" 508 (.int 180 507),HD.en P "__init__" 517 (.ref 247),HD.en P "rows_of" 525 (.ref 254),HD.en P "loads_of" 533 (.ref 261),HD.en P "ahead_of" 545 (.ref 268),HD.en P "__static_attributes__" 549 (.ref 269),HD.en P "__doc__" 550 (.none)] 2})::
 (nat_lit 271,{cls:= .type "type",data:= .cls {name:="PacksWalk",bases:=[.ref 115],mro:=[.ref 271,.ref 115,.type "object"],ns:=270,qualname:="PacksWalk"},slots:= #[some (.ref 233),none,some (.str "PacksWalk" 497),some (.str "PacksWalk" 505),some (.builtin "object.__new__"),some (.bool true)]})::
 (nat_lit 274,{cls:= .type "tuple",data:= .seq #[]})::
 (nat_lit 276,{cls:= .type "tuple",data:= .seq #[.str "packs" 556,.str "found" 557,.str "place" 558,.str "rows" 559,.str "part" 560,.str "number" 561,.str "row" 562]})::
 (nat_lit 277,{cls:= .type "tuple",data:= .seq #[]})::
 (nat_lit 279,{cls:= .type "code",data:= .fields #[.str "blocks_in" 553,.str "blocks_in" 554,.str "/claim/cut.py" 555,.int 202 0,.int 1 0,.int 0 0,.int 0 0,.int 3 0,.ref 274,.bool true,.int 181 0,.ref 275,.none,.ref 276,.ref 277,.ref 278,.int 563 0,.int 202 0,.str "/claim/cut.py" 564]})::
 (nat_lit 280,⟨.type "function",none,.func (W.fnOf "blocks_in" "blocks_in" (HD.dA (HD.tp zP 16)) (HD.dB (HD.tp zP 16)) (HD.dS (HD.tp zP 16)) (.none) (.none) (.none) (.str "bundlehouse.play" 485) (none) (.ref 279) (.none)), #[]⟩)::
 (nat_lit 281,{cls:= .type "tuple",data:= .seq #[]})::
 (nat_lit 284,{cls:= .type "code",data:= .fields #[.str "next_parts" 566,.str "next_parts" 567,.str "/claim/cut.py" 568,.int 213 0,.int 1 0,.int 0 0,.int 0 0,.int 3 0,.ref 281,.bool true,.int 181 0,.ref 282,.none,.none,.none,.ref 283,.int 569 0,.int 213 0,.str "/claim/cut.py" 570]})::
 (nat_lit 285,⟨.type "function",none,.func (W.fnOf "next_parts" "next_parts" (HD.dA (HD.tp zP 17)) (HD.dB (HD.tp zP 17)) (HD.dS (HD.tp zP 17)) (.none) (.none) (.none) (.str "bundlehouse.play" 485) (none) (.ref 284) (.none)), #[]⟩)::
 (nat_lit 286,{cls:= .type "tuple",data:= .seq #[]})::
 (nat_lit 288,{cls:= .type "tuple",data:= .seq #[.str "_law_script" 577,.str "_law_k" 578]})::
 (nat_lit 289,{cls:= .type "tuple",data:= .seq #[]})::
 (nat_lit 291,{cls:= .type "code",data:= .fields #[.str "_law_cell_at" 574,.str "_law_cell_at" 575,.str "/claim/cut.py" 576,.int 219 0,.int 2 0,.int 0 0,.int 0 0,.int 3 0,.ref 286,.bool true,.int 181 0,.ref 287,.none,.ref 288,.ref 289,.ref 290,.int 579 0,.int 219 0,.str "/claim/cut.py" 580]})::
 (nat_lit 292,⟨.type "function",none,.func (W.fnOf "_law_cell_at" "_law_cell_at" (HD.dA (HD.tp zP 19)) (HD.dB (HD.tp zP 19)) (HD.dS (HD.tp zP 19)) (.none) (.none) (.none) (.str "law_bundlehouse_k62_play_row_by_row" 572) (none) (.ref 291) (.none)), #[]⟩)::
 (nat_lit 293,{cls:= .type "tuple",data:= .seq #[]})::
 (nat_lit 295,{cls:= .type "tuple",data:= .seq #[.str "_law_cell" 585,.str "_law_many" 586,.str "_law_found" 587,.str "_law_number" 588,.str "_law_k" 589]})::
 (nat_lit 296,{cls:= .type "tuple",data:= .seq #[]})::
 (nat_lit 298,{cls:= .type "code",data:= .fields #[.str "_law_stream" 582,.str "_law_stream" 583,.str "/claim/cut.py" 584,.int 223 0,.int 2 0,.int 0 0,.int 0 0,.int 3 0,.ref 293,.bool true,.int 181 0,.ref 294,.none,.ref 295,.ref 296,.ref 297,.int 590 0,.int 223 0,.str "/claim/cut.py" 591]})::
 (nat_lit 299,⟨.type "function",none,.func (W.fnOf "_law_stream" "_law_stream" (HD.dA (HD.tp zP 20)) (HD.dB (HD.tp zP 20)) (HD.dS (HD.tp zP 20)) (.none) (.none) (.none) (.str "law_bundlehouse_k62_play_row_by_row" 572) (none) (.ref 298) (.none)), #[]⟩)::
 (nat_lit 300,{cls:= .type "tuple",data:= .seq #[]})::
 (nat_lit 303,{cls:= .type "code",data:= .fields #[.str "_law_names" 593,.str "_law_names" 594,.str "/claim/cut.py" 595,.int 230 0,.int 2 0,.int 0 0,.int 0 0,.int 3 0,.ref 300,.bool true,.int 181 0,.ref 301,.none,.none,.none,.ref 302,.int 596 0,.int 230 0,.str "/claim/cut.py" 597]})::
 (nat_lit 304,⟨.type "function",none,.func (W.fnOf "_law_names" "_law_names" (HD.dA (HD.tp zP 21)) (HD.dB (HD.tp zP 21)) (HD.dS (HD.tp zP 21)) (.none) (.none) (.none) (.str "law_bundlehouse_k62_play_row_by_row" 572) (none) (.ref 303) (.none)), #[]⟩)::
 (nat_lit 305,{cls:= .type "tuple",data:= .seq #[]})::
 (nat_lit 307,{cls:= .type "tuple",data:= .seq #[.str "_law_owns" 602,.str "_law_numbers" 603,.str "_law_terms" 604,.str "_law_k" 605,.str "_law_number" 606,.str "_law_thing" 607,.str "_law_sign" 608]})::
 (nat_lit 308,{cls:= .type "tuple",data:= .seq #[]})::
 (nat_lit 310,{cls:= .type "code",data:= .fields #[.str "_law_sum" 599,.str "_law_sum" 600,.str "/claim/cut.py" 601,.int 239 0,.int 2 0,.int 0 0,.int 0 0,.int 3 0,.ref 305,.bool true,.int 181 0,.ref 306,.none,.ref 307,.ref 308,.ref 309,.int 609 0,.int 239 0,.str "/claim/cut.py" 610]})::
 (nat_lit 311,⟨.type "function",none,.func (W.fnOf "_law_sum" "_law_sum" (HD.dA (HD.tp zP 22)) (HD.dB (HD.tp zP 22)) (HD.dS (HD.tp zP 22)) (.none) (.none) (.none) (.str "law_bundlehouse_k62_play_row_by_row" 572) (none) (.ref 310) (.none)), #[]⟩)::
 (nat_lit 312,{cls:= .type "tuple",data:= .seq #[]})::
 (nat_lit 314,{cls:= .type "tuple",data:= .seq #[.str "_law_kind" 615,.str "_law_numbers" 616,.str "_law_other" 617,.str "_law_owns" 618,.str "_law_own" 619,.str "_law_when" 620]})::
 (nat_lit 315,{cls:= .type "tuple",data:= .seq #[]})::
 (nat_lit 317,{cls:= .type "code",data:= .fields #[.str "_law_row" 612,.str "_law_row" 613,.str "/claim/cut.py" 614,.int 251 0,.int 5 0,.int 0 0,.int 0 0,.int 3 0,.ref 312,.bool true,.int 181 0,.ref 313,.none,.ref 314,.ref 315,.ref 316,.int 621 0,.int 251 0,.str "/claim/cut.py" 622]})::
 (nat_lit 318,⟨.type "function",none,.func (W.fnOf "_law_row" "_law_row" (HD.dA (HD.tp zP 23)) (HD.dB (HD.tp zP 23)) (HD.dS (HD.tp zP 23)) (.none) (.none) (.none) (.str "law_bundlehouse_k62_play_row_by_row" 572) (none) (.ref 317) (.none)), #[]⟩)::
 (nat_lit 319,{cls:= .type "tuple",data:= .seq #[]})::
 (nat_lit 322,{cls:= .type "code",data:= .fields #[.str "_law_blocks" 624,.str "_law_blocks" 625,.str "/claim/cut.py" 626,.int 266 0,.int 2 0,.int 0 0,.int 0 0,.int 3 0,.ref 319,.bool true,.int 181 0,.ref 320,.none,.none,.none,.ref 321,.int 627 0,.int 266 0,.str "/claim/cut.py" 628]})::
 (nat_lit 323,⟨.type "function",none,.func (W.fnOf "_law_blocks" "_law_blocks" (HD.dA (HD.tp zP 24)) (HD.dB (HD.tp zP 24)) (HD.dS (HD.tp zP 24)) (.none) (.none) (.none) (.str "law_bundlehouse_k62_play_row_by_row" 572) (none) (.ref 322) (.none)), #[]⟩)::
 (nat_lit 324,{cls:= .type "tuple",data:= .seq #[]})::
 (nat_lit 326,{cls:= .type "tuple",data:= .seq #[.str "_law_names_here" 633,.str "_law_blocks_here" 634,.str "_law_root" 635,.str "_law_words" 636,.str "_law_there_here" 637,.str "_law_at" 638,.str "_law_row_here" 639]})::
 (nat_lit 327,{cls:= .type "tuple",data:= .seq #[]})::
 (nat_lit 329,{cls:= .type "code",data:= .fields #[.str "_law_there" 630,.str "_law_there" 631,.str "/claim/cut.py" 632,.int 287 0,.int 4 0,.int 0 0,.int 0 0,.int 3 0,.ref 324,.bool true,.int 181 0,.ref 325,.none,.ref 326,.ref 327,.ref 328,.int 640 0,.int 287 0,.str "/claim/cut.py" 641]})::
 (nat_lit 330,⟨.type "function",none,.func (W.fnOf "_law_there" "_law_there" (HD.dA (HD.tp zP 25)) (HD.dB (HD.tp zP 25)) (HD.dS (HD.tp zP 25)) (.none) (.none) (.none) (.str "law_bundlehouse_k62_play_row_by_row" 572) (none) (.ref 329) (.none)), #[]⟩)::
 (nat_lit 331,{cls:= .type "tuple",data:= .seq #[]})::
 (nat_lit 334,{cls:= .type "code",data:= .fields #[.str "_law_roots" 643,.str "_law_roots" 644,.str "/claim/cut.py" 645,.int 296 0,.int 3 0,.int 0 0,.int 0 0,.int 3 0,.ref 331,.bool true,.int 181 0,.ref 332,.none,.none,.none,.ref 333,.int 646 0,.int 296 0,.str "/claim/cut.py" 647]})::
 (nat_lit 335,⟨.type "function",none,.func (W.fnOf "_law_roots" "_law_roots" (HD.dA (HD.tp zP 26)) (HD.dB (HD.tp zP 26)) (HD.dS (HD.tp zP 26)) (.none) (.none) (.none) (.str "law_bundlehouse_k62_play_row_by_row" 572) (none) (.ref 334) (.none)), #[]⟩)::
 (nat_lit 336,{cls:= .type "tuple",data:= .seq #[]})::
 (nat_lit 339,{cls:= .type "code",data:= .fields #[.str "_law_made" 649,.str "_law_made" 650,.str "/claim/cut.py" 651,.int 310 0,.int 3 0,.int 0 0,.int 0 0,.int 3 0,.ref 336,.bool true,.int 181 0,.ref 337,.none,.none,.none,.ref 338,.int 652 0,.int 310 0,.str "/claim/cut.py" 653]})::
 (nat_lit 340,⟨.type "function",none,.func (W.fnOf "_law_made" "_law_made" (HD.dA (HD.tp zP 27)) (HD.dB (HD.tp zP 27)) (HD.dS (HD.tp zP 27)) (.none) (.none) (.none) (.str "law_bundlehouse_k62_play_row_by_row" 572) (none) (.ref 339) (.none)), #[]⟩)::
 (nat_lit 341,{cls:= .type "tuple",data:= .seq #[]})::
 (nat_lit 343,{cls:= .type "tuple",data:= .seq #[.str "_law_row_here" 658,.str "_law_terms" 659,.str "_law_first" 660,.str "_law_found" 661,.str "_law_k" 662]})::
 (nat_lit 344,{cls:= .type "tuple",data:= .seq #[]})::
 (nat_lit 346,{cls:= .type "code",data:= .fields #[.str "_law_reads" 655,.str "_law_reads" 656,.str "/claim/cut.py" 657,.int 325 0,.int 1 0,.int 0 0,.int 0 0,.int 3 0,.ref 341,.bool true,.int 181 0,.ref 342,.none,.ref 343,.ref 344,.ref 345,.int 663 0,.int 325 0,.str "/claim/cut.py" 664]})::
 (nat_lit 347,⟨.type "function",none,.func (W.fnOf "_law_reads" "_law_reads" (HD.dA (HD.tp zP 28)) (HD.dB (HD.tp zP 28)) (HD.dS (HD.tp zP 28)) (.none) (.none) (.none) (.str "law_bundlehouse_k62_play_row_by_row" 572) (none) (.ref 346) (.none)), #[]⟩)::
 (nat_lit 348,{cls:= .type "tuple",data:= .seq #[]})::
 (nat_lit 350,{cls:= .type "tuple",data:= .seq #[.str "_law_state" 669,.str "_law_numbers" 670,.str "_law_number" 671]})::
 (nat_lit 351,{cls:= .type "tuple",data:= .seq #[]})::
 (nat_lit 353,{cls:= .type "code",data:= .fields #[.str "_law_load" 666,.str "_law_load" 667,.str "/claim/cut.py" 668,.int 342 0,.int 2 0,.int 0 0,.int 0 0,.int 3 0,.ref 348,.bool true,.int 181 0,.ref 349,.none,.ref 350,.ref 351,.ref 352,.int 672 0,.int 342 0,.str "/claim/cut.py" 673]})::
 (nat_lit 354,⟨.type "function",none,.func (W.fnOf "_law_load" "_law_load" (HD.dA (HD.tp zP 29)) (HD.dB (HD.tp zP 29)) (HD.dS (HD.tp zP 29)) (.none) (.none) (.none) (.str "law_bundlehouse_k62_play_row_by_row" 572) (none) (.ref 353) (.none)), #[]⟩)::
 (nat_lit 355,{cls:= .type "tuple",data:= .seq #[]})::
 (nat_lit 357,{cls:= .type "tuple",data:= .seq #[.str "_law_terms" 678,.str "_law_known" 679,.str "_law_total" 680,.str "_law_sign" 681,.str "_law_thing" 682]})::
 (nat_lit 358,{cls:= .type "tuple",data:= .seq #[]})::
 (nat_lit 360,{cls:= .type "code",data:= .fields #[.str "_law_value" 675,.str "_law_value" 676,.str "/claim/cut.py" 677,.int 346 0,.int 2 0,.int 0 0,.int 0 0,.int 3 0,.ref 355,.bool true,.int 181 0,.ref 356,.none,.ref 357,.ref 358,.ref 359,.int 683 0,.int 346 0,.str "/claim/cut.py" 684]})::
 (nat_lit 361,⟨.type "function",none,.func (W.fnOf "_law_value" "_law_value" (HD.dA (HD.tp zP 30)) (HD.dB (HD.tp zP 30)) (HD.dS (HD.tp zP 30)) (.none) (.none) (.none) (.str "law_bundlehouse_k62_play_row_by_row" 572) (none) (.ref 360) (.none)), #[]⟩)::
 (nat_lit 362,{cls:= .type "tuple",data:= .seq #[]})::
 (nat_lit 364,{cls:= .type "tuple",data:= .seq #[.str "_law_state" 689,.str "_law_part" 690,.str "_law_pack" 691,.str "_law_inside" 692,.str "_law_number" 693,.str "_law_row_here" 694]})::
 (nat_lit 365,{cls:= .type "tuple",data:= .seq #[]})::
 (nat_lit 367,{cls:= .type "code",data:= .fields #[.str "_law_begin" 686,.str "_law_begin" 687,.str "/claim/cut.py" 688,.int 354 0,.int 2 0,.int 0 0,.int 0 0,.int 3 0,.ref 362,.bool true,.int 181 0,.ref 363,.none,.ref 364,.ref 365,.ref 366,.int 695 0,.int 354 0,.str "/claim/cut.py" 696]})::
 (nat_lit 368,⟨.type "function",none,.func (W.fnOf "_law_begin" "_law_begin" (HD.dA (HD.tp zP 31)) (HD.dB (HD.tp zP 31)) (HD.dS (HD.tp zP 31)) (.none) (.none) (.none) (.str "law_bundlehouse_k62_play_row_by_row" 572) (none) (.ref 367) (.none)), #[]⟩)::
 (nat_lit 369,{cls:= .type "tuple",data:= .seq #[]})::
 (nat_lit 371,{cls:= .type "tuple",data:= .seq #[.str "_law_state" 701,.str "_law_pack" 702,.str "_law_number" 703,.str "_law_row_here" 704,.str "_law_known" 705,.str "_law_when" 706,.str "_law_word" 707,.str "_law_name" 708]})::
 (nat_lit 372,{cls:= .type "tuple",data:= .seq #[]})::
 (nat_lit 374,{cls:= .type "code",data:= .fields #[.str "_law_done" 698,.str "_law_done" 699,.str "/claim/cut.py" 700,.int 364 0,.int 4 0,.int 0 0,.int 0 0,.int 3 0,.ref 369,.bool true,.int 181 0,.ref 370,.none,.ref 371,.ref 372,.ref 373,.int 709 0,.int 364 0,.str "/claim/cut.py" 710]})::
 (nat_lit 375,⟨.type "function",none,.func (W.fnOf "_law_done" "_law_done" (HD.dA (HD.tp zP 32)) (HD.dB (HD.tp zP 32)) (HD.dS (HD.tp zP 32)) (.none) (.none) (.none) (.str "law_bundlehouse_k62_play_row_by_row" 572) (none) (.ref 374) (.none)), #[]⟩)::
 (nat_lit 376,{cls:= .type "tuple",data:= .seq #[]})::
 (nat_lit 378,{cls:= .type "tuple",data:= .seq #[.str "_law_made_here" 715,.str "_law_root" 716,.str "_law_numbers" 717,.str "_law_first" 718,.str "_law_loads" 719,.str "_law_name" 720,.str "_law_some" 721,.str "_law_state" 722]})::
 (nat_lit 379,{cls:= .type "tuple",data:= .seq #[]})::
 (nat_lit 381,{cls:= .type "code",data:= .fields #[.str "_law_told" 712,.str "_law_told" 713,.str "/claim/cut.py" 714,.int 390 0,.int 4 0,.int 0 0,.int 0 0,.int 3 0,.ref 376,.bool true,.int 181 0,.ref 377,.none,.ref 378,.ref 379,.ref 380,.int 723 0,.int 390 0,.str "/claim/cut.py" 724]})::
 (nat_lit 382,⟨.type "function",none,.func (W.fnOf "_law_told" "_law_told" (HD.dA (HD.tp zP 33)) (HD.dB (HD.tp zP 33)) (HD.dS (HD.tp zP 33)) (.none) (.none) (.none) (.str "law_bundlehouse_k62_play_row_by_row" 572) (none) (.ref 381) (.none)), #[]⟩)::
 (nat_lit 383,{cls:= .type "tuple",data:= .seq #[]})::
 (nat_lit 385,{cls:= .type "tuple",data:= .seq #[.str "_law_found" 729,.str "_law_due" 730,.str "_law_k" 731]})::
 (nat_lit 386,{cls:= .type "tuple",data:= .seq #[]})::
 (nat_lit 388,{cls:= .type "code",data:= .fields #[.str "_law_same" 726,.str "_law_same" 727,.str "/claim/cut.py" 728,.int 402 0,.int 2 0,.int 0 0,.int 0 0,.int 3 0,.ref 383,.bool true,.int 181 0,.ref 384,.none,.ref 385,.ref 386,.ref 387,.int 732 0,.int 402 0,.str "/claim/cut.py" 733]})::
 (nat_lit 389,⟨.type "function",none,.func (W.fnOf "_law_same" "_law_same" (HD.dA (HD.tp zP 34)) (HD.dB (HD.tp zP 34)) (HD.dS (HD.tp zP 34)) (.none) (.none) (.none) (.str "law_bundlehouse_k62_play_row_by_row" 572) (none) (.ref 388) (.none)), #[]⟩)::
 (nat_lit 390,{cls:= .type "tuple",data:= .seq #[]})::
 (nat_lit 393,{cls:= .type "code",data:= .fields #[.str "law" 735,.str "law" 736,.str "/claim/cut.py" 737,.int 415 0,.int 1 0,.int 0 0,.int 0 0,.int 3 0,.ref 390,.bool true,.int 181 0,.ref 391,.none,.none,.none,.ref 392,.int 738 0,.int 415 0,.str "/claim/cut.py" 739]})::
 (nat_lit 394,⟨.type "function",none,.func (W.fnOf "law" "law" (HD.dA (HD.tp zP 35)) (HD.dB (HD.tp zP 35)) (HD.dS (HD.tp zP 35)) (.none) (.none) (.none) (.str "law_bundlehouse_k62_play_row_by_row" 572) (none) (.ref 393) (.none)), #[]⟩)::[]
noncomputable def a6U:List Addr:=[nat_lit 2,nat_lit 3,nat_lit 15,nat_lit 17,nat_lit 18,nat_lit 20,nat_lit 21,nat_lit 22,nat_lit 24,nat_lit 25,nat_lit 27,nat_lit 28,nat_lit 29,nat_lit 31,nat_lit 32,nat_lit 34,nat_lit 35,nat_lit 36,nat_lit 38,nat_lit 39,nat_lit 41,nat_lit 42,nat_lit 43,nat_lit 45,nat_lit 46,nat_lit 48,nat_lit 49,nat_lit 50,nat_lit 52,nat_lit 53,nat_lit 55,nat_lit 56,nat_lit 57,nat_lit 59,nat_lit 60,nat_lit 62,nat_lit 63,nat_lit 64,nat_lit 66,nat_lit 67,nat_lit 69,nat_lit 70,nat_lit 78,nat_lit 80,nat_lit 81,nat_lit 83,nat_lit 85,nat_lit 87,nat_lit 88,nat_lit 90,nat_lit 91,nat_lit 92,nat_lit 94,nat_lit 95,nat_lit 97,nat_lit 99,nat_lit 101,nat_lit 102,nat_lit 104,nat_lit 106,nat_lit 108,nat_lit 109,nat_lit 111,nat_lit 112,nat_lit 113,nat_lit 114,nat_lit 115,nat_lit 116,nat_lit 117,nat_lit 127,nat_lit 129,nat_lit 130,nat_lit 132,nat_lit 133,nat_lit 134,nat_lit 136,nat_lit 137,nat_lit 139,nat_lit 140,nat_lit 141,nat_lit 143,nat_lit 144,nat_lit 146,nat_lit 147,nat_lit 148,nat_lit 150,nat_lit 151,nat_lit 153,nat_lit 154,nat_lit 155,nat_lit 157,nat_lit 158,nat_lit 160,nat_lit 161,nat_lit 162,nat_lit 164,nat_lit 165,nat_lit 167,nat_lit 168,nat_lit 169,nat_lit 171,nat_lit 172,nat_lit 174,nat_lit 175,nat_lit 176,nat_lit 178,nat_lit 179,nat_lit 181,nat_lit 182,nat_lit 183,nat_lit 185,nat_lit 186,nat_lit 188,nat_lit 189,nat_lit 190,nat_lit 192,nat_lit 193,nat_lit 195,nat_lit 196,nat_lit 197,nat_lit 199,nat_lit 200,nat_lit 202,nat_lit 203,nat_lit 204,nat_lit 206,nat_lit 207,nat_lit 209,nat_lit 210,nat_lit 211,nat_lit 213,nat_lit 214,nat_lit 216,nat_lit 217,nat_lit 218,nat_lit 219,nat_lit 220,nat_lit 221,nat_lit 222,nat_lit 225,nat_lit 226,nat_lit 228,nat_lit 229,nat_lit 231,nat_lit 232,nat_lit 233,nat_lit 240,nat_lit 241,nat_lit 243,nat_lit 244,nat_lit 246,nat_lit 247,nat_lit 248,nat_lit 250,nat_lit 251,nat_lit 253,nat_lit 254,nat_lit 255,nat_lit 257,nat_lit 258,nat_lit 260,nat_lit 261,nat_lit 262,nat_lit 264,nat_lit 265,nat_lit 267,nat_lit 268,nat_lit 269,nat_lit 270,nat_lit 271,nat_lit 274,nat_lit 276,nat_lit 277,nat_lit 279,nat_lit 280,nat_lit 281,nat_lit 284,nat_lit 285,nat_lit 286,nat_lit 288,nat_lit 289,nat_lit 291,nat_lit 292,nat_lit 293,nat_lit 295,nat_lit 296,nat_lit 298,nat_lit 299,nat_lit 300,nat_lit 303,nat_lit 304,nat_lit 305,nat_lit 307,nat_lit 308,nat_lit 310,nat_lit 311,nat_lit 312,nat_lit 314,nat_lit 315,nat_lit 317,nat_lit 318,nat_lit 319,nat_lit 322,nat_lit 323,nat_lit 324,nat_lit 326,nat_lit 327,nat_lit 329,nat_lit 330,nat_lit 331,nat_lit 334,nat_lit 335,nat_lit 336,nat_lit 339,nat_lit 340,nat_lit 341,nat_lit 343,nat_lit 344,nat_lit 346,nat_lit 347,nat_lit 348,nat_lit 350,nat_lit 351,nat_lit 353,nat_lit 354,nat_lit 355,nat_lit 357,nat_lit 358,nat_lit 360,nat_lit 361,nat_lit 362,nat_lit 364,nat_lit 365,nat_lit 367,nat_lit 368,nat_lit 369,nat_lit 371,nat_lit 372,nat_lit 374,nat_lit 375,nat_lit 376,nat_lit 378,nat_lit 379,nat_lit 381,nat_lit 382,nat_lit 383,nat_lit 385,nat_lit 386,nat_lit 388,nat_lit 389,nat_lit 390,nat_lit 393,nat_lit 394]
theorem b2I:∀P,a6U=(a6V P).map (·.1):=fun _=>by kernel_rfl
theorem b5l:PySem.Challenge.rw_bundlehouse_k62_play_row_by_row.wellSaid=true:=by kernel_rfl
noncomputable abbrev qP:Program:=(HD.b4L PySem.Challenge.rw_bundlehouse_k62_play_row_by_row.prog [35])
noncomputable abbrev sE (w:World):=openEnds treeTable PySem.Challenge.rw_bundlehouse_k62_play_row_by_row.row.prog w 4640
noncomputable abbrev sX:Shared->Bool:=(fun s=>xlAt qP [] s && recOk (RowW.records PySem.Challenge.rw_bundlehouse_k62_play_row_by_row.row.toRowW) s)
noncomputable abbrev sL:List Str:="words_of"::"pair_words"::"sum_words"::"when_words"::"read_names"::"sum_names"::"when_names"::"spread"::"Walk"::"Going"::"play"::"PacksWalk"::"blocks_in"::"next_parts"::"_law_cell_at"::"_law_stream"::"_law_names"::"_law_sum"::"_law_row"::"_law_blocks"::"_law_there"::"_law_roots"::"_law_made"::"_law_reads"::"_law_load"::"_law_value"::"_law_begin"::"_law_done"::"_law_told"::"_law_same"::[]
noncomputable abbrev sS (s:Shared):=openSeen qP sL (importedModules PySem.Challenge.rw_bundlehouse_k62_play_row_by_row.row.prog.main.body) sX true s
theorem b7m:∀w,((sE w).map fun s=>sS s)=some (openGood qP sL):=fun w=>by kernel_rfl
theorem b6Z:∀w,((sE w).map fun s=>(a6U.take 126).map s.heap.get?)=some (((a6V w.params).take 126).map fun p=>some p.2):=fun w=>by kernel_rfl
theorem b6R:∀w,((sE w).map fun s=>(a6U.drop 126).map s.heap.get?)=some (((a6V w.params).drop 126).map fun p=>some p.2):=fun w=>by kernel_rfl
theorem b3N:LeftO PySem.Challenge.rw_bundlehouse_k62_play_row_by_row.row.prog qP sL sX (kHook a6V a6U b2I).obs (kHook a6V a6U b2I).val 4640:=HD.b3g 126 b7m b6Z b6R
end K62
namespace L2
open PySem PySem.Spec PyProof.Rows
noncomputable abbrev Key:=Sum Int Str
noncomputable def a5T:Key->Value->Bool
 | .inl k,v=>Value.isInt k v
 | .inr x,v=>Value.isStrOf x v
noncomputable def b6O (w:World):Key->Int
 | .inl k=>hashInt k
 | .inr x=>hashStr w x
theorem E4:∀{k:Key}{v:Value},a5T k v=true->(∃i t,k=Sum.inl i/\v=Value.int i t)\/(∃x t,k=Sum.inr x/\v=Value.str x t)
 | .inl i,v,h=>by
  obtain⟨t,e⟩:=Value.isInt_shape (k:=i) (v:=v) h
  exact .inl ⟨i,t,rfl,e⟩
 | .inr x,v,h=>by
  obtain⟨t,e⟩:=Value.isStrOf_shape (x:=x) (v:=v) h
  exact .inr ⟨x,t,rfl,e⟩
theorem b0w(i:Int)(t:Tok):a5T (.inl i) (.int i t)=true:=by simp[a5T,Value.isInt]
theorem b0y(x:Str)(t:Tok):a5T (.inr x) (.str x t)=true:=by simp[a5T,Value.isStrOf]
theorem b4V(a b:Int):decide ((Sum.inl a:Key)=Sum.inl b)=(a==b):=by
 by_cases e:a=b
 ·subst e;simp
 ·have h:¬(Sum.inl a:Key)=Sum.inl b:=fun q=>e (Sum.inl.inj q)
  rw[AM h]
  exact(beq_eq_false_iff_ne.mpr e).symm
theorem b5N(a b:Str):decide ((Sum.inr a:Key)=Sum.inr b)=decide (a=b):=by
 by_cases e:a=b
 ·subst e;simp
 ·have h:¬(Sum.inr a:Key)=Sum.inr b:=fun q=>e (Sum.inr.inj q)
  rw[AM h,AM e]
theorem b5I(a:Int)(b:Str):decide ((Sum.inl a:Key)=Sum.inr b)=false:=AM (fun q=>nomatch q)
theorem b4S(a:Str)(b:Int):decide ((Sum.inr a:Key)=Sum.inl b)=false:=AM (fun q=>nomatch q)
noncomputable def Z5 (prog:Program) (w:World):PySem.KeyKind prog w Key where
 is:=a5T
 hash:=b6O w
 inj:=fun v a b ha hb=>by
  rcases E4 ha with⟨i,t,rfl,rfl⟩ | ⟨x,t,rfl,rfl⟩
  ·rcases E4 hb with⟨j,u,rfl,e⟩ | ⟨y,u,rfl,e⟩
   ·injection e with e1 _;rw[e1]
   ·exact nomatch e
  ·rcases E4 hb with⟨j,u,rfl,e⟩ | ⟨y,u,rfl,e⟩
   ·exact nomatch e
   ·injection e with e1 _;rw[e1]
 byValue:=fun k v h=>by
  rcases E4 h with⟨i,t,rfl,rfl⟩ | ⟨x,t,rfl,rfl⟩<;>rfl
 pyHash:=fun hv h=>by
  rcases E4 hv with⟨i,t,rfl,rfl⟩ | ⟨x,t,rfl,rfl⟩
  ·exact wpAny_pyHash_int h
  ·exact wpAny_pyHash_str h
 eqBool:=fun hu hv h=>by
  rcases E4 hu with⟨i,t,rfl,rfl⟩ | ⟨x,t,rfl,rfl⟩
  ·rcases E4 hv with⟨j,u,rfl,rfl⟩ | ⟨y,u,rfl,rfl⟩
   ·rw[b4V]at h;exact wpAny_eqBool_int h
   ·rw[b5I]at h;exact SeqAt.EqAt.int_str i t y u _ _ _ _ h
  ·rcases E4 hv with⟨j,u,rfl,rfl⟩ | ⟨y,u,rfl,rfl⟩
   ·rw[b4S]at h;exact SeqAt.EqAt.str_int x t j u _ _ _ _ h
   ·rw[b5N]at h;exact wpAny_eqBool_str h
 «strs»:=fun k x t v h=>by
  rcases E4 h with⟨i,u,rfl,e⟩ | ⟨y,u,rfl,e⟩
  ·exact nomatch e
  ·injection e with e1 _
   subst e1
   cases v<;>rfl
theorem a8G(prog:Program)(w:World)(i:Int)(t:Tok):(Z5 prog w).is (.inl i) (.int i t)=true:=b0w i t
theorem a4J(prog:Program)(w:World)(x:Str)(t:Tok):(Z5 prog w).is (.inr x) (.str x t)=true:=b0y x t
end L2
namespace L2
open PySem PySem.Spec PyProof.Rows
inductive V where
 | non | bl (b:Bool) | int (i:Int) | str (x:Str) | byt (b:Array UInt8) | flt (b:UInt64) | ref (a:Addr) | ty (n:String)
 deriving DecidableEq
noncomputable def W4:V->Value->Prop
 | .non,u=>u=Value.none
 | .bl b,u=>u=Value.bool b
 | .int i,u=>∃t,u=Value.int i t
 | .str x,u=>∃t,u=Value.str x t
 | .byt b,u=>∃t,u=Value.bytes b t
 | .flt b,u=>∃t,u=Value.float b t
 | .ref a,u=>u=Value.ref a
 | .ty n,u=>u=Value.type n
noncomputable abbrev W0:List V->List Value->Prop:=Paired W4
theorem W0.length{xs:List V}{us:List Value}(r:W0 xs us):xs.length=us.length:=AI r
theorem W0.get:∀{xs:List V}{us:List Value}{i:Nat}{x:V},W0 xs us->xs[i]?=some x->∃u,us[i]?=some u/\W4 x u
 | _,_,_,_,.nil,e=>by simp at e
 | _,_,0,_,.cons r _,e=>by simp at e;subst e;exact⟨_,rfl,r⟩
 | _,_,i+1,x,.cons _ t,e=>by
  obtain⟨u,h1,h2⟩:=W0.get (i:=i) (x:=x) t (by simpa using e)
  exact⟨u,by simpa using h1,h2⟩
theorem W0.append:∀{xs ys:List V}{us ws:List Value},W0 xs us->W0 ys ws->W0 (xs++ys) (us++ws)
 | _,_,_,_,.nil,s=>s
 | _,_,_,_,.cons r t,s=> .cons r (W0.append t s)
theorem W0.take:∀{xs:List V}{us:List Value}(n:Nat),W0 xs us->W0 (xs.take n) (us.take n)
 | _,_,0,_=> .nil
 | _,_,_+1,.nil=> .nil
 | _,_,n+1,.cons r t=> .cons r (W0.take n t)
theorem W0.drop:∀{xs:List V}{us:List Value}(n:Nat),W0 xs us->W0 (xs.drop n) (us.drop n)
 | _,_,0,r=>r
 | _,_,_+1,.nil=> .nil
 | _,_,n+1,.cons _ t=>W0.drop n t
noncomputable def a2K:Option V->Option Value->Prop
 | some v,some u=>W4 v u
 | none,none=>True
 | _,_=>False
noncomputable def KV {κ:Type}:List (κ×V)->List (κ×Value)->Prop:=Paired fun(p:κ×V)(q:κ×Value)=>p.1=q.1/\W4 p.2 q.2
noncomputable def kV:Key->V
 | .inl i=> .int i
 | .inr x=> .str x
inductive HO where
 | lst (xs:List V)
 | tup (xs:List V)
 | dK (kvs:List (Key×V)) | dT (kvs:List (List Key×V))
 | set (S:Int->Bool) (n:Nat)
 | ins (C dx:Addr) (fs:List (Str×V))
 | own (x:Addr)
 | xd (fs:List (Str×V))
 | met (f x:Addr)
 | rng (lo hi:Int)
 | frz (o:Obj) (u:HO)
 | tbl (ps:Array Value)
 | ext (φ:Heap->Prop)
noncomputable abbrev Hp:=Addr->Option HO
noncomputable def upd (H:Hp) (a:Addr) (o:HO):Hp:=fun b=>if b=a then some o else H b
theorem G1{H:Hp}{a:Addr}{o:HO}:upd H a o a=some o:=by unfold upd;rw[if_pos rfl]
theorem G7{H:Hp}{a b:Addr}{o:HO}(h:b≠a):upd H a o b=H b:=by unfold upd;rw[if_neg h]
theorem b3t{H:Hp}{a:Addr}{o u:HO}:upd (upd H a o) a u=upd H a u:=by
 funext b;unfold upd;split<;>rfl
theorem a0L{H:Hp}{a b:Addr}{o u:HO}(h:H a=some o)(h':H b=some u)(d:o≠u):a≠b:=by
 intro e;subst e;rw[h]at h';exact d (Option.some.inj h')
theorem R0{H:Hp}{a b:Addr}{o:HO}(h:H a=some o)(h':H b=none):a≠b:=by
 intro e;subst e;rw[h]at h';cases h'
section
variable(P:Program)(w:World)
noncomputable def Z6 (H:Hp) (h:Heap) (a:Addr):HO->Prop
 | .lst xs=>xs.length<=sizeLine/\∃(its:List Value)(n:Nat),W0 xs its/\h.get? a=some {cls:= .type "list",data:= .seq its.toArray n}
 | .tup xs=>xs.length<=sizeLine/\∃its:List Value,W0 xs its/\IsTup h a its.toArray
 | .dK kvs=>kvs.length<=sizeLine/\(a==sysModules)=false/\∃vs,KV kvs vs/\h.DictOf (Z5 P w) a vs
 | .dT kvs=>kvs.length<=sizeLine/\(a==sysModules)=false/\∃xs:List (List Key×Addr×Value),
   Paired (fun(p:List Key×V)(q:List Key×Addr×Value)=>p.1=q.1/\H q.2.1=some (.tup (p.1.map kV))/\W4 p.2 q.2.2) kvs xs/\
   ∃o es ep,h.get? a=some o/\o.ExactDict/\o.data= .dict es ep/\es.toList=xs.map (entryOfKey (tupleKind (Z5 P w)))/\(xs.map (·.1)).Nodup
 | .set S n=>h.SetOf (intKind P w) a S n
 | .ins C dx fs=>H dx=some (.own a)/\fs.length<=1000/\dx≠a/\h.get? a=some (W.instObj C dx)/\
   ∃mA,h.Ns1 dx mA/\(∀f,a2K (fs.lookup f) (mA f))/\PySem.Within mA (fs.map (·.1))
 | .own _=>∃o,h.get? a=some o
 | .xd fs=>∃mA,h.Ns1 a mA/\∀f,a2K (fs.lookup f) (mA f)
 | .rng lo hi=>∃t u v,h.get? a=some {cls:= .type "range",data:= .fields #[.int lo t,.int hi u,.int 1 v]}
 | .frz o u=>h.get? a=some o/\Z6 H h a u
 | .tbl ps=>h.get? a=some {cls:= .none,data:= .fields ps}
 | .met f x=>h.get? a=some (W.methodObj (.ref f) (.ref x))
 | .ext φ=>φ h/\(∃o,h.get? a=some o)/\∀h1 h2:Heap,φ h1->(∀o,h1.get? a=some o->h2.get? a=some o)->φ h2
noncomputable def HOk (H:Hp) (h:Heap):Prop:=∀a o,H a=some o->Z6 P w H h a o
end
section
variable{P:Program}{w:World}{H H':Hp}{h h':Heap}{a:Addr}{o:HO}
theorem Z6.lt(x:Z6 P w H h a o):a < h.objs.size:=by
 cases o with
 | lst xs=>obtain⟨_,_,_,_,e⟩:=x;exact AT e
 | tup xs=>obtain⟨_,_,_,p⟩:=x;exact p.lt
 | dK kvs=>obtain⟨_,_,_,_,o,_,_,e,_⟩:=x;exact AT e
 | dT kvs=>obtain⟨_,_,_,_,o,_,_,e,_⟩:=x;exact AT e
 | set S n=>obtain⟨o,_,_,_,e,_⟩:=x;exact AT e
 | ins C dx fs=>obtain⟨_,_,_,e,_⟩:=x;exact AT e
 | own y=>obtain⟨_,e⟩:=x;exact AT e
 | xd fs=>obtain⟨_,⟨_,_,_,e,_⟩,_⟩:=x;exact AT e
 | rng lo hi=>obtain⟨_,_,_,e⟩:=x;exact AT e
 | frz ob u=>obtain⟨e,_⟩:=x;exact AT e
 | tbl ps=>exact AT (show h.get? a=some _ from x)
 | met f y=>exact AT (show h.get? a=some _ from x)
 | ext φ=>obtain⟨_,⟨_,e⟩,_⟩:=x;exact AT e
theorem Paired.mapP{α β:Type}{F G:α->β->Prop}:∀{l₁:List α}{l₂:List β},Paired F l₁ l₂->(∀a b,F a b->G a b)->Paired G l₁ l₂
 | _,_,.nil,_=> .nil
 | _,_,.cons r t,f=> .cons (f _ _ r) (Paired.mapP t f)
theorem Z6.stay(x:Z6 P w H h a o)(k:∀b u,(b=a\/H b=some (.own a))->h.get? b=some u->h'.get? b=some u)
  (ho:∀b,H b=some (.own a)->H' b=some (.own a))(ht:∀b xs,H b=some (.tup xs)->H' b=some (.tup xs)):Z6 P w H' h' a o:=by
 induction o with
 | lst xs=>obtain⟨z,its,n,r,e⟩:=x;exact⟨z,its,n,r,k _ _ (.inl rfl) e⟩
 | tup xs=>obtain⟨z,its,r,ob,e,c⟩:=x;exact⟨z,its,r,ob,k _ _ (.inl rfl) e,c⟩
 | dK kvs=>obtain⟨z,y,vs,r,ob,es,ep,e,c⟩:=x;exact⟨z,y,vs,r,ob,es,ep,k _ _ (.inl rfl) e,c⟩
 | dT kvs=>
  obtain⟨z,y,xs,r,ob,es,ep,e,c⟩:=x
  exact⟨z,y,xs,Paired.mapP r fun p q z=>⟨z.1,ht _ _ z.2.1,z.2.2⟩,ob,es,ep,k _ _ (.inl rfl) e,c⟩
 | set S n=>obtain⟨ob,es,ep,t,e,c⟩:=x;exact⟨ob,es,ep,t,k _ _ (.inl rfl) e,c⟩
 | ins C dx fs=>
  obtain⟨d,z,ne,e,mA,⟨od,es,ep,e2,c⟩,r⟩:=x
  exact⟨ho _ d,z,ne,k _ _ (.inl rfl) e,mA,⟨od,es,ep,k _ _ (.inr d) e2,c⟩,r⟩
 | own y=>obtain⟨ob,e⟩:=x;exact⟨ob,k _ _ (.inl rfl) e⟩
 | xd fs=>obtain⟨mA,⟨od,es,ep,e,c⟩,r⟩:=x;exact⟨mA,⟨od,es,ep,k _ _ (.inl rfl) e,c⟩,r⟩
 | rng lo hi=>obtain⟨t,u,v,e⟩:=x;exact⟨t,u,v,k _ _ (.inl rfl) e⟩
 | frz ob u ih=>obtain⟨e,q⟩:=x;exact⟨k _ _ (.inl rfl) e,ih q⟩
 | tbl ps=>
  have e:h.get? a=some {cls:= .none,data:= .fields ps}:=x
  show h'.get? a=some {cls:= .none,data:= .fields ps}
  exact k a _ (.inl rfl) e
 | met f y=>
  have e:h.get? a=some (W.methodObj (.ref f) (.ref y)):=x
  show h'.get? a=some (W.methodObj (.ref f) (.ref y))
  exact k a _ (.inl rfl) e
 | ext φ=>obtain⟨p,⟨o,e⟩,st⟩:=x;exact⟨st _ _ p fun o q=>k _ _ (.inl rfl) q,⟨o,k _ _ (.inl rfl) e⟩,st⟩
theorem HOk.lt(x:HOk P w H h)(e:H a=some o):a < h.objs.size:=(x a o e).lt
theorem HOk.fresh(x:HOk P w H h)(e:h.objs.size<=a):H a=none:=by
 cases q:H a with
 | none=>rfl
 | some u=>exact absurd (AY (x.lt q) e) (Nat.lt_irrefl _)
theorem HOk.kept(x:HOk P w H h)(k:∀b u,h.get? b=some u->h'.get? b=some u):HOk P w H h':=fun a o e=>
 (x a o e).stay (fun b u _ q=>k b u q) (fun _ q=>q) fun _ _ q=>q
theorem HOk.laid(x:HOk P w H h)(k:∀b u,h.get? b=some u->h'.get? b=some u)(hp:h.objs.size<=a)(new:Z6 P w (upd H a o) h' a o):HOk P w (upd H a o) h':=fun b u e=>by
 have hn:=x.fresh hp
 by_cases hb:b=a
 ·subst hb;rw[G1]at e;cases e;exact new
 ·rw[G7 hb]at e
  exact(x b u e).stay (fun c v _ q=>k c v q) (fun c q=>by rw[G7 (R0 q hn)];exact q) fun c xs q=>by rw[G7 (R0 q hn)];exact q
end
noncomputable def Rd (H:Hp) (a:Addr) (u:HO):Prop:=H a=some u\/∃o,H a=some (.frz o u)
theorem Rd.ok{P:Program}{w:World}{H:Hp}{h:Heap}{a:Addr}{u:HO}(r:Rd H a u)(x:HOk P w H h):Z6 P w H h a u:=by
 rcases r with r | ⟨o,r⟩
 ·exact x a u r
 ·obtain⟨_,q⟩:=x a _ r
  exact q
noncomputable def Mut:Option HO->Prop
 | some (.lst _)=>True
 | some (.dK _)=>True
 | some (.dT _)=>True
 | some (.set _ _)=>True
 | some (.ins _ _ _)=>True
 | some (.ext _)=>True
 | _=>False
section
variable{P:Program}{w:World}{H:Hp}{h h':Heap}{x e:Addr}{o':HO}
theorem HOk.write(ok:HOk P w H h)(mu:Mut (H x))(he:e=x\/H e=some (.own x))(k:∀b u,b≠e->h.get? b=some u->h'.get? b=some u)(heo:∃u,h'.get? e=some u)
  (new:Z6 P w (upd H x o') h' x o'):HOk P w (upd H x o') h':=fun b u q=>by
 have nown:∀c y,H c=some (.own y)->c≠x:=fun c y r z=>by subst z;rw[r]at mu;exact mu
 have ntup:∀c xs,H c=some (.tup xs)->c≠x:=fun c xs r z=>by subst z;rw[r]at mu;exact mu
 by_cases hb:b=x
 ·subst hb;rw[G1]at q;cases q;exact new
 ·rw[G7 hb]at q
  by_cases hbe:b=e
  ·have q':H b=some (.own x):=by
    rcases he with z | z
    ·exact absurd (hbe.trans z) hb
    ·rw[hbe];exact z
   rw[q]at q';cases q'
   obtain⟨v,hv⟩:=heo
   exact⟨v,by rw[hbe];exact hv⟩
  ·refine(ok b u q).stay (fun c v hc r=>k c v ?_ r) (fun c r=>by rw[G7 (nown c b r)];exact r) fun c xs r=>by rw[G7 (ntup c xs r)];exact r
   rcases hc with rfl | hc
   ·exact hbe
   ·rintro rfl
    rcases he with z | z
    ·exact nown c b hc z
    ·rw[hc]at z;cases z;exact hb rfl
end
structure Un(fs ex:List Addr)(H H':Hp)(h h':Heap):Prop where
 keep:∀b o,h.get? b=some o->H b=none->b∉fs->b∉ex->h'.get? b=some o
 slot:∀b o,h.get? b=some o->H b=none->b∈fs->b∉ex->∃sl,h'.get? b=some {o with slots:=sl}
 free:∀b o,h.get? b=some o->H b=none->b∉ex->H' b=none
 there:∀b o,h.get? b=some o->b∉ex->∃o',h'.get? b=some o'
 tups:∀b xs,H b=some (.tup xs)->H' b=some (.tup xs)
 frzs:∀b o u,H b=some (.frz o u)->H' b=some (.frz o u)
 tbls:∀b ps,H b=some (.tbl ps)->∃more,H' b=some (.tbl (ps++more))
section
variable{fs fs' ex ex':List Addr}{H H1 H2:Hp}{h h1 h2 h':Heap}{a x e:Addr}{o:HO}
theorem Un.any(u:Un fs ex H H1 h h1){b:Addr}{ob:Obj}(q:h.get? b=some ob)(n:H b=none)(hx:b∉ex):∃sl,h1.get? b=some {ob with slots:=sl}:=by
 by_cases hb:b∈fs
 ·exact u.slot b ob q n hb hx
 ·exact⟨ob.slots,u.keep b ob q n hb hx⟩
theorem Un.kept(k:∀b u,h.get? b=some u->h'.get? b=some u):Un fs ex H H h h':=
 ⟨fun b ob q _ _ _=>k b ob q,fun b ob q _ _ _=>⟨ob.slots,k b ob q⟩,fun _ _ _ n _=>n,fun b ob q _=>⟨ob,k b ob q⟩,fun _ _ q=>q,fun _ _ _ q=>q,fun _ ps q=>⟨#[],by rw[q];simp⟩⟩
theorem Un.refl:Un fs ex H H h h:=Un.kept fun _ _ q=>q
theorem Un.laid(k:∀b u,h.get? b=some u->h'.get? b=some u)(hp:h.objs.size<=a)(hn:H a=none):Un fs ex H (upd H a o) h h' where
 keep:=fun b u q _ _ _=>k b u q
 slot:=fun b u q _ _ _=>⟨u.slots,k b u q⟩
 free:=fun b u q n _=>by rw[G7 (Nat.ne_of_lt (AY (AT q) hp))];exact n
 there:=fun b u q _=>⟨u,k b u q⟩
 tups:=fun b xs q=>by rw[G7 (R0 q hn)];exact q
 frzs:=fun b u xs q=>by rw[G7 (R0 q hn)];exact q
 tbls:=fun b ps q=>⟨#[],by rw[G7 (R0 q hn),q];simp⟩
theorem Un.write(mu:Mut (H x))(he:e=x\/H e=some (.own x))(k:∀b u,b≠e->h.get? b=some u->h'.get? b=some u)(heo:∃u,h'.get? e=some u):Un fs ex H (upd H x o) h h':=by
 have hx:∀b,H b=none->b≠x:=fun b n z=>by subst z;rw[n]at mu;exact mu
 have hb:∀b,H b=none->b≠e:=fun b n z=>by
  subst z
  rcases he with r | r
  ·exact hx b n r
  ·rw[n]at r;cases r
 have hm:∀b u,H b=some u->¬Mut (some u)->b≠x:=fun b u q nm z=>by subst z;rw[q]at mu;exact nm mu
 refine⟨fun b u q n _ _=>k b u (hb b n) q,fun b u q n _ _=>⟨u.slots,k b u (hb b n) q⟩,fun b u q n _=>by rw[G7 (hx b n)];exact n,fun b u q _=>?_,
  fun b xs q=>by rw[G7 (hm b _ q fun z=>z)];exact q,fun b u xs q=>by rw[G7 (hm b _ q fun z=>z)];exact q,fun b ps q=>⟨#[],by rw[G7 (hm b _ q fun z=>z),q];simp⟩⟩
 by_cases hbe:b=e
 ·subst hbe;exact heo
 ·exact⟨u,k b u hbe q⟩
end
noncomputable def trk (h:Heap) (H:Hp):List Addr:=(List.range h.objs.size).filter fun a=>(H a).isSome
noncomputable def a7x (h:Heap) (H:Hp):Heap:=W.hideAll h (trk h H)
theorem b1c(h:Heap)(H:Hp):(a7x h H).objs.size=h.objs.size:=W.hideAll_size _ _
theorem b2C{h:Heap}{H:Hp}{b:Addr}{o:Obj}(e:h.get? b=some o)(n:H b=none):(a7x h H).get? b=some o:=
 W.hideAll_get _ e fun hm=>by
  have q:(H b).isSome=true:=(List.mem_filter.mp hm).2
  rw[n]at q;simp at q
theorem b3E{h:Heap}{H:Hp}{b:Addr}{o:Obj}(e:(a7x h H).get? b=some o):h.get? b=some o/\H b=none:=by
 have e':h.get? b=some o:=W.of_hideAll (trk h H) e
 refine⟨e',?_⟩
 cases q:H b with
 | none=>rfl
 | some x=>
  have hm:b∈trk h H:=List.mem_filter.mpr ⟨List.mem_range.mpr (AT e'),by simp[q]⟩
  have z:(a7x h H).get? b=none:=W.hideAll_none (trk h H) hm
  rw[z]at e;cases e
end L2
namespace L2
open PySem PySem.Spec PyProof.Rows
structure Mod(K:W.Frag)(mg:Str->Option Value)(base:Heap):Prop where
 kin:K.In base
 glob:base.Ns mainGlobals mg
 blt:∃mb,base.Ns builtinsNs mb/\∀x:Str,x≠ "__name__" ->mb x=bootBuiltins x
 nolimit:base.NoLimit
structure Cx where
 prog:Program
 w:World
 K:W.Frag
 mg:Str->Option Value
 base:Heap
 A:Around
 N:List Str
 s₀:Shared
 H₀:Hp
 env:Env
 outer:List Env
 stack:List Env
 ex:List Addr
 fn:Str->Bool
 calm:Bool
 pn:List (Addr×Obj)
 xe:Value->Shared->Prop
noncomputable def frs (l:List Env):List Addr:=l.filterMap (·.frame)
noncomputable abbrev Cx.fs (X:Cx):List Addr:=frs X.outer
noncomputable def Vis (sc:Scope) (x:Str):Prop:=sc.names.lookup x=some .local\/sc.names.lookup x=some .cell\/sc.names.lookup x=some .free
noncomputable def Loc (sc:Scope) (x:Str):Prop:=sc.names.lookup x=some .local\/sc.names.lookup x=some .cell
noncomputable def b7v (env:Env) (h:Heap) (m:Str->Option Value) (x:Str) (u:Value):Prop:=
 (env.kindOf x=some .local/\m x=some u)\/((env.kindOf x=some .cell\/env.kindOf x=some .free)/\∃c,env.cells.lookup x=some c/\h.IsCell c (some u))
structure Cx.Ok(X:Cx):Prop where
 mod:Mod X.K X.mg X.base
 kind:X.env.scope.kind= .function
 glob:X.env.globals=mainGlobals
 blt:X.env.builtins=builtinsNs
 above:X.s₀.heap.objs.size<=X.env.locals
 inj:∀x y c,X.env.cells.lookup x=some c->X.env.cells.lookup y=some c->x=y
 has:∀x,(X.env.kindOf x=some .cell\/X.env.kindOf x=some .free)->∃c,X.env.cells.lookup x=some c
 cab:∀x c,X.fn x=true->X.env.cells.lookup x=some c->X.s₀.heap.objs.size<=c
 hd:X.calm=true->X.A.handled=none
 frames:X.A.frames=some X.stack
 stk:X.stack=X.outer\/(X.stack=X.env::X.outer/\X.env.frame=some X.env.locals)
 exf:∀b∈X.ex,b≠X.env.locals/\∀x c,X.env.cells.lookup x=some c->c≠b
 bs:∀b o,X.base.get? b=some o->X.s₀.heap.get? b=some o/\X.H₀ b=none
 bsz:X.base.objs.size<=X.s₀.heap.objs.size
 noex:∀b o,X.base.get? b=some o->b∉X.ex
 exfs:∀b∈X.ex,b∉X.fs
 funs:X.s₀.heap.FunFrames X.base X.outer
 frf:∀b∈X.fs,X.H₀ b=none
structure Inv(X:Cx)(pins:List (Addr×Obj))(σ:List (Option V))(H:Hp)(s:Shared):Prop where
 ok:X.Ok
 os:s.os=X.s₀.os
 bare:AllBare s.gens
 base:Un X.fs X.ex X.H₀ H X.s₀.heap s.heap
 loc:∃m,s.heap.Ns X.env.locals m/\∀(i:Nat)(x:Str)(v:V),X.N[i]?=some x->σ[i]?=some (some v)->Vis X.env.scope x->∃u,W4 v u/\b7v X.env s.heap m x u
 cell:∀x c,X.env.cells.lookup x=some c->∃v,s.heap.IsCell c v
 free:H X.env.locals=none
 freeC:∀x c,X.env.cells.lookup x=some c->H c=none
 pin:∀p∈X.pn++pins,s.heap.get? p.1=some p.2/\H p.1=none/\p.1≠X.env.locals/\p.1∉X.fs/\∀v,p.2.data≠ .cell v
 hok:HOk X.prog X.w H s.heap
 len:σ.length=X.N.length
section
variable{X:Cx}{pins:List (Addr×Obj)}{σ:List (Option V)}{H H':Hp}{s:Shared}{h':Heap}
theorem Cx.Ok.nofr(ok:X.Ok){b:Addr}{o:Obj}(e:X.base.get? b=some o):b∉X.fs:=fun hb=>by
 have:=(ok.funs.mem hb).1
 rw[e]at this;cases this
theorem Inv.bs(I:Inv X pins σ H s):∀b o,X.base.get? b=some o->s.heap.get? b=some o/\H b=none:=fun b o e=>
 ⟨I.base.keep b o (I.ok.bs b o e).1 (I.ok.bs b o e).2 (I.ok.nofr e) (I.ok.noex b o e),I.base.free b o (I.ok.bs b o e).1 (I.ok.bs b o e).2 (I.ok.noex b o e)⟩
theorem Inv.bk(I:Inv X pins σ H s):∀b o,X.base.get? b=some o->s.heap.get? b=some o:=fun b o e=>(I.bs b o e).1
theorem Inv.mod(I:Inv X pins σ H s):Mod X.K X.mg X.base:=I.ok.mod
theorem Inv.kIn(I:Inv X pins σ H s):X.K.In s.heap:=I.ok.mod.kin.keeps I.bk
theorem Inv.lt(I:Inv X pins σ H s):X.env.locals < s.heap.objs.size:=let⟨_,hn,_⟩:=I.loc;hn.lt
theorem Inv.sz(I:Inv X pins σ H s):X.s₀.heap.objs.size<=s.heap.objs.size:=Nat.le_trans I.ok.above (Nat.le_of_lt I.lt)
theorem Inv.nofs(I:Inv X pins σ H s){a:Addr}(h:s.heap.objs.size<=a):a∉X.fs:=fun hb=>by
 obtain⟨_,o,ho,_⟩:=I.ok.funs.mem hb
 exact absurd (AY (AT ho) (Nat.le_trans I.sz h)) (Nat.lt_irrefl _)
theorem Inv.cne(I:Inv X pins σ H s):∀x c,X.env.cells.lookup x=some c->c≠X.env.locals:=fun x c e z=>by
 obtain⟨v,o,ho,hd⟩:=I.cell x c e
 obtain⟨m,⟨o',es,ep,ho',hd',_⟩,_⟩:=I.loc
 rw[z,ho']at ho;cases ho;rw[hd']at hd;cases hd
theorem Inv.funs(I:Inv X pins σ H s):s.heap.FunFrames X.base X.outer:=by
 have all:∀(l:List Env),(∀b∈frs l,b∈X.fs)->X.s₀.heap.FunFrames X.base l->s.heap.FunFrames X.base l:=by
  intro l
  induction l with
  | nil=>intro _ _;trivial
  | cons env r ih=>
   intro hs hl
   obtain⟨hk,⟨L,o,hf,hn,ho,hd⟩,hr⟩:=hl
   have hL:L∈X.fs:=hs L (by unfold frs;rw[List.filterMap_cons,hf];exact AQ)
   obtain⟨sl,e⟩:=I.base.slot L o ho (I.ok.frf L hL) hL fun z=>I.ok.exfs L z hL
   exact⟨hk,⟨L,_,hf,hn,e,hd⟩,ih (fun b hb=>hs b (by unfold frs;rw[List.filterMap_cons,hf];exact AO _ hb)) hr⟩
 exact all X.outer (fun _ hb=>hb) I.ok.funs
theorem Inv.stack(I:Inv X pins σ H s):s.heap.FunFrames X.base X.stack:=by
 rcases I.ok.stk with e | ⟨e,hf⟩
 ·rw[e];exact I.funs
 ·rw[e]
  obtain⟨m,hn,_⟩:=I.loc
  refine .cons (by rw[I.ok.kind];decide) hf hn ?_ I.funs
  exact Heap.get?_none_of_le (Nat.le_trans I.ok.bsz I.ok.above)
theorem Inv.stkSub(I:Inv X pins σ H s):∀b∈frs X.stack,b∈X.env.locals::X.fs:=fun b hb=>by
 rcases I.ok.stk with e | ⟨e,hf⟩
 ·rw[e]at hb;exact AO _ hb
 ·rw[e]at hb
  unfold frs at hb
  rw[List.filterMap_cons,hf]at hb
  exact hb
theorem Inv.stkFree(I:Inv X pins σ H s):∀b∈frs X.stack,H b=none:=fun b hb=>by
 rcases List.mem_cons.mp (I.stkSub b hb)with e | hb
 ·rw[e];exact I.free
 ·obtain⟨_,o,ho,_⟩:=I.ok.funs.mem hb
  exact I.base.free b o ho (I.ok.frf b hb) fun z=>I.ok.exfs b z hb
theorem Inv.step{g':Array GenState}{t':Nat}{d':Drawn}{ch:List Addr}(I:Inv X pins σ H s)
  (hch:∀b∈ch,(b∈X.ex\/X.s₀.heap.objs.size<=b)/\b≠X.env.locals/\(∀x c,X.env.cells.lookup x=some c->c≠b)/\∀p∈X.pn++pins,p.1≠b)
  (keep:∀b o,b≠X.env.locals->b∉X.fs->b∉ch->s.heap.get? b=some o->H b=none->h'.get? b=some o)
  (slot:∀b o,b≠X.env.locals->b∈X.fs->b∉ch->s.heap.get? b=some o->H b=none->∃sl,h'.get? b=some {o with slots:=sl})(free:∀b o,b∉ch->s.heap.get? b=some o->H b=none->H' b=none)
  (there:∀b o,b∉ch->s.heap.get? b=some o->∃o',h'.get? b=some o')
  (tups:∀b xs,H b=some (.tup xs)->H' b=some (.tup xs))(frzs:∀b o u,H b=some (.frz o u)->H' b=some (.frz o u))(tbls:∀b ps,H b=some (.tbl ps)->∃more,H' b=some (.tbl (ps++more)))
  (ns:∀m,s.heap.Ns X.env.locals m->h'.Ns X.env.locals m)(hok:HOk X.prog X.w H' h')(hg:AllBare g'):
  Inv X pins σ H' {s with heap:=h',gens:=g',drawn:=d',toks:=t'}:=by
 have neL:∀b o,X.s₀.heap.get? b=some o->b≠X.env.locals:=fun b o e=>Nat.ne_of_lt (AY (AT e) I.ok.above)
 have neC:∀b o,X.s₀.heap.get? b=some o->b∉X.ex->b∉ch:=fun b o e hx hb=>by
  rcases(hch b hb).1 with z | z
  ·exact hx z
  ·exact absurd (AY (AT e) z) (Nat.lt_irrefl _)
 have cellK:∀x c,X.env.cells.lookup x=some c->∀v,s.heap.IsCell c v->h'.IsCell c v:=fun x c e v⟨o,ho,hd⟩=>by
  have nch:c∉ch:=fun z=>(hch c z).2.2.1 x c e rfl
  by_cases hc:c∈X.fs
  ·obtain⟨sl,q⟩:=slot c o (I.cne x c e) hc nch ho (I.freeC x c e)
   exact⟨_,q,hd⟩
  ·exact⟨o,keep c o (I.cne x c e) hc nch ho (I.freeC x c e),hd⟩
 refine⟨I.ok,I.os,hg,⟨fun b o e n hb hx=>?_,fun b o e n hb hx=>?_,fun b o e n hx=>?_,fun b o e hx=>?_,fun b xs e=>tups b xs (I.base.tups b xs e),fun b o xs e=>frzs b o xs (I.base.frzs b o xs e),fun b ps e=>?_⟩,?_,fun x c e=>?_,?_,fun x c e=>?_,fun p hp=>?_,hok,I.len⟩
 ·exact keep b o (neL b o e) hb (neC b o e hx) (I.base.keep b o e n hb hx) (I.base.free b o e n hx)
 ·obtain⟨sl,e1⟩:=I.base.slot b o e n hb hx
  obtain⟨sl',e2⟩:=slot b _ (neL b o e) hb (neC b o e hx) e1 (I.base.free b o e n hx)
  exact⟨sl',e2⟩
 ·obtain⟨o',e1⟩:=I.base.there b o e hx
  exact free b o' (neC b o e hx) e1 (I.base.free b o e n hx)
 ·obtain⟨o',e1⟩:=I.base.there b o e hx
  exact there b o' (neC b o e hx) e1
 ·obtain⟨m1,e1⟩:=I.base.tbls b ps e
  obtain⟨m2,e2⟩:=tbls b _ e1
  exact⟨m1++m2,by rw[e2,Array.append_assoc]⟩
 ·obtain⟨m,hn,hl⟩:=I.loc
  refine⟨m,ns m hn,fun i x v e1 e2 e3=>?_⟩
  obtain⟨u,r,l⟩:=hl i x v e1 e2 e3
  refine⟨u,r,?_⟩
  rcases l with l | ⟨k,c,e,z⟩
  ·exact .inl l
  ·exact .inr ⟨k,c,e,cellK x c e _ z⟩
 ·obtain⟨v,z⟩:=I.cell x c e
  exact⟨v,cellK x c e v z⟩
 ·obtain⟨m,⟨o,_,_,ho,_⟩,_⟩:=I.loc
  exact free _ o (fun z=>(hch _ z).2.1 rfl) ho I.free
 ·obtain⟨v,o,ho,hd⟩:=I.cell x c e
  exact free c o (fun z=>(hch c z).2.2.1 x c e rfl) ho (I.freeC x c e)
 ·obtain⟨e,n,ne,nf,d⟩:=I.pin p hp
  have nch:p.1∉ch:=fun z=>(hch p.1 z).2.2.2 p hp rfl
  exact⟨keep p.1 p.2 ne nf nch e n,free p.1 p.2 nch e n,ne,nf,d⟩
theorem Inv.un{t':Nat}(I:Inv X pins σ H s)(u:Un X.fs [] H H' s.heap h')(hok:HOk X.prog X.w H' h'):Inv X pins σ H' {s with heap:=h',toks:=t'}:=by
 obtain⟨m,⟨o,es,ep,ho,r⟩,_⟩:=id I.loc
 obtain⟨sl,hL⟩:=u.any ho I.free (by simp)
 exact I.step (g':=s.gens) (d':=s.drawn) (ch:=[]) (fun _ z=>nomatch z) (fun b o _ hb _ e n=>u.keep b o e n hb (by simp)) (fun b o _ hb _ e n=>u.slot b o e n hb (by simp)) (fun b o _ e n=>u.free b o e n (by simp)) (fun b o _ e=>u.there b o e (by simp)) u.tups u.frzs u.tbls (fun m' hm=>by
  obtain⟨o',es',ep',ho',r'⟩:=hm
  rw[ho]at ho';cases ho'
  exact⟨_,es',ep',hL,r'⟩) hok I.bare
theorem Inv.call{g':Array GenState}{t':Nat}{d':Drawn}{ch:List Addr}(I:Inv X pins σ H s)(u:Un (frs X.stack) ch H H' s.heap h')(hok:HOk X.prog X.w H' h')(hg:AllBare g')
  (hch:∀b∈ch,(b∈X.ex\/X.s₀.heap.objs.size<=b)/\b≠X.env.locals/\(∀x c,X.env.cells.lookup x=some c->c≠b)/\∀p∈X.pn++pins,p.1≠b):
  Inv X pins σ H' {s with heap:=h',gens:=g',drawn:=d',toks:=t'}:=by
 obtain⟨m,⟨o,es,ep,ho,r⟩,_⟩:=id I.loc
 obtain⟨sl,hL⟩:=u.any ho I.free fun z=>(hch _ z).2.1 rfl
 exact I.step (ch:=ch) hch (fun b o hL hb hc e n=>u.keep b o e n (fun z=>(List.mem_cons.mp (I.stkSub b z)).elim hL hb) hc) (fun b o _ _ hc e n=>u.any e n hc) (fun b o hc e n=>u.free b o e n hc) (fun b o hc e=>u.there b o e hc) u.tups u.frzs u.tbls (fun m' hm=>by
  obtain⟨o',es',ep',ho',r'⟩:=hm
  rw[ho]at ho';cases ho'
  exact⟨_,es',ep',hL,r'⟩) hok hg
theorem Inv.turned{t':Nat}{it:Addr}(I:Inv X pins σ H s)(k:∀b o,b≠it->s.heap.get? b=some o->h'.get? b=some o)(hn:H it=none)(hL:it≠X.env.locals)
  (h1:it∈X.ex\/X.s₀.heap.objs.size<=it)(h2:∀x c,X.env.cells.lookup x=some c->c≠it)(h3:∀p∈X.pn++pins,p.1≠it):Inv X pins σ H {s with heap:=h',toks:=t'}:=by
 have nit:∀b u,H b=some u->b≠it:=fun b u e z=>by rw[z,hn]at e;cases e
 refine I.step (g':=s.gens) (d':=s.drawn) (ch:=[it]) (fun b hb=>?_) (fun b o _ _ hc e _=>k b o (fun z=>hc (by simp[z])) e) (fun b o _ _ hc e _=>⟨o.slots,k b o (fun z=>hc (by simp[z])) e⟩) (fun _ _ _ _ n=>n)
  (fun b o hc e=>⟨o,k b o (fun z=>hc (by simp[z])) e⟩) (fun _ _ e=>e) (fun _ _ _ e=>e) (fun b ps e=>⟨#[],by rw[e];simp⟩) (fun m hm=>?_) (fun b u e=>?_) I.bare
 ·have e:b=it:=by simpa using hb
  subst e
  exact⟨h1,hL,h2,h3⟩
 ·obtain⟨o,es,ep,ho,r⟩:=hm
  exact⟨o,es,ep,k _ o (Ne.symm hL) ho,r⟩
 ·refine(I.hok b u e).stay (fun c v hc q=>k c v ?_ q) (fun _ q=>q) fun _ _ q=>q
  rcases hc with z | z
  ·rw[z];exact nit b u e
  ·exact nit c _ z
theorem Inv.tok(I:Inv X pins σ H s)(t:Nat):Inv X pins σ H {s with toks:=t}:=I.un (h':=s.heap) (t':=t) Un.refl I.hok
theorem Inv.kept{t':Nat}(I:Inv X pins σ H s)(k:∀b u,s.heap.get? b=some u->h'.get? b=some u):Inv X pins σ H {s with heap:=h',toks:=t'}:=I.un (Un.kept k) (I.hok.kept k)
theorem Inv.laid{a:Addr}{o:HO}{t':Nat}(I:Inv X pins σ H s)(k:∀b u,s.heap.get? b=some u->h'.get? b=some u)(hp:s.heap.objs.size<=a)(new:Z6 X.prog X.w (upd H a o) h' a o):
  Inv X pins σ (upd H a o) {s with heap:=h',toks:=t'}:=I.un (Un.laid k hp (I.hok.fresh hp)) (I.hok.laid k hp new)
theorem Inv.write{x e:Addr}{o:HO}{t':Nat}(I:Inv X pins σ H s)(mu:Mut (H x))(he:e=x\/H e=some (.own x))(k:∀b u,b≠e->s.heap.get? b=some u->h'.get? b=some u)(heo:∃u,h'.get? e=some u)
  (new:Z6 X.prog X.w (upd H x o) h' x o):Inv X pins σ (upd H x o) {s with heap:=h',toks:=t'}:=I.un (Un.write mu he k heo) (I.hok.write mu he k heo new)
theorem Inv.pins_of{pins':List (Addr×Obj)}(I:Inv X pins σ H s)(h:∀p∈pins',s.heap.get? p.1=some p.2/\H p.1=none/\p.1≠X.env.locals/\p.1∉X.fs/\∀v,p.2.data≠ .cell v):Inv X pins' σ H s:=
 ⟨I.ok,I.os,I.bare,I.base,I.loc,I.cell,I.free,I.freeC,fun p hp=>(AK.mp hp).elim (fun z=>I.pin p (BA _ z)) (h p),I.hok,I.len⟩
theorem a8v{N:List Str}(hN:N.Nodup){i j:Nat}{x:Str}(a:N[i]?=some x)(b:N[j]?=some x):i=j:=by
 obtain⟨h1,e1⟩:=AB.mp a
 obtain⟨h2,e2⟩:=AB.mp b
 exact(List.getElem_inj hN).mp (e1.trans e2.symm)
theorem a6J{M:Model}{A:Around}{E:Value->Shared->Prop}{i:Nat}{x:Str}{v:V}{u:Value}{Q:Unit->Shared->Prop}(I:Inv X pins σ H s)(hN:X.N.Nodup)(hi:X.N[i]?=some x)(hx:Loc X.env.scope x)(r:W4 v u)
  (h:∀s',Inv X pins (σ.set i (some v)) H s'->(∃a,Heap.SameBut a s.heap s'.heap/\(a=X.env.locals\/X.env.cells.lookup x=some a))->Q () s')(hf:X.fn x=true\/X.env.scope.names.lookup x=some .local:=by first | exact .inl rfl | exact .inr rfl | assumption):wpAny M A (storeName X.env x u) Q E s:=by
 obtain⟨m,hn,hl⟩:=id I.loc
 have hcls:(X.env.scope.kind== .class || (X.env.scope.kind== .module && X.env.locals != X.env.globals))=false:=by rw[I.ok.kind];rfl
 have hiσ:i < σ.length:=by rw[I.len];exact(AB.mp hi).1
 have cne:=I.cne
 have tracked:∀{a:Addr}{h':Heap},(∃o,s.heap.get? a=some o/\H a=none)->Heap.SameBut a s.heap h'->HOk X.prog X.w H h':=fun{a h'}ha hs b ob e=>by
  obtain⟨_,_,hfree⟩:=ha
  refine(I.hok b ob e).stay (fun c w' hc q=>(hs.2 c ?_).trans q) (fun _ q=>q) fun _ _ q=>q
  rintro rfl
  rcases hc with rfl | hc
  ·rw[hfree]at e;cases e
  ·rw[hfree]at hc;cases hc
 rcases hx with hk | hk
 ·refine wpAny_storeName_local hk hn (fun h' hn' hs=>?_) hcls
  obtain⟨oL,_,_,hoL,_⟩:=id hn
  refine h _ ⟨I.ok,I.os,I.bare,⟨fun b o e n hb hx=>?_,fun b o e n hb hx=>?_,I.base.free,fun b o e hx=>?_,I.base.tups,I.base.frzs,I.base.tbls⟩,⟨_,hn',fun j y v' e1 e2 e3=>?_⟩,fun y c e=>?_,I.free,I.freeC,fun p hp=>?_,tracked ⟨oL,hoL,I.free⟩ hs,by simpa using I.len⟩ ⟨_,hs,.inl rfl⟩
  ·exact(hs.2 b (Nat.ne_of_lt (AY (AT e) I.ok.above))).trans (I.base.keep b o e n hb hx)
  ·obtain⟨sl,e1⟩:=I.base.slot b o e n hb hx
   exact⟨sl,(hs.2 b (Nat.ne_of_lt (AY (AT e) I.ok.above))).trans e1⟩
  ·obtain⟨o',e1⟩:=I.base.there b o e hx
   exact⟨o',(hs.2 b (Nat.ne_of_lt (AY (AT e) I.ok.above))).trans e1⟩
  ·by_cases hj:j=i
   ·subst hj
    rw[hi]at e1;cases e1
    rw[List.getElem?_set_self hiσ]at e2
    cases e2
    exact⟨u,r,.inl ⟨hk,by simp⟩⟩
   ·rw[List.getElem?_set_ne (Ne.symm hj)]at e2
    obtain⟨u',r',q⟩:=hl j y v' e1 e2 e3
    refine⟨u',r',?_⟩
    rcases q with⟨k,e⟩ | ⟨k,c,e,z⟩
    ·refine .inl ⟨k,?_⟩
     have:y≠x:=fun e=>hj (a8v hN e1 (e▸hi))
     simp[this,e]
    ·exact .inr ⟨k,c,e,z.sameBut hs (cne y c e)⟩
  ·obtain⟨w',z⟩:=I.cell y c e
   exact⟨w',z.sameBut hs (cne y c e)⟩
  ·obtain⟨e,n,ne,nf,d⟩:=I.pin p hp
   exact⟨(hs.2 p.1 ne).trans e,n,ne,nf,d⟩
 ·have hfn:X.fn x=true:=by
   rcases hf with z | z
   ·exact z
   ·rw[z]at hk;cases hk
  obtain⟨c,hc⟩:=I.ok.has x (.inl hk)
  obtain⟨w',z⟩:=I.cell x c hc
  refine wpAny_storeName_cell I.ok.kind hk hc z (fun h' hc' hs=>?_)
  obtain⟨oc,hoc,hocd⟩:=id z
  refine h {s with heap:=h'} ⟨I.ok,I.os,I.bare,⟨fun b o e n hb hx=>?_,fun b o e n hb hx=>?_,I.base.free,fun b o e hx=>?_,I.base.tups,I.base.frzs,I.base.tbls⟩,⟨m,hn.sameBut hs (Ne.symm (cne x c hc)),fun j y v' e1 e2 e3=>?_⟩,fun y c' e=>?_,I.free,I.freeC,fun p hp=>?_,tracked ⟨oc,hoc,I.freeC x c hc⟩ hs,by simpa using I.len⟩ ⟨c,hs,.inr hc⟩
  ·exact(hs.2 b (Nat.ne_of_lt (AY (AT e) (I.ok.cab x c hfn hc)))).trans (I.base.keep b o e n hb hx)
  ·obtain⟨sl,e1⟩:=I.base.slot b o e n hb hx
   exact⟨sl,(hs.2 b (Nat.ne_of_lt (AY (AT e) (I.ok.cab x c hfn hc)))).trans e1⟩
  ·obtain⟨o',e1⟩:=I.base.there b o e hx
   exact⟨o',(hs.2 b (Nat.ne_of_lt (AY (AT e) (I.ok.cab x c hfn hc)))).trans e1⟩
  ·by_cases hj:j=i
   ·subst hj
    rw[hi]at e1;cases e1
    rw[List.getElem?_set_self hiσ]at e2
    cases e2
    exact⟨u,r,.inr ⟨.inl hk,c,hc,hc'⟩⟩
   ·rw[List.getElem?_set_ne (Ne.symm hj)]at e2
    obtain⟨u',r',q⟩:=hl j y v' e1 e2 e3
    refine⟨u',r',?_⟩
    rcases q with q | ⟨k,c',e,z'⟩
    ·exact .inl q
    ·refine .inr ⟨k,c',e,z'.sameBut hs ?_⟩
     rintro rfl
     exact hj (a8v hN e1 (I.ok.inj _ _ _ e hc▸hi))
  ·by_cases hcc:c'=c
   ·subst hcc;exact⟨_,hc'⟩
   ·obtain⟨w2,z2⟩:=I.cell y c' e
    exact⟨w2,z2.sameBut hs hcc⟩
  ·obtain⟨e,n,ne,nf,d⟩:=I.pin p hp
   refine⟨(hs.2 p.1 ?_).trans e,n,ne,nf,d⟩
   intro q
   rw[q,hoc]at e
   have q':oc=p.2:=Option.some.inj e
   exact d w' (by rw[<-q'];exact hocd)
theorem a5F{M:Model}{A:Around}{E:Value->Shared->Prop}{i:Nat}{x:Str}{v:V}{u:Value}{Q:Unit->Shared->Prop}(I:Inv X pins σ H s)(hN:X.N.Nodup)(hi:X.N[i]?=some x)(hx:Loc X.env.scope x)(r:W4 v u)
  (h:∀s',Inv X pins (σ.set i (some v)) H s'->Q () s')(hf:X.fn x=true\/X.env.scope.names.lookup x=some .local:=by first | exact .inl rfl | exact .inr rfl | assumption):wpAny M A (storeName X.env x u) Q E s:=
 a6J I hN hi hx r (fun s' I' _=>h s' I') hf
theorem Inv.call'{s':Shared}{ch:List Addr}(I:Inv X pins σ H s)(ho:s'.os=s.os)(u:Un (frs X.stack) ch H H' s.heap s'.heap)(hok:HOk X.prog X.w H' s'.heap)(hg:AllBare s'.gens)
  (hch:∀b∈ch,(b∈X.ex\/X.s₀.heap.objs.size<=b)/\b≠X.env.locals/\(∀x c,X.env.cells.lookup x=some c->c≠b)/\∀p∈X.pn++pins,p.1≠b):Inv X pins σ H' s':=by
 obtain⟨h',g',d',t',o'⟩:=s'
 have e:o'=s.os:=ho
 subst e
 exact I.call (g':=g') (t':=t') (d':=d') u hok hg hch
end
noncomputable abbrev XK:=Value->Option Addr->Hp->Prop
noncomputable abbrev St:=List (Option V)
noncomputable abbrev VK:=V->Hp->Prop
noncomputable abbrev TE:=St->Hp->VK->Prop
noncomputable abbrev TT:=St->Hp->(Bool->Hp->Prop)->Prop
noncomputable abbrev TA:=St->Hp->(List V->Hp->Prop)->Prop
structure a1F where
 nx:St->Hp->Prop
 rt:VK
 bk:St->Hp->Prop:=fun _ _=>False
 ct:St->Hp->Prop:=fun _ _=>False
noncomputable abbrev TS:=a1F->St->Hp->Prop
noncomputable def EP (X:Cx) (pins:List (Addr×Obj)) (σ:St) (Q:VK) (u:Value) (s':Shared):Prop:=∃v H',Inv X pins σ H' s'/\W4 v u/\Q v H'
noncomputable def TP (X:Cx) (pins:List (Addr×Obj)) (σ:St) (Q:Bool->Hp->Prop) (b:Bool) (s':Shared):Prop:=∃H',Inv X pins σ H' s'/\Q b H'
noncomputable def AP (X:Cx) (pins:List (Addr×Obj)) (σ:St) (Q:List V->Hp->Prop) (us:List Value) (s':Shared):Prop:=∃vs H',Inv X pins σ H' s'/\W0 vs us/\Q vs H'
noncomputable def SP (X:Cx) (pins:List (Addr×Obj)) (D:a1F) (f:Flow) (s':Shared):Prop:=
 match f with
 | .next=>∃σ' H',Inv X pins σ' H' s'/\D.nx σ' H'
 | .brk=>∃σ' H',Inv X pins σ' H' s'/\D.bk σ' H'
 | .cont=>∃σ' H',Inv X pins σ' H' s'/\D.ct σ' H'
 | .ret u=>∃v σ' H',Inv X pins σ' H' s'/\W4 v u/\D.rt v H'
noncomputable def PE (X:Cx) (e:Expr) (t:TE):Prop:=
 ∀(pins:List (Addr×Obj))(s:Shared)(σ:St)(H:Hp)(Q:VK),Inv X pins σ H s->t σ H Q->wpAny (model X.prog X.w) X.A (eval e X.env) (EP X pins σ Q) X.xe s
noncomputable def PT (X:Cx) (e:Expr) (t:TT):Prop:=
 ∀(pins:List (Addr×Obj))(s:Shared)(σ:St)(H:Hp)(Q:Bool->Hp->Prop),Inv X pins σ H s->t σ H Q->wpAny (model X.prog X.w) X.A (isTrue e X.env (eval e X.env)) (TP X pins σ Q) X.xe s
noncomputable def PW (X:Cx) (e:Expr) (t:TT):Prop:=
 ∀(whole:Sem Value)(pins:List (Addr×Obj))(s:Shared)(σ:St)(H:Hp)(Q:Bool->Hp->Prop),Inv X pins σ H s->t σ H Q->wpAny (model X.prog X.w) X.A (isTrue e X.env whole) (TP X pins σ Q) X.xe s
theorem PW.pt{X:Cx}{e:Expr}{t:TT}(h:PW X e t):PT X e t:=h _
noncomputable def PA (X:Cx) (es:List Expr) (t:TA):Prop:=
 ∀(pos:Pos)(pins:List (Addr×Obj))(s:Shared)(σ:St)(H:Hp)(Q:List V->Hp->Prop),Inv X pins σ H s->t σ H Q->wpAny (model X.prog X.w) X.A (spliced (backTo pos (starEach es X.env))) (AP X pins σ Q) X.xe s
noncomputable def PS (X:Cx) (st:Stmt) (t:TS):Prop:=
 ∀(pins:List (Addr×Obj))(s:Shared)(σ:St)(H:Hp)(D:a1F),Inv X pins σ H s->t D σ H->wpAny (model X.prog X.w) X.A (exec st X.env) (SP X pins D) X.xe s
noncomputable def PSs (X:Cx) (st:List Stmt) (t:TS):Prop:=
 ∀(pins:List (Addr×Obj))(s:Shared)(σ:St)(H:Hp)(D:a1F),Inv X pins σ H s->t D σ H->wpAny (model X.prog X.w) X.A (execs st X.env) (SP X pins D) X.xe s
theorem thn{α:Type}{t:Sem α}{Q Q':α->Shared->Prop}{M:Model}{A:Around}{E:Value->Shared->Prop}{s:Shared}(h:wpAny M A t Q E s)(hQ:∀a s,Q a s->Q' a s):wpAny M A t Q' E s:=wpAny_mono h hQ fun _ _ x=>x
end L2
namespace L2
open PySem PySem.Spec PyProof.Rows
section
variable{X:Cx}
noncomputable def a9z (i:Nat):TE:=fun σ H Q=>∃v,σ[i]?=some (some v)/\Q v H
noncomputable def tC (v:V):TE:=fun _ H Q=>Q v H
theorem b5D{i:Nat}{x:Str}{pos:Pos}(hN:X.N[i]?=some x)(hv:Vis X.env.scope x)(hd:(x==("__debug__":Str))=false:=by decide)(hcd:(x==("__classdict__":Str))=false:=by decide):PE X (.Name x pos) (a9z i):=by
 intro pins s σ H Q I h
 obtain⟨v,e,h⟩:=h
 obtain⟨m,hn,hl⟩:=I.loc
 obtain⟨u,r,l⟩:=hl i x v hN e hv
 have fin:EP X pins σ Q u s:=⟨v,H,I,r,h⟩
 rcases l with⟨hk,hm⟩ | ⟨hk,c,hc,hcell⟩
 ·exact wpAny_Name (wpAny_loadName_local I.ok.kind hk hn hm fin) hd
 ·rcases hk with hk | hk
  ·exact wpAny_Name (wpAny_loadName_cell I.ok.kind hk hc hcell fin) hd
  ·exact wpAny_Name (wpAny_loadName_free I.ok.kind hk hc hcell fin hcd) hd
theorem G5{i j pos}:PE X (.Constant (.int i) j pos) (tC (.int i)):=fun _ _ _ H _ I h=>wpAny_Constant_int ⟨.int i,H,I.tok _,⟨_,rfl⟩,h⟩
theorem a1P{b j pos}:PE X (.Constant (.bool b) j pos) (tC (.bl b)):=fun _ _ _ H _ I h=>Constant_bool ⟨.bl b,H,I,rfl,h⟩
theorem a3t{j pos}:PE X (.Constant .none j pos) (tC .non):=fun _ _ _ H _ I h=>Constant_none ⟨.non,H,I,rfl,h⟩
theorem I9{x j pos}:PE X (.Constant (.str x) j pos) (tC (.str x)):=fun _ _ _ H _ I h=>Calls.Constant_str ⟨.str x,H,I.tok _,⟨_,rfl⟩,h⟩
noncomputable def Gl (X:Cx) (x:Str):Prop:=X.env.kindOf x=some .globalImplicit
theorem b0n{E:Value->Shared->Prop}{pins:List (Addr×Obj)}{s:Shared}{σ:St}{H:Hp}{x:Str}{u:Value}{pos:Pos}{Q:Value->Shared->Prop}(I:Inv X pins σ H s)(hg:Gl X x)(hm:X.mg x=some u)(h:Q u s)
  (hd:(x==("__debug__":Str))=false:=by decide):wpAny (model X.prog X.w) X.A (eval (.Name x pos) X.env) Q E s:=
 Calls.Name_function_global I.ok.kind hg (Calls.loadGlobal_global (by rw[I.ok.glob];exact I.mod.glob.keeps I.bk) hm h) hd
theorem a4w{E:Value->Shared->Prop}{pins:List (Addr×Obj)}{s:Shared}{σ:St}{H:Hp}{x:Str}{u:Value}{pos:Pos}{Q:Value->Shared->Prop}(I:Inv X pins σ H s)(hg:Gl X x)(hm:X.mg x=none)(hv:bootBuiltins x=some u)(h:Q u s)
  (hn:x≠ "__name__":=by decide)(hd:(x==("__debug__":Str))=false:=by decide):wpAny (model X.prog X.w) X.A (eval (.Name x pos) X.env) Q E s:=by
 obtain⟨mb,h1,h2⟩:=I.mod.blt
 exact Calls.Name_function_global I.ok.kind hg (Calls.loadGlobal_builtin (by rw[I.ok.glob];exact I.mod.glob.keeps I.bk) hm (by rw[I.ok.blt];exact h1.keeps I.bk) ((h2 x hn).trans hv) h) hd
theorem a1k{x:Str}{v:V}{u:Value}{pos:Pos}(hg:Gl X x)(hm:X.mg x=none)(hv:bootBuiltins x=some u)(r:W4 v u)(hn:x≠ "__name__":=by decide)(hd:(x==("__debug__":Str))=false:=by decide):PE X (.Name x pos) (tC v):=
 fun _ _ _ H _ I h=>a4w I hg hm hv ⟨v,H,I,r,h⟩ hn hd
variable{a b:Expr}{ta tb:TE}{pos:Pos}
noncomputable def PC (X:Cx) (op:CmpOp) (a b:Expr) (t:TE):Prop:=
 ∀(pins:List (Addr×Obj))(s:Shared)(σ:St)(H:Hp)(Q:VK),Inv X pins σ H s->t σ H Q->
  wpAny (model X.prog X.w) X.A (eval a X.env) (fun v s₁=>wpAny (model X.prog X.w) X.A (eval b X.env) (fun u s₂=>wpAny (model X.prog X.w) X.A (compareOp op v u) (EP X pins σ Q) X.xe s₂) X.xe s₁) X.xe s
theorem a3M(b:Expr){op:CmpOp}(h:op≠ .In)(h2:op≠ .NotIn):behindInMarks op b=false:=by
 have e1:(op==CmpOp.In)=false:=by cases op<;>first | rfl | exact absurd rfl h
 have e2:(op==CmpOp.NotIn)=false:=by cases op<;>first | rfl | exact absurd rfl h2
 cases b<;>simp[behindInMarks,e1,e2]
noncomputable def b7x (ta:TE):TE:=fun σ H Q=>ta σ H fun x H1=>Q (.bl (decide (x= .non))) H1
noncomputable def b6H (ta:TE):TE:=fun σ H Q=>ta σ H fun x H1=>Q (.bl (!decide (x= .non))) H1
theorem W4.none_iff{x:V}{v:Value}(r:W4 x v):(v==Value.none)=decide (x= .non):=by
 cases x with
 | non=>cases r;rfl
 | bl _=>cases r;rfl
 | int _=>obtain⟨t,rfl⟩:=r;rfl
 | str _=>obtain⟨t,rfl⟩:=r;rfl
 | byt _=>obtain⟨t,rfl⟩:=r;rfl
 | flt _=>obtain⟨t,rfl⟩:=r;rfl
 | ref _=>cases r;rfl
 | ty _=>cases r;rfl
theorem a3s{j pos'}(ha:PE X a ta):PC X .Is a (.Constant .none j pos') (b7x ta):=by
 intro pins s σ H Q I h
 refine thn (ha pins s σ H _ I h) fun v s1⟨x,H1,I1,r1,q1⟩=>?_
 exact Constant_none (is_none_gen ⟨.bl _,H1,I1,by rw[r1.none_iff];rfl,q1⟩)
theorem a7h{j pos'}(ha:PE X a ta):PC X .IsNot a (.Constant .none j pos') (b6H ta):=by
 intro pins s σ H Q I h
 refine thn (ha pins s σ H _ I h) fun v s1⟨x,H1,I1,r1,q1⟩=>?_
 exact Constant_none (isnot_none_gen ⟨.bl _,H1,I1,by rw[r1.none_iff];rfl,q1⟩)
noncomputable def tB (t:TE):TT:=fun σ H Q=>t σ H fun x H1=>∃c,x= .bl c/\Q c H1
theorem b2f{op:CmpOp}{t:TE}(h:PC X op a b t)(h1:behindInMarks op b=false:=by first | exact a3M _ (by decide) (by decide) | rfl):PE X (.Compare a [op] [b] pos) t:=fun pins s σ H Q I hw=>wpAny_Compare1 (h pins s σ H Q I hw) h1
theorem M4{op:CmpOp}{t:TE}(h:PC X op a b t)(h1:behindInMarks op b=false:=by first | exact a3M _ (by decide) (by decide) | rfl):PT X (.Compare a [op] [b] pos) (tB t):=by
 intro pins s σ H Q I hw
 refine wpAny_isTrue_Compare1 (thn (h pins s σ H _ I hw) fun v s1 h1=>thn h1 fun u s2 h2=>thn h2 fun c s3⟨x,H1,I1,r1,q1⟩=>?_) h1
 obtain⟨d,rfl,q⟩:=q1
 cases r1
 exact wpAny_truthy_bool ⟨H1,I1,q⟩
theorem a0D{e:Expr}{t:TE}(h:PE X e t)(he:∀whole,isTrue e X.env whole=(do let v<-whole;standAt e.pos;holding [v] (truthy v)):=by intro _;rfl):PT X e (tB t):=by
 intro pins s σ H Q I hw
 refine isTrue_plain (thn (h pins s σ H _ I hw) fun v s1⟨x,H1,I1,r1,q1⟩=>?_) (he _)
 obtain⟨d,rfl,q⟩:=q1
 cases r1
 exact wpAny_truthy_bool ⟨H1,I1,q⟩
variable{tA tB':TT}{rest:List Expr}
noncomputable def b5k (t u:TT):TT:=fun σ H Q=>t σ H fun c H1=>if c=true then u σ H1 Q else Q false H1
noncomputable def tOr (t u:TT):TT:=fun σ H Q=>t σ H fun c H1=>if c=true then Q true H1 else u σ H1 Q
noncomputable def b6W (t:TT):TT:=fun σ H Q=>t σ H fun c H1=>Q (!c) H1
theorem M6(ha:PT X a tA):PW X (.BoolOp .And [a] pos) tA:=by
 intro wh pins s σ H Q I h
 refine isTrue_and (thn (ha pins s σ H Q I h) fun c s1 e=>?_)
 cases c with
 | true=>exact isTrue_and_nil e
 | false=>exact e
theorem a4o(ha:PT X a tA):PW X (.BoolOp .Or [a] pos) tA:=by
 intro wh pins s σ H Q I h
 refine isTrue_or (thn (ha pins s σ H Q I h) fun c s1 e=>?_)
 cases c with
 | false=>exact isTrue_or_nil e
 | true=>exact e
theorem a0T(ha:PT X a tA)(hb:PW X (.BoolOp .And (b::rest) pos) tB'):PW X (.BoolOp .And (a::b::rest) pos) (b5k tA tB'):=by
 intro wh pins s σ H Q I h
 refine isTrue_and (thn (ha pins s σ H _ I h) fun c s1⟨H1,I1,q1⟩=>?_)
 cases c with
 | true=>exact hb wh pins s1 σ H1 Q I1 q1
 | false=>exact⟨H1,I1,q1⟩
theorem a6C(ha:PT X a tA)(hb:PW X (.BoolOp .Or (b::rest) pos) tB'):PW X (.BoolOp .Or (a::b::rest) pos) (tOr tA tB'):=by
 intro wh pins s σ H Q I h
 refine isTrue_or (thn (ha pins s σ H _ I h) fun c s1⟨H1,I1,q1⟩=>?_)
 cases c with
 | true=>exact⟨H1,I1,q1⟩
 | false=>exact hb wh pins s1 σ H1 Q I1 q1
theorem a3x(ha:PT X a tA):PT X (.UnaryOp .Not a pos) (b6W tA):=by
 intro pins s σ H Q I h
 exact isTrue_not (ha pins s σ H (fun c H1=>Q (!c) H1) I h)
noncomputable def b6s (ta tb:TE):TE:=fun σ H Q=>ta σ H fun x H1=>∃c,x= .bl c/\if c=true then tb σ H1 Q else Q (.bl false) H1
noncomputable def b6t (ta:TE):TE:=fun σ H Q=>ta σ H fun x H1=>∃c,x= .bl c/\Q (.bl (!c)) H1
theorem a9I{op}{t:TE}(h:PE X a t):PE X (.BoolOp op [a] pos) t:=fun pins s σ H Q I hw=>BoolOp_one (h pins s σ H Q I hw)
theorem a7I(ha:PE X a ta)(hb:PE X (.BoolOp .And (b::rest) pos) tb):PE X (.BoolOp .And (a::b::rest) pos) (b6s ta tb):=by
 intro pins s σ H Q I h
 refine BoolOp_and (thn (ha pins s σ H _ I h) fun v s1⟨x,H1,I1,r1,q1⟩=>?_)
 obtain⟨c,rfl,q1⟩:=q1
 cases r1
 refine wpAny_truthy_bool ?_
 cases c with
 | true=>exact hb pins s1 σ H1 Q I1 q1
 | false=>exact⟨.bl false,H1,I1,rfl,q1⟩
theorem b5e(ha:PE X a ta):PE X (.UnaryOp .Not a pos) (b6t ta):=by
 intro pins s σ H Q I h
 refine UnaryOp_ (thn (ha pins s σ H _ I h) fun v s1⟨x,H1,I1,r1,q1⟩=>?_)
 obtain⟨c,rfl,q1⟩:=q1
 cases r1
 exact not_of (wpAny_truthy_bool ⟨.bl (!c),H1,I1,rfl,q1⟩)
noncomputable def tIf (t:TT) (ta tb:TE):TE:=fun σ H Q=>t σ H fun c H1=>if c=true then ta σ H1 Q else tb σ H1 Q
theorem b2n{c:Expr}(hc:PT X c tA)(ha:PE X a ta)(hb:PE X b tb):PE X (.IfExp c a b pos) (tIf tA ta tb):=by
 intro pins s σ H Q I h
 refine wpAny_IfExp (thn (hc pins s σ H _ I h) fun d s1⟨H1,I1,q1⟩=>?_)
 cases d with
 | true=>exact ha pins s1 σ H1 Q I1 q1
 | false=>exact hb pins s1 σ H1 Q I1 q1
end
end L2
namespace L2
open PySem PySem.Spec PyProof.Rows
noncomputable def SqL (K:W.Frag) (H:Hp) (a:Addr) (xs:List V):Prop:=
 Rd H a (.lst xs)\/
  ∃(o:Obj)(its:Array Value)(n:Nat),K.lookup a=some o/\o.cls= .type "list"/\o.dict=none/\o.data= .seq its n/\its.size<=sizeLine/\W0 xs its.toList
noncomputable def SqT (K:W.Frag) (H:Hp) (a:Addr) (xs:List V):Prop:=
 Rd H a (.tup xs)\/
  ∃(o:Obj)(its:Array Value)(n:Nat),K.lookup a=some o/\o.cls= .type "tuple"/\o.data= .seq its n/\its.size<=sizeLine/\W0 xs its.toList
noncomputable def b7f:Value->Option V
 | .none=>some .non
 | .bool b=>some (.bl b)
 | .int i _=>some (.int i)
 | .str x _=>some (.str x)
 | .bytes b _=>some (.byt b)
 | .float b _=>some (.flt b)
 | .ref a=>some (.ref a)
 | .type n=>some (.ty n)
 | _=>none
theorem W4.abs{x:V}{u:Value}(r:W4 x u):b7f u=some x:=by
 cases x with
 | non=>cases r;rfl
 | bl _=>cases r;rfl
 | int _=>obtain⟨t,rfl⟩:=r;rfl
 | str _=>obtain⟨t,rfl⟩:=r;rfl
 | byt _=>obtain⟨t,rfl⟩:=r;rfl
 | flt _=>obtain⟨t,rfl⟩:=r;rfl
 | ref _=>cases r;rfl
 | ty _=>cases r;rfl
theorem W4.inj{x y:V}{u:Value}(r:W4 x u)(q:W4 y u):x=y:=Option.some.inj (r.abs.symm.trans q.abs)
theorem W0.inj:∀{xs ys:List V}{us:List Value},W0 xs us->W0 ys us->xs=ys
 | _,_,_,.nil,.nil=>rfl
 | _,_,_,.cons r t,.cons r' t'=>by rw[r.inj r',W0.inj t t']
section
variable{X:Cx}{pins:List (Addr×Obj)}{σ:St}{H:Hp}{s:Shared}{a:Addr}{xs ys:List V}
theorem SqL.of{K:W.Frag}(h:H a=some (.lst xs)):SqL K H a xs:= .inl (.inl h)
theorem SqT.of{K:W.Frag}(h:H a=some (.tup xs)):SqT K H a xs:= .inl (.inl h)
theorem Inv.list(I:Inv X pins σ H s)(h:SqL X.K H a xs):∃its:List Value,W0 xs its/\PlainL s.heap a its.toArray/\xs.length<=sizeLine:=by
 rcases h with h | ⟨o,its,n,hk,hc,hd,hs,hz,r⟩
 ·obtain⟨z,its,n,r,e⟩:=h.ok I.hok
  exact⟨its,r,⟨_,n,e,rfl,rfl,rfl⟩,z⟩
 ·refine⟨its.toList,r,⟨o,n,I.kIn a o hk,hc,hd,by simpa using hs⟩,?_⟩
  have e:=r.length
  simp only[Array.length_toList]at e
  omega
theorem Inv.tuple(I:Inv X pins σ H s)(h:SqT X.K H a xs):∃its:List Value,W0 xs its/\IsTup s.heap a its.toArray/\xs.length<=sizeLine:=by
 rcases h with h | ⟨o,its,n,hk,hc,hs,hz,r⟩
 ·obtain⟨z,its,r,p⟩:=h.ok I.hok
  exact⟨its,r,p,z⟩
 ·refine⟨its.toList,r,⟨o,I.kIn a o hk,hc,n,by simpa using hs⟩,?_⟩
  have e:=r.length
  simp only[Array.length_toList]at e
  omega
theorem Inv.list_inj(I:Inv X pins σ H s)(h:SqL X.K H a xs)(h':SqL X.K H a ys):xs=ys:=by
 obtain⟨its,r,⟨o,n,e,_,_,d⟩,_⟩:=I.list h
 obtain⟨its',r',⟨o',n',e',_,_,d'⟩,_⟩:=I.list h'
 rw[e]at e';cases e'
 rw[d]at d'
 injection d' with d1 _
 have:its=its':=by simpa using congrArg Array.toList d1
 subst this
 exact r.inj r'
theorem Inv.tuple_inj(I:Inv X pins σ H s)(h:SqT X.K H a xs)(h':SqT X.K H a ys):xs=ys:=by
 obtain⟨its,r,⟨o,e,_,n,d⟩,_⟩:=I.tuple h
 obtain⟨its',r',⟨o',e',_,n',d'⟩,_⟩:=I.tuple h'
 rw[e]at e';cases e'
 rw[d]at d'
 injection d' with d1 _
 have:its=its':=by simpa using congrArg Array.toList d1
 subst this
 exact r.inj r'
end
noncomputable abbrev Cx.wish (X:Cx) (E:Value->Shared->Prop):Cx:={X with xe:=E}
noncomputable abbrev Cx.nox (X:Cx):Cx:=X.wish fun _ _=>False
theorem Cx.Ok.wish{X:Cx}(ok:X.Ok)(E:Value->Shared->Prop):(X.wish E).Ok:=
 ⟨ok.mod,ok.kind,ok.glob,ok.blt,ok.above,ok.inj,ok.has,ok.cab,ok.hd,ok.frames,ok.stk,ok.exf,ok.bs,ok.bsz,ok.noex,ok.exfs,ok.funs,ok.frf⟩
theorem Cx.Ok.unwish{X:Cx}{E:Value->Shared->Prop}(ok:(X.wish E).Ok):X.Ok:=
 ⟨ok.mod,ok.kind,ok.glob,ok.blt,ok.above,ok.inj,ok.has,ok.cab,ok.hd,ok.frames,ok.stk,ok.exf,ok.bs,ok.bsz,ok.noex,ok.exfs,ok.funs,ok.frf⟩
section
variable{X:Cx}{pins:List (Addr×Obj)}{σ:St}{H:Hp}{s:Shared}{E:Value->Shared->Prop}
theorem Inv.wish(I:Inv X pins σ H s)(E:Value->Shared->Prop):Inv (X.wish E) pins σ H s:=⟨I.ok.wish E,I.os,I.bare,I.base,I.loc,I.cell,I.free,I.freeC,I.pin,I.hok,I.len⟩
theorem Inv.unwish(I:Inv (X.wish E) pins σ H s):Inv X pins σ H s:=⟨I.ok.unwish,I.os,I.bare,I.base,I.loc,I.cell,I.free,I.freeC,I.pin,I.hok,I.len⟩
theorem SP.unwish{D:a1F}{f:Flow}{s':Shared}(h:SP (X.wish E) pins D f s'):SP X pins D f s':=by
 cases f with
 | next=>obtain⟨σ',H',I,q⟩:=h;exact⟨σ',H',I.unwish,q⟩
 | brk=>obtain⟨σ',H',I,q⟩:=h;exact⟨σ',H',I.unwish,q⟩
 | cont=>obtain⟨σ',H',I,q⟩:=h;exact⟨σ',H',I.unwish,q⟩
 | ret u=>obtain⟨v,σ',H',I,r,q⟩:=h;exact⟨v,σ',H',I.unwish,r,q⟩
theorem PSs.nox{st:List Stmt}{t:TS}(h:PSs X.nox st t):PSs X st t:=fun pins s σ H D I hw=>
 wpAny_mono (h pins s σ H D (I.wish _) hw) (fun _ _ q=>q.unwish) fun _ _ z=>False.elim z
end
section
variable{X:Cx}{st:Stmt}{rest:List Stmt}{t u:TS}{e:Expr}{te:TE}{pos:Pos}
noncomputable def a8k:TS:=fun D σ H=>D.nx σ H
noncomputable def a7g (t u:TS):TS:=fun D σ H=>t {D with nx:=u D} σ H
theorem J5:PSs X [] a8k:=fun _ _ σ H _ I h=>wpAny_execs_nil ⟨σ,H,I,h⟩
theorem G3(h1:PS X st t)(h2:PSs X rest u):PSs X (st::rest) (a7g t u):=by
 intro pins s σ H D I h
 refine wpAny_execs_cons (thn (h1 pins s σ H {D with nx:=u D} I h) fun f s1 q=>?_)
 cases f with
 | next=>
  obtain⟨σ',H',I',q⟩:=q
  exact h2 pins s1 σ' H' D I' q
 | ret v=>exact q
 | brk=>exact q
 | cont=>exact q
theorem G6(h1:PS X st t):PSs X [st] t:=by
 intro pins s σ H D I h
 refine wpAny_execs_cons (thn (h1 pins s σ H D I h) fun f s1 q=>?_)
 cases f with
 | next=>exact wpAny_execs_nil q
 | ret v=>exact q
 | brk=>exact q
 | cont=>exact q
theorem Inv.quiet{pins:List (Addr×Obj)}{σ:St}{H:Hp}{s:Shared}(I:Inv X pins σ H s):interactive X.env=false:=by simp[interactive,I.ok.kind]
noncomputable def b4C (te:TE):TS:=fun D σ H=>te σ H fun _ H1=>D.nx σ H1
theorem U1(he:PE X e te)(hs:swapsWith e none pos.line X.env=pure false:=by rfl):PS X (.Expr e pos) (b4C te):=by
 intro pins s σ H D I h
 exact wpAny_Expr_any (thn (he pins s σ H _ I h) fun v s1⟨x,H1,I1,r1,q1⟩=>⟨σ,H1,I1,q1⟩) I.quiet hs
noncomputable def b7u (te:TE):TS:=fun D σ H=>te σ H D.rt
theorem R3(he:PE X e te):PS X (.Return (some e) pos) (b7u te):=by
 intro pins s σ H D I h
 exact wpAny_Return_some (thn (he pins s σ H _ I h) fun v s1⟨x,H1,I1,r1,q1⟩=>⟨x,σ,H1,I1,r1,q1⟩)
noncomputable def b6z:TS:=fun D _ H=>D.rt .non H
theorem a4Z:PS X (.Return none pos) b6z:=fun _ _ σ H _ I h=>wpAny_Return_none ⟨.non,σ,H,I,rfl,h⟩
noncomputable def a9y (c:TT) (t u:TS):TS:=fun D σ H=>c σ H fun b H1=>if b=true then t D σ H1 else u D σ H1
theorem R8{c:Expr}{a b:List Stmt}{tc:TT}(hc:PT X c tc)(ha:PSs X a t)(hb:PSs X b u):PS X (.If c a b pos) (a9y tc t u):=by
 intro pins s σ H D I h
 refine wpAny_If (thn (hc pins s σ H _ I h) fun d s1⟨H1,I1,q1⟩=>?_)
 cases d with
 | true=>exact ha pins s1 σ H1 D I1 q1
 | false=>exact hb pins s1 σ H1 D I1 q1
end
noncomputable abbrev TG:=V->St->Hp->(St->Hp->Prop)->Prop
noncomputable abbrev TGs:=List V->St->Hp->(St->Hp->Prop)->Prop
noncomputable def PG (X:Cx) (target:Expr) (t:TG):Prop:=
 ∀(pins:List (Addr×Obj))(s:Shared)(σ:St)(H:Hp)(v:V)(u:Value)(Q:St->Hp->Prop),Inv X pins σ H s->W4 v u->t v σ H Q->
  wpAny (model X.prog X.w) X.A (assign target X.env u) (fun _ s'=>∃σ' H',Inv X pins σ' H' s'/\Q σ' H') X.xe s
noncomputable def PGs (X:Cx) (ts:List Expr) (t:TGs):Prop:=
 ∀(pins:List (Addr×Obj))(s:Shared)(σ:St)(H:Hp)(vs:List V)(us:List Value)(Q:St->Hp->Prop),Inv X pins σ H s->W0 vs us->t vs σ H Q->
  wpAny (model X.prog X.w) X.A (assignInOrder ((assignEach ts X.env).map (·.2)) us) (fun _ s'=>∃σ' H',Inv X pins σ' H' s'/\Q σ' H') X.xe s
noncomputable abbrev b7z:=V->V->V->Hp->(Hp->Prop)->Prop
noncomputable abbrev TIp:=V->V->Hp->VK->Prop
noncomputable def PIp (X:Cx) (op:Operator) (t:TIp):Prop:=
 ∀(pins:List (Addr×Obj))(s:Shared)(σ:St)(H:Hp)(x y:V)(v u:Value)(Q:VK),Inv X pins σ H s->W4 x v->W4 y u->t x y H Q->
  wpAny (model X.prog X.w) X.A (inplaceOp op v u) (EP X pins σ Q) X.xe s
section
variable{X:Cx}{pos:Pos}
noncomputable def a3p (i:Nat):TG:=fun v σ H Q=>Q (σ.set i (some v)) H
theorem J8{i:Nat}{x:Str}(hN:X.N.Nodup)(hi:X.N[i]?=some x)(hx:Loc X.env.scope x)(hf:X.fn x=true\/X.env.scope.names.lookup x=some .local:=by first | exact .inl rfl | exact .inr rfl | assumption):PG X (.Name x pos) (a3p i):=by
 intro pins s σ H v u Q I r h
 exact wpAny_assign_Name (a5F I hN hi hx r (fun s' I'=>⟨_,H,I',h⟩) hf)
noncomputable def b6Y:TGs:=fun vs σ H Q=>vs=[]/\Q σ H
noncomputable def b6j (t:TG) (u:TGs):TGs:=fun vs σ H Q=>∃v r,vs=v::r/\t v σ H fun σ' H'=>u r σ' H' Q
theorem M7:PGs X [] b6Y:=by
 intro pins s σ H vs us Q I r h
 obtain⟨e,h⟩:=h
 subst e
 cases r
 exact assignInOrder_nil ⟨σ,H,I,h⟩
theorem U7{e:Expr}{es:List Expr}{t:TG}{u:TGs}(h1:PG X e t)(h2:PGs X es u)
  (hs:(assignEach (e::es) X.env).map (·.2)=assign e X.env::(assignEach es X.env).map (·.2):=by rfl):PGs X (e::es) (b6j t u):=by
 intro pins s σ H vs us Q I r h
 obtain⟨v,vr,e1,h⟩:=h
 subst e1
 cases r with
 | cons r rr=>
  rw[hs]
  refine assignInOrder_cons (thn (h1 pins s σ H _ _ _ I r h) fun _ s1⟨σ1,H1,I1,q1⟩=>?_)
  exact h2 pins s1 σ1 H1 _ _ Q I1 rr q1
noncomputable def b6a (K:W.Frag) (n:Nat) (t:TGs):TG:=fun v σ H Q=>∃a xs,v= .ref a/\SqT K H a xs/\xs.length=n/\t xs σ H Q
theorem a0N{es:List Expr}{k:Nat}{t:TGs}{n:Nat}(hc:X.calm=true)(h:PGs X es t)
  (hn:(assignEach es X.env).length=n:=by rfl)(hst:(assignEach es X.env).findIdx? (·.1)=none:=by rfl):PG X (.Tuple es k pos) (b6a X.K n t):=by
 intro pins s σ H v u Q I r hw
 obtain⟨a,xs,e1,hq,hl,hw⟩:=hw
 subst e1
 cases r
 obtain⟨its,rv,ht,hz⟩:=I.tuple hq
 refine assign_Tuple_tuple (I.ok.hd hc) ht (by simp[hn,<-hl,rv.length]) hst fun h' hx=>?_
 have I1:Inv X pins σ H {s with heap:=h'}:=I.kept (t':=s.toks) fun b o e=>hx b o (Nat.ne_of_lt (AT e)) e
 exact h pins _ σ H xs _ Q I1 (by simpa using rv) hw
noncomputable def b5R (te:TE) (g:TG):TS:=fun D σ H=>te σ H fun x H1=>g x σ H1 D.nx
theorem b5q{tg e:Expr}{te:TE}{g:TG}(he:PE X e te)(hg:PG X tg g)(hs:swapsWithSole [tg] e pos.line X.env=pure false:=by rfl)(hw:swappedStores [tg] e X.env=pure none:=by rfl)
  (h1:(assignEach [tg] X.env).map (·.2)=[assign tg X.env]:=by rfl):PS X (.Assign [tg] e pos) (b5R te g):=by
 intro pins s σ H D I h
 refine wpAny_Assign_stores (thn (he pins s σ H _ I h) fun v s1⟨x,H1,I1,r1,q1⟩=>?_) hs hw
 rw[h1]
 exact thn (hg pins s1 σ H1 x v _ I1 r1 q1) fun _ s2 q=>q
theorem J6{i:Nat}{x:Str}{e:Expr}{te:TE}{pos':Pos}(hN:X.N.Nodup)(hi:X.N[i]?=some x)(hx:Loc X.env.scope x)(he:PE X e te)(hs:swapsWith e (some (.Name x pos')) pos.line X.env=pure false:=by rfl)(hf:X.fn x=true\/X.env.scope.names.lookup x=some .local:=by first | exact .inl rfl | exact .inr rfl | assumption):
  PS X (.Assign [.Name x pos'] e pos) (b5R te (a3p i)):=by
 intro pins s σ H D I h
 refine wpAny_Assign_Name (thn (he pins s σ H _ I h) fun v s1⟨y,H1,I1,r1,q1⟩=>?_) hs
 exact a5F I1 hN hi hx r1 (fun s2 I2=>⟨_,H1,I2,q1⟩) hf
noncomputable def b6V (i:Nat) (te:TE) (ti:TIp):TS:=fun D σ H=>∃x,σ[i]?=some (some x)/\te σ H fun y H1=>ti x y H1 fun z H2=>D.nx (σ.set i (some z)) H2
theorem b5b{i:Nat}{x:Str}{e:Expr}{te:TE}{op:Operator}{ti:TIp}{pos':Pos}(hN:X.N.Nodup)(hi:X.N[i]?=some x)(hx:Loc X.env.scope x)(he:PE X e te)(ho:PIp X op ti)(hf:X.fn x=true\/X.env.scope.names.lookup x=some .local:=by first | exact .inl rfl | exact .inr rfl | assumption):
  PS X (.AugAssign (.Name x pos') op e pos) (b6V i te ti):=by
 intro pins s σ H D I h
 obtain⟨v,e1,h⟩:=h
 obtain⟨m,hn,hl⟩:=I.loc
 have vis:Vis X.env.scope x:=by rcases hx with k | k;exact .inl k;exact .inr (.inl k)
 obtain⟨u,r,l⟩:=hl i x v hi e1 vis
 refine wpAny_AugAssign_Name ?_
 have go:wpAny (model X.prog X.w) X.A (eval e X.env) (fun w s₂=>wpAny (model X.prog X.w) X.A (inplaceOp op u w) (fun r s₃=>wpAny (model X.prog X.w) X.A (storeName X.env x r) (fun _=>SP X pins D .next) X.xe s₃) X.xe s₂) X.xe s:=by
  refine thn (he pins s σ H _ I h) fun w s1⟨y,H1,I1,r1,q1⟩=>?_
  refine thn (ho pins s1 σ H1 v y u w _ I1 r r1 q1) fun z s2⟨zv,H2,I2,r2,q2⟩=>?_
  exact a5F I2 hN hi hx r2 (fun s3 I3=>⟨_,H2,I3,q2⟩) hf
 rcases l with⟨hk,hm⟩ | ⟨hk,c,hc,hcell⟩
 ·exact wpAny_loadName_local I.ok.kind hk hn hm go
 ·rcases hk with hk | hk
  ·exact wpAny_loadName_cell I.ok.kind hk hc hcell go
  ·rcases hx with k | k
   ·have:X.env.scope.names.lookup x=some .free:=hk
    rw[k]at this;cases this
   ·have:X.env.scope.names.lookup x=some .free:=hk
    rw[k]at this;cases this
noncomputable def ipI (f:Int->Int->Int):TIp:=fun x y H Q=>∃i j,x= .int i/\y= .int j/\Q (.int (f i j)) H
theorem b4Y:PIp X .Add (ipI fun i j=>i+j):=by
 intro pins s σ H x y v u Q I r1 r2 h
 obtain⟨i,j,e1,e2,q⟩:=h
 subst e1;subst e2
 obtain⟨t,rfl⟩:=r1
 obtain⟨t',rfl⟩:=r2
 exact iadd_int ⟨.int _,H,I.tok _,⟨_,rfl⟩,q⟩
end
section
variable{X:Cx}{pos:Pos}
noncomputable def a7s (c:TT) (tb:TS):TS:=fun D σ H=>∃W:Nat->St->Hp->Prop,(∃m,W m σ H)/\∀m σ H,W m σ H->
 c σ H fun b H1=>if b=true then∃N:St->Hp->Prop,(∀σ' H',N σ' H'->∃m',m' < m/\W m' σ' H')/\tb {D with nx:=N,ct:=N,bk:=D.nx} σ H1 else D.nx σ H1
theorem a5e{c:Expr}{body:List Stmt}{tc:TT}{tb:TS}(hp:PassesOwn (model X.prog X.w) X.A X.env X.xe)(hc:PT X c tc)(hb:PSs X body tb):PS X (.While c body [] pos) (a7s tc tb):=by
 intro pins s σ H D I h
 obtain⟨W,⟨m0,w0⟩,turn⟩:=h
 refine wpAny_While (codeAny_whileLoop (fun n s'=>∃σ' H',Inv X pins σ' H' s'/\W n σ' H') ?_ m0 ⟨σ,H,I,w0⟩)
 rintro n s1 ⟨σ1,H1,I1,w1⟩
 refine wpAny_passesOwn hp (thn (hc pins s1 σ1 H1 _ I1 (turn n σ1 H1 w1)) fun b s2⟨H2,I2,q2⟩=>?_)
 cases b with
 | true=>
  obtain⟨N,hN,q2⟩:=q2
  rw[if_pos rfl]
  refine wpAny_passesOwn hp (thn (hb pins s2 σ1 H2 _ I2 q2) fun f s3 q3=>?_)
  cases f with
  | next=>
   obtain⟨σ3,H3,I3,n3⟩:=q3
   obtain⟨m',hm,w3⟩:=hN σ3 H3 n3
   exact⟨m',hm,σ3,H3,I3,w3⟩
  | cont=>
   obtain⟨σ3,H3,I3,n3⟩:=q3
   obtain⟨m',hm,w3⟩:=hN σ3 H3 n3
   exact⟨m',hm,σ3,H3,I3,w3⟩
  | brk=>exact q3
  | ret v=>exact q3
 | false=>
  rw[if_neg AD]
  exact wpAny_execs_nil ⟨σ1,H2,I2,q2⟩
end
structure It where
 go:Nat->Hp->Prop
 yld:Nat->Hp->V->Hp->Prop
 stop:Nat->Hp->Prop
noncomputable def a4M (X:Cx) (pins:List (Addr×Obj)) (H:Hp) (b:Addr):Prop:=
 H b=none/\b≠X.env.locals/\b∉X.fs/\(b∈X.ex\/X.s₀.heap.objs.size<=b)/\(∀x c,X.env.cells.lookup x=some c->c≠b)/\∀p∈X.pn++pins,p.1≠b
theorem Inv.fpOk{X:Cx}{pins:List (Addr×Obj)}{σ:St}{H H':Hp}{s:Shared}{b:Addr}(I:Inv X pins σ H s)(hb:s.heap.objs.size<=b)(hn:H' b=none):a4M X pins H' b:=by
 refine⟨hn,Nat.ne_of_gt (AY I.lt hb),I.nofs hb,.inr (Nat.le_trans I.sz hb),fun x c e z=>?_,fun p hp z=>?_⟩
 ·obtain⟨v,q⟩:=I.cell x c e
  exact absurd (AY q.lt (by rw[z];exact hb)) (Nat.lt_irrefl _)
 ·exact absurd (AY (AT (I.pin p hp).1) (by rw[z];exact hb)) (Nat.lt_irrefl _)
structure a8Z(P:Program)(w:World)(K:W.Frag)(tg:Expr)(J:It)(fp:List Addr)(it:Addr)(tn:Nat->Heap->Prop):Prop where
 mem:it∈fp
 obj:∀i h,tn i h->∀b∈fp,∃o,h.get? b=some o/\∀v,o.data≠ .cell v
 keep:∀i h h',tn i h->(∀b∈fp,∀o,h.get? b=some o->h'.get? b=some o)->tn i h'
 item:∀(X:Cx),X.prog=P->X.w=w->X.K=K->X.calm=true->∀(i:Nat)(pins:List (Addr×Obj))(s:Shared)(σ:St)(H:Hp)(E:Value->Shared->Prop),Inv X pins σ H s->(∀b∈fp,a4M X pins H b)->tn i s.heap->J.go i H->
  wpAny (model P w) X.A (pyNext (.ref it)) (fun r s1=>∃u,r=some u/\
   wpAny (model P w) X.A (letOwnedTupleGo tg (.ref it) u) (fun _ s2=>∃x H',Inv X pins σ H' s2/\W4 x u/\J.yld i H x H'/\tn (i+1) s2.heap/\∀b∈fp,H' b=none) E s1) E s
 done:∀(X:Cx),X.prog=P->X.w=w->X.K=K->X.calm=true->∀(i:Nat)(pins:List (Addr×Obj))(s:Shared)(σ:St)(H:Hp)(E:Value->Shared->Prop),Inv X pins σ H s->(∀b∈fp,a4M X pins H b)->tn i s.heap->J.stop i H->
  wpAny (model P w) X.A (pyNext (.ref it)) (fun r s1=>r=none/\Inv X pins σ H s1) E s
 self:∀(A:Around)(i:Nat)(s:Shared)(Q:Value->Shared->Prop)(E:Value->Shared->Prop),tn i s.heap->Q (.ref it) s->wpAny (model P w) A (pyIter (.ref it)) Q E s
noncomputable abbrev TI:=St->Hp->(It->Hp->Prop)->Prop
noncomputable def PIE (X:Cx) (pins:List (Addr×Obj)) (σ:St) (tg:Expr) (R:It->Hp->Prop) (itv:Value) (s2:Shared):Prop:=
 ∃(it:Addr)(fp:List Addr)(tn:Nat->Heap->Prop)(J:It)(H':Hp),itv= .ref it/\Inv X pins σ H' s2/\a8Z X.prog X.w X.K tg J fp it tn/\tn 0 s2.heap/\(∀b∈fp,a4M X pins H' b)/\R J H'
noncomputable def PI (X:Cx) (tg iter:Expr) (wi:TI):Prop:=
 ∀(pins:List (Addr×Obj))(s:Shared)(σ:St)(H:Hp)(R:It->Hp->Prop),Inv X pins σ H s->wi σ H R->
  wpAny (model X.prog X.w) X.A (eval iter X.env) (fun v s1=>wpAny (model X.prog X.w) X.A (pyIter v) (PIE X pins σ tg R) X.xe s1) X.xe s
theorem a8u{M:Model}{A:Around}{E:Value->Shared->Prop}{s:Shared}{tg:Expr}{it:Addr}{u:Value}{o:Obj}{n:String}{vs:Array Value}{Q:Unit->Shared->Prop}(ho:s.heap.get? it=some o)(hc:o.cls= .type n)(hd:o.data= .fields vs)
  (hn:["enumerate","zip","dict_itemiterator","dict_reverseitemiterator","odict_iterator","itertools.zip_longest","itertools.pairwise"].contains n=false)(hQ:Q () s):wpAny M A (letOwnedTupleGo tg (.ref it) u) Q E s:=by
 unfold letOwnedTupleGo
 cases tg<;>first
  | exact AJ hQ
  | (cases u<;>first
    | exact AJ hQ
    | (refine AA (wpAny_load ho ?_)
       rw[hc,hd]
       show wpAny M A (if(["enumerate","zip","dict_itemiterator","dict_reverseitemiterator","odict_iterator","itertools.zip_longest","itertools.pairwise"].contains n && vs[0]?==some (rawInt _))=true then _ else _) Q E s
       rw[if_neg (by intro h;rw[hn,Bool.false_and]at h;cases h)]
       exact AJ hQ))
noncomputable def Itl (K:W.Frag) (a:Addr):It:=
 ⟨fun i H=>∃xs x,SqL K H a xs/\xs[i]?=some x,fun i H x H'=>H'=H/\∀xs,SqL K H a xs->xs[i]?=some x,fun i H=>∃xs,SqL K H a xs/\xs.length<=i⟩
noncomputable def Itt (K:W.Frag) (a:Addr):It:=
 ⟨fun i H=>∃xs x,SqT K H a xs/\xs[i]?=some x,fun i H x H'=>H'=H/\∀xs,SqT K H a xs->xs[i]?=some x,fun i H=>∃xs,SqT K H a xs/\xs.length<=i⟩
noncomputable def Itr (lo:Int) (n:Nat):It:=⟨fun i _=>i < n,fun i H x H'=>H'=H/\x= .int (lo+i),fun i _=>n<=i⟩
theorem b1e{P:Program}{w:World}{K:W.Frag}{tg:Expr}(a it:Addr):a8Z P w K tg (Itl K a) [it] it (fun i h=>h.IsListIter it a i)where
 mem:=by simp
 obj:=fun i h st b hb=>by
  have e:b=it:=by simpa using hb
  subst e
  obtain⟨o,e,c,d⟩:=st
  exact⟨o,e,fun v z=>by rw[d]at z;cases z⟩
 keep:=fun i h h' st k=>st.at fun o e=>k it (by simp) o e
 item:=by
  intro X hP hw hK hc i pins s σ H E I hf st hg
  subst hP hw hK
  obtain⟨xs,x,hq,hx⟩:=hg
  obtain⟨its,rv,p,hz⟩:=I.list hq
  obtain⟨u,hu,ru⟩:=rv.get hx
  obtain⟨f0,f1,f2,f3,f4,f5⟩:=hf it (by simp)
  refine wpAny_pyNext_list_item st p.isList (x:=u) (by simpa using hu) fun h' st' sb=>?_
  have I1:Inv X pins σ H {s with heap:=h'}:=I.turned (t':=s.toks) (fun b o hb e=>(sb.2 b hb).trans e) f0 f1 f3 f4 f5
  obtain⟨o,e,c,d⟩:=id st'
  exact⟨u,rfl,a8u (s:={s with heap:=h'}) e c d (by decide) ⟨x,H,I1,ru,⟨rfl,fun ys hy=>by rw[I.list_inj hy hq];exact hx⟩,st',fun b hb=>(hf b hb).1⟩⟩
 done:=by
  intro X hP hw hK hc i pins s σ H E I hf st hg
  subst hP hw hK
  obtain⟨xs,hq,hx⟩:=hg
  obtain⟨its,rv,p,hz⟩:=I.list hq
  obtain⟨f0,f1,f2,f3,f4,f5⟩:=hf it (by simp)
  have hl:=rv.length
  exact wpAny_pyNext_list_end (I.ok.hd hc) st p.isList (by simp;omega) fun h' eb=>⟨rfl,I.turned (t':=s.toks) (fun b o hb e=>eb b o hb e) f0 f1 f3 f4 f5⟩
 self:=fun _ _ _ _ _ st h=>wpAny_pyIter_listiter st h
theorem a9l{P:Program}{w:World}{K:W.Frag}{tg:Expr}(a it:Addr):a8Z P w K tg (Itt K a) [it] it (fun i h=>h.IsTupleIter it a i)where
 mem:=by simp
 obj:=fun i h st b hb=>by
  have e:b=it:=by simpa using hb
  subst e
  obtain⟨o,e,c,d⟩:=st
  exact⟨o,e,fun v z=>by rw[d]at z;cases z⟩
 keep:=fun i h h' st k=>st.at fun o e=>k it (by simp) o e
 item:=by
  intro X hP hw hK hc i pins s σ H E I hf st hg
  subst hP hw hK
  obtain⟨xs,x,hq,hx⟩:=hg
  obtain⟨its,rv,p,hz⟩:=I.tuple hq
  obtain⟨u,hu,ru⟩:=rv.get hx
  obtain⟨f0,f1,f2,f3,f4,f5⟩:=hf it (by simp)
  refine wpAny_pyNext_tuple_item st (show s.heap.IsTuple a its.toArray from p) (x:=u) (by simpa using hu) fun h' st' sb=>?_
  have I1:Inv X pins σ H {s with heap:=h'}:=I.turned (t':=s.toks) (fun b o hb e=>(sb.2 b hb).trans e) f0 f1 f3 f4 f5
  obtain⟨o,e,c,d⟩:=id st'
  exact⟨u,rfl,a8u (s:={s with heap:=h'}) e c d (by decide) ⟨x,H,I1,ru,⟨rfl,fun ys hy=>by rw[I.tuple_inj hy hq];exact hx⟩,st',fun b hb=>(hf b hb).1⟩⟩
 done:=by
  intro X hP hw hK hc i pins s σ H E I hf st hg
  subst hP hw hK
  obtain⟨xs,hq,hx⟩:=hg
  obtain⟨its,rv,p,hz⟩:=I.tuple hq
  obtain⟨f0,f1,f2,f3,f4,f5⟩:=hf it (by simp)
  have hl:=rv.length
  exact wpAny_pyNext_tuple_end (I.ok.hd hc) st (show s.heap.IsTuple a its.toArray from p) (by simp;omega) fun h' eb=>⟨rfl,I.turned (t':=s.toks) (fun b o hb e=>eb b o hb e) f0 f1 f3 f4 f5⟩
 self:=fun _ _ _ _ _ st h=>wpAny_pyIter_tupleiter st h
theorem a9w{P:Program}{w:World}{K:W.Frag}{tg:Expr}(it:Addr)(lo:Int)(n:Nat):a8Z P w K tg (Itr lo n) [it] it (fun i h=>IsRangeIter h it (lo+(i:Nat)*1) ((n:Int) - (i:Nat)) 1)where
 mem:=by simp
 obj:=fun i h st b hb=>by
  have e:b=it:=by simpa using hb
  subst e
  exact⟨_,st,fun v z=>by
   have z':Data.fields _=Data.cell v:=z
   cases z'⟩
 keep:=fun i h h' st k=>k it (by simp) _ st
 item:=by
  intro X hP hw hK hc i pins s σ H E I hf st hg
  subst hP hw hK
  obtain⟨f0,f1,f2,f3,f4,f5⟩:=hf it (by simp)
  have W:=Walks.range (prog:=X.prog) (w:=X.w) (I.ok.hd hc) it lo 1 n
  refine W.item i s _ _ hg st fun v h' tk hv st' kk=>?_
  obtain⟨t,rfl⟩:=hv
  have I1:Inv X pins σ H {s with heap:=h',toks:=tk}:=I.turned (fun b o hb e=>kk b o (by simpa using hb) e) f0 f1 f3 f4 f5
  refine⟨_,rfl,a8u (s:={s with heap:=h',toks:=tk}) (n:="range_iterator") st' rfl rfl (by decide) ⟨.int (lo+i),H,I1,⟨t,?_⟩,⟨rfl,rfl⟩,st',fun b hb=>(hf b hb).1⟩⟩
  rw[Int.mul_one]
 done:=by
  intro X hP hw hK hc i pins s σ H E I hf st hg
  subst hP hw hK
  obtain⟨f0,f1,f2,f3,f4,f5⟩:=hf it (by simp)
  exact wpAny_pyNext_range_end (I.ok.hd hc) st (by have:n<=i:=hg;omega) fun h' eb=>⟨rfl,I.turned (t':=s.toks) (fun b o hb e=>eb b o hb e) f0 f1 f3 f4 f5⟩
 self:=fun _ _ _ _ _ st h=>wpAny_pyIter_rangeiter st h
end L2
namespace L2
open PySem PySem.Spec PyProof.Rows
section
variable{X:Cx}{tg:Expr}
noncomputable def b6r (K:W.Frag) (tl:TE):TI:=fun σ H R=>tl σ H fun x H1=>∃a,x= .ref a/\(∃xs,SqL K H1 a xs)/\R (Itl K a) H1
noncomputable def b7e (K:W.Frag) (tl:TE):TI:=fun σ H R=>tl σ H fun x H1=>∃a,x= .ref a/\(∃xs,SqT K H1 a xs)/\R (Itt K a) H1
theorem E2{l:Expr}{tl:TE}(hl:PE X l tl):PI X tg l (b6r X.K tl):=by
 intro pins s σ H R I h
 refine thn (hl pins s σ H _ I h) fun v s1⟨x,H1,I1,r1,q1⟩=>?_
 obtain⟨a,e,⟨xs,hq⟩,q⟩:=q1
 subst e
 cases r1
 obtain⟨its,rv,p,hz⟩:=I1.list hq
 refine wpAny_pyIter_list p.isList ?_
 refine⟨s1.heap.objs.size,[s1.heap.objs.size],_,_,H1,rfl,I1.kept (t':=s1.toks) fun b o e=>AH _ e,b1e a _,⟨_,AS _ rfl,rfl,rfl⟩,fun b hb=>?_,q⟩
 have e:b=s1.heap.objs.size:=by simpa using hb
 subst e
 exact I1.fpOk (AE _) (I1.hok.fresh (AE _))
theorem a2w{l:Expr}{tl:TE}(hl:PE X l tl):PI X tg l (b7e X.K tl):=by
 intro pins s σ H R I h
 refine thn (hl pins s σ H _ I h) fun v s1⟨x,H1,I1,r1,q1⟩=>?_
 obtain⟨a,e,⟨xs,hq⟩,q⟩:=q1
 subst e
 cases r1
 obtain⟨its,rv,p,hz⟩:=I1.tuple hq
 refine wpAny_pyIter_tuple (show s1.heap.IsTuple a its.toArray from p) ?_
 refine⟨s1.heap.objs.size,[s1.heap.objs.size],_,_,H1,rfl,I1.kept (t':=s1.toks) fun b o e=>AH _ e,a9l a _,⟨_,AS _ rfl,rfl,rfl⟩,fun b hb=>?_,q⟩
 have e:b=s1.heap.objs.size:=by simpa using hb
 subst e
 exact I1.fpOk (AE _) (I1.hok.fresh (AE _))
theorem b1F{pins:List (Addr×Obj)}{σ:St}{H:Hp}{s:Shared}{R:It->Hp->Prop}{E:Value->Shared->Prop}{lo hi:Int}{t u v:Tok}{tk:Nat}(I:Inv X pins σ H s)(h1: -(2 ^ 62)<=lo)(h2:lo < 2 ^ 62)(h3: -(2 ^ 62)<=hi)(h4:hi < 2 ^ 62)
  (q:R (Itr lo (hi - lo).toNat) H):wpAny (model X.prog X.w) X.A (pyIter (.ref s.heap.objs.size)) (PIE X pins σ tg R) E {s with heap:=s.heap.push {cls:= .type "range",data:= .fields #[.int lo t,.int hi u,.int 1 v]},toks:=tk}:=by
 refine wpAny_pyIter_range (IsRange.new ..) (small_one h1 h2 h3 h4) ?_
 have I1:Inv X pins σ H {s with heap:=s.heap.push {cls:= .type "range",data:= .fields #[.int lo t,.int hi u,.int 1 v]},toks:=tk}:=I.kept fun b o e=>AH _ e
 refine⟨(s.heap.push {cls:= .type "range",data:= .fields #[.int lo t,.int hi u,.int 1 v]}).objs.size,[(s.heap.push {cls:= .type "range",data:= .fields #[.int lo t,.int hi u,.int 1 v]}).objs.size],_,_,H,rfl,
  I1.kept (t':=tk) fun b o e=>AH _ e,a9w _ lo (hi - lo).toNat,?_,fun b hb=>?_,q⟩
 ·have e1:lo+((0:Nat):Int)*1=lo:=by simp
  have e2:(((hi - lo).toNat:Nat):Int) - ((0:Nat):Int)=Builtin.Range.rangeSize lo hi 1:=by rw[rangeSize_one];split<;>omega
  show IsRangeIter _ _ (lo+((0:Nat):Int)*1) ((((hi - lo).toNat:Nat):Int) - ((0:Nat):Int)) 1
  rw[e1,e2]
  exact AS _ rfl
 ·have e:b=(s.heap.push {cls:= .type "range",data:= .fields #[.int lo t,.int hi u,.int 1 v]}).objs.size:=by simpa using hb
  subst e
  exact I1.fpOk (AE _) (I1.hok.fresh (AE _))
noncomputable def b6v (ta:TA):TI:=fun σ H R=>ta σ H fun vs H1=>∃j:Int,vs=[.int j]/\ -(2 ^ 62)<=j/\j < 2 ^ 62/\R (Itr 0 j.toNat) H1
theorem Z4{a:Expr}{ta:TA}{p pos:Pos}(hg:Gl X "range")(hm:X.mg "range"=none)(ha:PA X [a] ta)(hs:starEach [a] X.env=[(false,eval a X.env)]:=by rfl):PI X tg (.Call (.Name "range" p) [a] [] pos) (b6v ta):=by
 intro pins s σ H R I h
 refine Call_ (a4w I hg hm boot_range (PyProof.Rows.callWith_type1 (thn (ha pos pins s σ H _ I h) fun us s1⟨vs,H1,I1,r1,q1⟩=>?_) hs rfl))
 obtain⟨j,e,q1,q2,q⟩:=q1
 subst e
 cases r1 with
 | cons r rr=>
  cases rr
  obtain⟨t,rfl⟩:=r
  exact call_range_1 (b1F I1 (by omega) (by omega) q1 q2 (by simpa using q))
noncomputable def b7b (wi:TI) (g:TG) (tb:TS):TS:=fun D σ H=>wi σ H fun J H1=>∃W:Nat->Nat->St->Hp->Prop,(∃m,W 0 m σ H1)/\∀i m σ H,W i m σ H->
 (J.stop i H/\D.nx σ H)\/(J.go i H/\∃N:St->Hp->Prop,(∀σ' H',N σ' H'->∃m',m' < m/\W (i+1) m' σ' H')/\∀x H',J.yld i H x H'->g x σ H' fun σ2 H2=>tb {D with nx:=N,ct:=N,bk:=D.nx} σ2 H2)
noncomputable def a5L (fp:List Addr) (h:Heap):List (Addr×Obj):=fp.filterMap fun b=>(h.get? b).map fun o=>(b,o)
theorem a2r{fp:List Addr}{h:Heap}{b:Addr}{o:Obj}(hb:b∈fp)(e:h.get? b=some o):(b,o)∈a5L fp h:=List.mem_filterMap.mpr ⟨b,hb,by rw[e];rfl⟩
theorem b1m{fp:List Addr}{h:Heap}{p:Addr×Obj}(hp:p∈a5L fp h):p.1∈fp/\h.get? p.1=some p.2:=by
 obtain⟨b,hb,e⟩:=List.mem_filterMap.mp hp
 cases q:h.get? b with
 | none=>rw[q]at e;cases e
 | some o=>
  rw[q]at e
  have e':(b,o)=p:=Option.some.inj e
  subst e'
  exact⟨hb,q⟩
theorem Inv.pinned{pins:List (Addr×Obj)}{σ:St}{H:Hp}{s:Shared}{fp:List Addr}(I:Inv X pins σ H s)(hf:∀b∈fp,a4M X pins H b)(ho:∀b∈fp,∃o,s.heap.get? b=some o/\∀v,o.data≠ .cell v):Inv X (pins++a5L fp s.heap) σ H s:=
 I.pins_of fun p hp=>(AK.mp hp).elim (fun z=>I.pin p (AW _ z)) fun z=>by
  obtain⟨hb,e⟩:=b1m z
  obtain⟨f0,f1,f2,_⟩:=hf p.1 hb
  obtain⟨o,e',d⟩:=ho p.1 hb
  rw[e]at e';cases e'
  exact⟨e,f0,f1,f2,d⟩
theorem Inv.unpinned{pins pl:List (Addr×Obj)}{σ:St}{H:Hp}{s:Shared}(I:Inv X (pins++pl) σ H s):Inv X pins σ H s:=I.pins_of fun p hp=>I.pin p (AW _ (BA _ hp))
theorem Y2{iter:Expr}{body:List Stmt}{wi:TI}{g:TG}{tb:TS}{pos:Pos}(hp:PassesOwn (model X.prog X.w) X.A X.env X.xe)(hc:X.calm=true)(hi:PI X tg iter wi)(hg:PG X tg g)(hb:PSs X body tb)
  (hs:∀x,foldedSetIterable iter X.env x=pure x:=by intro _;rfl):PS X (.For tg iter body [] pos) (b7b wi g tb):=by
 intro pins s σ H D I h
 refine wpAny_For (thn (hi pins s σ H _ I h) fun v s1 h1=>thn h1 fun itv s2 h2=>?_) hs
 obtain⟨it,fp,tn,J,H2,e,I2,T,st2,f2,W,⟨m0,w0⟩,turn⟩:=h2
 subst e
 have stat:∀{H':Hp},(∀b∈fp,H' b=none)->∀b∈fp,a4M X pins H' b:=fun hn b hb=>⟨hn b hb,(f2 b hb).2⟩
 refine codeAny_forLoop_any (fun n s'=>∃i σ' H',Inv X pins σ' H' s'/\tn i s'.heap/\(∀b∈fp,H' b=none)/\W i n σ' H') ?_ m0 ⟨0,σ,H2,I2,st2,fun b hb=>(f2 b hb).1,w0⟩
 rintro n s3 ⟨i,σ3,H3,I3,st3,fr3,w3⟩
 rcases turn i n σ3 H3 w3 with⟨stop,qn⟩ | ⟨go,N,hN,step⟩
 ·refine wpAny_passesOwn hp (thn (T.done X rfl rfl rfl hc i pins s3 σ3 H3 X.xe I3 (stat fr3) st3 stop) fun r s4⟨hr,I4⟩=>?_)
  subst hr
  exact wpAny_execs_nil ⟨σ3,H3,I4,qn⟩
 ·refine wpAny_passesOwn hp (thn (T.item X rfl rfl rfl hc i pins s3 σ3 H3 X.xe I3 (stat fr3) st3 go) fun r s4⟨u,hr,h4⟩=>?_)
  subst hr
  refine wpAny_passesOwn hp (thn h4 fun _ s5⟨x,H5,I5,r5,y5,st5,fr5⟩=>?_)
  have I5':=I5.pinned (stat fr5) (T.obj _ _ st5)
  refine wpAny_passesOwn hp (thn (hg _ s5 σ3 H5 x u _ I5' r5 (step x H5 y5)) fun _ s6⟨σ6,H6,I6,q6⟩=>?_)
  refine wpAny_passesOwn hp (thn (hb _ s6 σ6 H6 _ I6 q6) fun f s7 q7=>?_)
  have again:∀{σ7:St}{H7:Hp},Inv X (pins++a5L fp s5.heap) σ7 H7 s7->N σ7 H7->∃m,m < n/\∃i σ' H',Inv X pins σ' H' s7/\tn i s7.heap/\(∀b∈fp,H' b=none)/\W i m σ' H':=fun{σ7 H7}I7 n7=>by
   obtain⟨m',hm,w7⟩:=hN σ7 H7 n7
   refine⟨m',hm,i+1,σ7,H7,I7.unpinned,T.keep _ _ _ st5 fun b hb o e=>(I7.pin (b,o) (AW _ (AW _ (a2r hb e)))).1,fun b hb=>?_,w7⟩
   obtain⟨o,e,d⟩:=T.obj _ _ st5 b hb
   exact(I7.pin (b,o) (AW _ (AW _ (a2r hb e)))).2.1
  cases f with
  | next=>obtain⟨σ7,H7,I7,n7⟩:=q7;exact again I7 n7
  | cont=>obtain⟨σ7,H7,I7,n7⟩:=q7;exact again I7 n7
  | brk=>obtain⟨σ7,H7,I7,q7⟩:=q7;exact⟨σ7,H7,I7.unpinned,q7⟩
  | ret v=>obtain⟨x7,σ7,H7,I7,r7,q7⟩:=q7;exact⟨x7,σ7,H7,I7.unpinned,r7,q7⟩
end
theorem a0O{K:W.Frag}{a:Addr}{xs:List V}{g:TG}{tb:TS}{D:a1F}{σ:St}{H:Hp}(Pv:Nat->St->Hp->Prop)(h0:Pv 0 σ H)(hl:∀i σ H,i<=xs.length->Pv i σ H->SqL K H a xs)
  (hs:∀i x σ H,xs[i]?=some x->Pv i σ H->g x σ H fun σ2 H2=>tb {D with nx:=Pv (i+1),ct:=Pv (i+1),bk:=D.nx} σ2 H2)(hd:∀σ H,Pv xs.length σ H->D.nx σ H):
  ∃W:Nat->Nat->St->Hp->Prop,(∃m,W 0 m σ H)/\∀i m σ H,W i m σ H->
   ((Itl K a).stop i H/\D.nx σ H)\/((Itl K a).go i H/\∃N:St->Hp->Prop,(∀σ' H',N σ' H'->∃m',m' < m/\W (i+1) m' σ' H')/\∀x H',(Itl K a).yld i H x H'->g x σ H' fun σ2 H2=>tb {D with nx:=N,ct:=N,bk:=D.nx} σ2 H2):=by
 refine⟨fun i m σ H=>m=xs.length - i/\i<=xs.length/\Pv i σ H,⟨xs.length,by simp,AZ _,h0⟩,?_⟩
 rintro i m σ H ⟨rfl,hi,p⟩
 have q:=hl i σ H hi p
 by_cases hlt:i < xs.length
 ·refine .inr ⟨⟨xs,xs[i],q,by simp[hlt]⟩,Pv (i+1),fun σ' H' p'=>⟨xs.length - (i+1),by omega,rfl,hlt,p'⟩,fun x H' y=>?_⟩
  obtain⟨e,y⟩:=y
  subst e
  exact hs i x σ _ (y xs q) p
 ·have e:i=xs.length:=by omega
  subst e
  exact .inl ⟨⟨xs,q,AE _⟩,hd σ H p⟩
theorem a1C{K:W.Frag}{a:Addr}{xs:List V}{g:TG}{tb:TS}{D:a1F}{σ:St}{H:Hp}(Pv:Nat->St->Hp->Prop)(h0:Pv 0 σ H)(hl:∀i σ H,i<=xs.length->Pv i σ H->SqT K H a xs)
  (hs:∀i x σ H,xs[i]?=some x->Pv i σ H->g x σ H fun σ2 H2=>tb {D with nx:=Pv (i+1),ct:=Pv (i+1),bk:=D.nx} σ2 H2)(hd:∀σ H,Pv xs.length σ H->D.nx σ H):
  ∃W:Nat->Nat->St->Hp->Prop,(∃m,W 0 m σ H)/\∀i m σ H,W i m σ H->
   ((Itt K a).stop i H/\D.nx σ H)\/((Itt K a).go i H/\∃N:St->Hp->Prop,(∀σ' H',N σ' H'->∃m',m' < m/\W (i+1) m' σ' H')/\∀x H',(Itt K a).yld i H x H'->g x σ H' fun σ2 H2=>tb {D with nx:=N,ct:=N,bk:=D.nx} σ2 H2):=by
 refine⟨fun i m σ H=>m=xs.length - i/\i<=xs.length/\Pv i σ H,⟨xs.length,by simp,AZ _,h0⟩,?_⟩
 rintro i m σ H ⟨rfl,hi,p⟩
 have q:=hl i σ H hi p
 by_cases hlt:i < xs.length
 ·refine .inr ⟨⟨xs,xs[i],q,by simp[hlt]⟩,Pv (i+1),fun σ' H' p'=>⟨xs.length - (i+1),by omega,rfl,hlt,p'⟩,fun x H' y=>?_⟩
  obtain⟨e,y⟩:=y
  subst e
  exact hs i x σ _ (y xs q) p
 ·have e:i=xs.length:=by omega
  subst e
  exact .inl ⟨⟨xs,q,AE _⟩,hd σ H p⟩
theorem M1{lo:Int}{n:Nat}{g:TG}{tb:TS}{D:a1F}{σ:St}{H:Hp}(Pv:Nat->St->Hp->Prop)(h0:Pv 0 σ H)
  (hs:∀i σ H,i < n->Pv i σ H->g (.int (lo+i)) σ H fun σ2 H2=>tb {D with nx:=Pv (i+1),ct:=Pv (i+1),bk:=D.nx} σ2 H2)(hd:∀σ H,Pv n σ H->D.nx σ H):
  ∃W:Nat->Nat->St->Hp->Prop,(∃m,W 0 m σ H)/\∀i m σ H,W i m σ H->
   ((Itr lo n).stop i H/\D.nx σ H)\/((Itr lo n).go i H/\∃N:St->Hp->Prop,(∀σ' H',N σ' H'->∃m',m' < m/\W (i+1) m' σ' H')/\∀x H',(Itr lo n).yld i H x H'->g x σ H' fun σ2 H2=>tb {D with nx:=N,ct:=N,bk:=D.nx} σ2 H2):=by
 refine⟨fun i m σ H=>m=n - i/\i<=n/\Pv i σ H,⟨n,by simp,AZ _,h0⟩,?_⟩
 rintro i m σ H ⟨rfl,hi,p⟩
 by_cases hlt:i < n
 ·refine .inr ⟨hlt,Pv (i+1),fun σ' H' p'=>⟨n - (i+1),by omega,rfl,hlt,p'⟩,fun x H' y=>?_⟩
  obtain⟨e,y⟩:=y
  subst e y
  exact hs i σ _ hlt p
 ·have e:i=n:=by omega
  subst e
  exact .inl ⟨AE _,hd σ H p⟩
theorem a5B{c:TT}{tb:TS}{D:a1F}{σ:St}{H:Hp}(Pv:St->Hp->Prop)(μ:St->Hp->Nat)(h0:Pv σ H)
  (hs:∀σ H,Pv σ H->c σ H fun b H1=>if b=true then tb {D with nx:=fun σ' H'=>Pv σ' H'/\μ σ' H' < μ σ H,ct:=fun σ' H'=>Pv σ' H'/\μ σ' H' < μ σ H,bk:=D.nx} σ H1 else D.nx σ H1)
  (mono:∀σ H Q Q',(∀b H1,Q b H1->Q' b H1)->c σ H Q->c σ H Q'):a7s c tb D σ H:=by
 refine⟨fun m σ H=>m=μ σ H/\Pv σ H,⟨_,rfl,h0⟩,?_⟩
 rintro m σ H ⟨rfl,p⟩
 refine mono σ H _ _ (fun b H1 q=>?_) (hs σ H p)
 cases b with
 | true=>exact⟨_,fun σ' H'⟨p',l⟩=>⟨_,l,rfl,p'⟩,q⟩
 | false=>exact q
end L2
namespace L2
open PySem PySem.Spec PyProof.Rows
noncomputable abbrev R2:=V->V->Hp->VK->Prop
noncomputable def OpR (X:Cx) (f:Value->Value->Sem Value) (r:R2):Prop:=
 ∀(pins:List (Addr×Obj))(s:Shared)(σ:St)(H:Hp)(x y:V)(v u:Value)(Q:VK),Inv X pins σ H s->W4 x v->W4 y u->r x y H Q->
  wpAny (model X.prog X.w) X.A (f v u) (EP X pins σ Q) X.xe s
noncomputable def UnR (X:Cx) (f:Value->Sem Value) (r:V->Hp->VK->Prop):Prop:=
 ∀(pins:List (Addr×Obj))(s:Shared)(σ:St)(H:Hp)(x:V)(v:Value)(Q:VK),Inv X pins σ H s->W4 x v->r x H Q->
  wpAny (model X.prog X.w) X.A (f v) (EP X pins σ Q) X.xe s
noncomputable def a1b (X:Cx) (f:Value) (r:List V->Hp->VK->Prop):Prop:=
 ∀(pins:List (Addr×Obj))(s:Shared)(σ:St)(H:Hp)(xs:List V)(us:List Value)(Q:VK),Inv X pins σ H s->W0 xs us->r xs H Q->
  wpAny (model X.prog X.w) X.A (call f us) (EP X pins σ Q) X.xe s
noncomputable def b7a (X:Cx) (r:V->Hp->(Bool->Hp->Prop)->Prop):Prop:=
 ∀(pins:List (Addr×Obj))(s:Shared)(σ:St)(H:Hp)(x:V)(v:Value)(Q:Bool->Hp->Prop),Inv X pins σ H s->W4 x v->r x H Q->
  wpAny (model X.prog X.w) X.A (truthy v) (TP X pins σ Q) X.xe s
noncomputable def tOp (r:R2) (ta tb:TE):TE:=fun σ H Q=>ta σ H fun x H1=>tb σ H1 fun y H2=>r x y H2 Q
noncomputable def tUn (r:V->Hp->VK->Prop) (ta:TE):TE:=fun σ H Q=>ta σ H fun x H1=>r x H1 Q
noncomputable def rI (C:Int->Int->Prop) (g:Int->Int->V):R2:=fun x y H Q=>∃i j,x= .int i/\y= .int j/\C i j/\Q (g i j) H
noncomputable def rI0 (g:Int->Int->V):R2:=fun x y H Q=>∃i j,x= .int i/\y= .int j/\Q (g i j) H
noncomputable def rU (g:Int->V):V->Hp->VK->Prop:=fun x H Q=>∃i,x= .int i/\Q (g i) H
section
variable{X:Cx}{a b c:Expr}{ta tb tc:TE}{pos:Pos}
theorem b5Q(ha:PE X a ta)(hb:PE X b tb){pins:List (Addr×Obj)}{s:Shared}{σ:St}{H:Hp}{R:V->V->Hp->Prop}(I:Inv X pins σ H s)
  (h:ta σ H fun x H1=>tb σ H1 fun y H2=>R x y H2){Q:Value->Shared->Prop}{f:Value->Value->Sem Value}
  (hf:∀v u s2 x y H2,Inv X pins σ H2 s2->W4 x v->W4 y u->R x y H2->wpAny (model X.prog X.w) X.A (f v u) Q X.xe s2):
  wpAny (model X.prog X.w) X.A (eval a X.env) (fun v s₁=>wpAny (model X.prog X.w) X.A (eval b X.env) (fun u s₂=>wpAny (model X.prog X.w) X.A (f v u) Q X.xe s₂) X.xe s₁) X.xe s:=by
 refine thn (ha pins s σ H _ I h) fun v s1⟨x,H1,I1,r1,q1⟩=>?_
 refine thn (hb pins s1 σ H1 _ I1 q1) fun u s2⟨y,H2,I2,r2,q2⟩=>?_
 exact hf v u s2 x y H2 I2 r1 r2 q2
theorem J4{op:Operator}{r:R2}(ho:OpR X (binaryOp op) r)(ha:PE X a ta)(hb:PE X b tb):PE X (.BinOp a op b pos) (tOp r ta tb):=by
 intro pins s σ H Q I h
 exact wpAny_BinOp (b5Q ha hb I h fun v u s2 x y H2 I2 rx ry q=>ho pins s2 σ H2 x y v u Q I2 rx ry q)
theorem b4A{op:UnaryOp}{r:V->Hp->VK->Prop}(ho:UnR X (unaryOp op) r)(ha:PE X a ta):PE X (.UnaryOp op a pos) (tUn r ta):=by
 intro pins s σ H Q I h
 exact UnaryOp_ (thn (ha pins s σ H _ I h) fun v s1⟨x,H1,I1,r1,q1⟩=>ho pins s1 σ H1 x v Q I1 r1 q1)
theorem opI{f:Value->Value->Sem Value}{C:Int->Int->Prop}{g:Int->Int->Int}
  (rule:∀(i j:Int)(t u:Tok)(s:Shared)(Q:Value->Shared->Prop)(E:Value->Shared->Prop),C i j->Q (.int (g i j) s.toks) {s with toks:=s.toks+1}->wpAny (model X.prog X.w) X.A (f (.int i t) (.int j u)) Q E s):
  OpR X f (rI C fun i j=> .int (g i j)):=by
 intro pins s σ H x y v u Q I rx ry h
 obtain⟨i,j,rfl,rfl,hc,q⟩:=h
 obtain⟨t,rfl⟩:=rx
 obtain⟨t',rfl⟩:=ry
 exact rule i j t t' s _ _ hc ⟨.int (g i j),H,I.tok _,⟨_,rfl⟩,q⟩
theorem b5V{f:Value->Value->Sem Value}{g:Int->Int->Int}
  (rule:∀(i j:Int)(t u:Tok)(s:Shared)(Q:Value->Shared->Prop)(E:Value->Shared->Prop),Q (.int (g i j) s.toks) {s with toks:=s.toks+1}->wpAny (model X.prog X.w) X.A (f (.int i t) (.int j u)) Q E s):
  OpR X f (rI0 fun i j=> .int (g i j)):=by
 intro pins s σ H x y v u Q I rx ry h
 obtain⟨i,j,rfl,rfl,q⟩:=h
 obtain⟨t,rfl⟩:=rx
 obtain⟨t',rfl⟩:=ry
 exact rule i j t t' s _ _ ⟨.int (g i j),H,I.tok _,⟨_,rfl⟩,q⟩
theorem b5T{f:Value->Value->Sem Value}{g:Int->Int->Bool}
  (rule:∀(i j:Int)(t u:Tok)(s:Shared)(Q:Value->Shared->Prop)(E:Value->Shared->Prop),Q (.bool (g i j)) s->wpAny (model X.prog X.w) X.A (f (.int i t) (.int j u)) Q E s):
  OpR X f (rI0 fun i j=> .bl (g i j)):=by
 intro pins s σ H x y v u Q I rx ry h
 obtain⟨i,j,rfl,rfl,q⟩:=h
 obtain⟨t,rfl⟩:=rx
 obtain⟨t',rfl⟩:=ry
 exact rule i j t t' s _ _ ⟨.bl (g i j),H,I,rfl,q⟩
noncomputable def b7d (i j:Int):Prop:=0 < j/\j < 1073741824
noncomputable def b7j (i j:Int):Prop:=0<=j/\j<=1000000/\i.natAbs < 2 ^ 64
noncomputable def b5m (i j:Int):Prop:=(-(2 ^ 64) < i/\i < 2 ^ 64)\/(-(2 ^ 64) < j/\j < 2 ^ 64)
theorem b5m.ok{i j:Int}(h:b5m i j):IntMulOk i j:=by
 rcases h with⟨h1,h2⟩ | ⟨h1,h2⟩
 ·exact .of_left (intBits_le_64 h1 h2)
 ·exact .of_right (intBits_le_64 h1 h2)
theorem O6:OpR X (binaryOp .Add) (rI0 fun i j=> .int (i+j)):=b5V fun _ _ _ _ _ _ _ q=>add_int q
theorem a7B:OpR X (binaryOp .Sub) (rI0 fun i j=> .int (i - j)):=b5V fun _ _ _ _ _ _ _ q=>sub_int q
theorem a0R:OpR X (binaryOp .Mult) (rI b5m fun i j=> .int (i*j)):=opI fun _ _ _ _ _ _ _ hc q=>mul_int q hc.ok
theorem M5:OpR X (binaryOp .FloorDiv) (rI b7d fun i j=> .int (i/j)):=opI fun i j _ _ _ _ _ hc q=>by
 have h1:(0:Int) < j:=hc.1
 have h2:j < 1073741824:=hc.2
 exact floordiv_int (by omega) (by rw[Int.fdiv_eq_ediv_of_nonneg i (by omega)];exact q) (.inl (PyProof.noPylong_small (by omega)))
theorem O0:OpR X (binaryOp .Mod) (rI (fun _ j=>0 < j) fun i j=> .int (i % j)):=opI fun i j _ _ _ _ _ hc q=>by
 have h1:(0:Int) < j:=hc
 exact mod_int' (by omega) (by rw[Int.fmod_eq_emod_of_nonneg i (by omega)];exact q)
theorem a7u:OpR X (binaryOp .Pow) (rI b7j fun i j=> .int (i ^ j.toNat)):=opI fun _ _ _ _ _ _ _ hc q=>pow_int_small hc.1 hc.2.1 hc.2.2 q
theorem unI{f:Value->Sem Value}{g:Int->Int}
  (rule:∀(i:Int)(t:Tok)(s:Shared)(Q:Value->Shared->Prop)(E:Value->Shared->Prop),Q (.int (g i) s.toks) {s with toks:=s.toks+1}->wpAny (model X.prog X.w) X.A (f (.int i t)) Q E s):
  UnR X f (rU fun i=> .int (g i)):=by
 intro pins s σ H x v Q I rx h
 obtain⟨i,rfl,q⟩:=h
 obtain⟨t,rfl⟩:=rx
 exact rule i t s _ _ ⟨.int (g i),H,I.tok _,⟨_,rfl⟩,q⟩
theorem b1Z:UnR X (unaryOp .USub) (rU fun i=> .int (-i)):=unI fun _ _ _ _ _ q=>neg_int q
end
noncomputable def b4W:V->V->Bool
 | .non,.non=>true | .non,.int _=>true | .int _,.non=>true | .non,.bl _=>true | .bl _,.non=>true | .non,.str _=>true | .str _,.non=>true
 | .int _,.int _=>true | .bl _,.bl _=>true | .str _,.str _=>true | .byt _,.byt _=>true
 | .int _,.str _=>true | .str _,.int _=>true | .bl _,.str _=>true | .str _,.bl _=>true
 | _,_=>false
noncomputable def rEq:R2:=fun x y H Q=>b4W x y=true/\Q (.bl (decide (x=y))) H
noncomputable def rNe:R2:=fun x y H Q=>b4W x y=true/\Q (.bl (!decide (x=y))) H
theorem b0v{i j:Int}:decide (V.int i=V.int j)=(i==j):=by
 rw[Bool.eq_iff_iff]
 simp
theorem b1B{i j:Bool}:decide (V.bl i=V.bl j)=(i==j):=by
 rw[Bool.eq_iff_iff]
 simp
theorem a4V{i j:Str}:decide (V.str i=V.str j)=(i==j):=by
 rw[Bool.eq_iff_iff]
 simp
theorem b0t{i j:Array UInt8}:decide (V.byt i=V.byt j)=(i.toList==j.toList):=by
 rw[Bool.eq_iff_iff]
 cases i
 cases j
 simp
section
variable{X:Cx}{a b c:Expr}{ta tb tc:TE}{pos:Pos}
theorem Y6{pins:List (Addr×Obj)}{σ:St}{H:Hp}{s:Shared}{Q:VK}{k k':Bool}(I:Inv X pins σ H s)(q:Q (.bl k) H)(e:k=k'):EP X pins σ Q (.bool k') s:=by
 subst e
 exact⟨.bl k,H,I,rfl,q⟩
theorem Y5:OpR X (compareOp .Eq) rEq:=by
 intro pins s σ H x y v u Q I rx ry h
 obtain⟨hs,q⟩:=h
 cases x with
 | non=>
  cases rx
  cases y with
  | non=>cases ry;exact PySem.EqNone.eq_none_none (Y6 I q (by simp))
  | bl j=>cases ry;exact PySem.EqNone.eq_none_bool (Y6 I q (by simp))
  | int j=>obtain⟨t',rfl⟩:=ry;exact PySem.EqNone.eq_none_int (Y6 I q (by simp))
  | str j=>obtain⟨t',rfl⟩:=ry;exact PySem.EqNone.eq_none_str (Y6 I q (by simp))
  | _=>exact absurd (show false=true from hs) AD
 | bl i=>
  cases rx
  cases y with
  | non=>cases ry;exact PySem.EqNone.eq_bool_none (Y6 I q (by simp))
  | bl j=>cases ry;exact eq_bool (Y6 I q b1B)
  | str j=>obtain⟨t',rfl⟩:=ry;exact PySem.EqMixed.eq_bool_str (Y6 I q (by simp))
  | _=>exact absurd (show false=true from hs) AD
 | int i=>
  obtain⟨t,rfl⟩:=rx
  cases y with
  | non=>cases ry;exact PySem.EqNone.eq_int_none (Y6 I q (by simp))
  | int j=>obtain⟨t',rfl⟩:=ry;exact eq_int (Y6 I q b0v)
  | str j=>obtain⟨t',rfl⟩:=ry;exact PySem.EqMixed.eq_int_str (Y6 I q (by simp))
  | _=>exact absurd (show false=true from hs) AD
 | str i=>
  obtain⟨t,rfl⟩:=rx
  cases y with
  | non=>cases ry;exact PySem.EqNone.eq_str_none (Y6 I q (by simp))
  | bl j=>cases ry;exact PySem.EqMixed.eq_str_bool (Y6 I q (by simp))
  | int j=>obtain⟨t',rfl⟩:=ry;exact PySem.EqMixed.eq_str_int (Y6 I q (by simp))
  | str j=>obtain⟨t',rfl⟩:=ry;exact eq_str (Y6 I q a4V)
  | _=>exact absurd (show false=true from hs) AD
 | byt i=>
  obtain⟨t,rfl⟩:=rx
  cases y with
  | byt j=>obtain⟨t',rfl⟩:=ry;exact W.eq_bytes (Y6 I q b0t)
  | _=>exact absurd (show false=true from hs) AD
 | _=>cases y<;>exact absurd (show false=true from hs) AD
theorem b6d:OpR X (compareOp .NotEq) rNe:=by
 intro pins s σ H x y v u Q I rx ry h
 obtain⟨hs,q⟩:=h
 cases x with
 | non=>
  cases rx
  cases y with
  | non=>cases ry;exact PySem.EqNone.ne_none_none (Y6 I q (by simp))
  | bl j=>cases ry;exact PySem.EqNone.ne_none_bool (Y6 I q (by simp))
  | int j=>obtain⟨t',rfl⟩:=ry;exact PySem.EqNone.ne_none_int (Y6 I q (by simp))
  | str j=>obtain⟨t',rfl⟩:=ry;exact PySem.EqNone.ne_none_str (Y6 I q (by simp))
  | _=>exact absurd (show false=true from hs) AD
 | bl i=>
  cases rx
  cases y with
  | non=>cases ry;exact PySem.EqNone.ne_bool_none (Y6 I q (by simp))
  | bl j=>cases ry;exact ne_bool (Y6 I q (congrArg not b1B))
  | str j=>obtain⟨t',rfl⟩:=ry;exact PySem.EqMixed.ne_bool_str (Y6 I q (by simp))
  | _=>exact absurd (show false=true from hs) AD
 | int i=>
  obtain⟨t,rfl⟩:=rx
  cases y with
  | non=>cases ry;exact PySem.EqNone.ne_int_none (Y6 I q (by simp))
  | int j=>obtain⟨t',rfl⟩:=ry;exact ne_int (Y6 I q (congrArg not b0v))
  | str j=>obtain⟨t',rfl⟩:=ry;exact PySem.EqMixed.ne_int_str (Y6 I q (by simp))
  | _=>exact absurd (show false=true from hs) AD
 | str i=>
  obtain⟨t,rfl⟩:=rx
  cases y with
  | non=>cases ry;exact PySem.EqNone.ne_str_none (Y6 I q (by simp))
  | bl j=>cases ry;exact PySem.EqMixed.ne_str_bool (Y6 I q (by simp))
  | int j=>obtain⟨t',rfl⟩:=ry;exact PySem.EqMixed.ne_str_int (Y6 I q (by simp))
  | str j=>obtain⟨t',rfl⟩:=ry;exact ne_str (Y6 I q (congrArg not a4V))
  | _=>exact absurd (show false=true from hs) AD
 | byt i=>
  obtain⟨t,rfl⟩:=rx
  cases y with
  | byt j=>obtain⟨t',rfl⟩:=ry;exact W.ne_bytes (Y6 I q (congrArg not b0t))
  | _=>exact absurd (show false=true from hs) AD
 | _=>cases y<;>exact absurd (show false=true from hs) AD
theorem a5J:OpR X (compareOp .Lt) (rI0 fun i j=> .bl (decide (i < j))):=b5T fun _ _ _ _ _ _ _ q=>lt_int q
theorem a9V:OpR X (compareOp .LtE) (rI0 fun i j=> .bl (decide (i<=j))):=b5T fun _ _ _ _ _ _ _ q=>le_int q
theorem b2Q:OpR X (compareOp .Gt) (rI0 fun i j=> .bl (decide (j < i))):=b5T fun _ _ _ _ _ _ _ q=>gt_int q
theorem R4(b:Expr){op:CmpOp}(h:op≠ .In:=by decide)(h2:op≠ .NotIn:=by decide):behindInMarks op b=false:=by
 have e1:(op==CmpOp.In)=false:=by cases op<;>first | rfl | exact absurd rfl h
 have e2:(op==CmpOp.NotIn)=false:=by cases op<;>first | rfl | exact absurd rfl h2
 cases b<;>simp[behindInMarks,e1,e2]
theorem a4O{op:CmpOp}{r:R2}(ho:OpR X (compareOp op) r)(ha:PE X a ta)(hb:PE X b tb)(hm:behindInMarks op b=false):PE X (.Compare a [op] [b] pos) (tOp r ta tb):=by
 intro pins s σ H Q I h
 exact wpAny_Compare1 (b5Q ha hb I h fun v u s2 x y H2 I2 rx ry q=>ho pins s2 σ H2 x y v u Q I2 rx ry q) hm
noncomputable def b6n (t:TE):TT:=fun σ H Q=>t σ H fun x H'=>∃k,x= .bl k/\Q k H'
theorem J3{op:CmpOp}{r:R2}(ho:OpR X (compareOp op) r)(ha:PE X a ta)(hb:PE X b tb)(hm:behindInMarks op b=false):PT X (.Compare a [op] [b] pos) (b6n (tOp r ta tb)):=by
 intro pins s σ H Q I h
 refine wpAny_isTrue_Compare1 (thn (ha pins s σ H _ I h) fun v s1⟨x,H1,I1,r1,q1⟩=>thn (hb pins s1 σ H1 _ I1 q1) fun u s2⟨y,H2,I2,r2,q2⟩=>
  thn (ho pins s2 σ H2 x y v u _ I2 r1 r2 q2) fun c s3⟨z,H3,I3,r3,k,e,q3⟩=>?_) hm
 subst e
 cases r3
 exact wpAny_truthy_bool ⟨H3,I3,q3⟩
noncomputable def b6K (K:W.Frag) (x:V) (H:Hp) (k:Bool):Prop:=
 match x with
 | .non=>k=false
 | .bl b=>k=b
 | .int i=>k=(i != 0)
 | .str y=>y.length<=sizeLine/\k=((y.length:Int) != 0)
 | .byt y=>y.size<=sizeLine/\k=((y.size:Int) != 0)
 | .ref p=>(∃xs,SqL K H p xs/\k= !xs.isEmpty)\/(∃xs,SqT K H p xs/\k= !xs.isEmpty)\/∃kvs,H p=some (.dK kvs)/\k= !kvs.isEmpty
 | _=>False
theorem a9g{κ:Type}{kvs:List (κ×V)}{vs:List (κ×Value)}(r:KV kvs vs):(!vs.isEmpty)= !kvs.isEmpty:=by
 cases r<;>rfl
theorem a5N{xs:List V}{its:List Value}(r:W0 xs its):(!its.toArray.isEmpty)= !xs.isEmpty:=by
 cases r<;>simp
theorem a5s:(sizeLine:Nat) < 2 ^ 63:=by rw[sizeLine_eq];decide
theorem b5B:b7a X (fun x H Q=>∃k,b6K X.K x H k/\Q k H):=by
 intro pins s σ H x v Q I rx h
 obtain⟨k,e,q⟩:=h
 have hl:=a5s
 have hs:sizeLine=16777216:=sizeLine_eq
 cases x with
 | non=>
  cases rx
  have e':k=false:=e
  subst e'
  exact truthy_none ⟨H,I,q⟩
 | bl b=>
  cases rx
  have e':k=b:=e
  subst e'
  exact wpAny_truthy_bool ⟨H,I,q⟩
 | int i=>
  obtain⟨t,rfl⟩:=rx
  have e':k=(i != 0):=e
  subst e'
  exact PySem.P.truthy_int ⟨H,I,q⟩
 | str y=>
  obtain⟨t,rfl⟩:=rx
  obtain⟨hy,e'⟩:y.length<=sizeLine/\k=((y.length:Int) != 0):=e
  subst e'
  exact PySem.P.truthy_str (by omega) ⟨H,I.tok _,q⟩
 | byt y=>
  obtain⟨t,rfl⟩:=rx
  obtain⟨hy,e'⟩:y.size<=sizeLine/\k=((y.size:Int) != 0):=e
  subst e'
  exact W.truthy_bytes (by omega) ⟨H,I.tok _,q⟩
 | ref p=>
  cases rx
  have e':(∃xs,SqL X.K H p xs/\k= !xs.isEmpty)\/(∃xs,SqT X.K H p xs/\k= !xs.isEmpty)\/∃kvs,H p=some (.dK kvs)/\k= !kvs.isEmpty:=e
  rcases e' with⟨xs,hx,e'⟩ | ⟨xs,hx,e'⟩ | ⟨kvs,hx,e'⟩
  ·subst e'
   obtain⟨its,r,pl,hz⟩:=I.list hx
   have hlen:=r.length
   exact wpAny_truthy_list pl.isList (by simp only[List.size_toArray];omega) ⟨H,I.tok _,by rw[a5N r];exact q⟩
  ·subst e'
   obtain⟨its,r,pl,hz⟩:=I.tuple hx
   have hlen:=r.length
   exact truthy_tuple pl (by simp only[List.size_toArray];omega) ⟨H,I.tok _,by rw[a5N r];exact q⟩
  ·subst e'
   obtain⟨hz,hS,vs,r,m⟩:kvs.length<=sizeLine/\(p==sysModules)=false/\∃vs,KV kvs vs/\s.heap.DictOf (Z5 X.prog X.w) p vs:=I.hok p _ hx
   have hlen:kvs.length=vs.length:=AI r
   exact wpAny_truthy_dict hS m (by omega) ⟨H,I.tok _,by rw[a9g r];exact q⟩
 | _=>exact(show False from e).elim
theorem a5A(ha:PE X a ta)(he:∀whole,isTrue a X.env whole=(do let v<-whole;standAt a.pos;holding [v] (truthy v))):
  PT X a (fun σ H Q=>ta σ H fun x H'=>∃k,b6K X.K x H' k/\Q k H'):=by
 intro pins s σ H Q I h
 exact isTrue_plain (thn (ha pins s σ H _ I h) fun v s1⟨x,H1,I1,r1,q1⟩=>b5B pins s1 σ H1 x v Q I1 r1 q1) (he _)
theorem a1N:OpR X (binaryOp .Add) (fun x y H Q=>∃i j,x= .str i/\y= .str j/\i.length+j.length<=sizeLine/\Q (.str (i++j)) H):=by
 intro pins s σ H x y v u Q I rx ry h
 obtain⟨i,j,rfl,rfl,hz,q⟩:=h
 obtain⟨t,rfl⟩:=rx
 obtain⟨t',rfl⟩:=ry
 exact add_str (fun t' tk=>⟨.str (i++j),H,I.tok _,⟨_,rfl⟩,q⟩) hz
theorem a3q{x:V}{us:List Value}(r:W0 [x] us):∃u,us=[u]/\W4 x u:=by
 cases r with
 | cons r1 r2=>cases r2;exact⟨_,rfl,r1⟩
theorem b4K{x y:V}{us:List Value}(r:W0 [x,y] us):∃u w',us=[u,w']/\W4 x u/\W4 y w':=by
 cases r with
 | cons r1 r2=>
  cases r2 with
  | cons r3 r4=>cases r4;exact⟨_,_,rfl,r1,r3⟩
theorem b0Z(hc:X.calm=true):a1b X (.builtin "max") (fun xs H Q=>∃i j,xs=[.int i,.int j]/\Q (.int (if j > i then j else i)) H):=by
 intro pins s σ H xs us Q I r h
 obtain⟨i,j,rfl,q⟩:=h
 obtain⟨u,w',rfl,⟨t,rfl⟩,⟨t',rfl⟩⟩:=b4K r
 refine max_two_ints (I.ok.hd hc) fun h' tk k=>⟨_,H,I.kept k,?_,q⟩
 by_cases hj:j > i
 ·rw[if_pos hj,if_pos hj];exact⟨_,rfl⟩
 ·rw[if_neg hj,if_neg hj];exact⟨_,rfl⟩
theorem a7H:a1b X (.type "str") (fun xs H Q=>∃i,xs=[.int i]/\i.natAbs.log2 < 1920/\Q (.str (toString i)) H):=by
 intro pins s σ H xs us Q I r h
 obtain⟨i,rfl,hz,q⟩:=h
 obtain⟨u,rfl,t,rfl⟩:=a3q r
 exact PySem.P.str_of_int hz ⟨.str _,H,I.tok _,⟨_,rfl⟩,q⟩
end
end L2
namespace L2
open PySem PySem.Spec PyProof.Rows
structure a9a(h:Heap)(x dx C:Addr)(mA:Str->Option Value):Prop where
 obj:h.get? x=some (W.instObj C dx)
 ns:h.Ns1 dx mA
 ne:dx≠x
theorem b1n{h:Heap}{dx:Addr}{mA:Str->Option Value}(n:h.Ns1 dx mA):∃od,h.get? dx=some od/\∀name,W.lookIn name od=some (mA name):=by
 obtain⟨o,es,ep,ho,hd,hk,_,hm⟩:=n
 refine⟨o,ho,fun name=>?_⟩
 have e:=hm name
 unfold nsFind findBy at e
 rw[<-Array.find?_toList]at e
 unfold W.lookIn
 rw[hd]
 dsimp only
 split
 ·rename_i y q
  rw[q]at e
  exact congrArg some e
 ·rename_i q
  rw[q]at e
  have a:es.toList.any (·.refKey)=false:=by
   rw[List.any_eq_false]
   intro y hy
   obtain⟨z,t,hkey⟩:=hk y (Array.mem_toList_iff.mp hy)
   simp[DictEntry.refKey,hkey]
  have a':¬es.toList.any (·.refKey)=true:=by rw[a];exact AD
  rw[if_neg a']
  exact congrArg some e
theorem a9a.look{h:Heap}{x dx C:Addr}{mA:Str->Option Value}(I:a9a h x dx C mA):∃od,W.InstAt h x (W.instObj C dx) C (some od)/\∀name,W.lookIn name od=some (mA name):=
 let⟨od,ho,hl⟩:=b1n I.ns
 ⟨od,⟨I.obj,rfl,rfl,ho⟩,hl⟩
section
variable{prog:Program}{w:World}{A:Around}{E:Value->Shared->Prop}{s:Shared}{K:W.Frag}{x dx C f:Addr}{mA:Str->Option Value}{name:Str}{v:Value}
theorem b3L{expr:Bool}{Q:Value->Shared->Prop}(X:K.In s.heap)(I:a9a s.heap x dx C mA)(hg:W.plainGet K C name=true)(hh:W.hasDictIn K C=true)
  (ha:W.findIn K (.ref C) name=some none)(hv:mA name=some v)(hv':W.handedIn v=true)(h:Q v {s with toks:=s.toks+1}):
  wpAny (model prog w) A (getAttr (.ref x) name expr) Q E s:=by
 obtain⟨od,J,hl⟩:=I.look
 exact W.get_value X J (W.plainGet_of hg).1 (W.findObj_own hh ha rfl (by rw[hl,hv])) hv' h
theorem b2K{pl:Sem Bool}{Q:Value×List Value->Shared->Prop}(X:K.In s.heap)(I:a9a s.heap x dx C mA)(hg:W.plainGet K C name=true)
  (hf:W.findIn K (.ref C) name=some (some (.ref f)))(ht:W.isFn K (.ref f)=true)(hv:mA name=none)(h:Q (.ref f,[.ref x]) s):
  wpAny (model prog w) A (getMethod (.ref x) name pl) Q E s:=by
 obtain⟨od,J,hl⟩:=I.look
 exact W.method_fn X J (W.plainGet_of hg).1 (W.plainGet_of hg).2 hf (beq_iff_eq.mp ht) (by show(W.lookIn name od).map (·.isSome)=some false;rw[hl,hv];rfl) h
theorem b4c{ns:List Str}{Q:Unit->Shared->Prop}(X:K.In s.heap)(I:a9a s.heap x dx C mA)
  (hs:W.findIn K (.ref C) "__setattr__"=some (some (.builtin "object.__setattr__")))(hp:W.plainOver K C=true)(ht:W.takerIn K C name=some none)(hh:W.hasDictIn K C=true)
  (hw:PySem.Within mA ns)(hsz:ns.length<=sizeLine)
  (h:∀h',a9a h' x dx C (fun y=>if y=name then some v else mA y)->Heap.SameBut dx s.heap h'->Q () {s with heap:=h',toks:=s.toks+2}):
  wpAny (model prog w) A (setAttr (.ref x) name v) Q E s:=by
 obtain⟨od,J,hl⟩:=I.look
 refine W.set_plain X J hs (W.osa_open (s:={s with toks:=s.toks+1}) (r:=none) X J hp ht fun b=>?_)
 obtain⟨cd,hc,hd'⟩:=W.any_some hh
 have hx:s.heap.get? x=some ⟨.ref C,some dx,.plain, #[]⟩:=I.obj
 refine AA (AJ (AA (AA (wpAny_loadPart hx (AA (W.Looks.here (s:={s with toks:=s.toks+1}) (W.looks_clsIn X hc) ?_))))))
 rw[hd']
 refine AJ (a:=some dx) (AA (AJ (AA ?_)))
 refine wpAny_nsSet1 (s:={s with toks:=s.toks+1}) I.ns fun h' hn2 hs2=>?_
 obtain⟨oD,esD,epD,hoD,hdD,hcD⟩:=hn2.count (PySem.Within.cons name v hw)
 refine AA (wpAny_lookBehind hoD (by rw[hdD];exact pastItsLine_dict (Nat.le_trans hcD (by rw[List.length_cons];omega))) ?_)
 exact AJ (h _ ⟨(hs2.2 _ (Ne.symm I.ne)).trans I.obj,hn2,I.ne⟩ hs2)
theorem b2i{R:Result->Shared->Prop}{vs:List Value}{kw:List (Str×Value)}(X:K.In s.heap)(hm:W.makesIn K C=true)
  (hi:W.findIn K (.ref C) "__init__"=some (some (.ref f)))(hf:W.typeIn K (.ref f)=some (.type "function"))
  (h:codeAny (model prog w) (A.under (.builtin "type.__call__" ⟨.ref C::vs,kw⟩)) (.call (.ref f) ⟨.ref (s.heap.objs.size+1)::vs,kw⟩) (W.InitBack (s.heap.objs.size+1) R)
   {s with heap:=(s.heap.push W.emptyDict).push (W.instObj C s.heap.objs.size)}):
  codeAny (model prog w) A (.call (.ref C) ⟨vs,kw⟩) R s:=by
 obtain⟨hh,g,d,t,os⟩:=s
 exact W.make_core (W.makes_of X hm) (W.looks_findIn X hi) (fun self=>W.bind_fn X self hf) (.inl rfl) h
end
noncomputable def U0 (f:Str) (v:V):List (Str×V)->List (Str×V)
 | []=> [(f,v)]
 | (g,x)::r=>if g=f then(g,v)::r else(g,x)::U0 f v r
theorem a4I(f g:Str)(v:V):∀fs:List (Str×V),(U0 f v fs).lookup g=if g=f then some v else fs.lookup g
 | []=>by
  show List.lookup g [(f,v)]=_
  by_cases h:g=f
  ·have hb:(g==f)=true:=beq_iff_eq.mpr h
   simp only[List.lookup,hb,if_pos h]
  ·have hb:(g==f)=false:=beq_eq_false_iff_ne.mpr h
   simp only[List.lookup,hb,if_neg h]
 | (k,x)::r=>by
  have ih:=a4I f g v r
  rw[show U0 f v ((k,x)::r)=(if k=f then(k,v)::r else(k,x)::U0 f v r)from rfl]
  by_cases hk:k=f
  ·rw[if_pos hk]
   by_cases h:g=k
   ·have hb:(g==k)=true:=beq_iff_eq.mpr h
    simp only[List.lookup,hb,if_pos (h.trans hk)]
   ·have hb:(g==k)=false:=beq_eq_false_iff_ne.mpr h
    simp only[List.lookup,hb,if_neg (fun e:g=f=>h (e.trans hk.symm))]
  ·rw[if_neg hk]
   by_cases h:g=k
   ·have hb:(g==k)=true:=beq_iff_eq.mpr h
    simp only[List.lookup,hb,if_neg (fun e:g=f=>hk (h.symm.trans e))]
   ·have hb:(g==k)=false:=beq_eq_false_iff_ne.mpr h
    simp only[List.lookup,hb]
    exact ih
theorem a4d(f:Str)(v:V):∀fs:List (Str×V),f∈(U0 f v fs).map (·.1)/\∀g,g∈fs.map (·.1)->g∈(U0 f v fs).map (·.1)
 | []=>⟨by simp[U0],fun g h=>by simp at h⟩
 | (k,x)::r=>by
  obtain⟨i1,i2⟩:=a4d f v r
  rw[show U0 f v ((k,x)::r)=(if k=f then(k,v)::r else(k,x)::U0 f v r)from rfl]
  by_cases hk:k=f
  ·rw[if_pos hk]
   subst hk
   exact⟨by simp,fun g h=>by simpa using h⟩
  ·rw[if_neg hk]
   refine⟨?_,fun g h=>?_⟩
   ·rw[List.map_cons]
    exact AO _ i1
   ·rw[List.map_cons]at h⊢
    rcases List.mem_cons.mp h with e | e
    ·exact List.mem_cons.mpr (.inl e)
    ·exact AO _ (i2 g e)
theorem a4E(f:Str)(v:V):∀fs:List (Str×V),(U0 f v fs).length<=fs.length+1
 | []=>by simp[U0]
 | (k,x)::r=>by
  have ih:=a4E f v r
  rw[show U0 f v ((k,x)::r)=(if k=f then(k,v)::r else(k,x)::U0 f v r)from rfl]
  by_cases hk:k=f
  ·rw[if_pos hk,List.length_cons,List.length_cons];omega
  ·rw[if_neg hk,List.length_cons,List.length_cons];omega
theorem a2K.some_of{v:V}{o:Option Value}(r:a2K (some v) o):∃u,o=some u/\W4 v u:=by
 cases o with
 | none=>exact(show False from r).elim
 | some u=>exact⟨u,rfl,r⟩
theorem a2K.none_of{o:Option Value}(r:a2K none o):o=none:=by
 cases o with
 | none=>rfl
 | some u=>exact(show False from r).elim
theorem b0E{v:V}{u:Value}(r:W4 v u):W.handedIn u=true:=by
 cases v with
 | non=>cases(show u=Value.none from r);rfl
 | bl b=>cases(show u=Value.bool b from r);rfl
 | int i=>obtain⟨t,e⟩:=(show∃t,u=Value.int i t from r);cases e;rfl
 | str x=>obtain⟨t,e⟩:=(show∃t,u=Value.str x t from r);cases e;rfl
 | byt b=>obtain⟨t,e⟩:=(show∃t,u=Value.bytes b t from r);cases e;rfl
 | flt b=>obtain⟨t,e⟩:=(show∃t,u=Value.float b t from r);cases e;rfl
 | ref a=>cases(show u=Value.ref a from r);rfl
 | ty n=>cases(show u=Value.type n from r);rfl
section
variable{P:Program}{w:World}{H H':Hp}{h h':Heap}{a C dx:Addr}{fs fs':List (Str×V)}
theorem a4U(hok:HOk P w H h)(e:H a=some (.ins C dx fs)):∃mA,a9a h a dx C mA/\(∀f,a2K (fs.lookup f) (mA f))/\PySem.Within mA (fs.map (·.1))/\fs.length<=1000/\H dx=some (.own a):=by
 obtain⟨d,z,ne,ob,mA,n,r,q⟩:=(show Z6 P w H h a (.ins C dx fs)from hok a _ e)
 exact⟨mA,⟨ob,n,ne⟩,r,q,z,d⟩
end
structure Cls(K:W.Frag)(C:Addr):Prop where
 pg:W.plainGet K C Str.empty=true
 hd:W.hasDictIn K C=true
 po:W.plainOver K C=true
 sa:W.findIn K (.ref C) "__setattr__"=some (some (.builtin "object.__setattr__"))
theorem Cls.get{K:W.Frag}{C:Addr}(c:Cls K C)(f:Str):W.plainGet K C f=true:=c.pg
noncomputable def B0 (K:W.Frag) (C:Addr) (f:Str):Prop:=W.findIn K (.ref C) f=some none
theorem B0.taker{K:W.Frag}{C:Addr}{f:Str}(n:B0 K C f):W.takerIn K C f=some none:=by
 unfold W.takerIn
 rw[show W.findIn K (.ref C) f=some none from n]
 rfl
structure b2p(K:W.Frag)(C:Addr)(m:Str)(f:Addr):Prop where
 at_:W.findIn K (.ref C) m=some (some (.ref f))
 fn:W.isFn K (.ref f)=true
 kp:W.keepIn K (.ref f)=true
section
variable{X:Cx}{pins:List (Addr×Obj)}{σ:St}{H:Hp}{s:Shared}{a C dx:Addr}{fs:List (Str×V)}{f:Str}{v:V}{A:Around}{E:Value->Shared->Prop}
theorem a5K{b:Bool}{Q:Value->Shared->Prop}(I:Inv X pins σ H s)(e:H a=some (.ins C dx fs))(c:Cls X.K C)(n:B0 X.K C f)(l:fs.lookup f=some v)
  (h:∀u s',Inv X pins σ H s'->W4 v u->Q u s'):wpAny (model X.prog X.w) A (getAttr (.ref a) f b) Q E s:=by
 obtain⟨mA,O,r,_,_,_⟩:=a4U I.hok e
 obtain⟨u,hu,ru⟩:=a2K.some_of (v:=v) (o:=mA f) (by rw[<-l];exact r f)
 exact b3L I.kIn O (c.get f) c.hd n hu (b0E ru) (h u _ (I.tok _) ru)
theorem a5t{m:Str}{g:Addr}{pl:Sem Bool}{Q:Value×List Value->Shared->Prop}(I:Inv X pins σ H s)(e:H a=some (.ins C dx fs))(c:Cls X.K C)(k:b2p X.K C m g)(l:fs.lookup m=none)
  (h:Q (.ref g,[.ref a]) s):wpAny (model X.prog X.w) A (getMethod (.ref a) m pl) Q E s:=by
 obtain⟨mA,O,r,_,_,_⟩:=a4U I.hok e
 have hn:mA m=none:=a2K.none_of (by rw[<-l];exact r m)
 exact b2K I.kIn O (c.get m) k.at_ k.fn hn h
theorem a5z{y:V}{u:Value}{Q:Unit->Shared->Prop}(I:Inv X pins σ H s)(e:H a=some (.ins C dx fs))(c:Cls X.K C)(n:B0 X.K C f)(hl:fs.length < 1000)(ry:W4 y u)
  (h:∀s',Inv X pins σ (upd H a (.ins C dx (U0 f y fs))) s'->Q () s'):wpAny (model X.prog X.w) A (setAttr (.ref a) f u) Q E s:=by
 obtain⟨mA,O,r,wi,_,ho⟩:=a4U I.hok e
 have hz:(fs.map (·.1)).length<=sizeLine:=by rw[List.length_map,sizeLine_eq];omega
 refine b4c I.kIn O c.sa c.po n.taker c.hd wi hz fun h' O' sb=>h _ ?_
 have hd:∃o,h'.get? dx=some o:=let⟨o,_,_,e',_⟩:=O'.ns;⟨o,e'⟩
 refine I.write (x:=a) (e:=dx) (by rw[e];exact True.intro) (.inr ho) (fun b q hb z=>(sb.2 b hb).trans z) hd ?_
 refine⟨by rw[G7 O.ne];exact ho,?_,O.ne,O'.obj,_,O'.ns,fun g=>?_,fun g hg=>?_⟩
 ·have:=a4E f y fs;omega
 ·show a2K ((U0 f y fs).lookup g) (if g=f then some u else mA g)
  rw[a4I]
  by_cases q:g=f
  ·rw[if_pos q,if_pos q];exact ry
  ·rw[if_neg q,if_neg q];exact r g
 ·by_cases q:g=f
  ·rw[q];exact(a4d f y fs).1
  ·refine(a4d f y fs).2 g (wi g fun z=>hg ?_)
   show(if g=f then some u else mA g)=none
   rw[if_neg q];exact z
theorem Inv.made(I:Inv X pins σ H s):Inv X pins σ (upd (upd H s.heap.objs.size (.own (s.heap.objs.size+1))) (s.heap.objs.size+1) (.ins C s.heap.objs.size []))
  {s with heap:=(s.heap.push W.emptyDict).push (W.instObj C s.heap.objs.size)}:=by
 have e1:(s.heap.push W.emptyDict).get? s.heap.objs.size=some W.emptyDict:=AS s.heap rfl
 have e2:((s.heap.push W.emptyDict).push (W.instObj C s.heap.objs.size)).get? (s.heap.objs.size+1)=some (W.instObj C s.heap.objs.size):=by
  have:=AS (s.heap.push W.emptyDict) (o:=W.instObj C s.heap.objs.size) rfl
  rwa[Heap.size_push]at this
 have e3:(s.heap.push W.emptyDict).Ns s.heap.objs.size (fun _=>none):=⟨W.emptyDict, #[],_,e1,rfl,(fun e he=>absurd he (by simp)),fun _=>rfl⟩
 have I1:=I.laid (a:=s.heap.objs.size) (o:= .own (s.heap.objs.size+1)) (h':=s.heap.push W.emptyDict) (t':=s.toks) (fun b u q=>AH _ q) (AE _) ⟨_,e1⟩
 refine I1.laid (a:=s.heap.objs.size+1) (o:= .ins C s.heap.objs.size []) (t':=s.toks) (fun b u q=>AH _ q) (Nat.le_of_eq (Heap.size_push _ _)) ?_
 have ne:s.heap.objs.size≠s.heap.objs.size+1:=Nat.ne_of_lt (Nat.lt_succ_self _)
 refine⟨by rw[G7 ne,G1],AZ _,ne,e2,fun _=>none,(Heap.Ns1.of_empty e3).at fun o q=>AH _ q,fun _=>True.intro,fun y hy=>absurd rfl hy⟩
theorem b4e{prog:Program}{w:World}{env:Env}{e:Expr}{f:Str}{pos:Pos}{s:Shared}{Q:Value->Shared->Prop}(hb:attributeBase e f env (eval e env)=eval e env)
  (h:wpAny (model prog w) A (eval e env) (fun o s₁=>wpAny (model prog w) A (getAttr o f true) Q E s₁) E s):wpAny (model prog w) A (eval (.Attribute e f pos) env) Q E s:=
 Attribute_any_ h (by rw[arm_eval_Attribute,hb])
end
noncomputable def b7w (K:W.Frag) (ta:TE) (f:Str):TE:=fun σ H Q=>ta σ H fun x H1=>∃a C dx fs v,x= .ref a/\H1 a=some (.ins C dx fs)/\Cls K C/\B0 K C f/\fs.lookup f=some v/\Q v H1
noncomputable def b7c (K:W.Frag) (ta tv:TE) (f:Str):TS:=fun D σ H=>tv σ H fun y H1=>ta σ H1 fun x H2=>∃a C dx fs,x= .ref a/\H2 a=some (.ins C dx fs)/\Cls K C/\B0 K C f/\fs.length < 1000/\
 D.nx σ (upd H2 a (.ins C dx (U0 f y fs)))
noncomputable def b6l (X:Cx) (op:Operator) (rd:V->V->Hp->VK->Prop):Prop:=
 ∀(pins:List (Addr×Obj))(s:Shared)(σ:St)(H:Hp)(x y:V)(u v:Value)(Q:VK),Inv X pins σ H s->W4 x u->W4 y v->rd x y H Q->wpAny (model X.prog X.w) X.A (inplaceOp op u v) (EP X pins σ Q) X.xe s
noncomputable def b3C (K:W.Frag) (ta tv:TE) (rd:V->V->Hp->VK->Prop) (f:Str):TS:=fun D σ H=>ta σ H fun x H1=>∃a C dx fs v,x= .ref a/\H1 a=some (.ins C dx fs)/\Cls K C/\B0 K C f/\fs.lookup f=some v/\
 tv σ H1 fun y H2=>rd v y H2 fun z H3=>∃dx' fs',H3 a=some (.ins C dx' fs')/\fs'.length < 1000/\D.nx σ (upd H3 a (.ins C dx' (U0 f z fs')))
section
variable{X:Cx}{o e value:Expr}{f:Str}{pos pos' tpos:Pos}{ta tv:TE}
theorem Y1(he:PE X e ta)(hb:attributeBase e f X.env (eval e X.env)=eval e X.env):PE X (.Attribute e f pos) (b7w X.K ta f):=by
 intro pins s σ H Q I h
 refine b4e hb (thn (he pins s σ H _ I h) fun u s1⟨x,H1,I1,rx,a,C,dx,fs,v,ex,ea,c,n,l,q⟩=>?_)
 subst ex
 obtain rfl:u=Value.ref a:=rx
 exact a5K I1 ea c n l fun u' s2 I2 ru=>⟨v,H1,I2,ru,q⟩
theorem a0Y(ha:PE X o ta)(hv:PE X value tv)(hs:swapsWith value (some (.Attribute o f pos')) pos.line X.env=pure false):PS X (.Assign [.Attribute o f pos'] value pos) (b7c X.K ta tv f):=by
 intro pins s σ H D I h
 refine plainObj_wpAny_Assign_Attribute (thn (hv pins s σ H _ I h) fun u s1⟨y,H1,I1,ry,q⟩=>thn (ha pins s1 σ H1 _ I1 q) fun ov s2⟨x,H2,I2,rx,a,C,dx,fs,ex,ea,c,n,l,q2⟩=>?_) hs
 subst ex
 obtain rfl:ov=Value.ref a:=rx
 exact a5z I2 ea c n l ry fun s3 I3=>⟨σ,_,I3,q2⟩
theorem b1h{op:Operator}{rd:V->V->Hp->VK->Prop}(ha:PE X o ta)(hv:PE X value tv)(hop:b6l X op rd):PS X (.AugAssign (.Attribute o f tpos) op value pos) (b3C X.K ta tv rd f):=by
 intro pins s σ H D I h
 refine wpAny_AugAssign_AttributeAny (thn (ha pins s σ H _ I h) fun ov s1⟨x,H1,I1,rx,a,C,dx,fs,v,ex,ea,c,n,l,q⟩=>?_)
 subst ex
 obtain rfl:ov=Value.ref a:=rx
 refine a5K I1 ea c n l fun u s2 I2 ru=>thn (hv pins s2 σ H1 _ I2 q) fun w3 s3⟨y,H2,I3,ry,q3⟩=>thn (hop pins s3 σ H2 v y u w3 _ I3 ru ry q3) fun w4 s4⟨z,H3,I4,rz,dx',fs',ea',l',q4⟩=>?_
 exact a5z I4 ea' c n l' rz fun s5 I5=>⟨σ,_,I5,q4⟩
noncomputable def b7h:V->V->Hp->VK->Prop:=fun x y H Q=>∃i j,x= .int i/\y= .int j/\Q (.int (i+j)) H
theorem b5j:b6l X .Add b7h:=by
 rintro pins s σ H x y u v Q I rx ry ⟨i,j,rfl,rfl,q⟩
 obtain⟨t,rfl⟩:=(show∃t,u=Value.int i t from rx)
 obtain⟨t',rfl⟩:=(show∃t',v=Value.int j t' from ry)
 exact PyProof.Rows.iadd_int ⟨.int (i+j),H,I.tok _,⟨_,rfl⟩,q⟩
end
section
variable{X:Cx}{pins:List (Addr×Obj)}{σ:St}{H:Hp}{s:Shared}{A:Around}{E:Value->Shared->Prop}{Q:Value->Shared->Prop}{c:Value}{b:Bool}
inductive a4v (K:W.Frag) (H:Hp):V->Value->Prop where
 | non:a4v K H .non (.type "NoneType")
 | bl (x:Bool):a4v K H (.bl x) (.type "bool")
 | int (i:Int):a4v K H (.int i) (.type "int")
 | str (x:Str):a4v K H (.str x) (.type "str")
 | flt (x:UInt64):a4v K H (.flt x) (.type "float")
 | lst {a:Addr} {xs:List V} (e:H a=some (.lst xs)):a4v K H (.ref a) (.type "list")
 | frz {a:Addr} {o:Obj} {xs:List V} (e:H a=some (.frz o (.lst xs))):a4v K H (.ref a) (.type "list")
 | tup {a:Addr} {xs:List V} (e:H a=some (.tup xs)):a4v K H (.ref a) (.type "tuple")
 | dK {a:Addr} {kvs:List (Key×V)} (e:H a=some (.dK kvs)):a4v K H (.ref a) (.type "dict")
 | dT {a:Addr} {kvs:List (List Key×V)} (e:H a=some (.dT kvs)):a4v K H (.ref a) (.type "dict")
 | ins {a C dx:Addr} {fs:List (Str×V)} (e:H a=some (.ins C dx fs)) (cl:Cls K C) (ha:W.findIn K (.ref C) "__class__"=some (some (.builtin "object.__class__")))
   (hn:W.specialIn K (.builtin "object.__class__") "__get__"=some (some (.builtin "getset_descriptor.__get__"))) (htk:W.takesIn K (.builtin "object.__class__")=some true)
   (hm:W.mroIn K C (.type "object")=some true):a4v K H (.ref a) (.ref C)
theorem b0G{x:V}{u t:Value}(I:Inv X pins σ H s)(rx:W4 x u)(ty:a4v X.K H x t)(e:W.kitOne X.K t c=some b)(h:∀tk,Q (.bool b) {s with toks:=tk}):
  wpAny (model X.prog X.w) A (call (.builtin "isinstance") [u,c]) Q E s:=by
 cases ty with
 | non=>cases(show u=Value.none from rx);exact W.kia_one W.kitx_none I.kIn True.intro e (fun z=>nomatch z) h
 | bl y=>cases(show u=Value.bool y from rx);exact W.kia_one W.kitx_bool I.kIn True.intro e (fun z=>nomatch z) h
 | int i=>obtain⟨t,q⟩:=(show∃t,u=Value.int i t from rx);cases q;exact W.kia_one W.kitx_int I.kIn True.intro e (fun z=>nomatch z) h
 | str y=>obtain⟨t,q⟩:=(show∃t,u=Value.str y t from rx);cases q;exact W.kia_one W.kitx_str I.kIn True.intro e (fun z=>nomatch z) h
 | flt y=>obtain⟨t,q⟩:=(show∃t,u=Value.float y t from rx);cases q;exact W.kia_one W.kitx_float I.kIn True.intro e (fun z=>nomatch z) h
 | @lst a xs ea=>
  cases(show u=Value.ref a from rx)
  obtain⟨_,_,n,_,h1⟩:=(show Z6 X.prog X.w H s.heap a (.lst xs)from I.hok a _ ea)
  exact W.kia_one W.kitx_list I.kIn ⟨_,h1,rfl⟩ e (fun z=>nomatch z) h
 | @frz a ob xs ea=>
  cases(show u=Value.ref a from rx)
  obtain⟨_,_,_,n,_,h1⟩:=(show Z6 X.prog X.w H s.heap a (.frz ob (.lst xs))from I.hok a _ ea)
  exact W.kia_one W.kitx_list I.kIn ⟨_,h1,rfl⟩ e (fun z=>nomatch z) h
 | @tup a xs ea=>
  cases(show u=Value.ref a from rx)
  obtain⟨_,_,_,p⟩:=(show Z6 X.prog X.w H s.heap a (.tup xs)from I.hok a _ ea)
  obtain⟨o,h1,h2,_⟩:=p
  exact W.kia_one W.kitx_tuple I.kIn ⟨o,h1,h2⟩ e (fun z=>nomatch z) h
 | @dK a kvs ea=>
  cases(show u=Value.ref a from rx)
  obtain⟨_,_,vs,_,p⟩:=(show Z6 X.prog X.w H s.heap a (.dK kvs)from I.hok a _ ea)
  obtain⟨o,es,ep,h1,h2,_⟩:=p
  exact W.kia_one W.kitx_dict I.kIn ⟨o,h1,h2.1⟩ e (fun z=>nomatch z) h
 | @dT a kvs ea=>
  cases(show u=Value.ref a from rx)
  obtain⟨_,_,xs,_,o,es,ep,h1,h2,_⟩:=(show Z6 X.prog X.w H s.heap a (.dT kvs)from I.hok a _ ea)
  exact W.kia_one W.kitx_dict I.kIn ⟨o,h1,h2.1⟩ e (fun z=>nomatch z) h
 | @ins a C dx fs ea cl ha hn htk hm=>
  cases(show u=Value.ref a from rx)
  obtain⟨mA,O,_⟩:=a4U I.hok ea
  obtain⟨od,J,_⟩:=O.look
  exact W.kia_one (W.kitx_own (cl.get _) cl.hd ha hn htk hm) I.kIn J e (fun z=>nomatch z) h
end
end L2
namespace L2
open PySem PySem.Spec PyProof.Rows
structure M8(k:Nat)(A:Around):Prop where
 hd:A.handled=none
 dp:A.depth+3*k+5 < recursionLimit
 un:A.units+16*k+200 < cLine
theorem M8.mono{j k:Nat}{A:Around}(r:M8 k A)(h:j<=k):M8 j A:=⟨r.hd,by have:=r.dp;omega,by have:=r.un;omega⟩
theorem M8.deeper{k:Nat}{A:Around}(r:M8 (k+1) A)(env:Env):M8 k (A.deeper env):=
 ⟨r.hd,by have:=r.dp;show A.depth+1+3*k+5 < _;omega,by have:=r.un;show A.units+3+16*k+200 < _;omega⟩
theorem a9Q{A:Around}{C:Addr}{us:List Value}{kw:List (Str×Value)}:(A.under (.builtin "type.__call__" ⟨.ref C::us,kw⟩)).depth=A.depth+1:=by
 first | rfl | simp[Around.under,Code.weight,Code.isCreation,Code.isGuard,Code.isCaller,Code.frames,Code.isFrame,guardIds]
theorem a9c{A:Around}{C:Addr}{us:List Value}{kw:List (Str×Value)}:(A.under (.builtin "type.__call__" ⟨.ref C::us,kw⟩)).units=A.units+1:=by
 first | rfl | simp[Around.under,Code.cUnits,Code.frames,Code.isFrame]
theorem M8.make{k:Nat}{A:Around}(r:M8 (k+1) A)(C:Addr)(us:List Value)(kw:List (Str×Value)):M8 k (A.under (.builtin "type.__call__" ⟨.ref C::us,kw⟩)):=
 ⟨r.hd,by have:=r.dp;rw[a9Q];omega,by have:=r.un;rw[a9c];omega⟩
theorem M8.depth{k:Nat}{A:Around}(r:M8 k A):A.depth < recursionLimit:=by have:=r.dp;omega
theorem M8.units{k:Nat}{A:Around}(r:M8 k A):A.units+64 < cLine:=by have:=r.un;omega
noncomputable def a9r:TA:=fun _ H Q=>Q [] H
noncomputable def b2X (ta:TE) (tr:TA):TA:=fun σ H Q=>ta σ H fun x H1=>tr σ H1 fun xs H2=>Q (x::xs) H2
section
variable{X:Cx}{e:Expr}{es:List Expr}{te:TE}{t:TA}{pos:Pos}
theorem G2:PA X [] a9r:=fun _ _ _ _ H Q I h=>Calls.spliced_nil ⟨[],H,I,.nil,h⟩
theorem G0(ha:PE X e te)(hr:PA X es t)(hs:starEach (e::es) X.env=(false,eval e X.env)::starEach es X.env:=by rfl):PA X (e::es) (b2X te t):=by
 intro pos pins s σ H Q I h
 rw[hs]
 show wpAny _ _ (spliced ((false,eval e X.env)::backTo pos (starEach es X.env))) _ _ s
 refine Calls.spliced_cons (thn (ha pins s σ H _ I h) fun u s1⟨x,H1,I1,r1,q1⟩=>?_)
 exact thn (hr pos pins s1 σ H1 _ I1 q1) fun us s2⟨xs,H2,I2,r2,q2⟩=>⟨x::xs,H2,I2,.cons r1 r2,q2⟩
noncomputable def b7i (t:TA):TE:=fun σ H Q=>t σ H fun xs H1=>xs.length<=sizeLine/\∀p,H1 p=none->Q (.ref p) (upd H1 p (.tup xs))
noncomputable def b5O (t:TA):TE:=fun σ H Q=>t σ H fun xs H1=>xs.length<=sizeLine/\∀p,H1 p=none->Q (.ref p) (upd H1 p (.lst xs))
theorem R5{x1}(h:PA X es t):PE X (.Tuple es x1 pos) (b7i t):=by
 intro pins s σ H Q I hq
 refine wpAny_Tuple_spliced (thn (h pos pins s σ H _ I hq) fun us s1⟨xs,H1,I1,r,z,q⟩=>⟨by rw[<-r.length];exact z,?_⟩)
 have hf:H1 s1.heap.objs.size=none:=I1.hok.fresh (AE _)
 refine⟨.ref s1.heap.objs.size,upd H1 s1.heap.objs.size (.tup xs),I1.laid (t':=s1.toks) (fun b u e=>AH _ e) (AE _) ?_,rfl,q _ hf⟩
 exact⟨z,us,r,⟨_,AS _ rfl,rfl,_,rfl⟩⟩
theorem Z2(h:PA X es t):PE X (.List es pos) (b5O t):=by
 intro pins s σ H Q I hq
 refine wpAny_List_spliced (thn (h pos pins s σ H _ I hq) fun us s1⟨xs,H1,I1,r,z,q⟩=>⟨by rw[<-r.length];exact z,?_⟩)
 have hf:H1 s1.heap.objs.size=none:=I1.hok.fresh (AE _)
 refine⟨.ref s1.heap.objs.size,upd H1 s1.heap.objs.size (.lst xs),I1.laid (t':=s1.toks) (fun b u e=>AH _ e) (AE _) ?_,rfl,q _ hf⟩
 exact⟨z,us,0,r,AS _ rfl⟩
end
noncomputable abbrev Sp:=List V->Hp->VK->XK->Prop
noncomputable abbrev CXT:=List Env->Hp->Shared->XK->Value->Shared->Prop
structure a9e(P:Program)(w:World)(K:W.Frag)(mg:Str->Option Value)(base:Heap)(A:Around)(outer:List Env)(s:Shared)(H:Hp):Prop where
 frames:A.frames=some outer
 mod:Mod K mg base
 bs:∀b o,base.get? b=some o->s.heap.get? b=some o/\H b=none
 bsz:base.objs.size<=s.heap.objs.size
 funs:s.heap.FunFrames base outer
 frf:∀b∈frs outer,H b=none
 hok:HOk P w H s.heap
 bare:AllBare s.gens
noncomputable def CE (outer:List Env) (P:Program) (w:World) (H:Hp) (s:Shared) (Q:VK) (u:Value) (s':Shared):Prop:=
 ∃v H',s'.os=s.os/\AllBare s'.gens/\Un (frs outer) [] H H' s.heap s'.heap/\HOk P w H' s'.heap/\W4 v u/\Q v H'
noncomputable def CR (CX:CXT) (outer:List Env) (P:Program) (w:World) (H:Hp) (s:Shared) (Q:VK) (E:XK) (r:Result) (s':Shared):Prop:=
 match r with
 | .ok (.ret u)=>CE outer P w H s Q u s'
 | .ok _=>False
 | .error e=>CX outer H s E e s'
structure a2L(P:Program)(w:World)(K:W.Frag)(mg:Str->Option Value)(base:Heap)(CX:CXT)(k:Nat)(f:Addr)(fd:FuncData)(ps:List Str)(sp:Sp):Prop where
 len:∀vs H Q E,sp vs H Q E->vs.length=ps.length
 run:∀(A:Around)(outer:List Env)(s:Shared)(H:Hp)(args:Args)(us:List Value)(vs:List V)(Q:VK)(E:XK),M8 k A->a9e P w K mg base A outer s H->BindsTo s fd args (ps.zip us)->W0 vs us->sp vs H Q E->
  codeAny (model P w) A (.call (.ref f) args) (CR CX outer P w H s Q E) s
theorem a9e.make{P:Program}{w:World}{K:W.Frag}{mg:Str->Option Value}{base:Heap}{A:Around}{outer:List Env}{s:Shared}{H:Hp}(e:a9e P w K mg base A outer s H)(C:Addr)(us:List Value)(kw:List (Str×Value)):
  a9e P w K mg base (A.under (.builtin "type.__call__" ⟨.ref C::us,kw⟩)) outer s H:=⟨by first | exact e.frames | (simpa [Around.under,Code.envs,Code.isFrame,pushEnvs]using e.frames),e.mod,e.bs,e.bsz,e.funs,e.frf,e.hok,e.bare⟩
section
variable{X:Cx}{pins:List (Addr×Obj)}{σ:St}{H:Hp}{s s':Shared}
theorem Inv.env0(I:Inv X pins σ H s):a9e X.prog X.w X.K X.mg X.base X.A X.stack s H:=
 ⟨I.ok.frames,I.ok.mod,I.bs,Nat.le_trans I.ok.bsz I.sz,I.stack,I.stkFree,I.hok,I.bare⟩
theorem Inv.after{Q:VK}{u:Value}(I:Inv X pins σ H s)(h:CE X.stack X.prog X.w H s Q u s'):EP X pins σ Q u s':=by
 obtain⟨v,H',os,bare,un,hok,r,q⟩:=h
 obtain⟨hh,g,d,t,os'⟩:=s'
 obtain rfl:os'=s.os:=os
 exact⟨v,H',I.call (h':=hh) (g':=g) (d':=d) (t':=t) (ch:=[]) un hok bare (fun b z=>absurd z (by simp)),r,q⟩
end
noncomputable def b2j (sp:Sp) (dvs:List V) (E:XK) (t:TA):TE:=fun σ H Q=>t σ H fun vs H1=>sp (vs++dvs) H1 Q E
noncomputable def b0d (C:Addr) (m:Str) (sp:Sp) (dvs:List V) (E:XK) (ta:TE) (t:TA):TE:=fun σ H Q=>ta σ H fun x H1=>∃a dx fs,x= .ref a/\H1 a=some (.ins C dx fs)/\fs.lookup m=none/\
 t σ H1 fun vs H2=>sp (x::(vs++dvs)) H2 Q E
noncomputable def b2V (C:Addr) (sp:Sp) (dvs:List V) (E:XK) (t:TA):TE:=fun σ H Q=>t σ H fun vs H1=>∀x dx,H1 x=none->H1 dx=none->dx≠x->
 sp (.ref x::(vs++dvs)) (upd (upd H1 dx (.own x)) x (.ins C dx [])) (fun v H2=>v= .non/\Q (.ref x) H2) E
noncomputable def a2b (K:W.Frag) (fd:FuncData) (ps:List Str) (ds:List Value):Prop:=
 ∀(s:Shared)(us:List Value),K.In s.heap->(us++ds).length=ps.length->BindsTo s fd ⟨us,[]⟩ (ps.zip (us++ds))
theorem a2b.all{K:W.Frag}{fd:FuncData}{ps:List Str}(h:∀us:List Value,us.length=ps.length->bindArgs fd ⟨us,[]⟩=pure (ps.zip us)):a2b K fd ps []:=fun s us _ hl=>by
 rw[List.append_nil]at hl⊢
 exact .of_eq (h us hl)
noncomputable def a3z (CX:CXT) (X:Cx) (E:XK):Prop:=∀(pins:List (Addr×Obj))(σ:St)(H:Hp)(s:Shared)(e:Value)(s':Shared),Inv X pins σ H s->CX X.stack H s E e s'->X.xe e s'
section
variable{X:Cx}{CX:CXT}{k:Nat}{f C:Addr}{fd:FuncData}{ps:List Str}{sp:Sp}{dvs:List V}{ds:List Value}{E:XK}{x m:Str}{p pos apos:Pos}{e o:Expr}{es:List Expr}{ta:TE}{t:TA}
theorem a9u{pins:List (Addr×Obj)}{σ:St}{H:Hp}{s:Shared}{Q:VK}{us:List Value}{vs:List V}(F:a2L X.prog X.w X.K X.mg X.base CX k f fd ps sp)(hr:M8 k X.A)(hb:a2b X.K fd ps ds)(hd:W0 dvs ds)(hx:a3z CX X E)
  (I:Inv X pins σ H s)(r:W0 vs us)(h:sp (vs++dvs) H Q E):wpAny (model X.prog X.w) X.A (call (.ref f) us) (EP X pins σ Q) X.xe s:=by
 have r2:W0 (vs++dvs) (us++ds):=r.append hd
 have hl:(us++ds).length=ps.length:=by rw[<-r2.length];exact F.len _ _ _ _ h
 refine wpAny_call (codeAny_mono (F.run X.A X.stack s H ⟨us,[]⟩ (us++ds) (vs++dvs) Q E hr I.env0 (hb s us I.kIn hl) r2 h) fun r s' hq=>?_)
 cases r with
 | error e=>exact hx pins σ H s e s' I hq
 | ok fl=>
  cases fl with
  | ret u=>exact I.after hq
  | next=>exact False.elim hq
  | brk=>exact False.elim hq
  | cont=>exact False.elim hq
theorem a9Y(F:a2L X.prog X.w X.K X.mg X.base CX k f fd ps sp)(hr:M8 k X.A)(hg:Gl X x)(hm:X.mg x=some (.ref f))(hk:W.keepIn X.K (.ref f)=true)(hb:a2b X.K fd ps ds)(hd:W0 dvs ds)(hx:a3z CX X E)
  (ha:PA X (e::es) t)(hdb:(x==("__debug__":Str))=false:=by decide)(he:starEach (e::es) X.env=(false,eval e X.env)::starEach es X.env:=by rfl)(hpl:(backTo pos (starEach es X.env)).any (·.1)=false:=by rfl):
  PE X (.Call (.Name x p) (e::es) [] pos) (b2j sp dvs E t):=by
 intro pins s σ H Q I h
 refine wpAny_Call_Name_kw (b0n I hg hm ?_ hdb)
 refine W.callWith_K (h₀:=X.base) I.ok.mod.kin hk (thn (ha pos pins s σ H _ I h) fun us s1⟨vs,H1,I1,r,q⟩=>⟨I1.kIn,?_⟩) he hpl
 exact a9u F hr hb hd hx I1 r q
theorem b4m{pl:Sem Bool}(he:PE X o ta)(c:Cls X.K C)(hm:b2p X.K C m f)(F:a2L X.prog X.w X.K X.mg X.base CX k f fd ps sp)(hr:M8 k X.A)(hb:a2b X.K fd ps ds)(hd:W0 dvs ds)(hx:a3z CX X E)(ha:PA X (e::es) t)
  (hst:starEach (e::es) X.env=(false,eval e X.env)::starEach es X.env:=by rfl)(hpl:(backTo pos (starEach es X.env)).any (·.1)=false:=by rfl)
  (ht:eval (.Call (.Attribute o m apos) (e::es) [] pos) X.env=(do
   let ov<-eval o X.env
   standAt apos.atName
   let(f,first)<-holding [ov] (getMethod ov m pl)
   callWith pos f first (backTo pos (starEach (e::es) X.env)) (backToKw pos (keywordEach [] X.env))):=by rfl):
  PE X (.Call (.Attribute o m apos) (e::es) [] pos) (b0d C m sp dvs E ta t):=by
 intro pins s σ H Q I h
 refine W.methodCall_KW (pl:=pl) (thn (he pins s σ H _ I h) fun u s1⟨x,H1,I1,rx,a,dx,fs,ex,ea,l,q⟩=>?_) ht
 subst ex
 obtain rfl:u=Value.ref a:=rx
 refine a5t I1 ea c hm l ?_
 refine W.callWith_K (first:=[.ref a]) (h₀:=X.base) I.ok.mod.kin hm.kp (thn (ha pos pins s1 σ H1 _ I1 q) fun us s2⟨vs,H2,I2,r,q2⟩=>⟨I2.kIn,?_⟩) hst hpl
 exact a9u (us:= .ref a::us) (vs:= .ref a::vs) F hr hb hd hx I2 (.cons rfl r) q2
theorem b1x{pl:Sem Bool}(he:PE X o ta)(c:Cls X.K C)(hm:b2p X.K C m f)(F:a2L X.prog X.w X.K X.mg X.base CX k f fd ps sp)(hr:M8 k X.A)(hb:a2b X.K fd ps ds)(hd:W0 dvs ds)(hx:a3z CX X E)
  (ht:eval (.Call (.Attribute o m apos) [] [] pos) X.env=(do
   let ov<-eval o X.env
   standAt apos.atName
   let(f,first)<-holding [ov] (getMethod ov m pl)
   callWith pos f first (backTo pos (starEach [] X.env)) (backToKw pos (keywordEach [] X.env))):=by rfl):
  PE X (.Call (.Attribute o m apos) [] [] pos) (b0d C m sp dvs E ta a9r):=by
 intro pins s σ H Q I h
 refine W.methodCall_KW (pl:=pl) (thn (he pins s σ H _ I h) fun u s1⟨x,H1,I1,rx,a,dx,fs,ex,ea,l,q⟩=>?_) ht
 subst ex
 obtain rfl:u=Value.ref a:=rx
 refine a5t I1 ea c hm l ?_
 exact W.callWith_K0 (first:=[.ref a]) I1.kIn hm.kp (a9u (us:=[.ref a]) (vs:=[.ref a]) F hr hb hd hx I1 (.cons rfl .nil) q)
structure Mk(K:W.Frag)(C f:Addr):Prop where
 makes:W.makesIn K C=true
 init:W.findIn K (.ref C) "__init__"=some (some (.ref f))
 fn:W.isFn K (.ref f)=true
 kp:W.keepIn K (.ref C)=true
theorem b1S{pins:List (Addr×Obj)}{σ:St}{H:Hp}{s:Shared}{Q:VK}{us:List Value}{vs:List V}(M:Mk X.K C f)(F:a2L X.prog X.w X.K X.mg X.base CX k f fd ps sp)(hr:M8 (k+1) X.A)(hb:a2b X.K fd ps ds)(hd:W0 dvs ds)
  (hx:a3z CX X E)(I:Inv X pins σ H s)(r:W0 vs us)
  (h:∀x dx,H x=none->H dx=none->dx≠x->sp (.ref x::(vs++dvs)) (upd (upd H dx (.own x)) x (.ins C dx [])) (fun v H2=>v= .non/\Q (.ref x) H2) E):
  wpAny (model X.prog X.w) X.A (call (.ref C) us) (EP X pins σ Q) X.xe s:=by
 have hq:=h (s.heap.objs.size+1) s.heap.objs.size (I.hok.fresh (Nat.le_succ _)) (I.hok.fresh (AE _)) (Nat.ne_of_lt (Nat.lt_succ_self _))
 have I2:=Inv.made (C:=C) I
 have r2:W0 (V.ref (s.heap.objs.size+1)::(vs++dvs)) (Value.ref (s.heap.objs.size+1)::(us++ds)):= .cons rfl (r.append hd)
 have hl:(Value.ref (s.heap.objs.size+1)::us++ds).length=ps.length:=by
  have e:=r2.length
  rw[F.len _ _ _ _ hq]at e
  exact e.symm
 refine wpAny_call (b2i (f:=f) I.kIn M.makes M.init (beq_iff_eq.mp M.fn) (codeAny_mono (F.run _ X.stack _ _ ⟨Value.ref (s.heap.objs.size+1)::us,[]⟩ (Value.ref (s.heap.objs.size+1)::(us++ds)) _ _ E (hr.make C us [])
  (I2.env0.make C us []) (hb _ (Value.ref (s.heap.objs.size+1)::us) I2.kIn hl) r2 hq) fun r s' hq'=>?_))
 cases r with
 | error e=>exact hx pins σ _ _ e s' I2 hq'
 | ok fl=>
  cases fl with
  | ret u=>
   obtain⟨v,H',I3,rv,ev,q3⟩:=I2.after hq'
   subst ev
   exact⟨rv,⟨V.ref (s.heap.objs.size+1),H',I3,rfl,q3⟩⟩
  | next=>exact False.elim hq'
  | brk=>exact False.elim hq'
  | cont=>exact False.elim hq'
theorem b0a(M:Mk X.K C f)(F:a2L X.prog X.w X.K X.mg X.base CX k f fd ps sp)(hr:M8 (k+1) X.A)(hg:Gl X x)(hm:X.mg x=some (.ref C))(hb:a2b X.K fd ps ds)(hd:W0 dvs ds)(hx:a3z CX X E)
  (ha:PA X (e::es) t)(hdb:(x==("__debug__":Str))=false:=by decide)(he:starEach (e::es) X.env=(false,eval e X.env)::starEach es X.env:=by rfl)(hpl:(backTo pos (starEach es X.env)).any (·.1)=false:=by rfl):
  PE X (.Call (.Name x p) (e::es) [] pos) (b2V C sp dvs E t):=by
 intro pins s σ H Q I h
 refine wpAny_Call_Name_kw (b0n I hg hm ?_ hdb)
 refine W.callWith_K (h₀:=X.base) I.ok.mod.kin M.kp (thn (ha pos pins s σ H _ I h) fun us s1⟨vs,H1,I1,r,q⟩=>⟨I1.kIn,?_⟩) he hpl
 exact b1S M F hr hb hd hx I1 r q
end
section
variable{X:Cx}{CX:CXT}{k:Nat}{f C:Addr}{fd:FuncData}{ps ks:List Str}{sp:Sp}{E:XK}{x m:Str}{p pos apos kpos:Pos}{e o:Expr}{es:List Expr}{kws:List Keyword}{te ta:TE}{t tk:TA}{nm:Option Str}
variable{g:List Value->List Value->List Value}{gV:List V->List V->List V}
end
structure R1(N P:List Str)(sc:Scope):Prop where
 kind:sc.kind= .function
 co:sc.isCoroutine=false
 gen:sc.isGenerator=false
 nd:N.Nodup
 pre:N.take P.length=P
 par:∀x∈P,sc.names.lookup x=some .local\/sc.names.lookup x=some .cell
 nofree:∀y∈sc.names,y.2≠ .free
theorem a6D{kindOf:Str->Option NameKind}{x:Str}:∀{binds:List (Str×Value)}{m:Str->Option Value},(∀v,(x,v)∉binds)->bindL kindOf binds m x=m x
 | [],_,_=>rfl
 | (n,v)::r,m,h=>by
  unfold bindL
  rw[a6D fun w hw=>h w (AO _ hw)]
  split
  ·have:x≠n:=by rintro rfl;exact h v AQ
   simp[this]
  ·rfl
theorem a7f{kindOf:Str->Option NameKind}{x:Str}:∀{binds:List (Str×Value)}{m:Str->Option Value},(∀v,(x,v)∉binds)->bindC kindOf binds m x=m x
 | [],_,_=>rfl
 | (n,v)::r,m,h=>by
  unfold bindC
  rw[a7f fun w hw=>h w (AO _ hw)]
  split
  ·rfl
  ·have:x≠n:=by rintro rfl;exact h v AQ
   simp[this]
theorem a6z{kindOf:Str->Option NameKind}{x:Str}{v:Value}:∀{P:List Str}{vs:List Value}{i:Nat}{m:Str->Option Value},P.Nodup->P[i]?=some x->vs[i]?=some v->kindOf x=some .local->
  bindL kindOf (P.zip vs) m x=some v
 | [],_,_,_,_,h,_,_=>by simp at h
 | _::_,[],_,_,_,_,h,_=>by simp at h
 | p::P,w::vs,0,m,nd,h1,h2,hk=>by
  simp at h1 h2;subst h1;subst h2
  show bindL kindOf ((p,w)::P.zip vs) m p=_
  unfold bindL
  rw[a6D fun v hv=>(List.nodup_cons.mp nd).1 (List.of_mem_zip hv).1,if_pos hk]
  simp
 | p::P,w::vs,i+1,m,nd,h1,h2,hk=>by
  show bindL kindOf ((p,w)::P.zip vs) m x=_
  unfold bindL
  exact a6z (i:=i) (List.nodup_cons.mp nd).2 (by simpa using h1) (by simpa using h2) hk
theorem a6M{kindOf:Str->Option NameKind}{x:Str}{v:Value}:∀{P:List Str}{vs:List Value}{i:Nat}{m:Str->Option Value},P.Nodup->P[i]?=some x->vs[i]?=some v->kindOf x≠some .local->
  bindC kindOf (P.zip vs) m x=some v
 | [],_,_,_,_,h,_,_=>by simp at h
 | _::_,[],_,_,_,_,h,_=>by simp at h
 | p::P,w::vs,0,m,nd,h1,h2,hk=>by
  simp at h1 h2;subst h1;subst h2
  show bindC kindOf ((p,w)::P.zip vs) m p=_
  unfold bindC
  rw[a7f fun v hv=>(List.nodup_cons.mp nd).1 (List.of_mem_zip hv).1,if_neg hk]
  simp
 | p::P,w::vs,i+1,m,nd,h1,h2,hk=>by
  show bindC kindOf ((p,w)::P.zip vs) m x=_
  unfold bindC
  exact a6M (i:=i) (List.nodup_cons.mp nd).2 (by simpa using h1) (by simpa using h2) hk
noncomputable def a2m (N:List Str) (vs:List V):St:=vs.map some++List.replicate (N.length - vs.length) none
noncomputable def a5u (CX:CXT) (P:Program) (w:World) (K:W.Frag) (mg:Str->Option Value) (base:Heap) (N:List Str) (qual:Str) (scope:Scope) (f:Addr) (cd:Value) (A:Around) (outer:List Env) (s:Shared) (H:Hp) (E:XK):Cx where
 prog:=P
 w:=w
 K:=K
 mg:=mg
 base:=base
 A:=A.deeper (envOfC qual scope s.heap.objs.size f cd)
 N:=N
 s₀:=s
 H₀:=H
 env:=envOfC qual scope s.heap.objs.size f cd
 outer:=outer
 stack:=envOfC qual scope s.heap.objs.size f cd::outer
 ex:=[]
 calm:=true
 fn:=fun _=>true
 pn:=[]
 xe:=fun e s'=>wpAny (model P w) (A.deeper (envOfC qual scope s.heap.objs.size f cd)) (leaving (envOfC qual scope s.heap.objs.size f cd) e) (fun _ s''=>CX outer H s E e s'') (fun e' s''=>CX outer H s E e' s'') s'
theorem a7U{sc:Scope}{n:Nat}{x:Str}(h:sc.names.lookup x=some .cell):∃c,(cellsFrom n sc.names []).lookup x=some c:=by
 have q:=W.cellsFrom_some sc.names n [] (.inl h)
 exact Option.isSome_iff_exists.mp q
theorem b0M{CX:CXT}{P:Program}{w:World}{K:W.Frag}{mg:Str->Option Value}{base:Heap}{N ps:List Str}{qual:Str}{scope:Scope}{f:Addr}{cd:Value}{A:Around}{outer:List Env}{s s1:Shared}{H:Hp}{E:XK}{us:List Value}{vs:List V}
  (S:R1 N ps scope)(hd:A.handled=none)(e0:a9e P w K mg base A outer s H)(hl:vs.length=ps.length)(r:W0 vs us)
  (x:InCallC s s.heap.objs.size (bindL (envOfC qual scope s.heap.objs.size f cd).kindOf (ps.zip us) fun _=>none) (cellsFrom (s.heap.objs.size+1) scope.names []) (bindC (envOfC qual scope s.heap.objs.size f cd).kindOf (ps.zip us) fun _=>none) s1):
  Inv (a5u CX P w K mg base N qual scope f cd A outer s H E) [] (a2m N vs) H s1:=by
 have hpl:ps.length<=N.length:=by have:=congrArg List.length S.pre;rw[AU]at this;omega
 obtain⟨h1,tk,rfl,hk⟩:=x.done
 have noA:∀b:Addr,b∉(a5u CX P w K mg base N qual scope f cd A outer s H E).ex:=fun b z=>absurd (show b∈([]:List Addr)from z) (by simp)
 refine⟨⟨e0.mod,S.kind,rfl,rfl,AE _,fun y z c h1 h2=>?_,fun y hy=>?_,fun y c _ h=>?_,fun _=>hd,Around.frames_deeper e0.frames,.inr ⟨rfl,rfl⟩,fun b z=>absurd z (noA b),e0.bs,e0.bsz,fun b _ _=>noA b,fun b z=>absurd z (noA b),e0.funs,e0.frf⟩,
  rfl,e0.bare,Un.kept hk,⟨_,x.toInCall.ns,fun i y v h1 h2 h3=>?_⟩,fun y c h=>⟨_,x.cell y c h⟩,e0.hok.fresh (AE _),fun y c h=>?_,fun p hp=>absurd (show p∈([]:List (Addr×Obj))from hp) (by simp),e0.hok.kept hk,?_⟩
 ·exact name_of_addr x.apart (PySem.mem_of_lookup h1) (PySem.mem_of_lookup h2)
 ·have hy:scope.names.lookup y=some .cell\/scope.names.lookup y=some .free:=hy
  rcases hy with hy | hy
  ·exact a7U hy
  ·exact absurd rfl (S.nofree _ (PySem.mem_of_lookup hy))
 ·exact Nat.le_of_lt (x.above y c (PySem.mem_of_lookup h))
 ·have hi:i < vs.length:=by
   unfold a2m at h2
   by_cases hi:i < vs.length
   ·exact hi
   ·rw[List.getElem?_append_right (by simpa using hi)]at h2
    rw[List.getElem?_replicate]at h2
    split at h2<;>cases h2
  have ha:vs[i]?=some v:=by
   unfold a2m at h2
   rw[List.getElem?_append_left (by simpa using hi),AN]at h2
   cases e:vs[i]? with
   | none=>rw[e]at h2;cases h2
   | some a=>rw[e]at h2;cases h2;rfl
  obtain⟨u,hu,rv⟩:=r.get ha
  have hp:ps[i]?=some y:=by
   rw[<-S.pre,List.getElem?_take_of_lt (by omega)];exact h1
  have ndP:ps.Nodup:=by rw[<-S.pre];exact S.nd.sublist (List.take_sublist _ _)
  refine⟨u,rv,?_⟩
  rcases S.par y (AF hp)with k | k
  ·exact .inl ⟨k,a6z ndP hp hu k⟩
  ·obtain⟨c,e⟩:=a7U (n:=s.heap.objs.size+1) k
   refine .inr ⟨.inl k,c,e,?_⟩
   have q:=x.cell y c e
   rw[a6M ndP hp hu (by show scope.names.lookup y≠_;rw[k];decide)]at q
   exact q
 ·exact e0.hok.fresh (Nat.le_of_lt (x.above y c (PySem.mem_of_lookup h)))
 ·unfold a2m
  show _=N.length
  rw[List.length_append,List.length_map,List.length_replicate]
  omega
theorem b1W{CX:CXT}{P:Program}{w:World}{K:W.Frag}{mg:Str->Option Value}{base:Heap}{k:Nat}{f:Addr}{name qual:Str}{params:Arguments}{body:List Stmt}{scope:Scope}{dV kV doc pm cdv ct oc:Value}{an od:Option Addr}
  {osl:Array (Option Value)}{N ps:List Str}{sp:Sp}(lk:K.lookup f=some ⟨oc,od,.func (W.fnOf name qual params body scope dV kV doc pm an cdv ct),osl⟩)(hcd:W.codeIn K cdv qual=true)(S:R1 N ps scope)
  (len:∀vs H Q E,sp vs H Q E->vs.length=ps.length)
  (hbody:∀(A:Around)(outer:List Env)(s:Shared)(H:Hp)(vs:List V)(Q:VK)(E:XK),M8 k (A.deeper (envOfC qual scope s.heap.objs.size f cdv))->sp vs H Q E->
   ∃t,PSs (a5u CX P w K mg base N qual scope f cdv A outer s H E) body t/\t {nx:=fun _ H'=>Q .non H',rt:=Q} (a2m N vs) H):
  a2L P w K mg base CX (k+1) f (W.fnOf name qual params body scope dV kV doc pm an cdv ct) ps sp:=by
 refine⟨len,fun A outer s H args us vs Q E hr e0 hb r hsp=>?_⟩
 have hl:=len _ _ _ _ hsp
 have KX:K.In s.heap:=e0.mod.kin.keeps fun b o e=>(e0.bs b o e).1
 have lim:s.heap.NoLimit:=e0.mod.nolimit.keeps fun b o e=>(e0.bs b o e).1
 have hkind:∀y∈ps.zip us,scope.names.lookup y.1=some .local\/(scope.names.lookup y.1=some .cell/\((cellsFrom (s.heap.objs.size+1) scope.names []).lookup y.1).isSome=true):=fun⟨n,v⟩hy=>by
  rcases S.par n (List.of_mem_zip hy).1 with q | q
  ·exact .inl q
  ·exact .inr ⟨q,W.cellsFrom_some _ _ _ (.inl q)⟩
 refine codeAny_call_function hr.depth (KX _ _ lk) rfl S.co S.gen rfl (W.codeRec_of KX hcd) (hb _ _ _ _ ?_)
 refine wpAny_newFunctionEnv_cells S.kind hkind fun env he s1 x=>?_
 subst he
 refine⟨lim.keeps x.toInCall.keep,codeAny_func ?_⟩
 obtain⟨t,ht,hq⟩:=hbody A outer s H vs Q E (hr.deeper _) hsp
 have I:Inv (a5u CX P w K mg base N qual scope f cdv A outer s H E) [] (a2m N vs) H s1:=b0M S hr.hd e0 hl r x
 refine wpAny_mono (ht [] s1 (a2m N vs) H _ I hq) (fun fl s' hs=>?_) fun e s' hs=>hs
 have fin:∀{σ':St}{H':Hp}{v:V}{u:Value},Inv (a5u CX P w K mg base N qual scope f cdv A outer s H E) [] σ' H' s'->W4 v u->Q v H'->CE outer P w H s Q u s':=
  fun{σ' H' v u}J rv q=>⟨v,H',J.os,J.bare,J.base,J.hok,rv,q⟩
 cases fl with
 | ret u=>
  obtain⟨v,σ',H',J,rv,q⟩:=hs
  exact fin J rv q
 | next=>
  obtain⟨σ',H',J,q⟩:=hs
  exact fin (v:=V.non) (u:=Value.none) J rfl q
 | brk=>
  obtain⟨_,_,_,q⟩:=hs
  exact False.elim q
 | cont=>
  obtain⟨_,_,_,q⟩:=hs
  exact False.elim q
end L2
namespace L2
open PySem PySem.Spec PyProof.Rows
section
variable{X:Cx}{x:Str}{p pos:Pos}{e:Expr}{es:List Expr}{t:TA}{id T:String}{r:List V->Hp->VK->Prop}
noncomputable def tCB (r:List V->Hp->VK->Prop) (t:TA):TE:=fun σ H Q=>t σ H fun vs H1=>r vs H1 Q
theorem R9(hc:a1b X (.builtin id) r)(hg:Gl X x)(hm:X.mg x=none)(hv:bootBuiltins x=some (.builtin id))(ha:PA X (e::es) t)(hn:x≠ "__name__":=by decide)(hdb:(x==("__debug__":Str))=false:=by decide)
  (he:starEach (e::es) X.env=(false,eval e X.env)::starEach es X.env:=by rfl)(hpl:(backTo pos (starEach es X.env)).any (·.1)=false:=by rfl):PE X (.Call (.Name x p) (e::es) [] pos) (tCB r t):=by
 intro pins s σ H Q I h
 refine wpAny_Call_Name_kw (a4w I hg hm hv ?_ hn hdb)
 exact PyProof.Rows.callWith_builtin1 (thn (ha pos pins s σ H _ I h) fun us s1⟨vs,H1,I1,r1,q1⟩=>hc pins s1 σ H1 vs us Q I1 r1 q1) he hpl
theorem Y0(hc:a1b X (.type T) r)(hg:Gl X x)(hm:X.mg x=none)(hv:bootBuiltins x=some (.type T))(ha:PA X (e::es) t)(hn:x≠ "__name__":=by decide)(hdb:(x==("__debug__":Str))=false:=by decide)
  (he:starEach (e::es) X.env=(false,eval e X.env)::starEach es X.env:=by rfl)(hpl:(backTo pos (starEach es X.env)).any (·.1)=false:=by rfl):PE X (.Call (.Name x p) (e::es) [] pos) (tCB r t):=by
 intro pins s σ H Q I h
 refine wpAny_Call_Name_kw (a4w I hg hm hv ?_ hn hdb)
 exact PyProof.Rows.callWith_type1 (thn (ha pos pins s σ H _ I h) fun us s1⟨vs,H1,I1,r1,q1⟩=>hc pins s1 σ H1 vs us Q I1 r1 q1) he hpl
end
end L2
namespace HT
open PySem PyProof.Rows
section
open PySem.SeqAt
open PySem.AutoSeq1 (wpAny_loadPart')
open PySem.MeetsSeq PySem.MeetsSeq2 PySem.MeetsSeq3
end
section
variable{prog:Program}{w:World}{A:Around}{E:Value->Shared->Prop}{s:Shared}
theorem b4a{t b:Addr}{vs ws:List Value}{Q:Value->Shared->Prop}(ht:IsTup s.heap t vs.toArray)(hb:IsTup s.heap b ws.toArray)(hv:vs≠[])
  (h1:ws=[]->Q (.ref t) s)(h2:ws≠[]->Q (.ref s.heap.objs.size) {s with heap:=s.heap.push {cls:= .type "tuple",data:= .seq (vs++ws).toArray}})
  (hsz:vs.length+ws.length<=sizeLine):wpAny (model prog w) A (binaryOp .Add (.ref t) (.ref b)) Q E s:=by
 obtain⟨⟨cls,dd,data,sl⟩,ho,hc,n,hd⟩:=id ht
 obtain⟨⟨cls2,dd2,data2,sl2⟩,ho2,hc2,n2,hd2⟩:=id hb
 simp only at hc hd hc2 hd2
 subst hc hd hc2 hd2
 have e:vs.toArray++ws.toArray=(vs++ws).toArray:=by simp
 by_cases hw:ws=[]
 ·exact concat_meets ⟨_,ho,rfl⟩ ⟨_,ho2,rfl⟩ noFill_tuple_add seq_tuple_add PySem.F.slot_tuple_add PySem.F.entry_tuple_add (PySem.F.args_tuple_add_2 _ _)
   (tuple_addW1 t b vs.toArray ws.toArray n n2 dd dd2 sl sl2 (by simpa using hv) (by simp[hw])) ⟨ho,ho2,h1 hw⟩
 ·refine concat_meets ⟨_,ho,rfl⟩ ⟨_,ho2,rfl⟩ noFill_tuple_add seq_tuple_add PySem.F.slot_tuple_add PySem.F.entry_tuple_add (PySem.F.args_tuple_add_2 _ _)
   (tuple_addW2 t b vs.toArray ws.toArray n n2 dd dd2 sl sl2 (by simpa using hv) (by simpa using hw) (by rw[List.size_toArray,List.size_toArray];exact hsz)) ⟨ho,ho2,?_⟩
  rw[e]
  exact h2 hw
noncomputable def sIx (n d:Nat):Option Int->Nat
 | none=>d
 | some v=>if v < 0 then(v+(n:Int)).toNat else min v.toNat n
theorem b2A(n d:Nat):sIx n d none=d:=rfl
theorem a7O(n d k:Nat):sIx n d (some (k:Int))=min k n:=by
 show(if(k:Int) < 0 then((k:Int)+(n:Int)).toNat else min (k:Int).toNat n)=min k n
 rw[if_neg (by omega),Int.toNat_natCast]
end
end HT
namespace L2
open PySem PySem.Spec PyProof.Rows
noncomputable abbrev TO:=St->Hp->(Option Int->Hp->Prop)->Prop
noncomputable def PO (X:Cx) (e:Option Expr) (t:TO):Prop:=
 ∀(pins:List (Addr×Obj))(s:Shared)(σ:St)(H:Hp)(Q:Option Int->Hp->Prop),Inv X pins σ H s->t σ H Q->
  wpAny (model X.prog X.w) X.A (evalPart e X.env) (fun u s'=>∃o H',Inv X pins σ H' s'/\IsPart u o/\Q o H') X.xe s
noncomputable def b3s:TO:=fun _ H Q=>Q none H
noncomputable def b6G (t:TE):TO:=fun σ H Q=>t σ H fun x H1=>∃i,x= .int i/\Q (some i) H1
theorem a5O{ns:List Int}:∀{us:List Value},W0 (ns.map V.int) us->IntsAre us ns:=by
 induction ns with
 | nil=>intro us r;rw[List.map_nil]at r;cases r;exact .nil
 | cons n ns ih=>
  intro us r
  rw[List.map_cons]at r
  cases r with
  | cons r1 r2=>
   obtain⟨t,e⟩:=r1
   subst e
   exact .cons n t (ih r2)
section
variable{X:Cx}{e:Expr}{te:TE}{lo hi:Option Expr}{tl th:TO}{pos p2:Pos}
theorem b0f:PO X none b3s:=by
 intro pins s σ H Q I h
 rw[evalPart_none]
 exact AJ ⟨none,H,I,.none,h⟩
theorem a3i(h:PE X e te):PO X (some e) (b6G te):=by
 intro pins s σ H Q I hw
 rw[evalPart_some]
 refine thn (h pins s σ H _ I hw) fun u s1⟨x,H1,I1,r1,q1⟩=>?_
 obtain⟨i,rfl,q⟩:=q1
 obtain⟨t,rfl⟩:=r1
 exact⟨some i,H1,I1,.int i t,q⟩
noncomputable def SlR (X:Cx) (r:V->Option Int->Option Int->Hp->VK->Prop):Prop:=
 ∀(pins:List (Addr×Obj))(s:Shared)(σ:St)(H:Hp)(x:V)(v vl vu:Value)(lo hi:Option Int)(sl:Addr)(Q:VK),Inv X pins σ H s->W4 x v->s.heap.IsSliceOf sl vl vu .none->IsPart vl lo->IsPart vu hi->r x lo hi H Q->
  ∃T id,typeLookup (.type T) "__getitem__"=pure (some (.builtin id))/\s.TypeIs v T/\wpAny (model X.prog X.w) X.A (getItem v (.ref sl)) (EP X pins σ Q) X.xe s
noncomputable def tSl (r:V->Option Int->Option Int->Hp->VK->Prop) (te:TE) (tl th:TO):TE:=fun σ H Q=>te σ H fun x H1=>tl σ H1 fun l H2=>th σ H2 fun u H3=>r x l u H3 Q
theorem a3W{r:V->Option Int->Option Int->Hp->VK->Prop}(hr:SlR X r)(he:PE X e te)(hl:PO X lo tl)(hu:PO X hi th):PE X (.Subscript e (.Slice lo hi none p2) pos) (tSl r te tl th):=by
 intro pins s σ H Q I h
 refine Subscript_ (thn (he pins s σ H _ I h) fun v s1⟨x,H1,I1,r1,q1⟩=>?_)
 refine wpAny_Slice (thn (hl pins s1 σ H1 _ I1 q1) fun vl s2⟨l,H2,I2,pl,q2⟩=>thn (hu pins s2 σ H2 _ I2 q2) fun vu s3⟨u,H3,I3,pu,q3⟩=>?_)
 rw[evalPart_none]
 refine AJ ?_
 have I4:Inv X pins σ H3 {s3 with heap:=s3.heap.push {cls:= .type "slice",data:= .fields #[vl,vu,.none]}}:=I3.kept (t':=s3.toks) fun b ob q=>AH _ q
 obtain⟨T,id,hT,ht,hg⟩:=hr pins {s3 with heap:=s3.heap.push {cls:= .type "slice",data:= .fields #[vl,vu,.none]}} σ H3 x v vl vu l u s3.heap.objs.size Q I4 r1 (Heap.IsSliceOf.new ..) pl pu q3
 show wpAny (model X.prog X.w) X.A (subscriptTail e (.Slice lo hi none p2) v (.ref s3.heap.objs.size)) (EP X pins σ Q) X.xe {s3 with heap:=s3.heap.push {cls:= .type "slice",data:= .fields #[vl,vu,.none]}}
 exact tail_any (ops:=[.ref s3.heap.objs.size,v]) ht hT hg (by with_unfolding_all rfl)
noncomputable def a5Z (xs:List V) (lo hi:Option Int):List V:=(xs.drop (HT.sIx xs.length 0 lo)).take (HT.sIx xs.length xs.length hi - HT.sIx xs.length 0 lo)
theorem a8O(xs:List V)(lo hi:Option Int):(a5Z xs lo hi).length<=xs.length:=by
 unfold a5Z
 rw[AU,List.length_drop]
 omega
noncomputable def b6L (K:W.Frag):R2:=fun x y H Q=>∃a b xs ys,x= .ref a/\y= .ref b/\SqT K H a xs/\SqT K H b ys/\xs≠[]/\xs.length+ys.length<=sizeLine/\
 (ys=[]->Q (.ref a) H)/\(ys≠[]->∀p,H p=none->Q (.ref p) (upd H p (.tup (xs++ys))))
theorem W0.nil_iff{xs:List V}{us:List Value}(r:W0 xs us):us=[]↔xs=[]:=by
 cases r with
 | nil=>simp
 | cons _ _=>simp
theorem b3Q:OpR X (binaryOp .Add) (b6L X.K):=by
 intro pins s σ H x y v u Q I rx ry h
 obtain⟨a,b,xs,ys,rfl,rfl,ha,hb,hx,hz,q1,q2⟩:=h
 cases rx
 cases ry
 obtain⟨its,r1,p1,_⟩:=I.tuple ha
 obtain⟨its2,r2,p2,_⟩:=I.tuple hb
 refine HT.b4a p1 p2 (fun z=>hx (r1.nil_iff.mp z)) (fun z=>⟨.ref a,H,I,rfl,q1 (r2.nil_iff.mp z)⟩) (fun z=>?_) (by rw[<-r1.length,<-r2.length];exact hz)
 refine⟨.ref s.heap.objs.size,_,I.laid (t':=s.toks) (o:= .tup (xs++ys)) (fun b ob q=>AH _ q) (AE _) ?_,rfl,q2 (fun w=>z (r2.nil_iff.mpr w)) _ (I.hok.fresh (AE _))⟩
 exact⟨by rw[List.length_append];exact hz,_,r1.append r2,IsTup.new _ _⟩
end
end L2
namespace L2
open PySem PySem.Spec PyProof.Rows
noncomputable def ixN (n:Nat) (i:Int):Option Nat:=if 0<=i then(if i < n then some i.toNat else none)else if -(n:Int)<=i then some (i+n).toNat else none
noncomputable def atI {α:Type} (xs:List α) (i:Int):Option α:=(ixN xs.length i).bind fun j=>xs[j]?
theorem b4x{n:Nat}{i:Int}{j:Nat}(h:ixN n i=some j):seqIndex? i n=some j/\j < n/\ -(n:Int)<=i/\i < n:=by
 unfold ixN at h
 by_cases h0:0<=i
 ·rw[if_pos h0]at h
  by_cases h1:i < n
  ·rw[if_pos h1]at h
   have e:i.toNat=j:=Option.some.inj h
   exact⟨by rw[seqIndex_of h0 h1,e],by omega,by omega,h1⟩
  ·rw[if_neg h1]at h;cases h
 ·rw[if_neg h0]at h
  by_cases h1: -(n:Int)<=i
  ·rw[if_pos h1]at h
   have e:(i+n).toNat=j:=Option.some.inj h
   exact⟨by rw[seqIndex_neg (by omega) h1,e],by omega,h1,by omega⟩
  ·rw[if_neg h1]at h;cases h
theorem a7m{α:Type}{xs:List α}{i:Int}{v:α}(h:atI xs i=some v):∃j,seqIndex? i xs.length=some j/\xs[j]?=some v/\j < xs.length/\ -(xs.length:Int)<=i/\i < xs.length:=by
 unfold atI at h
 cases e:ixN xs.length i with
 | none=>rw[e]at h;cases h
 | some j=>
  rw[e]at h
  obtain⟨h1,h2,h3,h4⟩:=b4x e
  exact⟨j,h1,h,h2,h3,h4⟩
theorem G9{α:Type}{xs:List α}{j:Nat}{v:α}(h:xs[j]?=some v):atI xs (j:Int)=some v:=by
 have hj:j < xs.length:=(AB.mp h).1
 have e:ixN xs.length (j:Int)=some j:=by
  unfold ixN
  rw[if_pos (by omega),if_pos (by omega)];simp
 unfold atI;rw[e];exact h
noncomputable def b3O (b:Expr):Prop:=∀o i,subscripted b false o i=operate [o,i] (getItem o i)
noncomputable def IxR (X:Cx) (r:R2):Prop:=
 ∀(value slice:Expr)(pins:List (Addr×Obj))(s:Shared)(σ:St)(H:Hp)(x y:V)(v u:Value)(Q:VK),Inv X pins σ H s->W4 x v->W4 y u->r x y H Q->
  subscripted slice false v u=operate [v,u] (getItem v u)->wpAny (model X.prog X.w) X.A (subscriptTail value slice v u) (EP X pins σ Q) X.xe s
noncomputable def MtR (X:Cx) (id:String) (r:V->List V->Hp->VK->Prop):Prop:=
 ∀(pins:List (Addr×Obj))(s:Shared)(σ:St)(H:Hp)(x:V)(xs:List V)(v:Value)(us:List Value)(Q:VK),Inv X pins σ H s->W4 x v->W0 xs us->r x xs H Q->
  wpAny (model X.prog X.w) X.A (call (.builtin id) (v::us)) (EP X pins σ Q) X.xe s
section
variable{X:Cx}{a b:Expr}{ta tb:TE}{pos:Pos}
theorem J0{r:R2}(hr:IxR X r)(ha:PE X a ta)(hb:PE X b tb)(hs:b3O b):PE X (.Subscript a b pos) (tOp r ta tb):=by
 intro pins s σ H Q I h
 exact Subscript_ (b5Q ha hb I h fun v u s2 x y H2 I2 rx ry q=>hr a b pins s2 σ H2 x y v u Q I2 rx ry q (hs _ _))
noncomputable def b5Z (K:W.Frag):R2:=fun x y H Q=>∃p xs i v,x= .ref p/\y= .int i/\SqL K H p xs/\atI xs i=some v/\Q v H
noncomputable def b6w (K:W.Frag):R2:=fun x y H Q=>∃p xs i v,x= .ref p/\y= .int i/\SqT K H p xs/\atI xs i=some v/\Q v H
noncomputable def b6S:R2:=fun x y H Q=>∃z i c,x= .str z/\y= .int i/\z.length<=sizeLine/\atI z.cps.toList i=some c/\Q (.str ⟨#[c]⟩) H
theorem W7:IxR X (b5Z X.K):=by
 intro value slice pins s σ H x y v u Q I rx ry h hs
 obtain⟨p,xs,i,z,rfl,rfl,hq,he,q⟩:=h
 cases rx
 obtain⟨t,rfl⟩:=ry
 obtain⟨its,r,pl,hz⟩:=I.list hq
 obtain⟨j,h1,h2,h3,h4,h5⟩:=a7m he
 obtain⟨w,ew,rw'⟩:=r.get h2
 have hl:=r.length
 have hn:=a5s
 have fin:EP X pins σ Q w s:=⟨z,H,I,rw',q⟩
 by_cases h0:0<=i
 ·have hj:i.toNat=j:=by
   rw[seqIndex_of h0 h5]at h1
   exact Option.some.inj h1
  exact item_listR pl.isList h0 (by omega) (by rw[hj];simpa using ew) fin hs
 ·have hj:(i+(its.toArray.size:Int)).toNat=j:=by
   rw[seqIndex_neg (by omega) h4]at h1
   rw[List.size_toArray,<-hl]
   exact Option.some.inj h1
  exact subscriptTail_builtinR (x:=w) pl.isList.typeIs slot_list_getitem.lookup
   (wpAny_getItem_list_neg (Q:=fun r s'=>r=w/\EP X pins σ Q r s') pl.isList (by omega) (by rw[List.size_toArray]<;>omega) (by omega) (by rw[hj];simpa using ew) ⟨rfl,fin⟩) hs
theorem J1:IxR X (b6w X.K):=by
 intro value slice pins s σ H x y v u Q I rx ry h hs
 obtain⟨p,xs,i,z,rfl,rfl,hq,he,q⟩:=h
 cases rx
 obtain⟨t,rfl⟩:=ry
 obtain⟨its,r,pl,hz⟩:=I.tuple hq
 obtain⟨j,h1,h2,h3,h4,h5⟩:=a7m he
 obtain⟨w,ew,rw'⟩:=r.get h2
 have hl:=r.length
 have hn:=a5s
 have fin:EP X pins σ Q w s:=⟨z,H,I,rw',q⟩
 exact subscriptTail_builtinR (x:=w) pl.typeIs slot_tuple_getitem.lookup
  (getItem_tuple (j:=j) (Q:=fun r s'=>r=w/\EP X pins σ Q r s') pl (by omega) (by omega) (by rw[List.size_toArray,<-hl];exact h1) (by simpa using ew) ⟨rfl,fin⟩) hs
theorem a8Y:IxR X b6S:=by
 intro value slice pins s σ H x y v u Q I rx ry h hs
 obtain⟨z,i,c,rfl,rfl,hz,he,q⟩:=h
 obtain⟨t,rfl⟩:=rx
 obtain⟨t',rfl⟩:=ry
 obtain⟨j,h1,h2,h3,h4,h5⟩:=a7m he
 have hl:z.cps.toList.length=z.length:=by simp[Str.length]
 rw[hl]at h1 h4 h5
 have hn:=a5s
 exact tail_any (typeIs_str s z t) slot_str_getitem.lookup (getItem_str (c:=c) (by
  have e1:decide (i < -(2 ^ 63:Int))=false:=AM (by omega)
  have e2:decide (i≥2 ^ 63)=false:=AM (by omega)
  rw[e1,e2,Bool.or_false]) (by rw[h1];simpa using h2) ⟨.str ⟨#[c]⟩,H,I.tok _,⟨_,rfl⟩,q⟩) hs
theorem a7L(lo hi:Option Int)(n:Nat):(sliceBounds lo hi none n).1=((HT.sIx n 0 lo:Nat):Int)/\(sliceBounds lo hi none n).2.1=((HT.sIx n n hi:Nat):Int)/\(sliceBounds lo hi none n).2.2=1:=by
 refine⟨?_,?_,rfl⟩
 ·cases lo with
  | none=>simp[sliceBounds,HT.sIx]
  | some i=>
   simp only[sliceBounds,HT.sIx,Option.getD_none,show(1:Int) > 0 by decide,if_true]
   by_cases h:i < 0
   ·simp only[h,if_true]<;>omega
   ·simp only[h,if_false]<;>omega
 ·cases hi with
  | none=>simp[sliceBounds,HT.sIx]
  | some i=>
   simp only[sliceBounds,HT.sIx,Option.getD_none,show(1:Int) > 0 by decide,if_true]
   by_cases h:i < 0
   ·simp only[h,if_true]<;>omega
   ·simp only[h,if_false]<;>omega
theorem a6p(its:List Value)(lo hi:Option Int):slicePick its.toArray lo hi none=((its.drop (HT.sIx its.length 0 lo)).take (HT.sIx its.length its.length hi - HT.sIx its.length 0 lo)).toArray:=by
 obtain⟨h1,h2,h3⟩:=a7L lo hi its.toArray.size
 unfold slicePick
 rw[h1,h2,h3]
 simp only[sliceRange_one,pick_run,List.size_toArray]<;>rfl
noncomputable def b6Q (K:W.Frag):V->Option Int->Option Int->Hp->VK->Prop:=fun x lo hi H Q=>∃a xs,x= .ref a/\SqL K H a xs/\∀p,H p=none->Q (.ref p) (upd H p (.lst (a5Z xs lo hi)))
theorem a4W:SlR X (b6Q X.K):=by
 intro pins s σ H x v vl vu lo hi sl Q I rx hs pl pu h
 obtain⟨a,xs,rfl,hx,q⟩:=h
 cases rx
 obtain⟨its,r,ht,hz⟩:=I.list hx
 have hlen:=r.length
 refine⟨"list",_,slot_list_getitem.lookup,ht.isList.typeIs,?_⟩
 refine wpAny_getItem_list_slice ht.isList hs pl pu .none (by simp) ?_ (by rw[List.size_toArray]<;>omega)
 rw[a6p,<-hlen]
 refine⟨.ref s.heap.objs.size,_,I.laid (t':=s.toks) (o:= .lst (a5Z xs lo hi)) (fun b ob q=>AH _ q) (AE _) ?_,rfl,q _ (I.hok.fresh (AE _))⟩
 exact⟨Nat.le_trans (a8O xs lo hi) hz,_,0,(r.drop (HT.sIx xs.length 0 lo)).take (HT.sIx xs.length xs.length hi - HT.sIx xs.length 0 lo),AS _ rfl⟩
noncomputable def a3b:V->Bool
 | .non=>true
 | .bl _=>true
 | .int _=>true
 | .str _=>true
 | _=>false
noncomputable def eqV:V->V->Bool
 | .non,.non=>true
 | .bl a,.bl b=>a==b
 | .bl a,.int b=>(if a then 1 else 0)==b
 | .int a,.bl b=>a==(if b then 1 else 0)
 | .int a,.int b=>a==b
 | .str a,.str b=>a==b
 | _,_=>false
theorem a9f{A:Around}{s:Shared}{y x:V}{u v:Value}(ry:W4 y u)(rx:W4 x v)(fy:a3b y=true)(fx:a3b x=true):SeqAt.EqAt A s u v (eqV y x):=by
 cases y with
 | non=>
  cases ry
  cases x with
  | non=>cases rx;exact SeqAt.EqAt.same _
  | bl b=>cases rx;exact SeqAt.EqAt.none_bool b
  | int b=>obtain⟨t,rfl⟩:=rx;exact SeqAt.EqAt.none_int b t
  | str b=>obtain⟨t,rfl⟩:=rx;exact SeqAt.EqAt.none_str b t
  | _=>exact absurd (show false=true from fx) AD
 | bl a=>
  cases ry
  cases x with
  | non=>cases rx;exact SeqAt.EqAt.bool_none a
  | bl b=>cases rx;exact SeqAt.EqAt.bool_bool a b
  | int b=>obtain⟨t,rfl⟩:=rx;exact SeqAt.EqAt.bool_int a b t
  | str b=>obtain⟨t,rfl⟩:=rx;exact SeqAt.EqAt.bool_str a b t
  | _=>exact absurd (show false=true from fx) AD
 | int a=>
  obtain⟨t',rfl⟩:=ry
  cases x with
  | non=>cases rx;exact SeqAt.EqAt.int_none a t'
  | bl b=>cases rx;exact SeqAt.EqAt.int_bool a t' b
  | int b=>obtain⟨t,rfl⟩:=rx;exact SeqAt.EqAt.int_int a t' b t
  | str b=>obtain⟨t,rfl⟩:=rx;exact SeqAt.EqAt.int_str a t' b t
  | _=>exact absurd (show false=true from fx) AD
 | str a=>
  obtain⟨t',rfl⟩:=ry
  cases x with
  | non=>cases rx;exact SeqAt.EqAt.str_none a t'
  | bl b=>cases rx;exact SeqAt.EqAt.str_bool a t' b
  | int b=>obtain⟨t,rfl⟩:=rx;exact SeqAt.EqAt.str_int a t' b t
  | str b=>obtain⟨t,rfl⟩:=rx;exact SeqAt.EqAt.str_str a t' b t
  | _=>exact absurd (show false=true from fx) AD
 | _=>exact absurd (show false=true from fy) AD
noncomputable def eqU (x:V) (u:Value):Bool:=match u with
 | .none=>eqV .non x
 | .bool b=>eqV (.bl b) x
 | .int i _=>eqV (.int i) x
 | .str z _=>eqV (.str z) x
 | _=>false
theorem b1U{x y:V}{u:Value}(r:W4 y u)(f:a3b y=true):eqU x u=eqV y x:=by
 cases y with
 | non=>cases r;rfl
 | bl b=>cases r;rfl
 | int i=>obtain⟨t,rfl⟩:=r;rfl
 | str z=>obtain⟨t,rfl⟩:=r;rfl
 | _=>exact absurd (show false=true from f) AD
theorem a3H{x:V}:∀{xs:List V}{us:List Value},W0 xs us->xs.all a3b=true->us.any (eqU x)=xs.any fun y=>eqV y x
 | _,_,.nil,_=>rfl
 | y::xs,u::us,.cons r t,f=>by
  rw[List.all_cons,Bool.and_eq_true]at f
  rw[List.any_cons,List.any_cons,b1U r f.1,a3H t f.2]
theorem a2Z{A:Around}{s:Shared}{x:V}{v:Value}(rx:W4 x v)(fx:a3b x=true):∀{xs:List V}{us:List Value},W0 xs us->xs.all a3b=true->∀u∈us,SeqAt.EqAt A s u v (eqU x u)
 | _,_,.nil,_=>fun u hu=>by cases hu
 | y::xs,u::us,.cons r t,f=>fun u' hu=>by
  rw[List.all_cons,Bool.and_eq_true]at f
  rcases List.mem_cons.mp hu with rfl | hu
  ·rw[b1U r f.1];exact a9f r rx f.1 fx
  ·exact a2Z rx fx t f.2 u' hu
noncomputable def inV (x:V) (xs:List V):Bool:=xs.any fun y=>eqV y x
noncomputable def rIn (K:W.Frag) (neg:Bool):R2:=fun x y H Q=>∃p xs,y= .ref p/\(SqL K H p xs\/SqT K H p xs)/\a3b x=true/\xs.all a3b=true/\Q (.bl (if neg then !inV x xs else inV x xs)) H
theorem a2i:OpR X (compareOp .In) (rIn X.K false):=by
 intro pins s σ H x y v u Q I rx ry h
 obtain⟨p,xs,rfl,hq,fx,fs,q⟩:=h
 cases ry
 rcases hq with hq | hq
 ·obtain⟨its,r,pl,hz⟩:=I.list hq
  refine SeqAt.in_listAt (eqU x) pl.isList (fun w hw=>a2Z rx fx r fs w (by simpa using hw)) ⟨.bl _,H,I,rfl,?_⟩
  rw[show its.toArray.any (eqU x)=its.any (eqU x)by simp,a3H r fs]
  exact q
 ·obtain⟨its,r,pl,hz⟩:=I.tuple hq
  refine SeqAt.in_tupleAt (eqU x) pl (fun w hw=>a2Z rx fx r fs w (by simpa using hw)) ⟨.bl _,H,I,rfl,?_⟩
  rw[show its.toArray.any (eqU x)=its.any (eqU x)by simp,a3H r fs]
  exact q
theorem a1B:OpR X (compareOp .NotIn) (rIn X.K true):=by
 intro pins s σ H x y v u Q I rx ry h
 obtain⟨p,xs,rfl,hq,fx,fs,q⟩:=h
 cases ry
 rcases hq with hq | hq
 ·obtain⟨its,r,pl,hz⟩:=I.list hq
  refine SeqAt.notIn_listAt (eqU x) pl.isList (fun w hw=>a2Z rx fx r fs w (by simpa using hw)) ⟨.bl _,H,I,rfl,?_⟩
  rw[show its.toArray.any (eqU x)=its.any (eqU x)by simp,a3H r fs]
  exact q
 ·obtain⟨its,r,pl,hz⟩:=I.tuple hq
  refine SeqAt.notIn_tupleAt (eqU x) pl (fun w hw=>a2Z rx fx r fs w (by simpa using hw)) ⟨.bl _,H,I,rfl,?_⟩
  rw[show its.toArray.any (eqU x)=its.any (eqU x)by simp,a3H r fs]
  exact q
theorem U2:a1b X (.builtin "len") (fun xs H Q=>∃p ys,xs=[.ref p]/\(SqL X.K H p ys\/SqT X.K H p ys)/\Q (.int ys.length) H):=by
 intro pins s σ H xs us Q I r h
 obtain⟨p,ys,rfl,hq,q⟩:=h
 obtain⟨u,rfl,rx⟩:=a3q r
 cases rx
 have hn:=a5s
 rcases hq with hq | hq
 ·obtain⟨its,r',pl,hz⟩:=I.list hq
  have hlen:=r'.length
  exact Calls.call_len_list pl.isList (by simp only[List.size_toArray]<;>omega) ⟨.int ys.length,H,I.tok _,⟨s.toks+1,by rw[List.size_toArray,hlen]⟩,q⟩
 ·obtain⟨its,r',pl,hz⟩:=I.tuple hq
  have hlen:=r'.length
  exact len_tuple pl (by simp only[List.size_toArray]<;>omega) ⟨.int ys.length,H,I.tok _,⟨s.toks+1,by rw[List.size_toArray,hlen]⟩,q⟩
theorem a1b.or{f:Value}{r r':List V->Hp->VK->Prop}(h:a1b X f r)(h':a1b X f r'):a1b X f (fun xs H Q=>r xs H Q\/r' xs H Q):=by
 intro pins s σ H xs us Q I rs q
 rcases q with q | q
 ·exact h pins s σ H xs us Q I rs q
 ·exact h' pins s σ H xs us Q I rs q
theorem a2z:a1b X (.type "list") (fun xs H Q=>∃p ys,xs=[.ref p]/\(SqL X.K H p ys\/SqT X.K H p ys)/\∀l,H l=none->Q (.ref l) (upd H l (.lst ys))):=by
 intro pins s σ H xs us Q I r h
 obtain⟨p,ys,rfl,hq,q⟩:=h
 obtain⟨u,rfl,rx⟩:=a3q r
 cases rx
 have fin:∀(its:List Value),W0 ys its->ys.length<=sizeLine->∀(h':Heap)(c':Nat),(∀b o',s.heap.get? b=some o'->h'.get? b=some o')->
   h'.get? s.heap.objs.size=some {cls:= .type "list",dict:=none,data:= .seq its.toArray c',slots:= #[]}->EP X pins σ Q (.ref s.heap.objs.size) {s with heap:=h'}:=fun its r' hz h' c' kp e=>
  ⟨.ref s.heap.objs.size,_,I.laid (t':=s.toks) kp (AE _) (show Z6 X.prog X.w _ h' _ (.lst ys)from⟨hz,its,c',r',e⟩),rfl,q _ (I.hok.fresh (AE _))⟩
 rcases hq with hq | hq
 ·obtain⟨its,r',pl,hz⟩:=I.list hq
  have hlen:=r'.length
  obtain⟨o,ho,hc,n,hd⟩:=pl.isList
  exact call_list_seq p (.inl rfl) ho hc hd (fun h' c' kp e=>fin its r' hz h' c' kp e) (by simp only[List.size_toArray]<;>omega)
 ·obtain⟨its,r',pl,hz⟩:=I.tuple hq
  have hlen:=r'.length
  obtain⟨o,ho,hc,n,hd⟩:=pl
  exact call_list_seq p (.inr rfl) ho hc hd (fun h' c' kp e=>fin its r' hz h' c' kp e) (by simp only[List.size_toArray]<;>omega)
theorem W8:a1b X (.type "tuple") (fun xs H Q=>∃p ys,xs=[.ref p]/\((SqL X.K H p ys/\∀l,H l=none->Q (.ref l) (upd H l (.tup ys)))\/(SqT X.K H p ys/\Q (.ref p) H))):=by
 intro pins s σ H xs us Q I r h
 obtain⟨p,ys,rfl,h⟩:=h
 obtain⟨u,rfl,rx⟩:=a3q r
 cases rx
 rcases h with⟨hq,q⟩ | ⟨hq,q⟩
 ·obtain⟨its,r',pl,hz⟩:=I.list hq
  have hlen:=r'.length
  refine call_tuple_list pl.isList (fun h' kp=>?_) (by simp only[List.size_toArray]<;>omega)
  have I1:Inv X pins σ H {s with heap:=h'}:=I.kept (t':=s.toks) kp
  have I2:Inv X pins σ (upd H h'.objs.size (.tup ys)) {s with heap:=h'.push {cls:= .type "tuple",data:= .seq its.toArray}}:=
   I1.laid (t':=s.toks) (fun b o e=>AH _ e) (AE _) (show Z6 X.prog X.w _ _ _ (.tup ys)from⟨hz,its,r',IsTup.new _ _⟩)
  exact⟨.ref h'.objs.size,_,I2,rfl,q _ (I1.hok.fresh (AE _))⟩
 ·obtain⟨its,r',pl,hz⟩:=I.tuple hq
  exact call_tuple_same pl ⟨.ref p,H,I,rfl,q⟩
noncomputable def tyV (K:W.Frag) (T:String) (x:V) (H:Hp):Prop:=match x with
 | .str _=>T="str"
 | .int _=>T="int"
 | .ref p=>(T="list"/\∃xs,SqL K H p xs)\/(T="tuple"/\∃o,K.lookup p=some o/\o.cls= .type "tuple"/\o.dict=none)\/
   (T="dict"/\((∃kvs,H p=some (.dK kvs))\/∃kvs,H p=some (.dT kvs)))\/(T="set"/\∃S n,H p=some (.set S n))
 | _=>False
theorem b1R{pins:List (Addr×Obj)}{σ:St}{H:Hp}{s:Shared}{T:String}{x:V}{v:Value}(I:Inv X pins σ H s)(r:W4 x v)(ty:tyV X.K T x H):
  s.TypeIs v T/\∀a,v= .ref a->∃ob,s.heap.get? a=some ob/\ob.dict=none:=by
 cases x with
 | str z=>
  obtain⟨t,rfl⟩:=r
  cases(show T="str" from ty)
  exact⟨typeIs_str s z t,fun _ e=>nomatch e⟩
 | int i=>
  obtain⟨t,rfl⟩:=r
  cases(show T="int" from ty)
  exact⟨typeIs_int s i t,fun _ e=>nomatch e⟩
 | ref p=>
  cases r
  rcases ty with⟨rfl,xs,hq⟩ | ⟨rfl,o,hk,hc,hd⟩ | ⟨rfl,hk⟩ | ⟨rfl,S,n,hk⟩
  ·obtain⟨its,_,pl,_⟩:=I.list hq
   refine⟨pl.isList.typeIs,fun a e=>?_⟩
   cases e
   obtain⟨o,n,e,c,hd,_⟩:=pl
   exact⟨o,e,hd⟩
  ·refine⟨⟨o,I.kIn p o hk,hc⟩,fun a e=>?_⟩
   cases e
   exact⟨o,I.kIn _ o hk,hd⟩
  ·have z:∃o,s.heap.get? p=some o/\o.ExactDict:=by
    rcases hk with⟨kvs,hk⟩ | ⟨kvs,hk⟩
    ·obtain⟨_,_,_,_,o,_,_,e,ex,_⟩:=I.hok p _ hk
     exact⟨o,e,ex⟩
    ·obtain⟨_,_,_,_,o,_,_,e,ex,_⟩:=I.hok p _ hk
     exact⟨o,e,ex⟩
   obtain⟨o,e,ex⟩:=z
   refine⟨⟨o,e,ex.1⟩,fun a e2=>?_⟩
   cases e2
   exact⟨o,e,ex.2.1⟩
  ·obtain⟨o,_,_,_,e,ex,_⟩:=I.hok p _ hk
   refine⟨⟨o,e,ex.1⟩,fun a e2=>?_⟩
   cases e2
   exact⟨o,e,ex.2.1⟩
 | _=>exact False.elim ty
noncomputable def b6N (K:W.Frag) (T:String) (r:V->List V->Hp->VK->Prop) (to:TE):TE:=fun σ H Q=>to σ H fun x H1=>tyV K T x H1/\r x [] H1 Q
noncomputable def tBM (K:W.Frag) (T:String) (r:V->List V->Hp->VK->Prop) (to:TE) (t:TA):TE:=fun σ H Q=>to σ H fun x H1=>tyV K T x H1/\t σ H1 fun xs H2=>r x xs H2 Q
variable{o e:Expr}{es:List Expr}{to:TE}{t:TA}{name:Str}{apos cpos:Pos}{T id:String}{r:V->List V->Hp->VK->Prop}
theorem b2U(pa:PlainAttrs T)(slot:Slot T name id)(hty:typeOf (.builtin id)=pure (.type "method_descriptor"))(hm:MtR X id r)(ho:PE X o to)
  (hbase:attributeBase o name X.env (eval o X.env)=eval o X.env:=by rfl)(hline:(apos.endLine==cpos.line)=true:=by rfl):PE X (.Call (.Attribute o name apos) [] [] cpos) (b6N X.K T r to):=by
 intro pins s σ H Q I h
 refine wpAny_Call_method0_late hbase hline (thn (ho pins s σ H _ I h) fun v s1⟨x,H1,I1,r1,ty,q1⟩=>?_)
 obtain⟨h1,h2⟩:=b1R I1 r1 ty
 exact⟨T,id,pa,slot,hty,h1,h2,Calls.callWith_builtin rfl (PySem.evalArgs_none (hm pins s1 σ H1 x [] v [] Q I1 r1 .nil q1))⟩
theorem D0(pa:PlainAttrs T)(slot:Slot T name id)(hty:typeOf (.builtin id)=pure (.type "method_descriptor"))(hm:MtR X id r)(ho:PE X o to)(ha:PA X (e::es) t)
  (hbase:attributeBase o name X.env (eval o X.env)=eval o X.env:=by rfl)
  (hfew:((backTo cpos (starEach (e::es) X.env)).all (fun x=>!x.1) && (backToKw cpos (keywordEach [] X.env)).all (fun x=>x.1.isSome)
   && decide ((e::es).length+([]:List Keyword).length+(if([]:List Keyword).isEmpty then 0 else 1) < 30))=true:=by rfl)
  (hline:(apos.endLine==cpos.line)=true:=by rfl)(hs:starEach (e::es) X.env=(false,eval e X.env)::starEach es X.env:=by rfl)(hplain:(backTo cpos (starEach es X.env)).any (·.1)=false:=by rfl):
  PE X (.Call (.Attribute o name apos) (e::es) [] cpos) (tBM X.K T r to t):=by
 intro pins s σ H Q I h
 refine wpAny_Call_method_late hbase hfew hline rfl (thn (ho pins s σ H _ I h) fun v s1⟨x,H1,I1,r1,ty,q1⟩=>?_)
 obtain⟨h1,h2⟩:=b1R I1 r1 ty
 refine⟨T,id,pa,slot,hty,h1,h2,?_⟩
 have hA:=ha cpos pins s1 σ H1 _ I1 q1
 rw[hs]at hA⊢
 refine Calls.callWith_builtin (by show(false || (backTo cpos (starEach es X.env)).any (·.1))=false;rw[hplain]<;>rfl) (Calls.evalArgs_plain ?_)
 exact thn hA fun us s2⟨vs,H2,I2,r2,q2⟩=>hm pins s2 σ H2 x vs v us Q I2 r1 r2 q2
end
end L2
namespace L2
open PySem PySem.Spec PyProof.Rows
noncomputable def MtM (X:Cx) (id:String) (r:V->List V->Hp->VK->Prop):Prop:=
 ∀(pins:List (Addr×Obj))(s:Shared)(σ:St)(H:Hp)(x:V)(xs:List V)(v:Value)(us:List Value)(Q:VK),Inv X pins σ H s->W4 x v->W0 xs us->r x xs H Q->
  wpAny (model X.prog X.w) X.A (call (.builtin id) (v::us)) (EP X pins σ Q) X.xe s
theorem W0.one:∀{x:V}{us:List Value},W0 [x] us->∃u,us=[u]/\W4 x u
 | _,_,.cons r .nil=>⟨_,rfl,r⟩
theorem W0.zero:∀{us:List Value},W0 [] us->us=[]
 | _,.nil=>rfl
theorem W0.dropLast{xs:List V}{us:List Value}(h:W0 xs us):W0 xs.dropLast us.dropLast:=by
 induction h with
 | nil=>exact .nil
 | cons r t ih=>
  cases t with
  | nil=>exact .nil
  | cons q t'=>exact .cons r ih
theorem W0.eraseIdx:∀{xs:List V}{us:List Value}(i:Nat),W0 xs us->W0 (xs.eraseIdx i) (us.eraseIdx i)
 | _,_,_,.nil=> .nil
 | _,_,0,.cons _ t=>t
 | _,_,i+1,.cons r t=> .cons r (W0.eraseIdx i t)
theorem a9M{α:Type}(l:List α):l.eraseIdx (l.length - 1)=l.dropLast:=by
 induction l with
 | nil=>rfl
 | cons a r ih=>
  cases r with
  | nil=>rfl
  | cons b r=>
   have e:(a::b::r).length - 1=((b::r).length - 1)+1:=by
    have h1:(a::b::r).length=r.length+2:=rfl
    have h2:(b::r).length=r.length+1:=rfl
    omega
   rw[e,List.eraseIdx_cons_succ,ih]
   all_goals rfl
theorem a6Y{α:Type}:∀(l:List α)(i:Nat),(l.eraseIdx i).length<=l.length
 | [],_=>AE _
 | _::_,0=>Nat.le_succ _
 | _::r,i+1=>Nat.succ_le_succ (a6Y r i)
section
variable{X:Cx}{pins:List (Addr×Obj)}{σ:St}{H:Hp}{s:Shared}{l b:Addr}{xs ys zs:List V}
theorem Inv.lset{its its':List Value}{n:Nat}{f:Array Value->Array Value}{t':Nat}(I:Inv X pins σ H s)(hH:H l=some (.lst xs))
  (e:s.heap.get? l=some {cls:= .type "list",data:= .seq its.toArray n})(hf:f its.toArray=its'.toArray)(hv:W0 ys its')(hz:ys.length<=sizeLine):
  Inv X pins σ (upd H l (.lst ys)) {s with heap:=s.heap.update l (Obj.mapSeq f),toks:=t'}:=by
 have q:=PySem.IsL.update e f
 rw[hf]at q
 refine I.write (x:=l) (e:=l) (by rw[hH];exact trivial) (.inl rfl) (fun b' u hb hu=>(Heap.get?_update_other s.heap (Obj.mapSeq f) (Ne.symm hb)).trans hu) ⟨_,q⟩ ?_
 exact⟨hz,its',_,hv,q⟩
theorem Inv.lnew{its:List Value}{t':Nat}(I:Inv X pins σ H s)(hv:W0 ys its)(hz:ys.length<=sizeLine):
  Inv X pins σ (upd H s.heap.objs.size (.lst ys)) {s with heap:=s.heap.push {cls:= .type "list",data:= .seq its.toArray},toks:=t'}:=
 I.laid (fun _ _ q=>AH _ q) (AE _) ⟨hz,its,0,hv,AS _ rfl⟩
theorem Inv.fresh(I:Inv X pins σ H s):H s.heap.objs.size=none:=I.hok.fresh (AE _)
theorem Inv.lstM(I:Inv X pins σ H s)(hH:H l=some (.lst xs)):xs.length<=sizeLine/\∃(its:List Value)(n:Nat),W0 xs its/\xs.length=its.length/\s.heap.get? l=some {cls:= .type "list",data:= .seq its.toArray n}:=by
 obtain⟨z,its,n,r,e⟩:=I.hok l _ hH
 exact⟨z,its,n,r,r.length,e⟩
theorem a8U{n:Nat}(h:n<=sizeLine):Builtin.List.listTooLong n=false:=by
 unfold Builtin.List.listTooLong
 exact AM (by omega)
end
section
variable{X:Cx}
noncomputable def a9X:V->List V->Hp->VK->Prop:=fun x vs H Q=>∃l xs y,x= .ref l/\vs=[y]/\H l=some (.lst xs)/\xs.length < sizeLine/\Q .non (upd H l (.lst (xs++[y])))
theorem W5:MtM X "list.append" a9X:=by
 intro pins s σ H x vs v us Q I rx rv h
 obtain⟨l,xs,y,rfl,rfl,hH,hz,q⟩:=h
 cases rx
 obtain⟨u,rfl,ru⟩:=rv.one
 obtain⟨z,its,n,r,hl,e⟩:=I.lstM hH
 refine call_meets F.slot_list_append ⟨_,e,rfl⟩ F.entry_list_append (F.args_list_append_2 _ _) (PySem.list_append l its.toArray n u (by rw[List.size_toArray];omega)) ⟨e,?_⟩
 refine⟨.non,_,I.lset (its':=its++[u]) hH e (by simp) (r.append (.cons ru .nil)) ?_,rfl,q⟩
 rw[List.length_append,List.length_singleton]
 omega
noncomputable def b4r:V->List V->Hp->VK->Prop:=fun x vs H Q=>∃l b xs zs,x= .ref l/\vs=[.ref b]/\H l=some (.lst xs)/\H b=some (.lst zs)/\xs.length+zs.length<=sizeLine/\Q .non (upd H l (.lst (xs++zs)))
theorem a4q:MtM X "list.extend" b4r:=by
 intro pins s σ H x vs v us Q I rx rv h
 obtain⟨l,b,xs,zs,rfl,rfl,hH,hB,hz,q⟩:=h
 cases rx
 obtain⟨u,rfl,ru⟩:=rv.one
 cases ru
 obtain⟨z,its,n,r,hl,e⟩:=I.lstM hH
 obtain⟨z2,its2,n2,r2,hl2,e2⟩:=I.lstM hB
 have hsz:its.toArray.size+its2.toArray.size<=sizeLine:=by rw[List.size_toArray,List.size_toArray];omega
 have hlong:¬(!its.toArray.isEmpty && Builtin.List.listTooLong (its.toArray.size+its2.toArray.size))=true:=by
  rw[a8U hsz,Bool.and_false]
  exact AD
 refine call_meets F.slot_list_extend ⟨_,e,rfl⟩ F.entry_list_extend (F.args_list_extend_2 _ _)
  (AutoSeq1.list_extend_list_list_0 l its.toArray n b its2.toArray n2 hlong (by rw[List.size_toArray];omega) (by omega)) ⟨e,e2,?_⟩
 refine⟨.non,_,I.lset (its':=its++its2) hH e (by simp) (r.append r2) ?_,rfl,q⟩
 rw[List.length_append]
 omega
noncomputable def b6U:V->List V->Hp->VK->Prop:=fun x vs H Q=>∃l xs y,x= .ref l/\vs=[]/\H l=some (.lst xs)/\xs[xs.length - 1]?=some y/\Q y (upd H l (.lst xs.dropLast))
theorem b1E:MtM X "list.pop" b6U:=by
 intro pins s σ H x vs v us Q I rx rv h
 obtain⟨l,xs,y,rfl,rfl,hH,hy,q⟩:=h
 cases rx
 have hus:=rv.zero
 subst hus
 obtain⟨z,its,n,r,hl,e⟩:=I.lstM hH
 obtain⟨u,hu,ru⟩:=r.get hy
 have hy':its.toArray[its.toArray.size - 1]?=some u:=by
  show its.toArray[its.length - 1]?=some u
  rw[<-Array.getElem?_toList,<-hl]
  exact hu
 refine call_meets F.slot_list_pop ⟨_,e,rfl⟩ F.entry_list_pop (F.args_list_pop_1 _) (MeetsSeq.list_pop_last l its.toArray n u hy' (by rw[List.size_toArray];omega)) ⟨e,?_⟩
 refine⟨y,_,I.lset (its':=its.dropLast) hH e ?_ r.dropLast ?_,ru,q⟩
 ·show its.toArray.eraseIdxIfInBounds (its.toArray.size - 1)=its.dropLast.toArray
  rw[List.size_toArray,List.eraseIdxIfInBounds_toArray,a9M]
 ·rw[List.length_dropLast]
  omega
noncomputable def b5x:V->List V->Hp->VK->Prop:=fun x vs H Q=>∃l xs i k y,x= .ref l/\vs=[.int i]/\H l=some (.lst xs)/\ -(2 ^ 63)<=i/\i < 2 ^ 63/\seqIndex? i xs.length=some k/\xs[k]?=some y/\Q y (upd H l (.lst (xs.eraseIdx k)))
theorem b2r:MtM X "list.pop" b5x:=by
 intro pins s σ H x vs v us Q I rx rv h
 obtain⟨l,xs,i,k,y,rfl,rfl,hH,h1,h2,hk,hy,q⟩:=h
 cases rx
 obtain⟨u,rfl,ru⟩:=rv.one
 obtain⟨t,rfl⟩:=ru
 obtain⟨z,its,n,r,hl,e⟩:=I.lstM hH
 obtain⟨w,hw,rw'⟩:=r.get hy
 refine call_meets F.slot_list_pop ⟨_,e,rfl⟩ F.entry_list_pop (F.args_list_pop_2 _ _)
  (MeetsSeq.list_pop_at l its.toArray n i t k w (fitsIndex_both h1 h2) (by rw[List.size_toArray,<-hl];exact hk) (by rw[<-Array.getElem?_toList];exact hw) (by rw[List.size_toArray];omega)) ⟨e,?_⟩
 refine⟨y,_,I.lset (its':=its.eraseIdx k) hH e ?_ (r.eraseIdx k) ?_,rw',q⟩
 ·show its.toArray.eraseIdxIfInBounds k=(its.eraseIdx k).toArray
  rw[List.eraseIdxIfInBounds_toArray]
 ·have:=a6Y xs k
  omega
noncomputable def b7l:R2:=fun x y H Q=>∃l b xs zs,x= .ref l/\y= .ref b/\H l=some (.lst xs)/\H b=some (.lst zs)/\xs.length+zs.length<=sizeLine/\∀p,H p=none->Q (.ref p) (upd H p (.lst (xs++zs)))
theorem a4l:OpR X (binaryOp .Add) b7l:=by
 intro pins s σ H x y v u Q I rx ry h
 obtain⟨l,b,xs,zs,rfl,rfl,hH,hB,hz,q⟩:=h
 cases rx
 cases ry
 obtain⟨z,its,n,r,hl,e⟩:=I.lstM hH
 obtain⟨z2,its2,n2,r2,hl2,e2⟩:=I.lstM hB
 refine PySem.P.add_list e e2 ?_ (by rw[List.size_toArray,List.size_toArray];omega)
 have ea:its.toArray++its2.toArray=(its++its2).toArray:=by simp
 rw[ea]
 exact⟨.ref _,_,I.lnew (t':=s.toks) (r.append r2) (by rw[List.length_append];omega),rfl,q _ I.fresh⟩
end
section
variable{prog:Program}{w:World}{A:Around}{E:Value->Shared->Prop}{s:Shared}
set_option maxRecDepth 100000 in
end
section
variable{X:Cx}
end
end L2
namespace Att
open PySem PySem.W PySem.Calls PyProof.Rows
theorem a4N{P:Params}{h:Heap}:∀(ns:List Int)(vs:List Value),WellAll P h vs (ns.map WData.int)->IntsAre vs ns:=by
 intro ns
 induction ns with
 | nil=>
  intro vs w
  rw[List.map_nil]at w
  cases w
  exact .nil
 | cons n ns ih=>
  intro vs w
  rw[List.map_cons]at w
  cases w with
  | cons a b=>
   cases a
   exact .cons _ _ (ih _ b)
theorem b0X{l:OpenLaw}{n:Nat}(hn:l.most=some n){P:Params}{h:Heap}{args:List WData}{vals:List Value}
  (hpre:l.row.toRowW.claim.pre args=true)(hwl:WellAll P h vals args):
  ∃a vs ns,vals=[Value.ref a]/\args=[WData.list (ns.map WData.int)]/\h.get? a=some {cls:= .type "list",data:= .seq vs.toArray}/\IntsAre vs ns/\ns.length<=n:=by
 have hsh:WShape.hasAll [] args [.list .int]=true:=(pre_splitW hpre).1
 have hc:l.pre.holds [] {args:=args}=true:=(pre_splitW hpre).2
 obtain⟨d,r,rfl,h1,h2⟩:=hasAllW_cons hsh
 obtain rfl:=hasAllW_nil h2
 obtain⟨xs,rfl,h3⟩:=hasW_list h1
 obtain⟨ns,rfl⟩:=items_int h3
 have hlen:ns.length<=n:=by
  unfold OpenLaw.pre at hc
  have h4:(WTm.not (.lt (.lit (.int (n:Int))) (.len (.arg 0)))).holds [] {args:=[.list (ns.map .int)]}=true:=by
   have h4:=(holds_andW hc).1
   rw[hn]at h4
   exact h4
  have h5:=condW_of h4 (w_not (w_lt w_lit (w_len_list (w_arg rfl))))
  rw[List.length_map]at h5
  refine Nat.le_of_not_lt fun q=>?_
  have q':(n:Int) < ((ns.length:Nat):Int):=by omega
  first
   | (rw[decide_eq_true q']at h5;exact absurd h5 (by decide))
   | (simp at h5;omega)
 cases hwl with
 | cons w1 w2=>
  cases w2
  cases w1 with
  | list ho hall=>exact⟨_,_,ns,rfl,rfl,ho,a4N ns _ hall,hlen⟩
theorem b0z(l:OpenLaw)(args:List WData):l.row.toRowW.claim.post args (.bool true) args=true:=
 postW_of (r:=l.row.toRowW) (X:=(true==true))
  (show WShape.has [] (.bool true) .bool=true by first | rfl | decide | simp[WShape.has,WShape.arms,WShape.armsAll])
  (show(WTm.eq .res (.lit (.bool true))).value [] {args:=args,res:=some (.bool true),after:=args}=some (.bool (true==true))from w_eq_bool (w_res rfl) w_lit) rfl
theorem a8E{l:OpenLaw}{n:Nat}{q:Program}{loose:List Str}{XP:(Str->Option Value)->Heap->Prop}{YP:World->Heap->Prop}{d:DefRec}
  (hn:l.most=some n)(hdf:d.params.defaults=[])
  (call:∀(w:World)(s₀ s₁:Shared)(mg mb:Str->Option Value)(fa:Addr)(o:Obj)(pm cd doc:Value)(a:Addr)(vs:List Value)(ns:List Int),
   Ground q loose [] XP w s₀ mg mb s₁.heap->YP w s₁.heap->
   s₁.heap.get? fa=some o->o.data= .func (docDef d.name d.params d.body d.scope pm cd doc)->s₁.heap.CodeRec cd d.name->mg d.name=some (.ref fa)->
   s₁.heap.get? a=some {cls:= .type "list",data:= .seq vs.toArray}->IntsAre vs ns->ns.length<=n->s₁.gens= #[]->
   codeAny (model l.prog w) callerA (.call (.ref fa) ⟨[.ref a],[]⟩) (fun r s'=>r= .ok (.ret (.bool true))/\OldK s₁.heap s'.heap/\s'.os=s₁.os/\AllBare s'.gens) s₁):
  WalkO q loose XP YP l.row.toRowW d [] (fun f vs=>PySem.call f vs):=by
 intro w s₀ s₁ mg mb G Y fa o pm cd doc dV kV ho hd hcd hD hmg hg args vals as hpre hlay hrd hwl hlo
 obtain rfl:dV= .none:=Dflts.none hD hdf
 obtain rfl:kV= .none:=Dflts.noKw hD
 obtain⟨a,vs,ns,rfl,rfl,hobj,hints,hlen⟩:=b0X hn hpre hwl
 refine enter_call (codeAny_mono (call w s₀ s₁ mg mb fa o pm cd doc a vs ns G Y ho (fd_plain hd) hcd hmg hobj hints hlen hg) fun r s' hq=>?_)
 obtain⟨rfl,h2,h3,h4⟩:=hq
 exact⟨.inl ⟨.bool true,.bool true,[],rfl,fun _=>rfl,.bool true,b0z l _,fun _=>⟨List.Pairwise.nil,fun _ hm=>(nomatch hm)⟩⟩,h2,h3,h4⟩
section
variable{prog:Program}{w:World}{A:Around}{E:Value->Shared->Prop}{s:Shared}{K:Frag}
end
end Att
namespace L2
open PySem PySem.Spec PyProof.Rows
theorem a6X:∀{vs:List Value}{ns:List Int},IntsAre vs ns->W0 (ns.map V.int) vs
 | _,_,.nil=> .nil
 | _,_,.cons n t h=> .cons ⟨t,rfl⟩ (a6X h)
noncomputable def b5A (H:Hp):Prop:=∀b,H b=none\/∃o xs,H b=some (.frz o (.lst xs))
theorem b1y{P:Program}{w:World}{K:W.Frag}{mg mb:Str->Option Value}{CX:CXT}{k:Nat}{fa a:Addr}{fd:FuncData}{x:Str}{sp:Sp}{s₁:Shared}{vs:List Value}{ns:List Int}
  (KX:K.In s₁.heap)(hns:s₁.heap.Ns mainGlobals mg)(hb:s₁.heap.Ns builtinsNs mb)(hbb:∀x:Str,x≠ "__name__" ->mb x=bootBuiltins x)(hlim:s₁.heap.NoLimit)(hg:s₁.gens= #[])
  (ha:s₁.heap.get? a=some {cls:= .type "list",data:= .seq vs.toArray})(hi:IntsAre vs ns)(hl:ns.length<=sizeLine)(hr:M8 k callerA)
  (F:∀base:Heap,K.In base->base.Ns mainGlobals mg->a2L P w K mg base CX k fa fd [x] sp)(hbind:∀(s:Shared)(u:Value),BindsTo s fd ⟨[u],[]⟩ [(x,u)])
  (hsp:∀H:Hp,b5A H->SqL K H a (ns.map V.int)->sp [.ref a] H (fun v _=>v= .bl true) fun _ _ _=>False)
  (hCX:∀H e s',CX [] H s₁ (fun _ _ _=>False) e s'->False):
  codeAny (model P w) callerA (.call (.ref fa) ⟨[.ref a],[]⟩) (fun r s'=>r= .ok (.ret (.bool true))/\OldK s₁.heap s'.heap/\s'.os=s₁.os/\AllBare s'.gens) s₁:=by
 have rv:=a6X hi
 have lenV:=hi.length
 have core:∀H:Hp,b5A H->SqL K H a (ns.map V.int)->HOk P w H s₁.heap->(∀b,H b≠none->b=a)->(H a≠none->K.lookup a=none)->
   codeAny (model P w) callerA (.call (.ref fa) ⟨[.ref a],[]⟩) (fun r s'=>r= .ok (.ret (.bool true))/\OldK s₁.heap s'.heap/\s'.os=s₁.os/\AllBare s'.gens) s₁:=by
  intro H hO hS hok hA hK
  have base_of:∀{b:Addr}{o:Obj},s₁.heap.get? b=some o->H b=none->(a7x s₁.heap H).get? b=some o:=fun e n=>b2C e n
  have noA:∀{b:Addr}{o:Obj}{es:Array DictEntry}{ep:Nat},s₁.heap.get? b=some o->o.data= .dict es ep->H b=none:=fun{b o es ep}e d=>by
   cases q:H b with
   | none=>rfl
   | some u=>
    have e':b=a:=hA b (by rw[q];simp)
    subst e'
    rw[ha]at e;cases e
    have d':Data.seq vs.toArray _=Data.dict es ep:=d
    cases d'
  have nsK:∀{b:Addr}{m:Str->Option Value},s₁.heap.Ns b m->(a7x s₁.heap H).Ns b m:=fun{b m}⟨o,es,ep,e,d,r⟩=>⟨o,es,ep,base_of e (noA e d),d,r⟩
  have hKb:K.In (a7x s₁.heap H):=fun b o e=>base_of (KX b o e) (by
   cases q:H b with
   | none=>rfl
   | some u=>
    have e':b=a:=hA b (by rw[q];simp)
    subst e'
    rw[hK (by rw[q];simp)]at e;cases e)
  have hM:Mod K mg (a7x s₁.heap H):=⟨hKb,nsK hns,⟨mb,nsK hb,hbb⟩,let⟨mc,h1,h2⟩:=hlim;⟨mc,nsK h1,h2⟩⟩
  have e0:a9e P w K mg (a7x s₁.heap H) callerA [] s₁ H:=⟨rfl,hM,fun b o e=>b3E e,Nat.le_of_eq (b1c _ _),trivial,fun b hb=>absurd (show b∈([]:List Addr)from hb) (by simp),hok,.of_eq hg⟩
  refine codeAny_mono ((F _ hKb (nsK hns)).run callerA [] s₁ H ⟨[.ref a],[]⟩ [.ref a] [.ref a] _ _ hr e0 (hbind s₁ (.ref a)) (.cons rfl .nil) (hsp H hO hS)) fun r s' h=>?_
  cases r with
  | error e=>exact(hCX H e s' h).elim
  | ok fl=>
   cases fl with
   | next=>exact False.elim h
   | brk=>exact False.elim h
   | cont=>exact False.elim h
   | ret u=>
    obtain⟨v,H',os,bare,un,hok',r',q⟩:=h
    have q':v= .bl true:=q
    subst q'
    obtain rfl:u=Value.bool true:=r'
    refine⟨rfl,OldK.of_keep fun b o e=>?_,os,bare⟩
    cases q:H b with
    | none=>exact un.keep b o e q (by intro z;exact absurd (show b∈([]:List Addr)from z) (by simp)) (by simp)
    | some u=>
     rcases hO b with z | ⟨ob,xs,z⟩
     ·rw[q]at z;cases z
     ·have z2:=un.frzs b ob _ z
      obtain⟨e1,_⟩:=hok b _ z
      obtain⟨e2,_⟩:=hok' b _ z2
      rw[e]at e1;cases e1
      exact e2
 cases hk:K.lookup a with
 | some o=>
  have e:=KX a o hk
  rw[ha]at e
  cases e
  refine core (fun _=>none) (fun _=> .inl rfl) (.inr ⟨_,vs.toArray,_,hk,rfl,rfl,rfl,by rw[List.size_toArray,lenV];exact hl,by simpa using rv⟩) (fun b u z=>by have z':(none:Option HO)=some u:=z;cases z') (fun b z=>absurd rfl z) fun z=>absurd rfl z
 | none=>
  refine core (fun b=>if b=a then some (.frz {cls:= .type "list",data:= .seq vs.toArray} (.lst (ns.map V.int)))else none) (fun b=>?_) (.inl (.inr ⟨{cls:= .type "list",data:= .seq vs.toArray},if_pos rfl⟩)) (fun b u z=>?_) (fun b z=>?_) fun _=>hk
  ·by_cases hb:b=a
   ·exact .inr ⟨_,_,if_pos hb⟩
   ·exact .inl (if_neg hb)
  ·by_cases hb:b=a
   ·have z':=(if_pos hb).symm.trans z
    cases z'
    subst hb
    exact⟨ha,by rw[List.length_map];exact hl,vs,_,rv,ha⟩
   ·have z':=(if_neg hb).symm.trans z
    cases z'
  ·by_cases hb:b=a
   ·exact hb
   ·exact absurd (if_neg hb) z
end L2
namespace L2
open PySem PySem.Spec PyProof.Rows
noncomputable abbrev KOf {K:W.Frag} {h:Heap} (_:K.In h):W.Frag:=K
theorem b3x{l:W.OpenLaw}{n k:Nat}{q:Program}{loose:List Str}{XP:(Str->Option Value)->Heap->Prop}{YP:World->Heap->Prop}{d:DefRec}{K:Params->W.Frag}{CX:World->CXT}{sp:World->Sp}{x:Str}
  (hn:l.most=some n)(hn2:n<=sizeLine)(hdf:d.params.defaults=[])(hr:M8 k callerA)
  (hY:∀(w:World)(h:Heap),YP w h->(K w.params).In h)
  (F:∀(w:World)(mg:Str->Option Value)(fa:Addr)(h:Heap),(K w.params).In h->h.Ns mainGlobals mg->mg d.name=some (.ref fa)->
   ∃fd:FuncData,(∀(s:Shared)(u:Value),BindsTo s fd ⟨[u],[]⟩ [(x,u)])/\
    ∀base:Heap,(K w.params).In base->base.Ns mainGlobals mg->a2L l.prog w (K w.params) mg base (CX w) k fa fd [x] (sp w))
  (hsp:∀(w:World)(H:Hp)(a:Addr)(ns:List Int),ns.length<=n->b5A H->SqL (K w.params) H a (ns.map V.int)->sp w [.ref a] H (fun v _=>v= .bl true) fun _ _ _=>False)
  (hCX:∀(w:World)(H:Hp)(s:Shared)(e:Value)(s':Shared),CX w [] H s (fun _ _ _=>False) e s'->False):
  W.WalkO q loose XP YP l.row.toRowW d [] (fun f vs=>PySem.call f vs):=by
 refine Att.a8E hn hdf fun w s₀ s₁ mg mb fa o pm cd doc a vs ns G Y ho hd hcd hmg hobj hints hlen hg=>?_
 have KX:=hY w _ Y
 obtain⟨fd,hb,hF⟩:=F w mg fa _ KX G.T.g hmg
 exact b1y KX G.T.g G.T.b G.T.builtins G.T.nolimit hg hobj hints (Nat.le_trans hlen hn2) hr hF hb (fun H hO hS=>hsp w H a ns hlen hO hS) fun H e s'=>hCX w H s₁ e s'
end L2
namespace L2
open PySem PySem.Spec PyProof.Rows
noncomputable def E1 (s:Stmt) (j:Nat):Stmt:=match s with
 | .ClassDef _ _ _ body _ _ _ _ _ _ _=>body.getD j (.Pass ⟨0,0,0,0⟩)
 | _=> .Pass ⟨0,0,0,0⟩
noncomputable def J7 (s:Stmt):Arguments:=match s with
 | .FunctionDef _ a _ _ _ _ _ _ _ _=>a
 | _=>{posonlyargs:=[],args:=[],vararg:=none,kwonlyargs:=[],kw_defaults:=[],kwarg:=none,defaults:=[]}
noncomputable def J2 (s:Stmt):List Stmt:=match s with
 | .FunctionDef _ _ b _ _ _ _ _ _ _=>b
 | _=> []
noncomputable def G4 (s:Stmt):Scope:=match s with
 | .FunctionDef _ _ _ _ _ _ sc _ _ _=>sc
 | _=>{kind:= .function,names:=[],isGenerator:=false,isCoroutine:=false}
noncomputable abbrev CX0:CXT:=fun _ _ _ _ _ _=>False
noncomputable abbrev E0:XK:=fun _ _ _=>False
theorem a7d{X:Cx}:a3z CX0 X E0:=fun _ _ _ _ _ _ _ h=>h.elim
structure Fun(K:W.Frag)(x qual:Str)(st:Stmt)(f:Addr)(fd:FuncData):Prop where
 ex:∃(oc:Value)(od:Option Addr)(kV doc pm:Value)(an:Option Addr)(cdv ct:Value)(osl:Array (Option Value)),
  fd=W.fnOf x qual (J7 st) (J2 st) (G4 st) .none kV doc pm an cdv ct/\K.lookup f=some ⟨oc,od,.func fd,osl⟩/\W.codeIn K cdv qual=true
 kp:W.keepIn K (.ref f)=true
section
variable{P:Program}{w:World}{K:W.Frag}{mg:Str->Option Value}{base:Heap}
theorem Fun.ok{x qual:Str}{st:Stmt}{f:Addr}{fd:FuncData}{N ps:List Str}{k:Nat}{sp:Sp}(F:Fun K x qual st f fd)(S:R1 N ps (G4 st))(len:∀vs H Q E,sp vs H Q E->vs.length=ps.length)
  (hbody:∀(cdv:Value)(A:Around)(outer:List Env)(s:Shared)(H:Hp)(vs:List V)(Q:VK)(E:XK),M8 k (A.deeper (envOfC qual (G4 st) s.heap.objs.size f cdv))->sp vs H Q E->
   ∃t,PSs (a5u CX0 P w K mg base N qual (G4 st) f cdv A outer s H E).nox (J2 st) t/\t {nx:=fun _ H'=>Q .non H',rt:=Q} (a2m N vs) H):a2L P w K mg base CX0 (k+1) f fd ps sp:=by
 obtain⟨oc,od,kV,doc,pm,an,cdv,ct,osl,rfl,lk,hcd⟩:=F.ex
 refine b1W lk hcd S len fun A outer s H vs Q E hr hsp=>?_
 obtain⟨t,h,q⟩:=hbody cdv A outer s H vs Q E hr hsp
 exact⟨t,h.nox,q⟩
theorem Fun.binds{x qual:Str}{st:Stmt}{f:Addr}{fd:FuncData}{ps:List Str}(F:Fun K x qual st f fd)
  (h:∀(kV doc pm:Value)(an:Option Addr)(cdv ct:Value)(us:List Value),us.length=ps.length->bindArgs (W.fnOf x qual (J7 st) (J2 st) (G4 st) .none kV doc pm an cdv ct) ⟨us,[]⟩=pure (ps.zip us)):a2b K fd ps []:=by
 obtain⟨oc,od,kV,doc,pm,an,cdv,ct,osl,rfl,lk,hcd⟩:=F.ex
 exact .all (h kV doc pm an cdv ct)
theorem a7r{x qual:Str}{st:Stmt}{f:Addr}{oc:Value}{od an:Option Addr}{osl:Array (Option Value)}{kV doc pm cdv ct:Value}(l:K.lookup f=some ⟨oc,od,.func (W.fnOf x qual (J7 st) (J2 st) (G4 st) .none kV doc pm an cdv ct),osl⟩)
  (c:W.codeIn K cdv qual=true)(k:W.keepIn K (.ref f)=true):Fun K x qual st f (W.fnOf x qual (J7 st) (J2 st) (G4 st) .none kV doc pm an cdv ct):=⟨⟨oc,od,kV,doc,pm,an,cdv,ct,osl,rfl,l,c⟩,k⟩
end
theorem a0s{A:Around}{k:Nat}(hr:M8 k A):A.units+1 < cLine:=Nat.lt_of_le_of_lt (Nat.add_le_add_left (by decide:1<=64) _) hr.units
theorem J9{n:Nat}(h:n<=1000):n < sizeLine:=Nat.lt_of_le_of_lt h (by decide)
section
variable{X:Cx}
theorem pv(i:Nat){x:Str}{pos:Pos}(hN:X.N[i]?=some x:=by rfl)(hv:Vis X.env.scope x:=by first | exact Or.inl rfl | exact Or.inr (Or.inl rfl) | exact Or.inr (Or.inr rfl))(hd:(x==("__debug__":Str))=false:=by decide)
  (hcd:(x==("__classdict__":Str))=false:=by decide):PE X (.Name x pos) (a9z i):=b5D hN hv hd hcd
end
theorem Y4{A B:Prop}(h:B):if false=true then A else B:=by
 rw[if_neg AD]
 exact h
theorem O7{A B:Prop}(h:A):if true=true then A else B:=by
 rw[if_pos rfl]
 exact h
theorem a4n{c A B:Prop}[Decidable c](h1:c->A)(h2:¬c->B):if c then A else B:=by
 by_cases h:c
 ·rw[if_pos h]
  exact h1 h
 ·rw[if_neg h]
  exact h2 h
theorem b4G{c A B:Prop}[Decidable c](hc:c)(h:B):if(!decide c)=true then A else B:=by
 rw[decide_eq_true hc]
 exact Y4 h
noncomputable def G8 (H H':Hp):Prop:=∀b o,H b=some o->H' b=some o
theorem G8.refl(H:Hp):G8 H H:=fun _ _ h=>h
theorem G8.trans{H H1 H2:Hp}(a:G8 H H1)(b:G8 H1 H2):G8 H H2:=fun c o h=>b c o (a c o h)
theorem G8.free{H H':Hp}(e:G8 H H'){l:Addr}(h:H' l=Option.none):H l=Option.none:=by
 cases q:H l with
 | none=>rfl
 | some o=>
  rw[e l o q]at h
  cases h
theorem G8.seq{K:W.Frag}{H H':Hp}{a:Addr}{xs:List V}(e:G8 H H')(h:SqL K H a xs):SqL K H' a xs:=by
 rcases h with(h | ⟨o,h⟩) | h
 ·exact .inl (.inl (e _ _ h))
 ·exact .inl (.inr ⟨o,e _ _ h⟩)
 ·exact .inr h
end L2
set_option maxHeartbeats 16000000
namespace L2
open PySem PySem.Spec PyProof.Rows
section
variable{X:Cx}{pins:List (Addr×Obj)}{σ:List (Option V)}{H:Hp}{s:Shared}{h':Heap}
theorem Inv.turnedL{t':Nat}{ch:List Addr}(I:Inv X pins σ H s)(k:∀b o,b∉ch->s.heap.get? b=some o->h'.get? b=some o)(hf:∀b∈ch,a4M X pins H b):
  Inv X pins σ H {s with heap:=h',toks:=t'}:=by
 have nit:∀b u,H b=some u->b∉ch:=fun b u e z=>by rw[(hf b z).1]at e;cases e
 refine I.step (g':=s.gens) (d':=s.drawn) (ch:=ch) (fun b hb=>?_) (fun b o _ _ hc e _=>k b o hc e) (fun b o _ _ hc e _=>⟨o.slots,k b o hc e⟩) (fun _ _ _ _ n=>n)
  (fun b o hc e=>⟨o,k b o hc e⟩) (fun _ _ e=>e) (fun _ _ _ e=>e) (fun b ps e=>⟨#[],by rw[e];simp⟩) (fun m hm=>?_) (fun b u e=>?_) I.bare
 ·obtain⟨_,h1,_,h2,h3,h4⟩:=hf b hb
  exact⟨h2,h1,h3,h4⟩
 ·obtain⟨o,es,ep,ho,r⟩:=hm
  exact⟨o,es,ep,k _ o (fun z=>(hf _ z).2.1 rfl) ho,r⟩
 ·refine(I.hok b u e).stay (fun c v hc q=>k c v ?_ q) (fun _ q=>q) fun _ _ q=>q
  rcases hc with z | z
  ·rw[z];exact nit b u e
  ·exact nit c _ z
theorem Inv.track{T:Addr}{o:HO}(I:Inv X pins σ H s)(hf:a4M X pins H T)(new:Z6 X.prog X.w (upd H T o) s.heap T o):Inv X pins σ (upd H T o) s:=by
 obtain⟨h0,h1,h5,h2,h3,h4⟩:=hf
 have nT:∀b u,H b=some u->b≠T:=fun b u e z=>by rw[z,h0]at e;cases e
 refine I.step (h':=s.heap) (g':=s.gens) (d':=s.drawn) (t':=s.toks) (ch:=[T]) (fun b hb=>?_) (fun b o _ _ hc e _=>e) (fun b o _ _ hc e _=>⟨o.slots,e⟩)
  (fun b o hc _ n=>by rw[G7 (fun z=>hc (by simp[z]))];exact n)
  (fun b o hc e=>⟨o,e⟩) (fun b xs e=>by rw[G7 (nT _ _ e)];exact e) (fun b ob u e=>by rw[G7 (nT _ _ e)];exact e) (fun b ps e=>⟨#[],by rw[G7 (nT _ _ e),e];simp⟩) (fun m hm=>hm) (fun b u e=>?_) I.bare
 ·have e:b=T:=by simpa using hb
  subst e
  exact⟨h2,h1,h3,h4⟩
 ·by_cases hb:b=T
  ·subst hb;rw[G1]at e;cases e;exact new
  ·rw[G7 hb]at e
   exact(I.hok b u e).stay (fun c v _ q=>q) (fun c q=>by rw[G7 (nT _ _ q)];exact q) fun c xs q=>by rw[G7 (nT _ _ q)];exact q
end
section
variable{X:Cx}
theorem E5:a1b X (.builtin "isinstance") (fun xs H Q=>∃x t T b,xs=[x,.ty T]/\a4v X.K H x t/\W.kitOne X.K t (.type T)=some b/\Q (.bl b) H):=by
 intro pins s σ H xs us Q I r h
 obtain⟨x,t,T,b,rfl,ty,e,q⟩:=h
 obtain⟨u,w',rfl,rx,ry⟩:=b4K r
 cases(show w'=Value.type T from ry)
 exact b0G I rx ty e fun tk=>⟨.bl b,H,I.tok _,rfl,q⟩
theorem a7D:a1b X (.type "str") (fun xs H Q=>∃x,xs=[.str x]/\Q (.str x) H):=by
 intro pins s σ H xs us Q I r h
 obtain⟨x,rfl,q⟩:=h
 obtain⟨u,rfl,t,rfl⟩:=a3q r
 exact PySem.P.str_of_str ⟨.str x,H,I,⟨_,rfl⟩,q⟩
noncomputable def b6B (K:W.Frag):R2:=fun x y H Q=>∃a b xs ys,x= .ref a/\y= .ref b/\SqT K H a xs/\SqT K H b ys/\xs.length+ys.length<=sizeLine/\
 (xs=[]->Q (.ref b) H)/\(xs≠[]->ys=[]->Q (.ref a) H)/\(xs≠[]->ys≠[]->∀p,H p=none->Q (.ref p) (upd H p (.tup (xs++ys))))
theorem a0r:OpR X (binaryOp .Add) (b6B X.K):=by
 intro pins s σ H x y v u Q I rx ry h
 obtain⟨a,b,xs,ys,rfl,rfl,ha,hb,hz,q0,q1,q2⟩:=h
 cases rx
 cases ry
 by_cases hx:xs=[]
 ·obtain⟨its,r1,p1,_⟩:=I.tuple ha
  obtain⟨its2,r2,p2,_⟩:=I.tuple hb
  obtain⟨⟨cls,dd,data,sl⟩,ho,hc,n,hd⟩:=id p1
  obtain⟨⟨cls2,dd2,data2,sl2⟩,ho2,hc2,n2,hd2⟩:=id p2
  simp only at hc hd hc2 hd2
  subst hc hd hc2 hd2
  have hv:its=[]:=r1.nil_iff.mpr hx
  exact concat_meets ⟨_,ho,rfl⟩ ⟨_,ho2,rfl⟩ noFill_tuple_add seq_tuple_add PySem.F.slot_tuple_add PySem.F.entry_tuple_add (PySem.F.args_tuple_add_2 _ _)
   (tuple_addW0 a b its.toArray its2.toArray n n2 dd dd2 sl sl2 (by simp[hv])) ⟨ho,ho2,⟨.ref b,H,I,rfl,q0 hx⟩⟩
 ·exact b3Q pins s σ H (.ref a) (.ref b) (.ref a) (.ref b) Q I rfl rfl ⟨a,b,xs,ys,rfl,rfl,ha,hb,hx,hz,q1 hx,q2 hx⟩
end
end L2
namespace ET
open PySem PySem.Spec
open PySem.AutoSeq1 (wpAny_loadPart')
section
variable{prog:Program}{w:World}{A:Around}{E:Value->Shared->Prop}{s:Shared}
theorem a3Z{it l:Addr}{i:Nat}{items:Array Value}{x:Value}{Q:Value->Shared->Prop}(hit:s.heap.IsTupleIter it l i)
  (hl:s.heap.IsTuple l items)(hx:items[i]?=some x)
  (hQ:∀h',h'.IsTupleIter it l (i+1)->Heap.SameBut it s.heap h'->Q x {s with heap:=h'}):
  wpAny (model prog w) A (Builtin.SmallTypes.nextOf (.ref it)) Q E s:=by
 obtain⟨o,ho,hc,hd⟩:=id hit
 obtain⟨ol,hol,_,nl,hdl⟩:=hl
 unfold Builtin.SmallTypes.nextOf
 refine AA (wpAny_callSpecial?_slot (name:=Str.ofString "__next__") hit.typeIs F.slot_tuple_iterator_next
  (wpAny_call_entry F.slot_tuple_iterator_next hit.typeIs F.entry_tuple_iterator_next ?_ (F.args_tuple_iterator_next_1 _)))
 show wpAny _ _ (field (.ref it) 0 >>= _) _ _ s
 refine AA (wpAny_field ho hd (x:= .ref l) rfl ?_)
 show wpAny _ _ (if(Value.ref l==Value.none)=true then _ else _) _ _ s
 rw[if_neg (show¬((Value.ref l==Value.none)=true)from AD)]
 show wpAny _ _ (field (.ref it) 1 >>= _) _ _ s
 refine AA (wpAny_field ho hd (x:= .int i 0) rfl ?_)
 show wpAny _ _ (seqItems? (.ref l) >>= _) _ _ s
 refine AA (wpAny_seqItems hol hdl ?_)
 simp only[Int.toNat_natCast,hx]
 refine AA (wpAny_setField ho hd (by simp) (AJ ⟨x,rfl,AJ (hQ _ ?_ (Heap.SameBut.update ..))⟩))
 exact⟨_,Heap.get?_update_self _ ho (Obj.isFreed_of_fields (Obj.data_mapFields hd _)),(Obj.cls_mapFields ..).trans hc,by
  rw[Obj.data_mapFields hd];simp[rawInt]⟩
theorem a4f{it l:Addr}{i:Nat}{items:Array Value}{Q:Value->Shared->Prop}(hh:A.handled=none)
  (hit:s.heap.IsTupleIter it l i)(hl:s.heap.IsTuple l items)(hx:items[i]?=none)
  (hE:∀h' e,Heap.ExtBut it s.heap h'->(∃o,h'.get? e=some o/\o.cls= .type "StopIteration")->E (.ref e) {s with heap:=h'}):
  wpAny (model prog w) A (Builtin.SmallTypes.nextOf (.ref it)) Q E s:=by
 obtain⟨o,ho,hc,hd⟩:=id hit
 obtain⟨ol,hol,_,nl,hdl⟩:=hl
 unfold Builtin.SmallTypes.nextOf
 refine AA (wpAny_callSpecial?_slot (name:=Str.ofString "__next__") hit.typeIs F.slot_tuple_iterator_next
  (wpAny_call_entry F.slot_tuple_iterator_next hit.typeIs F.entry_tuple_iterator_next ?_ (F.args_tuple_iterator_next_1 _)))
 show wpAny _ _ (field (.ref it) 0 >>= _) _ _ s
 refine AA (wpAny_field ho hd (x:= .ref l) rfl ?_)
 show wpAny _ _ (if(Value.ref l==Value.none)=true then _ else _) _ _ s
 rw[if_neg (show¬((Value.ref l==Value.none)=true)from AD)]
 show wpAny _ _ (field (.ref it) 1 >>= _) _ _ s
 refine AA (wpAny_field ho hd (x:= .int i 0) rfl ?_)
 show wpAny _ _ (seqItems? (.ref l) >>= _) _ _ s
 refine AA (wpAny_seqItems hol hdl ?_)
 simp only[Int.toNat_natCast,hx]
 refine AA (wpAny_rule (AA (wpAny_setField ho hd (by simp) ?_)))
 show wpAny _ _ (newExc (.type "StopIteration") [] >>= _) _ _ _
 refine AA ?_
 simp only[newExc,newTuple]
 refine AA (wpAny_newObj_type ?_ (by size_fits))
 refine AA (m:=firstArgMember _ _) (wpAny_of_eq (a:=Value.none) (by first | rfl | (simp only[firstArgMember];rfl)) ?_)
 refine wpAny_newObj_type ?_ (by size_fits)
 simp only[raiseNew]
 refine AA (wpAny_handled ?_)
 first | rw[show A.in1.handled=none from hh] | rw[hh]
 refine AA (AJ (wpAny_throw ?_))
 exact hE _ _ (((Heap.SameBut.update ..).extBut.push _).push _) ⟨_,AS _ rfl,rfl⟩
end
theorem a4D{prog:Program}{w:World}{A:Around}(hh:A.handled=none)(it l:Addr)(hne:l≠it)(items:Array Value):
  Draws prog w A it [it,l] items.size (fun i v=>items[i]?=some v) (fun i h=>h.IsTupleIter it l i/\h.IsTuple l items)where
 live:=fun _ _ st=>let⟨o,ho,_⟩:=st.1;⟨o,ho⟩
 frame:=fun _ _ _ st hk=>⟨let⟨o,ho,r⟩:=st.1;⟨o,hk it (by simp) o ho,r⟩,let⟨o,ho,r⟩:=st.2;⟨o,hk l (by simp) o ho,r⟩⟩
 item:=fun i s Q E hi st hQ=>by
  refine a3Z st.1 st.2 (x:=items[i]) (by simp[hi]) fun h' hit' hs'=>?_
  exact hQ _ h' s.toks (by simp[hi]) ⟨hit',st.2.extBut hs'.extBut hne⟩ hs'
 done:=fun s Q E st hE=>a4f hh st.1 st.2 (by simp) hE
theorem a2P(l:Addr)(items:Array Value)(n:Nat)(dct:Option Addr)(sl:Array (Option Value)):
  Meets (Builtin.«enumerate.__new__» ⟨[.type "enumerate",.ref l],[]⟩) (fun _ R s=>s.heap.get? l=some {cls:= .type "tuple",dict:=dct,data:= .seq items n,slots:=sl}/\
   R (.ok (.ret (.ref (s.heap.push {cls:= .type "tuple_iterator",data:= .fields #[.ref l,.int 0 0]}).objs.size)))
    {s with heap:=(s.heap.push {cls:= .type "tuple_iterator",data:= .fields #[.ref l,.int 0 0]}).push {cls:= .type "enumerate",data:= .fields #[.none,.bool false,.ref s.heap.objs.size,rawInt 0,.none,.none]}}):=
 .of_wp fun prog w A R s h=>by
  obtain⟨hp,g,d,tk,os⟩:=s;obtain⟨hl,h⟩:=h
  have hsub:=sub_enumerate
  have hL:Heap.IsTuple (Shared.heap ⟨hp,g,d,tk,os⟩) l items:=⟨_,hl,rfl,n,rfl⟩
  wp_walk using wpAny_loadPart' hl
  refine wpAny_stack_any fun st=>AJ ?_
  split
  ·rename_i c _ _ _ _ _
   cases(c==Value.type "enumerate")
   ·wp_walk using wpAny_loadPart' hl,wpAny_pyIter_tuple hL
    exact⟨_,rfl,h⟩
   ·wp_walk using wpAny_loadPart' hl,wpAny_pyIter_tuple hL
    exact⟨_,rfl,h⟩
  ·wp_walk using wpAny_loadPart' hl,wpAny_pyIter_tuple hL
   exact⟨_,rfl,h⟩
theorem a2X{prog:Program}{w:World}{A:Around}{E:Value->Shared->Prop}{s:Shared}{l:Addr}{items:Array Value}{Q:Value->Shared->Prop}(hL:s.heap.IsTuple l items)
  (h:∀h',IsEnum h' (s.heap.objs.size+1) s.heap.objs.size 0 .none->h'.IsTupleIter s.heap.objs.size l 0->h'.objs.size=s.heap.objs.size+2->
   (∀b o,s.heap.get? b=some o->h'.get? b=some o)->Q (.ref (s.heap.objs.size+1)) {s with heap:=h'}):
  wpAny (model prog w) A (call (.type "enumerate") [.ref l]) Q E s:=by
 obtain⟨⟨c,dct,dt,sl⟩,hl,hc,n,hd⟩:=hL
 replace hc:c= .type "tuple":=hc
 replace hd:dt= .seq items n:=hd
 subst hc hd
 refine callType_new F.called_enumerate (by decide) (F.typeCall_enumerate_1 _) (F.newCall_enumerate_1 _) (fun obj=>F.args_object_init_2 obj _) F.entry_enumerate_new
  (a2P l items n dct sl) ⟨hl,?_⟩
 have hz:(s.heap.push {cls:= .type "tuple_iterator",data:= .fields #[.ref l,.int 0 0]}).objs.size=s.heap.objs.size+1:=Heap.size_push ..
 show _/\_
 rw[hz]
 have he:IsEnum ((s.heap.push {cls:= .type "tuple_iterator",data:= .fields #[.ref l,.int 0 0]}).push
   {cls:= .type "enumerate",data:= .fields #[.none,.bool false,.ref s.heap.objs.size,rawInt 0,.none,.none]}) (s.heap.objs.size+1) s.heap.objs.size 0 .none:=by
  have:=AS (s.heap.push {cls:= .type "tuple_iterator",data:= .fields #[.ref l,.int 0 0]})
   (o:={cls:= .type "enumerate",data:= .fields #[.none,.bool false,.ref s.heap.objs.size,rawInt 0,.none,.none]}) rfl
  rw[hz]at this;exact this
 refine⟨⟨_,he,rfl⟩,h _ he ⟨_,AH _ (AS _ rfl),rfl,rfl⟩ (by rw[Heap.size_push,hz]) fun b o x=>AH _ (AH _ x)⟩
end ET
namespace L2
open PySem PySem.Spec PyProof.Rows
noncomputable def Ite (K:W.Frag) (a:Addr):It:=
 ⟨fun i H=>∃xs x,SqT K H a xs/\xs[i]?=some x,
   fun i H x H'=>∃p v,(∀xs,SqT K H a xs->xs[i]?=some v)/\H p=none/\x= .ref p/\H'=upd H p (.tup [.int i,v]),
   fun i H=>∃xs,SqT K H a xs/\xs.length=i⟩
theorem a8W{P:Program}{w:World}{K:W.Frag}{elts:List Expr}{k:Nat}{pos:Pos}(a e it:Addr)(hei:e≠it):
  a8Z P w K (.Tuple elts k pos) (Ite K a) [e,it] e (fun i h=>(∃old,IsEnum h e it i old)/\h.IsTupleIter it a i)where
 mem:=by simp
 obj:=fun i h st b hb=>by
  obtain⟨⟨old,he⟩,o,ho,hc,hd⟩:=st
  rcases List.mem_cons.mp hb with z | hb
  ·subst z
   exact⟨_,he,fun v z=>by
    have z':Data.fields _=Data.cell v:=z
    cases z'⟩
  ·obtain z:=AC.mp hb
   subst z
   exact⟨o,ho,fun v z=>by rw[hd]at z;cases z⟩
 keep:=fun i h h' st kk=>by
  obtain⟨⟨old,he⟩,o,ho,r⟩:=st
  exact⟨⟨old,kk e (by simp) _ he⟩,o,kk it (by simp) o ho,r⟩
 item:=by
  intro X hP hw hK hc i pins s σ H E I hf st hg
  subst hP hw hK
  obtain⟨xs,x,hq,hx⟩:=hg
  obtain⟨its,rv,p,hz⟩:=I.tuple hq
  obtain⟨u,hu,ru⟩:=rv.get hx
  obtain⟨⟨old,he⟩,hit⟩:=st
  have ht:s.heap.IsTuple a its.toArray:=p
  have hai:a≠it:=by
   intro z
   obtain⟨o,ho,hc1,_⟩:=id hit
   obtain⟨o2,ho2,hc2,_⟩:=id ht
   rw[z,ho]at ho2
   cases ho2
   rw[hc1]at hc2
   exact absurd hc2 (by decide)
  have hae:a≠e:=by
   intro z
   obtain⟨o2,ho2,hc2,_⟩:=id ht
   have he':=he
   unfold IsEnum at he'
   rw[z,he']at ho2
   cases ho2
   exact absurd (show Value.type "enumerate"=Value.type "tuple" from hc2) (by decide)
  have D:=ET.a4D (prog:=X.prog) (w:=X.w) (A:=X.A.in1) (show X.A.in1.handled=none from I.ok.hd hc) it a hai its.toArray
  have hef:e∉ [it,a]:=by
   intro z
   rcases List.mem_cons.mp z with z | z
   ·exact hei z
   ·exact hae (AC.mp z).symm
  have W:=WalksT.enumerateD D e hei hef (by simp)
  have hlt:i < its.toArray.size:=by
   have h1:=(AB.mp hu).1
   simpa using h1
  refine W.item i s _ _ hlt ⟨⟨old,he⟩,hit,ht⟩ fun T vals h' tk hP hT hTup hM hk=>?_
  obtain⟨t,y,hy,rfl⟩:=hP
  have ey:y=u:=by
   have:its[i]?=some y:=by simpa using hy
   rw[hu]at this
   exact(Option.some.inj this).symm
  subst ey
  have I1:Inv X pins σ H {s with heap:=h',toks:=tk}:=I.turnedL (ch:=[e,it]) hk hf
  have hHT:H T=none:=I.hok.fresh hT
  have fT:a4M X pins H T:=I.fpOk hT hHT
  refine⟨_,rfl,?_⟩
  refine W.go elts k pos i T {s with heap:=h',toks:=tk} _ _ hM fun h2 st2 hk2=>?_
  have I2':=I1.turnedL (h':=h2) (t':=tk) (ch:=[e,it]) hk2 hf
  have I2:Inv X pins σ H {s with heap:=h2,toks:=tk}:=I2'
  have hT2:h2.IsTuple T #[.int i t,y]:=by
   obtain⟨o,ho,r⟩:=hTup
   exact⟨o,hk2 T o (W.apart i T h' hM) ho,r⟩
  have I3:Inv X pins σ (upd H T (.tup [.int i,x])) {s with heap:=h2,toks:=tk}:=
   I2.track fT ⟨by show 2<=sizeLine;decide,[.int i t,y],.cons ⟨t,rfl⟩ (.cons ru .nil),hT2⟩
  refine⟨.ref T,_,I3,rfl,⟨T,x,fun ys hy'=>by rw[I.tuple_inj hy' hq];exact hx,hHT,rfl,rfl⟩,⟨by simpa using st2.1,st2.2.1⟩,fun b hb=>?_⟩
  rw[G7 (fun z=>W.apart i T h' hM (by rw[<-z];exact hb))]
  exact(hf b hb).1
 done:=by
  intro X hP hw hK hc i pins s σ H E I hf st hg
  subst hP hw hK
  obtain⟨xs,hq,hx⟩:=hg
  obtain⟨its,rv,p,hz⟩:=I.tuple hq
  obtain⟨⟨old,he⟩,hit⟩:=st
  have ht:s.heap.IsTuple a its.toArray:=p
  have hai:a≠it:=by
   intro z
   obtain⟨o,ho,hc1,_⟩:=id hit
   obtain⟨o2,ho2,hc2,_⟩:=id ht
   rw[z,ho]at ho2
   cases ho2
   rw[hc1]at hc2
   exact absurd hc2 (by decide)
  have hae:a≠e:=by
   intro z
   obtain⟨o2,ho2,hc2,_⟩:=id ht
   have he':=he
   unfold IsEnum at he'
   rw[z,he']at ho2
   cases ho2
   exact absurd (show Value.type "enumerate"=Value.type "tuple" from hc2) (by decide)
  have D:=ET.a4D (prog:=X.prog) (w:=X.w) (A:=X.A.in1) (show X.A.in1.handled=none from I.ok.hd hc) it a hai its.toArray
  have hef:e∉ [it,a]:=by
   intro z
   rcases List.mem_cons.mp z with z | z
   ·exact hei z
   ·exact hae (AC.mp z).symm
  have W:=WalksT.enumerateD D e hei hef (by simp)
  have hl:=rv.length
  have hn:i=its.toArray.size:=by simp;omega
  refine W.done s _ _ ⟨⟨old,by rw[<-hn];exact he⟩,by rw[<-hn];exact hit,ht⟩ fun h' tk hk=>⟨rfl,?_⟩
  exact I.turnedL (ch:=[e,it]) hk hf
 self:=fun _ _ _ _ _ st h=>by
  obtain⟨⟨old,he⟩,_⟩:=st
  exact wpAny_pyIter_enum he h
section
variable{X:Cx}{elts:List Expr}{k:Nat}{tpos:Pos}
noncomputable def b6c (K:W.Frag) (ta:TA):TI:=fun σ H R=>ta σ H fun vs H1=>∃a,vs=[.ref a]/\(∃xs,SqT K H1 a xs)/\R (Ite K a) H1
theorem a5S{a:Expr}{ta:TA}{p pos:Pos}(hg:Gl X "enumerate")(hm:X.mg "enumerate"=none)(ha:PA X [a] ta)(hs:starEach [a] X.env=[(false,eval a X.env)]:=by rfl):
  PI X (.Tuple elts k tpos) (.Call (.Name "enumerate" p) [a] [] pos) (b6c X.K ta):=by
 intro pins s σ H R I h
 refine Call_ (a4w I hg hm boot_enumerate (PyProof.Rows.callWith_type1 (thn (ha pos pins s σ H _ I h) fun us s1⟨vs,H1,I1,r1,q1⟩=>?_) hs rfl))
 obtain⟨a,e,⟨xs,hq⟩,q⟩:=q1
 subst e
 cases r1 with
 | cons r rr=>
  cases rr
  cases r
  obtain⟨its,rv,p,hz⟩:=I1.tuple hq
  refine ET.a2X (show s1.heap.IsTuple a its.toArray from p) fun h' he hit hsz hk=>?_
  have I2:Inv X pins σ H1 {s1 with heap:=h'}:=I1.kept (t':=s1.toks) hk
  refine wpAny_pyIter_enum he ?_
  refine⟨s1.heap.objs.size+1,[s1.heap.objs.size+1,s1.heap.objs.size],_,_,H1,rfl,I2,a8W a (s1.heap.objs.size+1) s1.heap.objs.size (Nat.succ_ne_self _),⟨⟨_,he⟩,hit⟩,fun b hb=>?_,q⟩
  have hb':s1.heap.objs.size<=b:=by
   rcases List.mem_cons.mp hb with z | z
   ·rw[z];exact Nat.le_succ _
   ·rw[AC.mp z];exact AE _
  exact I1.fpOk hb' (I1.hok.fresh hb')
end
theorem a5k{K:W.Frag}{a:Addr}{xs:List V}{g:TG}{tb:TS}{D:a1F}{σ:St}{H:Hp}(Pv:Nat->St->Hp->Prop)(h0:Pv 0 σ H)(hl:∀i σ H,i<=xs.length->Pv i σ H->SqT K H a xs)
  (hs:∀i x p σ H,xs[i]?=some x->Pv i σ H->H p=none->g (.ref p) σ (upd H p (.tup [.int i,x])) fun σ2 H2=>tb {D with nx:=Pv (i+1),ct:=Pv (i+1),bk:=D.nx} σ2 H2)(hd:∀σ H,Pv xs.length σ H->D.nx σ H):
  ∃W:Nat->Nat->St->Hp->Prop,(∃m,W 0 m σ H)/\∀i m σ H,W i m σ H->
   ((Ite K a).stop i H/\D.nx σ H)\/((Ite K a).go i H/\∃N:St->Hp->Prop,(∀σ' H',N σ' H'->∃m',m' < m/\W (i+1) m' σ' H')/\∀x H',(Ite K a).yld i H x H'->g x σ H' fun σ2 H2=>tb {D with nx:=N,ct:=N,bk:=D.nx} σ2 H2):=by
 refine⟨fun i m σ H=>m=xs.length - i/\i<=xs.length/\Pv i σ H,⟨xs.length,by simp,AZ _,h0⟩,?_⟩
 rintro i m σ H ⟨rfl,hi,p⟩
 have q:=hl i σ H hi p
 by_cases hlt:i < xs.length
 ·refine .inr ⟨⟨xs,xs[i],q,by simp[hlt]⟩,Pv (i+1),fun σ' H' p'=>⟨xs.length - (i+1),by omega,rfl,hlt,p'⟩,fun x H' y=>?_⟩
  obtain⟨pp,v,y,hn,e1,e2⟩:=y
  subst e1 e2
  exact hs i v pp σ _ (y xs q) p hn
 ·have e:i=xs.length:=by omega
  subst e
  exact .inl ⟨⟨xs,q,rfl⟩,hd σ H p⟩
end L2
namespace L2
open PySem PySem.Spec PyProof.Rows
structure Cl(P:Program)(w:World)(K:W.Frag)(mg:Str->Option Value)(base:Heap)(k:Nat)(x:Str)(ps:List Str)(sp:Sp):Prop where
 ex:∃f fd,a2L P w K mg base CX0 k f fd ps sp/\mg x=some (.ref f)/\W.keepIn K (.ref f)=true/\a2b K fd ps []
theorem W6{X:Cx}{j k:Nat}{x:Str}{ps:List Str}{sp:Sp}{e:Expr}{es:List Expr}{t:TA}{p pos:Pos}(C:Cl X.prog X.w X.K X.mg X.base j x ps sp)(hr:M8 k X.A)(hg:Gl X x)(ha:PA X (e::es) t)(hjk:j<=k:=by decide)
  (hdb:(x==("__debug__":Str))=false:=by decide)(he:starEach (e::es) X.env=(false,eval e X.env)::starEach es X.env:=by rfl)(hpl:(backTo pos (starEach es X.env)).any (·.1)=false:=by rfl):
  PE X (.Call (.Name x p) (e::es) [] pos) (b2j sp [] E0 t):=by
 obtain⟨f,fd,F,hm,hk,hb⟩:=C.ex
 exact a9Y F (hr.mono hjk) hg hm hk hb .nil a7d ha hdb he hpl
noncomputable def Y9 (K:W.Frag) (mg:Str->Option Value) (x:Str) (st:Stmt):Prop:=∃f fd,Fun K x x st f fd/\mg x=some (.ref f)
theorem U5{K:W.Frag}{mg:Str->Option Value}{h:Heap}{x:Str}{st:Stmt}{f:Addr}{oc:Value}{od an:Option Addr}{osl:Array (Option Value)}{kV doc pm cdv ct:Value}(X:K.In h)(G:h.Ns mainGlobals mg)
  (a:W.nsIn K mainGlobals x=some (some (.ref f)))(l:K.lookup f=some ⟨oc,od,.func (W.fnOf x x (J7 st) (J2 st) (G4 st) .none kV doc pm an cdv ct),osl⟩)
  (c:W.codeIn K cdv x=true)(k:W.keepIn K (.ref f)=true):Y9 K mg x st:=
 ⟨f,_,a7r l c k,W.mg_of X G a⟩
theorem Cl.of{P:Program}{w:World}{K:W.Frag}{mg:Str->Option Value}{base:Heap}{x:Str}{st:Stmt}{N ps:List Str}{k:Nat}{sp:Sp}(T:Y9 K mg x st)(S:R1 N ps (G4 st))(len:∀vs H Q E,sp vs H Q E->vs.length=ps.length)
  (hb:∀(kV doc pm:Value)(an:Option Addr)(cdv ct:Value)(us:List Value),us.length=ps.length->bindArgs (W.fnOf x x (J7 st) (J2 st) (G4 st) .none kV doc pm an cdv ct) ⟨us,[]⟩=pure (ps.zip us))
  (hbody:∀(f:Addr)(cdv:Value)(A:Around)(outer:List Env)(s:Shared)(H:Hp)(vs:List V)(Q:VK)(E:XK),M8 k (A.deeper (envOfC x (G4 st) s.heap.objs.size f cdv))->sp vs H Q E->
   ∃t,PSs (a5u CX0 P w K mg base N x (G4 st) f cdv A outer s H E).nox (J2 st) t/\t {nx:=fun _ H'=>Q .non H',rt:=Q} (a2m N vs) H):Cl P w K mg base (k+1) x ps sp:=by
 obtain⟨f,fd,F,m⟩:=T
 exact⟨f,fd,F.ok S len (fun cdv A outer s H vs Q E=>hbody f cdv A outer s H vs Q E),m,F.kp,F.binds hb⟩
noncomputable def R7 (H H':Hp):Prop:=∀b xs,H b=some (.tup xs)->H' b=some (.tup xs)
section
variable{H H1 H2:Hp}{l p:Addr}{o:HO}{xs ys:List V}
theorem G8.tups(e:G8 H H1):R7 H H1:=fun b xs q=>e b _ q
theorem R7.refl(H:Hp):R7 H H:=fun _ _ q=>q
theorem R7.trans(a:R7 H H1)(b:R7 H1 H2):R7 H H2:=fun c xs q=>b c xs (a c xs q)
theorem R7.lst(h:H l=some (.lst xs)):R7 H (upd H l (.lst ys)):=fun b zs q=>by
 rw[G7 (a0L q h (by intro z;cases z))];exact q
theorem R7.new(h:H p=none):R7 H (upd H p o):=fun b zs q=>by
 rw[G7 (R0 q h)];exact q
theorem G8.put(s:G8 H H1)(h:H l=none):G8 H (upd H1 l o):=fun b u q=>by
 rw[G7 (R0 q h)];exact s b u q
theorem G8.new(s:G8 H H1)(h:H1 p=none):G8 H (upd H1 p o):=s.put (s.free h)
theorem U3{u:HO}(h:H l=some u)(hp:H p=none):upd H p o l=some u:=by
 rw[G7 (R0 h hp)];exact h
end
theorem b2x{α:Type}(xs:List α)(d:α){i:Int}(h0:0<=i)(h1:i < (xs.length:Int)):atI xs i=some (xs.getD i.toNat d):=by
 have e:i=((i.toNat:Nat):Int):=by omega
 have hl:i.toNat < xs.length:=by omega
 have hx:xs[i.toNat]?=some (xs.getD i.toNat d):=by
  rw[List.getD_eq_getElem?_getD]
  simp[hl]
 have:=G9 hx
 rw[<-e]at this
 exact this
theorem a5a{α:Type}(xs:List α){i:Int}(h0:0<=i)(h1:i < (xs.length:Int)):∃v,v∈xs/\atI xs i=some v:=by
 have e:i=((i.toNat:Nat):Int):=by omega
 have hl:i.toNat < xs.length:=by omega
 have hx:xs[i.toNat]?=some xs[i.toNat]:=by simp[hl]
 refine⟨xs[i.toNat],List.getElem_mem hl,?_⟩
 have:=G9 hx
 rw[<-e]at this
 exact this
theorem a7o{α:Type}(f:α->V)(xs:List α)(d:α){i:Int}(h0:0<=i)(h1:i < (xs.length:Int)):atI (xs.map f) i=some (f (xs.getD i.toNat d)):=by
 have:=b2x (xs.map f) (f d) h0 (by simpa using h1)
 rw[this,List.getD_eq_getElem?_getD,AN,List.getD_eq_getElem?_getD]
 have hl:i.toNat < xs.length:=by omega
 simp[hl]
theorem a0U{x:Str}{A B:Prop}(h:A):if decide (V.str x=V.str x)=true then A else B:=by
 rw[if_pos (decide_eq_true rfl)];exact h
theorem W3{x y:Str}{A B:Prop}(e:¬x=y)(h:B):if decide (V.str x=V.str y)=true then A else B:=by
 rw[if_neg (by rw[AM (fun q=>e (V.str.inj q))];exact AD)];exact h
theorem b6k{i j:Int}{A B:Prop}(h1:i=j->A)(h2:¬i=j->B):if decide (V.int i=V.int j)=true then A else B:=
 a4n (fun h=>h1 (V.int.inj (of_decide_eq_true h))) fun h=>h2 fun e=>h (decide_eq_true (congrArg V.int e))
theorem b1w{p:Prop}[Decidable p]{A B:Prop}(hp:p)(h:A):if decide p=true then A else B:=by
 rw[if_pos (decide_eq_true hp)];exact h
theorem b2Y{p:Prop}[Decidable p]{A B:Prop}(hp:¬p)(h:B):if decide p=true then A else B:=by
 rw[if_neg (by rw[AM hp];exact AD)];exact h
theorem b7n{i:Int}{A B:Prop}(h:B):if(!decide (V.int i=V.int i))=true then A else B:=b4G rfl h
theorem a0Q(K:W.Frag)(T:String):W.kitOne K (.type T) (.type T)=some true:=by
 unfold W.kitOne
 rw[if_pos (by simp)]
theorem a1p(K:W.Frag):W.kitOne K (.type "int") (.type "str")=some false:=by kernel_rfl
theorem a7k(K:W.Frag):W.kitOne K (.type "int") (.type "bool")=some false:=by kernel_rfl
noncomputable def a3n (c:Nat):Bool:=decide (97<=c) && decide (c<=122)
noncomputable def b5W (c:Nat):Bool:=decide (48<=c) && decide (c<=57)
noncomputable def b1j (c:Nat):Bool:=a3n c || b5W c
noncomputable def b6p:List Nat->Bool
 | []=>false
 | c::r=>a3n c && r.all b1j && decide (r.length<=7)
noncomputable def Z9 (x:Str):Prop:=b6p x.cps.toList=true
noncomputable instance (x:Str):Decidable (Z9 x):=inferInstanceAs (Decidable (_=true))
inductive Th where
 | num (n:Int)
 | nam (x:Str)
noncomputable def thV:Th->V
 | .num n=> .int n
 | .nam x=> .str x
noncomputable def b1a:Th->Prop
 | .num n=>0<=n/\n < 10 ^ 60
 | .nam x=>Z9 x
noncomputable def a7w (H:Hp) (v:V) (t:Int×Th):Prop:=∃p,v= .ref p/\H p=some (.tup [.int t.1,thV t.2])/\b1a t.2
noncomputable abbrev a6L (H:Hp):List V->List (Int×Th)->Prop:=Paired (a7w H)
theorem Paired.get?{α β:Type}{F:α->β->Prop}:∀{xs:List α}{ys:List β}{i:Nat}{x:α},Paired F xs ys->xs[i]?=some x->∃y,ys[i]?=some y/\F x y
 | _,_,_,_,.nil,e=>by simp at e
 | _,_,0,_,.cons r _,e=>by simp at e;subst e;exact⟨_,rfl,r⟩
 | _,_,i+1,x,.cons _ t,e=>by
  obtain⟨u,h1,h2⟩:=Paired.get? (i:=i) (x:=x) t (by simpa using e)
  exact⟨u,by simpa using h1,h2⟩
theorem Paired.get?'{α β:Type}{F:α->β->Prop}:∀{xs:List α}{ys:List β}{i:Nat}{y:β},Paired F xs ys->ys[i]?=some y->∃x,xs[i]?=some x/\F x y
 | _,_,_,_,.nil,e=>by simp at e
 | _,_,0,_,.cons r _,e=>by simp at e;subst e;exact⟨_,rfl,r⟩
 | _,_,i+1,x,.cons _ t,e=>by
  obtain⟨u,h1,h2⟩:=Paired.get?' (i:=i) (y:=x) t (by simpa using e)
  exact⟨u,by simpa using h1,h2⟩
theorem a7w.mono{H H':Hp}(s:R7 H H'){v:V}{t:Int×Th}(h:a7w H v t):a7w H' v t:=by
 obtain⟨p,e,h,o⟩:=h
 exact⟨p,e,s p _ h,o⟩
theorem a6L.mono{H H':Hp}(s:R7 H H'){vs:List V}{ts:List (Int×Th)}(h:a6L H vs ts):a6L H' vs ts:=Paired.mapP h fun _ _ q=>q.mono s
structure D1(H:Hp)(t:Addr)(ts:List (Int×Th)):Prop where
 ex:∃vs,H t=some (.tup vs)/\a6L H vs ts
 lo:1<=ts.length
 hi:ts.length<=6
theorem D1.mono{H H':Hp}(s:R7 H H'){t:Addr}{ts:List (Int×Th)}(h:D1 H t ts):D1 H' t ts:=by
 obtain⟨⟨vs,h1,h2⟩,lo,hi⟩:=h
 exact⟨⟨vs,s t _ h1,h2.mono s⟩,lo,hi⟩
noncomputable def a7p (H:Hp) (v:V) (d:Int×Str):Prop:=∃p,v= .ref p/\H p=some (.tup [.int d.1,.str d.2])
noncomputable abbrev a1q (H:Hp):List V->List (Int×Str)->Prop:=Paired (a7p H)
theorem a7p.mono{H H':Hp}(s:R7 H H'){v:V}{t:Int×Str}(h:a7p H v t):a7p H' v t:=by
 obtain⟨p,e,h⟩:=h
 exact⟨p,e,s p _ h⟩
theorem a1q.mono{H H':Hp}(s:R7 H H'){vs:List V}{ts:List (Int×Str)}(h:a1q H vs ts):a1q H' vs ts:=Paired.mapP h fun _ _ q=>q.mono s
noncomputable def U4:Int->List (Int×Th)->List (Int×Str)
 | _,[]=> []
 | k,(_,.num _)::r=>U4 (k+2) r
 | k,(_,.nam x)::r=>(k,x)::U4 (k+2) r
theorem D3:∀(ts us:List (Int×Th))(k:Int),U4 k (ts++us)=U4 k ts++U4 (k+2*ts.length) us
 | [],us,k=>by simp[U4]
 | (s,.num n)::r,us,k=>by
  have e:k+2+2*(r.length:Int)=k+2*(((s,Th.num n)::r).length:Int):=by simp;omega
  show U4 (k+2) (r++us)=U4 (k+2) r++U4 (k+2*(((s,Th.num n)::r).length:Int)) us
  rw[D3 r us (k+2),e]
 | (s,.nam x)::r,us,k=>by
  have e:k+2+2*(r.length:Int)=k+2*(((s,Th.nam x)::r).length:Int):=by simp;omega
  show(k,x)::U4 (k+2) (r++us)=(k,x)::U4 (k+2) r++U4 (k+2*(((s,Th.nam x)::r).length:Int)) us
  rw[D3 r us (k+2),e]
  rfl
theorem a0P:∀(ts:List (Int×Th))(k:Int),(U4 k ts).length<=ts.length
 | [],k=>by simp[U4]
 | (s,.num n)::r,k=>by
  have:=a0P r (k+2)
  show(U4 (k+2) r).length<=_
  simp only[List.length_cons];omega
 | (s,.nam x)::r,k=>by
  have:=a0P r (k+2)
  show((k,x)::U4 (k+2) r).length<=_
  simp only[List.length_cons];omega
theorem I0{α:Type}{l:List α}{i:Nat}{x:α}(h:l[i]?=some x):l.take (i+1)=l.take i++[x]:=by
 rw[List.take_succ,h];rfl
end L2
namespace L2
open PySem PySem.Spec PyProof.Rows
section
variable{X:Cx}
end
section
variable{X:Cx}
end
end L2
namespace L2
open PySem PySem.Spec PyProof.Rows
noncomputable def a1U (cells:List (Str×Addr)):List (Str×NameKind)->List (Str×Addr)->List (Str×Addr)
 | [],cs=>cs
 | (n,k)::r,cs=>a1U cells r (if k== .free then(n,(cells.lookup n).getD 0)::cs else cs)
theorem a9P{cells:List (Str×Addr)}{env:Env}(he:env.cells=cells):∀(l:List (Str×NameKind))(cs:List (Str×Addr)),(∀y∈l,y.2= .free->∃c,cells.lookup y.1=some c)->
  (forIn l cs fun p cs=>(do if p.2== .free then(do let a<-cellOf env p.1;pure (ForInStep.yield ((p.1,a)::cs)))else pure (ForInStep.yield cs):Sem (ForInStep (List (Str×Addr)))))=pure (a1U cells l cs):=by
 intro l
 induction l with
 | nil=>intro cs _;rfl
 | cons p r ih=>
  intro cs h
  obtain⟨n,k⟩:=p
  rw[List.forIn_cons]
  have hr:∀y∈r,y.2= .free->∃c,cells.lookup y.1=some c:=fun y hy=>h y (AO _ hy)
  by_cases hk:k= .free
  ·subst hk
   obtain⟨c,hc⟩:=h (n,.free) AQ rfl
   have hc':env.cells.lookup n=some c:=by rw[he];exact hc
   have e:cellOf env n=pure c:=by unfold cellOf;rw[hc']
   simp only[beq_self_eq_true,if_true,e,pure_bind]
   rw[ih _ hr]
   unfold a1U
   rw[if_pos (by simp),show(cells.lookup n).getD 0=c by rw[show cells.lookup n=some c from hc];rfl]
   conv=>rhs;unfold a1U
  ·have hb:(k==NameKind.free)=false:=by simpa using hk
   simp only[hb,Bool.false_eq_true,if_false,pure_bind]
   rw[ih _ hr]
   conv=>rhs;unfold a1U
   rw[if_neg (by rw[hb];exact AD)]
theorem a3I{cells:List (Str×Addr)}{x:Str}{c:Addr}:∀(l:List (Str×NameKind))(cs:List (Str×Addr)),(∀y∈l,y.2= .free->∃c,cells.lookup y.1=some c)->(a1U cells l cs).lookup x=some c->cells.lookup x=some c\/cs.lookup x=some c
 | [],cs,_,h=> .inr h
 | (n,k)::r,cs,hy,h=>by
  unfold a1U at h
  rcases a3I r _ (fun y q=>hy y (AO _ q)) h with h | h
  ·exact .inl h
  ·by_cases hk:k= .free
   ·subst hk
    obtain⟨c',hc⟩:=hy (n,.free) AQ rfl
    have hc:cells.lookup n=some c':=hc
    rw[if_pos (by simp),List.lookup_cons]at h
    split at h
    ·rename_i e
     have e':x=n:=by simpa using e
     subst e'
     rw[hc]at h
     cases h
     exact .inl hc
    ·exact .inr h
   ·rw[if_neg (by simpa using hk)]at h
    exact .inr h
theorem a5p{cells:List (Str×Addr)}{x:Str}:∀(l:List (Str×NameKind))(cs:List (Str×Addr)),(∃c,cs.lookup x=some c)->∃c,(a1U cells l cs).lookup x=some c
 | [],_,h=>h
 | (n,k)::r,cs,h=>by
  unfold a1U
  refine a5p r _ ?_
  split
  ·rw[List.lookup_cons]
   split
   ·exact⟨_,rfl⟩
   ·exact h
  ·exact h
theorem a4j{cells:List (Str×Addr)}{x:Str}:∀(l:List (Str×NameKind))(cs:List (Str×Addr)),(x,NameKind.free)∈l->∃c,(a1U cells l cs).lookup x=some c
 | (n,k)::r,cs,h=>by
  unfold a1U
  rcases List.mem_cons.mp h with e | h
  ·cases e
   refine a5p r _ ?_
   rw[if_pos (by simp),List.lookup_cons]
   simp
  ·exact a4j r _ h
theorem a3E{sc:Scope}{env:Env}(h:∀y∈sc.names,y.2= .free->∃c,env.cells.lookup y.1=some c):closureFor sc env=pure (a1U env.cells sc.names []):=by
 have:=a9P (env:=env) rfl sc.names [] h
 unfold closureFor
 simp only[bind_pure]
 exact this
theorem a3S{env:Env}{x:Str}:∀{names:List (Str×NameKind)},names.lookup x=some .free->
  (names.map fun(n,k)=>if(k==NameKind.free && env.scope.kind== .function && env.kindOf n==some .cell)then(n,NameKind.cell)else(n,k)).lookup x=some .cell\/
  (names.map fun(n,k)=>if(k==NameKind.free && env.scope.kind== .function && env.kindOf n==some .cell)then(n,NameKind.cell)else(n,k)).lookup x=some .free
 | [],h=>by simp at h
 | (n,k)::r,h=>by
  have ih:=@a3S env x r
  simp only[List.map_cons]
  by_cases hc:(k==NameKind.free && env.scope.kind== .function && env.kindOf n==some .cell)=true
  ·rw[if_pos hc]
   simp only[List.lookup_cons]at h⊢
   cases hx:x==n with
   | true=>exact .inl rfl
   | false=>simp only[hx]at h⊢;exact ih h
  ·rw[if_neg hc]
   simp only[List.lookup_cons]at h⊢
   cases hx:x==n with
   | true=>simp only[hx]at h⊢;exact .inr h
   | false=>simp only[hx]at h⊢;exact ih h
theorem a4c{env:Env}{x:Str}:∀{names:List (Str×NameKind)},
  (names.map fun(n,k)=>if(k==NameKind.free && env.scope.kind== .function && env.kindOf n==some .cell)then(n,NameKind.cell)else(n,k)).lookup x=some .cell\/
  (names.map fun(n,k)=>if(k==NameKind.free && env.scope.kind== .function && env.kindOf n==some .cell)then(n,NameKind.cell)else(n,k)).lookup x=some .free->
  (x,NameKind.free)∈names\/(x,NameKind.cell)∈names
 | [],h=>by simp at h
 | (n,k)::r,h=>by
  have ih:=@a4c env x r
  simp only[List.map_cons]at h
  have tl:(x,NameKind.free)∈r\/(x,NameKind.cell)∈r->(x,NameKind.free)∈(n,k)::r\/(x,NameKind.cell)∈(n,k)::r:=fun q=>q.imp (AO _) (AO _)
  by_cases hc:(k==NameKind.free && env.scope.kind== .function && env.kindOf n==some .cell)=true
  ·rw[if_pos hc]at h
   have hk:k= .free:=by
    simp only[Bool.and_eq_true]at hc
    simpa using hc.1.1
   simp only[List.lookup_cons]at h
   cases hx:x==n with
   | true=>
    have e:x=n:=by simpa using hx
    subst e hk
    exact .inl AQ
   | false=>simp only[hx]at h;exact tl (ih h)
  ·rw[if_neg hc]at h
   simp only[List.lookup_cons]at h
   cases hx:x==n with
   | true=>
    have e:x=n:=by simpa using hx
    subst e
    simp only[hx]at h
    rcases h with h | h
    ·cases h;exact .inr AQ
    ·cases h;exact .inl AQ
   | false=>simp only[hx]at h;exact tl (ih h)
structure a4s(osc:Scope)(N:List Str)(sc:Scope)(M:List Str)(ρ:List (Option Nat)):Prop where
 kind:sc.kind= .function
 nocell:∀y∈sc.names,y.2≠ .cell
 own:∀y∈sc.names,y.2= .local->sc.names.lookup y.1=some .local
 fre:∀y∈sc.names,y.2= .free->osc.names.lookup y.1=some .cell\/osc.names.lookup y.1=some .free
 len:ρ.length=M.length
 ren:∀p∈ρ.zip M,(match p.1 with | none=>true | some i=>decide (N[i]?=some p.2/\sc.names.lookup p.2=some .free))=true
 nd:M.Nodup
noncomputable def b0P (ρ:List (Option Nat)) (σ:St):St:=ρ.map fun o=>match o with | none=>none | some i=>(σ[i]?).join
noncomputable def a0h (X:Cx) (sc:Scope) (cl:List (Str×Addr)) (C:Addr) (M:List Str) (s:Shared) (H:Hp) (fp:List Addr) (xe:Value->Shared->Prop):Cx where
 prog:=X.prog
 w:=X.w
 K:=X.K
 mg:=X.mg
 base:=X.base
 A:=X.A
 N:=M
 s₀:=s
 H₀:=H
 env:=compEnvC sc cl C X.env
 outer:=X.stack
 stack:=X.stack
 ex:=fp
 fn:=fun _=>false
 calm:=X.calm
 pn:=[]
 xe:=xe
theorem b0N{P:Program}{w:World}{A:Around}{R:Result->Shared->Prop}{s:Shared}{elt tg iter:Expr}{ifs:List Expr}{sc:Scope}{pos:Pos}{it acc:Value}{env:Env}(J:Nat->Shared->Prop)
  (turn:∀n s,J n s->wpAny (model P w) A (pyNext it) (fun r s1=>match r with
   | none=>R (.ok .next) s1
   | some v=>wpAny (model P w) A (letOwnedTupleGo tg it v) (fun _ s2=>wpAny (model P w) A (assign tg env v) (fun _ s3=>
     wpAny (model P w) A (forIn ifs true fun c r=>if r=true then do let ok<-isTrue c env (eval c env);pure (ForInStep.yield ok)else pure (ForInStep.yield r)) (fun ok s4=>
      if ok=true then wpAny (model P w) A (eval elt env) (fun x s5=>wpAny (model P w) A (call (.builtin "list.append") [acc,x]) (fun _ s6=>∃m,m < n/\J m s6) (notedBy (model P w) A env fun e s'=>R (.error e) s') s5)
       (notedBy (model P w) A env fun e s'=>R (.error e) s') s4
      else∃m,m < n/\J m s4) (notedBy (model P w) A env fun e s'=>R (.error e) s') s3) (notedBy (model P w) A env fun e s'=>R (.error e) s') s2) (notedBy (model P w) A env fun e s'=>R (.error e) s') s1)
   (notedBy (model P w) A env fun e s'=>R (.error e) s') s)
  (n:Nat)(h:J n s):codeAny (model P w) A (.compLoop (.ListComp elt [⟨tg,iter,ifs,0⟩] sc pos) 0 it acc env) R s:=by
 refine codeAny_loop rfl J (fun n s hJ=>?_) n h
 show wpAny (model P w) A ((compTurn (.ListComp elt [⟨tg,iter,ifs,0⟩] sc pos) 0 it acc env).onRaise fun x=>do noteFrame x env;theTreesLotGoes x) _ _ s
 refine wpAny_noted ?_
 rw[compTurn_list]
 refine AA (wpAny_standAt (AA (thn (turn n s hJ) fun r s1 h1=>?_)))
 cases r with
 | none=>exact AJ h1
 | some v=>
  refine AA (thn h1 fun _ s2 h2=>AA (thn h2 fun _ s3 h3=>AA (thn h3 fun ok s4 h4=>?_)))
  cases ok with
  | false=>exact AJ ⟨rfl,h4⟩
  | true=>exact AA (AA (thn h4 fun x s5 h5=>AA (thn h5 fun _ s6 h6=>AJ (AJ ⟨rfl,h6⟩))))
noncomputable def PTs (X:Cx) (ifs:List Expr) (t:TT):Prop:=
 ∀(pins:List (Addr×Obj))(s:Shared)(σ:St)(H:Hp)(Q:Bool->Hp->Prop),Inv X pins σ H s->t σ H Q->
  wpAny (model X.prog X.w) X.A (forIn ifs true fun c r=>if r=true then do let ok<-isTrue c X.env (eval c X.env);pure (ForInStep.yield ok)else pure (ForInStep.yield r)) (TP X pins σ Q) X.xe s
noncomputable def a4T:TT:=fun _ H Q=>Q true H
theorem ntG{i:Nat}{v:V}{σ:St}{H:Hp}{A B:St->Hp->Prop}(h:A (σ.set i (some v)) H):a3p i v σ H (fun σ4 H4=>a4T σ4 H4 fun b H5=>if b=true then A σ4 H5 else B σ4 H5):=by
 show if true=true then A (σ.set i (some v)) H else B (σ.set i (some v)) H
 exact O7 h
theorem a1l{X:Cx}:PTs X [] a4T:=fun _ _ _ H _ I h=>wpAny_tests_nil ⟨H,I,h⟩
theorem a3G{X:Cx}{c:Expr}{t:TT}(h:PT X c t):PTs X [c] t:=fun pins s σ H Q I q=>wpAny_tests_one (h pins s σ H Q I q)
noncomputable def b4F (wi:TI) (ρ:List (Option Nat)) (g:TG) (tt:TT) (te:TE):TE:=fun σ H Q=>wi σ H fun J H1=>∀D,H1 D=none->∃W:Nat->Nat->St->Hp->Prop,(∃m,W 0 m (b0P ρ σ) (upd H1 D (.lst [])))/\∀i m σ2 H2,W i m σ2 H2->
 (J.stop i H2/\Q (.ref D) H2)\/(J.go i H2/\∃N:St->Hp->Prop,(∀σ' H',N σ' H'->∃m',m' < m/\W (i+1) m' σ' H')/\∀x H3,J.yld i H2 x H3->g x σ2 H3 fun σ4 H4=>tt σ4 H4 fun b H5=>
  if b=true then te σ4 H5 fun y H6=>∃ys,H6 D=some (.lst ys)/\ys.length < sizeLine/\N σ4 (upd H6 D (.lst (ys++[y])))
  else N σ4 H5)
theorem a3g{J:It}{g:TG}{tt:TT}{te:TE}{Q:Hp->Prop}{σ:St}{H:Hp}{D:Addr}(n:Nat)(Pv:Nat->St->Hp->Prop)(h0:Pv 0 σ (upd H D (.lst [])))
  (hs:∀i σ2 H2,i < n->Pv i σ2 H2->J.go i H2/\∀x H3,J.yld i H2 x H3->g x σ2 H3 fun σ4 H4=>tt σ4 H4 fun b H5=>
   if b=true then te σ4 H5 fun y H6=>∃ys,H6 D=some (.lst ys)/\ys.length < sizeLine/\Pv (i+1) σ4 (upd H6 D (.lst (ys++[y])))else Pv (i+1) σ4 H5)
  (hd:∀σ2 H2,Pv n σ2 H2->J.stop n H2/\Q H2):
  ∃W:Nat->Nat->St->Hp->Prop,(∃m,W 0 m σ (upd H D (.lst [])))/\∀i m σ2 H2,W i m σ2 H2->
   (J.stop i H2/\Q H2)\/(J.go i H2/\∃N:St->Hp->Prop,(∀σ' H',N σ' H'->∃m',m' < m/\W (i+1) m' σ' H')/\∀x H3,J.yld i H2 x H3->g x σ2 H3 fun σ4 H4=>tt σ4 H4 fun b H5=>
    if b=true then te σ4 H5 fun y H6=>∃ys,H6 D=some (.lst ys)/\ys.length < sizeLine/\N σ4 (upd H6 D (.lst (ys++[y])))else N σ4 H5):=by
 refine⟨fun i m σ H=>m=n - i/\i<=n/\Pv i σ H,⟨n,by simp,AZ _,h0⟩,?_⟩
 rintro i m σ2 H2 ⟨rfl,hi,p⟩
 by_cases hlt:i < n
 ·obtain⟨h1,h2⟩:=hs i σ2 H2 hlt p
  exact .inr ⟨h1,Pv (i+1),fun σ' H' p'=>⟨n - (i+1),by omega,rfl,hlt,p'⟩,h2⟩
 ·have e:i=n:=by omega
  subst e
  exact .inl (hd σ2 H2 p)
section
variable{X:Cx}{tg elt iter:Expr}{ifs:List Expr}{sc:Scope}{pos:Pos}{M:List Str}{ρ:List (Option Nat)}{wi:TI}{g:TG}{tt:TT}{te:TE}
theorem a5E(osc:Scope)(hosc:X.env.scope=osc)(N:List Str)(hN:X.N=N)(S:a4s osc N sc M ρ)(hc:X.calm=true)
  (hg:∀cl C s H fp xe,PG (a0h X sc cl C M s H fp xe) tg g)(ht:∀cl C s H fp xe,PTs (a0h X sc cl C M s H fp xe) ifs tt)(he:∀cl C s H fp xe,PE (a0h X sc cl C M s H fp xe) elt te)
  {pins:List (Addr×Obj)}{σ:St}{H:Hp}{s:Shared}{itv:Value}{Q:VK}{RR:Value->Addr->Result->Shared->Prop}(I:Inv X pins σ H s)
  (h2:PIE X pins σ tg (fun J H1=>∀D,H1 D=none->∃W:Nat->Nat->St->Hp->Prop,(∃m,W 0 m (b0P ρ σ) (upd H1 D (.lst [])))/\∀i m σ2 H2,W i m σ2 H2->
   (J.stop i H2/\Q (.ref D) H2)\/(J.go i H2/\∃N:St->Hp->Prop,(∀σ' H',N σ' H'->∃m',m' < m/\W (i+1) m' σ' H')/\∀x H3,J.yld i H2 x H3->g x σ2 H3 fun σ4 H4=>tt σ4 H4 fun b H5=>
    if b=true then te σ4 H5 fun y H6=>∃ys,H6 D=some (.lst ys)/\ys.length < sizeLine/\N σ4 (upd H6 D (.lst (ys++[y])))
    else N σ4 H5)) itv s)
  (hR:∀(D C:Addr)(H':Hp)(s':Shared)(mC:Str->Option Value),Inv X pins σ H' s'->s'.heap.Ns C mC->a4M X pins H' C->Q (.ref D) H'->RR (.ref D) C (.ok .next) s'):
  wpAny (model X.prog X.w) X.A (newList []) (fun acc s3=>wpAny (model X.prog X.w) X.A (newFunctionEnv sc X.env.globals (a1U X.env.cells sc.names []) [] X.env.qual none .none (some X.env)) (fun cenv s4=>
   codeAny (model X.prog X.w) X.A (.compStart (.ListComp elt [⟨tg,iter,ifs,0⟩] sc pos) 0 itv acc {cenv with scope:=relabel sc X.env}) (RR acc cenv.locals) s4) X.xe s3) X.xe s:=by
 subst hosc hN
 obtain⟨it,fp,tn,J,H2,rfl,I2,T,st2,f2,q2⟩:=h2
 have hcells:∀y∈sc.names,y.2= .free->∃c,X.env.cells.lookup y.1=some c:=fun y hy hf=>I2.ok.has y.1 (S.fre y hy hf)
 have hclx:∀{x c},(a1U X.env.cells sc.names []).lookup x=some c->X.env.cells.lookup x=some c:=fun{x c}e=>(a3I _ _ hcells e).elim id fun z=>by simp at z
 generalize hcl:a1U X.env.cells sc.names []=cl at hclx⊢
 refine wpAny_newObj_type (wpAny_newFunctionEnv S.nocell (by intro y hy;simp at hy) (fun h1 hns hsb=>?_) S.kind)
 dsimp only at hns hsb⊢
 generalize hG:s.heap.push {cls:= .type "list",dict:=none,data:= .seq ([]:List Value).toArray}=G at hns hsb⊢
 have hC:G.objs.size=s.heap.objs.size+1:=by rw[<-hG,Heap.size_push]
 have old:∀b o,s.heap.get? b=some o->h1.get? b=some o:=fun b o e=>
  hsb.extBut b o (Nat.ne_of_lt (by rw[hC];exact Nat.lt_succ_of_lt (AT e))) (AH _ (hG▸AH _ e))
 have hD1:h1.get? s.heap.objs.size=some {cls:= .type "list",dict:=none,data:= .seq ([]:List Value).toArray}:=
  hsb.extBut _ _ (by rw[hC];exact Nat.ne_of_lt (Nat.lt_succ_self _)) (AH _ (hG▸AS _ rfl))
 have hDn:H2 s.heap.objs.size=none:=I2.hok.fresh (AE _)
 obtain⟨W,⟨m0,w0⟩,turn⟩:=q2 s.heap.objs.size hDn
 have hCle:s.heap.objs.size<=G.objs.size:=by rw[hC];exact Nat.le_succ _
 have hCD:G.objs.size≠s.heap.objs.size:=by rw[hC];exact Nat.succ_ne_self _
 generalize hxe:notedBy (model X.prog X.w) X.A (compEnvC sc cl G.objs.size X.env) (fun e s'=>RR (.ref s.heap.objs.size) G.objs.size (.error e) s')=xe
 have fpC:∀b∈fp,b≠G.objs.size:=fun b hb=>by
  obtain⟨o,e,_⟩:=T.obj 0 _ st2 b hb
  have:=AT e
  exact Nat.ne_of_lt (AY this hCle)
 have fpS:∀b∈fp,b∉frs X.stack:=fun b hb z=>by
  obtain⟨f0,f1,f3,_⟩:=f2 b hb
  rcases List.mem_cons.mp (I2.stkSub b z)with e | e
  ·exact f1 e
  ·exact f3 e
 have hok:(a0h X sc cl G.objs.size M s H2 fp xe).Ok:=by
  refine⟨I2.ok.mod,S.kind,I2.ok.glob,I2.ok.blt,hCle,fun x y c e1 e2=>I2.ok.inj x y c (hclx e1) (hclx e2),fun x hx=>?_,(fun x c e _=>absurd (show false=true from e) AD),I2.ok.hd,I2.ok.frames,.inl rfl,fun b hb=>⟨fpC b hb,fun x c e=>(f2 b hb).2.2.2.2.1 x c (hclx e)⟩,
   I2.bs,Nat.le_trans I2.ok.bsz I2.sz,fun b o e hb=>?_,fpS,I2.stack,I2.stkFree⟩
  ·rcases a4c (names:=sc.names) (env:=X.env) hx with q | q
   ·rw[<-hcl];exact a4j _ _ q
   ·exact absurd rfl (S.nocell _ q)
  ·rcases(f2 b hb).2.2.2.1 with z | z
   ·exact I2.ok.noex b o e z
   ·exact absurd (AY (AT e) (Nat.le_trans I2.ok.bsz z)) (Nat.lt_irrefl _)
 have I4:Inv (a0h X sc cl G.objs.size M s H2 fp xe) [] (b0P ρ σ) (upd H2 s.heap.objs.size (.lst [])) {s with heap:=h1,toks:=s.toks+([]:List (Str×Value)).length}:=by
  refine⟨hok,rfl,I2.bare,Un.laid old (AE _) hDn,⟨_,hns,fun j x v e1 e2 _=>?_⟩,fun x c e=>?_,?_,fun x c e=>?_,fun p hp=>absurd (show p∈([]:List (Addr×Obj))from hp) (by simp),I2.hok.laid old (AE _) ⟨by show 0<=sizeLine;decide,[],0,.nil,hD1⟩,?_⟩
  ·unfold b0P at e2
   rw[AN]at e2
   cases q:ρ[j]? with
   | none=>rw[q]at e2;cases e2
   | some o=>
    rw[q]at e2
    cases o with
    | none=>cases e2
    | some i=>
     have e2':(σ[i]?).join=some v:=Option.some.inj e2
     have e3:σ[i]?=some (some v):=by
      cases z:σ[i]? with
      | none=>rw[z]at e2';cases e2'
      | some y=>rw[z]at e2';cases y with
       | none=>cases e2'
       | some y=>cases e2';rfl
     have hz:(ρ.zip M)[j]?=some (some i,x):=List.getElem?_zip_eq_some.mpr ⟨q,e1⟩
     have hr:=S.ren (some i,x) (AF hz)
     obtain⟨r1,r2⟩:=of_decide_eq_true hr
     obtain⟨m,hn,hl⟩:=I2.loc
     have hfr:=S.fre _ (PySem.mem_of_lookup r2) rfl
     obtain⟨u,ru,lk⟩:=hl i x v r1 e3 (hfr.elim (fun z=> .inr (.inl z)) fun z=> .inr (.inr z))
     refine⟨u,ru,?_⟩
     rcases lk with⟨k,_⟩ | ⟨_,c,hcc,cell⟩
     ·have k':X.env.scope.names.lookup x=some .local:=k
      rcases hfr with z | z
      ·rw[k']at z;cases z
      ·rw[k']at z;cases z
     ·obtain⟨c',hc'⟩:=a4j (cells:=X.env.cells) sc.names [] (PySem.mem_of_lookup r2)
      rw[hcl]at hc'
      have:=hclx hc'
      rw[hcc]at this
      cases this
      obtain⟨oc,ho,hd⟩:=cell
      exact .inr ⟨a3S r2,_,hc',oc,old _ _ ho,hd⟩
  ·obtain⟨v,oc,ho,hd⟩:=I2.cell x c (hclx e)
   exact⟨v,oc,old _ _ ho,hd⟩
  ·show upd H2 s.heap.objs.size (.lst []) G.objs.size=none
   rw[G7 hCD]
   exact I2.hok.fresh hCle
  ·show upd H2 s.heap.objs.size (.lst []) c=none
   obtain⟨v,oc,ho,hd⟩:=I2.cell x c (hclx e)
   rw[G7 (Nat.ne_of_lt (AT ho))]
   exact I2.freeC x c (hclx e)
  ·show(b0P ρ σ).length=M.length
   unfold b0P
   rw[List.length_map,S.len]
 have st4:tn 0 h1:=T.keep 0 _ _ st2 fun b _ o e=>old b o e
 have fr4:∀b∈fp,upd H2 s.heap.objs.size (.lst []) b=none:=fun b hb=>by
  obtain⟨o,e,_⟩:=T.obj 0 _ st2 b hb
  rw[G7 (Nat.ne_of_lt (AT e))]
  exact(f2 b hb).1
 have stat:∀{H':Hp},(∀b∈fp,H' b=none)->∀b∈fp,a4M (a0h X sc cl G.objs.size M s H2 fp xe) [] H' b:=fun hn b hb=>
  ⟨hn b hb,fpC b hb,fpS b hb,.inl hb,fun x c e=>(f2 b hb).2.2.2.2.1 x c (hclx e),fun p hp=>absurd (show p∈([]:List (Addr×Obj))from hp) (by simp)⟩
 have loop:codeAny (model X.prog X.w) X.A (.compLoop (.ListComp elt [⟨tg,iter,ifs,0⟩] sc pos) 0 (.ref it) (.ref s.heap.objs.size) (compEnvC sc cl G.objs.size X.env)) (RR (.ref s.heap.objs.size) G.objs.size)
   {s with heap:=h1,toks:=s.toks+([]:List (Str×Value)).length}:=by
  refine b0N (fun n s'=>∃i σ' H',Inv (a0h X sc cl G.objs.size M s H2 fp xe) [] σ' H' s'/\tn i s'.heap/\(∀b∈fp,H' b=none)/\W i n σ' H') ?_ m0 ⟨0,_,_,I4,st4,fr4,w0⟩
  rw[hxe]
  rintro n s3 ⟨i,σ3,H3,I3,st3,fr3,w3⟩
  rcases turn i n σ3 H3 w3 with⟨stop,qn⟩ | ⟨go,N,hN,step⟩
  ·refine thn (T.done (a0h X sc cl G.objs.size M s H2 fp xe) rfl rfl rfl hc i [] s3 σ3 H3 xe I3 (stat fr3) st3 stop) fun r s4⟨hr,I5⟩=>?_
   subst hr
   obtain⟨mC,nC,_⟩:=I5.loc
   have I6:Inv X pins σ H3 s4:=I2.call' I5.os I5.base I5.hok I5.bare fun b hb=>⟨(f2 b hb).2.2.2.1,(f2 b hb).2.1,(f2 b hb).2.2.2.2.1,(f2 b hb).2.2.2.2.2⟩
   exact hR _ _ H3 s4 mC I6 nC (I2.fpOk hCle I5.free) qn
  ·refine thn (T.item (a0h X sc cl G.objs.size M s H2 fp xe) rfl rfl rfl hc i [] s3 σ3 H3 xe I3 (stat fr3) st3 go) fun r s4⟨u,hr,h4⟩=>?_
   subst hr
   refine thn h4 fun _ s5⟨x,H5,I5,r5,y5,st5,fr5⟩=>?_
   have I5':=I5.pinned (stat fr5) (T.obj _ _ st5)
   refine thn (hg cl G.objs.size s H2 fp xe _ s5 σ3 H5 x u _ I5' r5 (step x H5 y5)) fun _ s6⟨σ6,H6,I6,q6⟩=>?_
   have fin:∀{s7:Shared}{σ7:St}{H7:Hp},Inv (a0h X sc cl G.objs.size M s H2 fp xe) ([]++a5L fp s5.heap) σ7 H7 s7->(∃m',m' < n/\W (i+1) m' σ7 H7)->
     ∃m,m < n/\∃i σ' H',Inv (a0h X sc cl G.objs.size M s H2 fp xe) [] σ' H' s7/\tn i s7.heap/\(∀b∈fp,H' b=none)/\W i m σ' H':=fun{s7 σ7 H7}I7⟨m',hm,w7⟩=>by
    refine⟨m',hm,i+1,σ7,H7,I7.unpinned,T.keep _ _ _ st5 fun b hb o e=>(I7.pin (b,o) (AW _ (AW _ (a2r hb e)))).1,fun b hb=>?_,w7⟩
    obtain⟨o,e,d⟩:=T.obj _ _ st5 b hb
    exact(I7.pin (b,o) (AW _ (AW _ (a2r hb e)))).2.1
   refine thn (ht cl G.objs.size s H2 fp xe _ s6 σ6 H6 _ I6 q6) fun ok s7⟨H7,I7,q7⟩=>?_
   cases ok with
   | false=>
    rw[if_neg AD]at q7⊢
    exact fin I7 (hN _ _ q7)
   | true=>
    rw[if_pos rfl]at q7⊢
    refine thn (he cl G.objs.size s H2 fp xe _ s7 σ6 H7 _ I7 q7) fun y s8⟨yv,H8,I8,r8,ys,hys,hlt,q8⟩=>?_
    obtain⟨z,its,k,rv,hl,e⟩:=I8.lstM hys
    refine call_meets F.slot_list_append ⟨_,e,rfl⟩ F.entry_list_append (F.args_list_append_2 _ _) (PySem.list_append _ its.toArray k y (by rw[List.size_toArray];omega)) ⟨e,?_⟩
    exact fin (I8.lset (its':=its++[y]) hys e (by simp) (rv.append (.cons r8 .nil)) (by rw[List.length_append,List.length_singleton];omega)) (hN _ _ q8)
 exact codeAny_compStart_list loop (T.self X.A 0 _ _ _ st4 loop)
theorem a0I(osc:Scope)(N:List Str)(S:a4s osc N sc M ρ)(hi:PI X tg iter wi)(hg:∀cl C s H fp xe,PG (a0h X sc cl C M s H fp xe) tg g)(ht:∀cl C s H fp xe,PTs (a0h X sc cl C M s H fp xe) ifs tt)
  (he:∀cl C s H fp xe,PE (a0h X sc cl C M s H fp xe) elt te)(hosc:X.env.scope=osc:=by rfl)(hN:X.N=N:=by rfl)(hc:X.calm=true:=by rfl)(hs:∀x,foldedSetIterable iter X.env x=pure x:=by intro _;rfl):
  PE X (.ListComp elt [⟨tg,iter,ifs,0⟩] sc pos) (b4F wi ρ g tt te):=by
 intro pins s σ H Q I h
 have hcells:∀y∈sc.names,y.2= .free->∃c,X.env.cells.lookup y.1=some c:=fun y hy hf=>I.ok.has y.1 (by show X.env.scope.names.lookup y.1=_\/X.env.scope.names.lookup y.1=_;rw[hosc];exact S.fre y hy hf)
 rw[eval_ListComp]
 refine wpAny_comprehension_free (M:=model X.prog X.w) (A:=X.A) (E:=X.xe) (e:= .ListComp elt [⟨tg,iter,ifs,0⟩] sc pos) rfl hs (a3E hcells) S.kind S.own (thn (hi pins s σ H _ I h) fun v s1 h1=>thn h1 fun itv s2 h2=>?_)
 obtain⟨_,_,_,_,_,_,I2,_⟩:=id h2
 refine a5E (RR:=fun acc C=>compPost (model X.prog X.w) X.A X.xe none (EP X pins σ Q) acc C) osc hosc N hN S hc hg ht he I2 h2 fun D C H' s' mC I' nC fC q=>?_
 refine⟨mC,nC,fun h' sb=>?_⟩
 obtain⟨f0,f1,_,f3,f4,f5⟩:=fC
 exact⟨.ref D,H',I'.turned (t':=s'.toks) (fun b o hb e=>(sb.2 b hb).trans e) f0 f1 f3 f4 f5,rfl,q⟩
theorem a4Q{j:Nat}{x:Str}{px spos:Pos}(osc:Scope)(N:List Str)(S:a4s osc N sc M ρ)(hNd:X.N.Nodup)(hj:X.N[j]?=some x)(hx:Loc X.env.scope x)(hi:PI X tg iter wi)(hg:∀cl C s H fp xe,PG (a0h X sc cl C M s H fp xe) tg g)
  (ht:∀cl C s H fp xe,PTs (a0h X sc cl C M s H fp xe) ifs tt)(he:∀cl C s H fp xe,PE (a0h X sc cl C M s H fp xe) elt te)
  (hsw:swapsWith (.ListComp elt [⟨tg,iter,ifs,0⟩] sc pos) (some (.Name x px)) spos.line X.env=pure true:=by rfl)(hosc:X.env.scope=osc:=by rfl)(hN:X.N=N:=by rfl)(hc:X.calm=true:=by rfl)(hs:∀x,foldedSetIterable iter X.env x=pure x:=by intro _;rfl)
  (hf:X.fn x=true\/X.env.scope.names.lookup x=some .local:=by first | exact .inl rfl | exact .inr rfl | assumption):
  PS X (.Assign [.Name x px] (.ListComp elt [⟨tg,iter,ifs,0⟩] sc pos) spos) (b5R (b4F wi ρ g tt te) (a3p j)):=by
 intro pins s σ H D I h
 have hcells:∀y∈sc.names,y.2= .free->∃c,X.env.cells.lookup y.1=some c:=fun y hy hf=>I.ok.has y.1 (by show X.env.scope.names.lookup y.1=_\/X.env.scope.names.lookup y.1=_;rw[hosc];exact S.fre y hy hf)
 rw[exec_Assign_Name_used _ _ _ _ hsw]
 refine AA (wpAny_standAt (AA ?_))
 show wpAny (model X.prog X.w) X.A (do let _<-comprehension (.ListComp elt [⟨tg,iter,ifs,0⟩] sc pos) sc X.env (firstIterPos [⟨tg,iter,ifs,0⟩] pos) (newList []) false (eval iter X.env) (some (assign (.Name x px) X.env))) _ X.xe s
 refine AA (thn (Q:=fun _ s'=>SP X pins D .next s') (wpAny_comprehension_free (M:=model X.prog X.w) (A:=X.A) (E:=X.xe) (e:= .ListComp elt [⟨tg,iter,ifs,0⟩] sc pos) (use:=some (assign (.Name x px) X.env)) rfl hs (a3E hcells) S.kind S.own
  (thn (hi pins s σ H _ I h) fun v s1 h1=>thn h1 fun itv s2 h2=>?_)) fun _ s' hq=>AJ (AJ hq))
 obtain⟨_,_,_,_,_,_,I2,_⟩:=id h2
 refine a5E (Q:=fun v H'=>a3p j v σ H' D.nx) (RR:=fun acc C=>compPost (model X.prog X.w) X.A X.xe (some (assign (.Name x px) X.env)) (fun _ s'=>SP X pins D .next s') acc C) osc hosc N hN S hc hg ht he I2 h2 fun D' C H' s' mC I' nC fC q=>?_
 show wpAny _ _ (assign (.Name x px) X.env (.ref D')) _ _ s'
 refine wpAny_assign_Name (a6J I' hNd hj hx (v:= .ref D') rfl (fun s3 I3⟨a,sb,ha⟩=>?_) hf)
 have hCa:C≠a:=by
  rcases ha with e | e
  ·rw[e];exact fC.2.1
  ·exact fun z=>fC.2.2.2.2.1 x a e z.symm
 refine⟨mC,nC.sameBut sb hCa,fun h' sb2=>?_⟩
 obtain⟨f0,f1,_,f3,f4,f5⟩:=fC
 exact⟨_,H',I3.turned (t':=s3.toks) (fun b o hb e=>(sb2.2 b hb).trans e) f0 f1 f3 f4 f5,q⟩
end
end L2
namespace L2
open PySem PySem.Spec PyProof.Rows
section
variable{X:Cx}{tg:Expr}
theorem a3D{K:W.Frag}(h:X.K=K):IxR X (b5Z K):=h▸W7
theorem a9U{K:W.Frag}(h:X.K=K):IxR X (b6w K):=h▸J1
theorem a5j{K:W.Frag}(h:X.K=K):OpR X (compareOp .In) (rIn K false):=h▸a2i
theorem a6f{K:W.Frag}(h:X.K=K):OpR X (compareOp .NotIn) (rIn K true):=h▸a1B
theorem a3d{K:W.Frag}(h:X.K=K):a1b X (.type "tuple") (fun xs H Q=>∃p ys,xs=[.ref p]/\((SqL K H p ys/\∀l,H l=none->Q (.ref l) (upd H l (.tup ys)))\/(SqT K H p ys/\Q (.ref p) H))):=h▸W8
theorem b4s{K:W.Frag}{pos:Pos}{es:List Expr}{k:Nat}{t:TGs}{n:Nat}(hK:X.K=K)(hc:X.calm=true)(h:PGs X es t)(hn:(assignEach es X.env).length=n:=by rfl)(hst:(assignEach es X.env).findIdx? (·.1)=none:=by rfl):PG X (.Tuple es k pos) (b6a K n t):=hK▸a0N hc h hn hst
end
end L2
namespace L2
open PySem PySem.Spec PyProof.Rows
noncomputable def a7E (H:Hp) (v:V) (d:Str×Str):Prop:=∃p,v= .ref p/\H p=some (.tup [.str d.1,.str d.2])/\Z9 d.1/\Z9 d.2
noncomputable abbrev b0p (H:Hp):List V->List (Str×Str)->Prop:=Paired (a7E H)
theorem a7E.mono{H H':Hp}(s:R7 H H'){v:V}{t:Str×Str}(h:a7E H v t):a7E H' v t:=by
 obtain⟨p,e,h,o⟩:=h
 exact⟨p,e,s p _ h,o⟩
theorem b0p.mono{H H':Hp}(s:R7 H H'){vs:List V}{ts:List (Str×Str)}(h:b0p H vs ts):b0p H' vs ts:=Paired.mapP h fun _ _ q=>q.mono s
structure a4R(H:Hp)(t:Addr)(ps:List (Str×Str)):Prop where
 ex:∃vs,H t=some (.tup vs)/\b0p H vs ps
 hi:ps.length<=6
theorem a4R.mono{H H':Hp}(s:R7 H H'){t:Addr}{ts:List (Str×Str)}(h:a4R H t ts):a4R H' t ts:=by
 obtain⟨⟨vs,h1,h2⟩,hi⟩:=h
 exact⟨⟨vs,s t _ h1,h2.mono s⟩,hi⟩
noncomputable def a2H:Option Str->V
 | none=> .non
 | some x=> .str x
noncomputable def b1C (o:Option Str):Prop:=∀x,o=some x->Z9 x
structure a8n(ts:List (Int×Th)):Prop where
 lo:1<=ts.length
 hi:ts.length<=6
 th:∀p∈ts,b1a p.2
 sg:∀p∈ts,p.1=1\/p.1= -1
 hd:∀p,ts.head?=some p->p.1=1
inductive Rw where
 | bring (p:Str) (ps:List (Str×Str))
 | give (o g:Str)
 | set (o:Str) (ts:List (Int×Th))
 | take (o:Str)
 | say (ts:List (Int×Th)) (w:Option Str)
 | need (ts:List (Int×Th))
 | ask (p:Str) (w:Option Str)
 | part (p:Str)
 | doo (p:Str)
noncomputable def a8b:Rw->Prop
 | .bring p ps=>Z9 p/\ps.length<=6/\∀q∈ps,Z9 q.1/\Z9 q.2
 | .give o g=>Z9 o/\Z9 g
 | .set o ts=>Z9 o/\a8n ts
 | .take o=>Z9 o
 | .say ts w=>a8n ts/\b1C w
 | .need ts=>a8n ts
 | .ask p w=>Z9 p/\b1C w
 | .part p=>Z9 p
 | .doo p=>Z9 p
noncomputable def a1M (H:Hp) (r:Addr):Rw->Prop
 | .bring p ps=>∃t,H r=some (.tup [.str "bring",.str p,.ref t])/\a4R H t ps
 | .give o g=>H r=some (.tup [.str "give",.str o,.str g])
 | .set o ts=>∃t,H r=some (.tup [.str "set",.str o,.ref t])/\D1 H t ts
 | .take o=>H r=some (.tup [.str "take",.str o])
 | .say ts w=>∃t,H r=some (.tup [.str "say",.ref t,a2H w])/\D1 H t ts
 | .need ts=>∃t,H r=some (.tup [.str "need",.ref t])/\D1 H t ts
 | .ask p w=>H r=some (.tup [.str "ask",.str p,a2H w])
 | .part p=>H r=some (.tup [.str "part",.str p])
 | .doo p=>H r=some (.tup [.str "do",.str p])
theorem a1M.mono{H H':Hp}(s:R7 H H'){r:Addr}{rw:Rw}(h:a1M H r rw):a1M H' r rw:=by
 cases rw with
 | bring p ps=>obtain⟨t,h1,h2⟩:=h;exact⟨t,s _ _ h1,h2.mono s⟩
 | give o g=>exact s _ _ h
 | set o ts=>obtain⟨t,h1,h2⟩:=h;exact⟨t,s _ _ h1,h2.mono s⟩
 | take o=>exact s _ _ h
 | say ts w=>obtain⟨t,h1,h2⟩:=h;exact⟨t,s _ _ h1,h2.mono s⟩
 | need ts=>obtain⟨t,h1,h2⟩:=h;exact⟨t,s _ _ h1,h2.mono s⟩
 | ask p w=>exact s _ _ h
 | part p=>exact s _ _ h
 | doo p=>exact s _ _ h
end L2
namespace L2
open PySem PySem.Spec PyProof.Rows
section
variable{X:Cx}{elts:List Expr}{k:Nat}{tpos:Pos}
end
end L2
namespace L2
open PySem PySem.Spec PyProof.Rows
noncomputable abbrev Pt:=Str×List Rw
end L2
namespace L2
open PySem PySem.Spec PyProof.Rows
section
variable{κ:Type}[DecidableEq κ]
noncomputable def Y3 (kvs:List (κ×V)) (k:κ):Option V:=(kvs.find? fun kv=>decide (kv.1=k)).map (·.2)
noncomputable def W2 (kvs:List (κ×V)) (k:κ) (v:V):List (κ×V):=
 if(kvs.any fun kv=>decide (kv.1=k))=true then kvs.map (fun kv=>if kv.1=k then(kv.1,v)else kv)else kvs++[(k,v)]
theorem F7{p:κ×V}{r:List (κ×V)}{k:κ}(e:p.1=k):Y3 (p::r) k=some p.2:=by simp[Y3,List.find?_cons,e]
theorem F2{p:κ×V}{r:List (κ×V)}{k:κ}(e:¬p.1=k):Y3 (p::r) k=Y3 r k:=by simp[Y3,List.find?_cons,e]
theorem a3V(k:κ):∀kvs:List (κ×V),(kvs.any fun kv=>decide (kv.1=k))=(Y3 kvs k).isSome
 | []=>rfl
 | p::r=>by
  rw[List.any_cons]
  by_cases e:p.1=k
  ·simp only[F7 e,decide_eq_true e,Bool.true_or,Option.isSome_some]
  ·rw[F2 e,AM e,Bool.false_or];exact a3V k r
theorem a8m(k j:κ)(y:V):∀kvs:List (κ×V),Y3 (kvs.map fun kv=>if kv.1=k then(kv.1,y)else kv) j=(Y3 kvs j).map fun x=>if j=k then y else x
 | []=>rfl
 | p::r=>by
  have ih:=a8m k j y r
  rw[List.map_cons]
  by_cases h:p.1=k
  ·rw[if_pos h]
   by_cases e:p.1=j
   ·rw[F7 (p:=(p.1,y)) e,F7 e,Option.map_some,if_pos (e.symm.trans h)]
   ·rw[F2 (p:=(p.1,y)) e,F2 e,ih]
  ·rw[if_neg h]
   by_cases e:p.1=j
   ·rw[F7 (p:=p) e,F7 e,Option.map_some,if_neg (fun z=>h (e.trans z))]
   ·rw[F2 (p:=p) e,F2 e,ih]
theorem a6T(k j:κ)(y:V):∀kvs:List (κ×V),Y3 kvs k=none->Y3 (kvs++[(k,y)]) j=if j=k then some y else Y3 kvs j
 | [],_=>by
  by_cases e:k=j
  ·rw[if_pos e.symm];exact F7 (p:=(k,y)) e
  ·rw[if_neg (fun z=>e z.symm)];exact F2 (p:=(k,y)) e
 | p::r,hn=>by
  rw[List.cons_append]
  have hk:¬p.1=k:=fun z=>by rw[F7 z]at hn;cases hn
  rw[F2 hk]at hn
  have ih:=a6T k j y r hn
  by_cases e:p.1=j
  ·rw[F7 e,F7 e,if_neg (fun z=>hk (e.trans z))]
  ·rw[F2 e,F2 e,ih]
theorem a2p(kvs:List (κ×V))(k j:κ)(y:V):Y3 (W2 kvs k y) j=if j=k then some y else Y3 kvs j:=by
 unfold W2
 by_cases a:(kvs.any fun kv=>decide (kv.1=k))=true
 ·rw[if_pos a,a8m]
  rw[a3V]at a
  by_cases e:j=k
  ·obtain⟨x,hx⟩:=Option.isSome_iff_exists.mp a
   rw[if_pos e,e,hx,Option.map_some,if_pos rfl]
  ·rw[if_neg e]
   cases Y3 kvs j with
   | none=>rfl
   | some x=>rw[Option.map_some,if_neg e]
 ·rw[if_neg a]
  refine a6T k j y kvs ?_
  rw[a3V]at a
  cases q:Y3 kvs k with
  | none=>rfl
  | some x=>rw[q]at a;exact(a rfl).elim
theorem a1t(kvs:List (κ×V))(k:κ)(v:V):(W2 kvs k v).length<=kvs.length+1:=by
 unfold W2
 split
 ·rw[List.length_map];omega
 ·rw[List.length_append,List.length_cons,List.length_nil];omega
theorem a2K.isSome_eq{o:Option V}{u:Option Value}(r:a2K o u):o.isSome=u.isSome:=by
 cases o with
 | none=>cases u with
  | none=>rfl
  | some _=>exact(show False from r).elim
 | some _=>cases u with
  | none=>exact(show False from r).elim
  | some _=>rfl
theorem a2K.getD{o:Option V}{u:Option Value}{d:V}{d':Value}(r:a2K o u)(rd:W4 d d'):W4 (o.getD d) (u.getD d'):=by
 cases o with
 | none=>cases u with
  | none=>exact rd
  | some _=>exact(show False from r).elim
 | some _=>cases u with
  | none=>exact(show False from r).elim
  | some _=>exact r
theorem KV.val{kvs:List (κ×V)}{vs:List (κ×Value)}(r:KV kvs vs)(k:κ):a2K (Y3 kvs k) (valueAt vs k):=by
 unfold KV at r
 induction r with
 | nil=>exact True.intro
 | @cons p q ps qs h t ih=>
  obtain⟨h1,h2⟩:=h
  by_cases e:p.1=k
  ·have e':q.1=k:=h1.symm.trans e
   have b:valueAt (q::qs) k=some q.2:=by simp[valueAt,List.find?_cons,e']
   rw[F7 e,b];exact h2
  ·have e':¬q.1=k:=fun z=>e (h1.trans z)
   have b:valueAt (q::qs) k=valueAt qs k:=by simp[valueAt,List.find?_cons,e']
   rw[F2 e,b];exact ih
theorem KV.any{kvs:List (κ×V)}{vs:List (κ×Value)}(r:KV kvs vs)(k:κ):(kvs.any fun kv=>decide (kv.1=k))=vs.any fun kv=>decide (kv.1=k):=by
 unfold KV at r
 induction r with
 | nil=>rfl
 | cons h t ih=>rw[List.any_cons,List.any_cons,ih,h.1]
theorem KV.repl{kvs:List (κ×V)}{vs:List (κ×Value)}(r:KV kvs vs)(k:κ){y:V}{u:Value}(ry:W4 y u):
  KV (kvs.map fun kv=>if kv.1=k then(kv.1,y)else kv) (vs.map fun kv=>if kv.1=k then(kv.1,u)else kv):=by
 unfold KV at r⊢
 induction r with
 | nil=>exact .nil
 | @cons p q ps qs h t ih=>
  rw[List.map_cons,List.map_cons]
  refine .cons ?_ ih
  obtain⟨h1,h2⟩:=h
  by_cases e:p.1=k
  ·rw[if_pos e,if_pos (h1.symm.trans e)];exact⟨h1,ry⟩
  ·rw[if_neg e,if_neg (fun z=>e (h1.trans z))];exact⟨h1,h2⟩
theorem KV.put{kvs:List (κ×V)}{vs:List (κ×Value)}(r:KV kvs vs)(k:κ){y:V}{u:Value}(ry:W4 y u):KV (W2 kvs k y) (stored vs k u):=by
 unfold W2 stored
 rw[r.any k]
 by_cases e:(vs.any fun kv=>decide (kv.1=k))=true
 ·rw[if_pos e,if_pos e];exact r.repl k ry
 ·rw[if_neg e,if_neg e];exact Paired.snoc r ⟨rfl,ry⟩
theorem KV.length{kvs:List (κ×V)}{vs:List (κ×Value)}(r:KV kvs vs):kvs.length=vs.length:=AI r
end
theorem a5Q{P:Program}{w:World}{k:Key}{u:Value}(r:W4 (kV k) u):(Z5 P w).is k u=true:=by
 cases k with
 | inl i=>obtain⟨t,e⟩:=(show∃t,u=Value.int i t from r);subst e;exact a8G P w i t
 | inr x=>obtain⟨t,e⟩:=(show∃t,u=Value.str x t from r);subst e;exact a4J P w x t
theorem a6K{P:Program}{w:World}:∀{ks:List Key}{us:List Value},W0 (ks.map kV) us->ItemsAre (Z5 P w) ks us
 | [],_,r=>by rw[List.map_nil]at r;cases r;exact .nil
 | k::ks,_,r=>by
  rw[List.map_cons]at r
  cases r with
  | cons h t=>exact .cons (a5Q h) (a6K t)
noncomputable abbrev KT (H:Hp):List (List Key×V)->List (List Key×Addr×Value)->Prop:=Paired fun p q=>p.1=q.1/\H q.2.1=some (.tup (p.1.map kV))/\W4 p.2 q.2.2
theorem KT.val{H:Hp}{kvs:List (List Key×V)}{xs:List (List Key×Addr×Value)}(r:KT H kvs xs)(k:List Key):a2K (Y3 kvs k) ((atKey xs k).map (·.2)):=by
 induction r with
 | nil=>exact True.intro
 | @cons p q ps qs h t ih=>
  obtain⟨h1,_,h2⟩:=h
  by_cases e:p.1=k
  ·have e':q.1=k:=h1.symm.trans e
   have b:atKey (q::qs) k=some q.2:=by simp[atKey,List.find?_cons,e']
   rw[F7 e,b];exact h2
  ·have e':¬q.1=k:=fun z=>e (h1.trans z)
   have b:atKey (q::qs) k=atKey qs k:=by simp[atKey,List.find?_cons,e']
   rw[F2 e,b];exact ih
theorem KT.repl{H:Hp}{kvs:List (List Key×V)}{xs:List (List Key×Addr×Value)}(r:KT H kvs xs)(k:List Key){y:V}{u:Value}(ry:W4 y u):
  KT H (kvs.map fun kv=>if kv.1=k then(kv.1,y)else kv) (xs.map (putAt k u)):=by
 induction r with
 | nil=>exact .nil
 | @cons p q ps qs h t ih=>
  rw[List.map_cons,List.map_cons]
  refine .cons ?_ ih
  obtain⟨h1,h2,h3⟩:=h
  unfold putAt
  by_cases e:p.1=k
  ·rw[if_pos e,if_pos (h1.symm.trans e)];exact⟨h1,h2,ry⟩
  ·rw[if_neg e,if_neg (fun z=>e (h1.trans z))];exact⟨h1,h2,h3⟩
theorem KT.put{H:Hp}{kvs:List (List Key×V)}{xs:List (List Key×Addr×Value)}(r:KT H kvs xs)(k:List Key){b:Addr}{y:V}{u:Value}(hb:H b=some (.tup (k.map kV)))(ry:W4 y u):
  KT H (W2 kvs k y) (storedH xs k b u):=by
 have e:(kvs.any fun kv=>decide (kv.1=k))=(atKey xs k).isSome:=by
  rw[a3V,(r.val k).isSome_eq,Option.isSome_map]
 unfold W2 storedH
 rw[e]
 by_cases q:(atKey xs k).isSome=true
 ·rw[if_pos q,if_pos q];exact r.repl k ry
 ·rw[if_neg q,if_neg q];exact Paired.snoc r ⟨rfl,hb,ry⟩
theorem KT.keeps{H H':Hp}{kvs:List (List Key×V)}{xs:List (List Key×Addr×Value)}(r:KT H kvs xs)(ht:∀b ys,H b=some (.tup ys)->H' b=some (.tup ys)):KT H' kvs xs:=
 Paired.mapP r fun _ _ z=>⟨z.1,ht _ _ z.2.1,z.2.2⟩
section
variable{P:Program}{w:World}{H:Hp}{h:Heap}{a:Addr}
theorem b4M{u:HO}(ok:HOk P w H h)(e:Rd H a u):Z6 P w H h a u:=e.ok ok
theorem a5I{kvs:List (Key×V)}(ok:HOk P w H h)(e:Rd H a (.dK kvs)):kvs.length<=sizeLine/\(a==sysModules)=false/\∃vs,KV kvs vs/\h.DictOf (Z5 P w) a vs:=
 show Z6 P w H h a (.dK kvs)from b4M ok e
theorem b2D{kvs:List (Key×V)}(ok:HOk P w H h)(e:H a=some (.dK kvs)):kvs.length<=sizeLine/\(a==sysModules)=false/\∃vs,KV kvs vs/\h.DictOf (Z5 P w) a vs:=a5I ok (.inl e)
theorem a4r{ks:List Key}(ok:HOk P w H h)(e:H a=some (.tup (ks.map kV))):(tupleKind (Z5 P w)).is h ks a:=by
 obtain⟨_,its,r,o,h1,h2,n,h3⟩:=(show Z6 P w H h a (.tup (ks.map kV))from ok a _ e)
 exact⟨o,its.toArray,n,h1,h2,h3,by simpa using a6K r⟩
theorem a5x{kvs:List (List Key×V)}(ok:HOk P w H h)(e:Rd H a (.dT kvs)):kvs.length<=sizeLine/\(a==sysModules)=false/\
  ∃xs,KT H kvs xs/\h.DictOfH (tupleKind (Z5 P w)) a xs:=by
 obtain⟨z,y,xs,r,o,es,ep,h1,h2,h3,h4,h5⟩:=(show Z6 P w H h a (.dT kvs)from b4M ok e)
 refine⟨z,y,xs,r,o,es,ep,h1,h2,h3,h4,fun x hx=>?_,h5⟩
 have all:∀{l:List (List Key×V)}{m:List (List Key×Addr×Value)},KT H l m->∀x∈m,(tupleKind (Z5 P w)).is h x.1 x.2.1:=by
  intro l m q
  induction q with
  | nil=>intro x hx;exact nomatch hx
  | @cons p q ps qs hq t ih=>
   intro x hx
   rcases List.mem_cons.mp hx with e | hx
   ·subst e
    exact a4r ok (by rw[<-hq.1];exact hq.2.1)
   ·exact ih x hx
 exact all r x hx
theorem b6b{kvs:List (List Key×V)}(ok:HOk P w H h)(e:H a=some (.dT kvs)):kvs.length<=sizeLine/\(a==sysModules)=false/\
  ∃xs,KT H kvs xs/\h.DictOfH (tupleKind (Z5 P w)) a xs:=a5x ok (.inl e)
end
noncomputable def O3 (H:Hp) (a:Addr) (y:V) (r:Option V):Prop:=
 (∃kvs k,Rd H a (.dK kvs)/\y=kV k/\r=Y3 kvs k)\/∃kvs k b,Rd H a (.dT kvs)/\y= .ref b/\H b=some (.tup (k.map kV))/\r=Y3 kvs k
noncomputable def a2v (H:Hp) (a:Addr) (y v:V) (H':Hp):Prop:=
 (∃kvs k,H a=some (.dK kvs)/\y=kV k/\kvs.length < sizeLine/\H'=upd H a (.dK (W2 kvs k v)))\/
 ∃kvs k b,H a=some (.dT kvs)/\y= .ref b/\H b=some (.tup (k.map kV))/\kvs.length < sizeLine/\H'=upd H a (.dT (W2 kvs k v))
theorem O3.k{H:Hp}{a:Addr}{kvs:List (Key×V)}{k:Key}(e:H a=some (.dK kvs)):O3 H a (kV k) (Y3 kvs k):= .inl ⟨kvs,k,.inl e,rfl,rfl⟩
theorem a2v.k{H:Hp}{a:Addr}{kvs:List (Key×V)}{k:Key}{v:V}(e:H a=some (.dK kvs))(hl:kvs.length < sizeLine):a2v H a (kV k) v (upd H a (.dK (W2 kvs k v))):= .inl ⟨kvs,k,e,rfl,hl,rfl⟩
section
variable{X:Cx}{pins:List (Addr×Obj)}{σ:St}{H:Hp}{s:Shared}{a:Addr}{y v:V}{u r:Value}{o:Option V}{A:Around}{E:Value->Shared->Prop}
theorem Inv.big(I:Inv X pins σ H s):sysModules < s.heap.objs.size:=by
 have h:mainGlobals < s.heap.objs.size:=(I.mod.glob.keeps I.bk).lt
 exact Nat.lt_trans (by decide) h
theorem b0C{Q:Value->Shared->Prop}(hu:A.units+1 < cLine)(I:Inv X pins σ H s)(g:O3 H a y (some v))(ry:W4 y u)(h:∀w' s',Inv X pins σ H s'->W4 v w'->Q w' s'):
  wpAny (model X.prog X.w) A (getItem (.ref a) u) Q E s:=by
 rcases g with⟨kvs,k,e,ey,l⟩ | ⟨kvs,k,b,e,ey,eb,l⟩
 ·subst ey
  obtain⟨z,hd,vs,rel,dd⟩:=a5I I.hok e
  obtain⟨w',hw,rw'⟩:=a2K.some_of (v:=v) (o:=valueAt vs k) (by rw[l];exact rel.val k)
  exact wpAny_getItem_of (a5Q ry) dd.mapOf hw (h w' _ (I.tok _) rw')
 ·subst ey
  cases(show u=Value.ref b from ry)
  obtain⟨z,hd,xs,rel,dd⟩:=a5x I.hok e
  obtain⟨w',hw,rw'⟩:=a2K.some_of (v:=v) (o:=(atKey xs k).map (·.2)) (by rw[l];exact rel.val k)
  obtain⟨p,hp,hp2⟩:=AX.mp hw
  refine wpAny_getItem_heap (tupleKind_room_in1 hu) (a4r I.hok eb) dd hp ?_
  rw[hp2]
  exact h w' _ (I.tok _) rw'
theorem b7s{Q:Value->Shared->Prop}(hu:A.units+1 < cLine)(I:Inv X pins σ H s)(g:O3 H a y o)(ry:W4 y u)(h:∀s',Inv X pins σ H s'->Q (.bool o.isSome) s'):
  wpAny (model X.prog X.w) A (compareOp .In u (.ref a)) Q E s:=by
 rcases g with⟨kvs,k,e,ey,l⟩ | ⟨kvs,k,b,e,ey,eb,l⟩
 ·subst ey
  obtain⟨z,hd,vs,rel,dd⟩:=a5I I.hok e
  refine wpAny_in_of (a5Q ry) hd dd.mapOf ?_
  rw[<-(rel.val k).isSome_eq,<-l]
  exact h _ (I.tok _)
 ·subst ey
  cases(show u=Value.ref b from ry)
  obtain⟨z,hd,xs,rel,dd⟩:=a5x I.hok e
  refine wpAny_in_heap (tupleKind_room_in1 hu) (a4r I.hok eb) hd dd ?_
  have q:=(rel.val k).isSome_eq
  rw[Option.isSome_map]at q
  rw[<-q,<-l]
  exact h _ (I.tok _)
theorem b4w{Q:Value->Shared->Prop}(hu:A.units+1 < cLine)(I:Inv X pins σ H s)(g:O3 H a y o)(ry:W4 y u)(h:∀s',Inv X pins σ H s'->Q (.bool (!o.isSome)) s'):
  wpAny (model X.prog X.w) A (compareOp .NotIn u (.ref a)) Q E s:=by
 rcases g with⟨kvs,k,e,ey,l⟩ | ⟨kvs,k,b,e,ey,eb,l⟩
 ·subst ey
  obtain⟨z,hd,vs,rel,dd⟩:=a5I I.hok e
  refine wpAny_notIn_of (a5Q ry) hd dd.mapOf ?_
  rw[<-(rel.val k).isSome_eq,<-l]
  exact h _ (I.tok _)
 ·subst ey
  cases(show u=Value.ref b from ry)
  obtain⟨z,hd,xs,rel,dd⟩:=a5x I.hok e
  refine wpAny_notIn_heap (tupleKind_room_in1 hu) (a4r I.hok eb) hd dd ?_
  have q:=(rel.val k).isSome_eq
  rw[Option.isSome_map]at q
  rw[<-q,<-l]
  exact h _ (I.tok _)
theorem a4X{h':Heap}{t':Nat}{ob:HO}(I:Inv X pins σ H s)(mu:Mut (H a))(hs:Heap.SameBut a s.heap h')(he:∃q,h'.get? a=some q)(new:Z6 X.prog X.w (upd H a ob) h' a ob):
  Inv X pins σ (upd H a ob) {s with heap:=h',toks:=t'}:=
 I.write (x:=a) (e:=a) mu (.inl rfl) (fun b q hb z=>(hs.2 b hb).trans z) he new
theorem a9p{P:Program}{w:World}{H':Hp}{h':Heap}{kvs:List (Key×V)}{vs:List (Key×Value)}(z:kvs.length<=sizeLine)(hd:(a==sysModules)=false)(rel:KV kvs vs)(dd:h'.DictOf (Z5 P w) a vs):
  Z6 P w H' h' a (.dK kvs):=⟨z,hd,vs,rel,dd⟩
theorem b1t{H':Hp}{Q:Unit->Shared->Prop}(hu:A.units+1 < cLine)(I:Inv X pins σ H s)(g:a2v H a y v H')(ry:W4 y u)(rv:W4 v r)(h:∀s',Inv X pins σ H' s'->Q () s'):
  wpAny (model X.prog X.w) A (setItem (.ref a) u r) Q E s:=by
 rcases g with⟨kvs,k,e,ey,l,eH⟩ | ⟨kvs,k,b,e,ey,eb,l,eH⟩
 ·subst ey eH
  obtain⟨z,hd,vs,rel,dd⟩:=b2D I.hok e
  have hz:vs.length<=sizeLine:=by rw[<-rel.length];exact z
  have hl:(W2 kvs k v).length<=sizeLine:=by have:=a1t kvs k v;omega
  refine wpAny_setItem_pairs (hsz:=hz) (a5Q ry) dd fun h' dd' hs=>h _ ?_
  have he:∃q,h'.get? a=some q:=let⟨q,_,_,hq,_⟩:=dd';⟨q,hq⟩
  exact a4X I (by rw[e];exact True.intro) hs he (a9p hl hd (rel.put k rv) dd')
 ·subst ey eH
  cases(show u=Value.ref b from ry)
  obtain⟨z,hd,xs,rel,dd⟩:=b6b I.hok e
  have hz:xs.length<=sizeLine:=by rw[<-AI rel];exact z
  have hl:(W2 kvs k v).length<=sizeLine:=by have:=a1t kvs k v;omega
  refine wpAny_setItem_heap (hsz:=hz) (tupleKind_room_in1 hu) (a4r I.hok eb) dd fun h' dd' hs=>h _ ?_
  obtain⟨q,es,ep,hq,h2,h3,h4,_,h5⟩:=dd'
  refine a4X I (by rw[e];exact True.intro) hs ⟨q,hq⟩ ⟨hl,hd,_,(rel.put k eb rv).keeps fun c ys ec=>?_,q,es,ep,hq,h2,h3,h4,h5⟩
  rw[G7 (a0L ec e (fun z=>nomatch z))]
  exact ec
end
section
variable{X:Cx}{pins:List (Addr×Obj)}{σ:St}{H:Hp}{s:Shared}{a:Addr}{kvs:List (Key×V)}{k:Key}{u:Value}{A:Around}{E:Value->Shared->Prop}
end
noncomputable def b6u (i:Expr):Prop:=∀ov iv,subscripted i false ov iv=operate [ov,iv] (getItem ov iv)
theorem b3q{prog:Program}{w:World}{A:Around}{E:Value->Shared->Prop}{s:Shared}{env:Env}{value slice:Expr}{pos:Pos}{T id:String}{Q:Value->Shared->Prop}
  (hl:typeLookup (.type T) "__getitem__"=pure (some (.builtin id)))(hs:b6u slice)
  (h:wpAny (model prog w) A (eval value env) (fun o s₁=>wpAny (model prog w) A (eval slice env) (fun i s₂=>s₂.TypeIs o T/\wpAny (model prog w) A (getItem o i) Q E s₂) E s₁) E s):
  wpAny (model prog w) A (eval (.Subscript value slice pos) env) Q E s:=by
 refine Subscript_ (wpAny_mono h (fun o s₁ h₁=>wpAny_mono h₁ (fun i s₂ h₂=>?_) fun _ _ x=>x) fun _ _ x=>x)
 obtain⟨hT,h₂⟩:=h₂
 unfold subscriptTail
 refine AA ?_
 rw[getitemInPython_of_ne hT.not_modules]
 refine AA (wpAny_specialOf hT hl ?_)
 have fin:wpAny (model prog w) A (subscripted slice false o i) (fun r s₃=>wpAny (model prog w) A (letTemporaryGo value o r >>= fun _=>pure r) Q E s₃) E s₂:=by
  rw[hs o i]
  exact wpAny_operating (wpAny_mono h₂ (fun r s₃ h₃=>AA (wpAny_letTemporaryGo (AJ h₃))) fun _ _ x=>x)
 first
  | exact AJ (AA fin)
  | exact AA (AJ (AA fin))
  | exact AA fin
theorem a7S{X:Cx}{pins:List (Addr×Obj)}{σ:St}{H:Hp}{s:Shared}{a:Addr}{y:V}{o:Option V}(I:Inv X pins σ H s)(g:O3 H a y o):s.TypeIs (.ref a) "dict":=by
 rcases g with⟨kvs,k,e,_,_⟩ | ⟨kvs,k,b,e,_,_,_⟩
 ·obtain⟨_,_,vs,_,dd⟩:=a5I I.hok e
  exact dd.typeIs
 ·obtain⟨_,_,xs,_,dd⟩:=a5x I.hok e
  exact dd.typeIs
noncomputable def b5Y (td ty:TE):TE:=fun σ H Q=>td σ H fun x H1=>ty σ H1 fun y H2=>∃a v,x= .ref a/\O3 H2 a y (some v)/\Q v H2
noncomputable def b7t (ty td:TE):TE:=fun σ H Q=>ty σ H fun y H1=>td σ H1 fun x H2=>∃a o,x= .ref a/\O3 H2 a y o/\Q (.bl o.isSome) H2
noncomputable def b3K (ty td:TE):TE:=fun σ H Q=>ty σ H fun y H1=>td σ H1 fun x H2=>∃a o,x= .ref a/\O3 H2 a y o/\Q (.bl (!o.isSome)) H2
noncomputable def b5X (td ty tv:TE):TS:=fun D σ H=>tv σ H fun v H1=>td σ H1 fun x H2=>ty σ H2 fun y H3=>∃a H4,x= .ref a/\a2v H3 a y v H4/\D.nx σ H4
section
variable{X:Cx}{o i e value:Expr}{pos pos' tpos:Pos}{td ty tv:TE}
theorem W9(hu:X.A.units+1 < cLine)(ho:PE X o td)(hi:PE X i ty)(hs:b6u i):PE X (.Subscript o i pos) (b5Y td ty):=by
 intro pins s σ H Q I h
 refine b3q PySem.F.slot_dict_getitem.lookup hs (thn (ho pins s σ H _ I h) fun u s1⟨x,H1,I1,rx,q1⟩=>thn (hi pins s1 σ H1 _ I1 q1) fun iv s2⟨y,H2,I2,ry,a,v,ex,g,q2⟩=>?_)
 subst ex
 obtain rfl:u=Value.ref a:=rx
 exact⟨a7S I2 g,b0C hu I2 g ry fun w' s3 I3 rw'=>⟨v,H2,I3,rw',q2⟩⟩
theorem a5X(hu:X.A.units+1 < cLine)(hi:PE X i ty)(ho:PE X o td):PC X .In i o (b7t ty td):=by
 intro pins s σ H Q I h
 refine thn (hi pins s σ H _ I h) fun iv s1⟨y,H1,I1,ry,q1⟩=>thn (ho pins s1 σ H1 _ I1 q1) fun u s2⟨x,H2,I2,rx,a,ov,ex,g,q2⟩=>?_
 subst ex
 obtain rfl:u=Value.ref a:=rx
 exact b7s hu I2 g ry fun s3 I3=>⟨.bl ov.isSome,H2,I3,rfl,q2⟩
theorem a2h(hu:X.A.units+1 < cLine)(hi:PE X i ty)(ho:PE X o td):PC X .NotIn i o (b3K ty td):=by
 intro pins s σ H Q I h
 refine thn (hi pins s σ H _ I h) fun iv s1⟨y,H1,I1,ry,q1⟩=>thn (ho pins s1 σ H1 _ I1 q1) fun u s2⟨x,H2,I2,rx,a,ov,ex,g,q2⟩=>?_
 subst ex
 obtain rfl:u=Value.ref a:=rx
 exact b4w hu I2 g ry fun s3 I3=>⟨.bl (!ov.isSome),H2,I3,rfl,q2⟩
theorem D9(hu:X.A.units+1 < cLine)(ho:PE X o td)(hi:PE X i ty)(hv:PE X value tv)(hs:swapsWith value (some (.Subscript o i pos')) pos.line X.env=pure false):
  PS X (.Assign [.Subscript o i pos'] value pos) (b5X td ty tv):=by
 intro pins s σ H D I h
 refine wpAny_Assign_Subscript (thn (hv pins s σ H _ I h) fun r s1⟨v,H1,I1,rv,q1⟩=>thn (ho pins s1 σ H1 _ I1 q1) fun u s2⟨x,H2,I2,rx,q2⟩=>thn (hi pins s2 σ H2 _ I2 q2) fun iv s3⟨y,H3,I3,ry,a,H4,ex,g,q3⟩=>?_) hs
 subst ex
 obtain rfl:u=Value.ref a:=rx
 exact b1t hu I3 g ry rv fun s4 I4=>⟨σ,H4,I4,q3⟩
end
theorem a5h{P:Program}{w:World}{H:Hp}(h:Heap)(hb:sysModules < h.objs.size):Z6 P w H (h.push {cls:= .type "dict",data:= .dict #[]}) h.objs.size (.dK []):=
 ⟨AZ _,beq_eq_false_iff_ne.mpr (Ne.symm (Nat.ne_of_lt hb)),[],.nil,Heap.DictOf.new h⟩
noncomputable def b5s:TE:=fun _ H Q=>∀p,H p=none->Q (.ref p) (upd H p (.dK []))
section
variable{X:Cx}{pos:Pos}
theorem a0z:PE X (.Dict [] [] pos) b5s:=fun pins s σ H Q I h=>
 wpAny_Dict_empty ⟨.ref s.heap.objs.size,_,I.laid (a:=s.heap.objs.size) (o:= .dK []) (t':=s.toks) (fun _ _ q=>AH _ q) (AE _) (a5h s.heap I.big),rfl,h _ (I.hok.fresh (AE _))⟩
end
noncomputable def a8X:List (TE×TE)->St->Hp->(List (V×V)->Hp->Prop)->Prop
 | [],_,H,Q=>Q [] H
 | (tk,tv)::r,σ,H,Q=>tk σ H fun x H1=>tv σ H1 fun y H2=>a8X r σ H2 fun ps H3=>Q ((x,y)::ps) H3
noncomputable abbrev VV:List (V×V)->List (Value×Value)->Prop:=Paired fun p q=>W4 p.1 q.1/\W4 p.2 q.2
noncomputable def PPs (X:Cx) (pos:Pos) (keys:List (Option Expr)) (values:List Expr) (trs:List (TE×TE)):Prop:=
 ∀(pins:List (Addr×Obj))(s:Shared)(σ:St)(H:Hp)(Q:List (V×V)->Hp->Prop),Inv X pins σ H s->a8X trs σ H Q->
  wpAny (model X.prog X.w) X.A (evalPairs (pairTrees keys values X.env pos)) (fun vs s'=>∃ps H',Inv X pins σ H' s'/\VV ps vs/\Q ps H') X.xe s
theorem b4u{X:Cx}{pos:Pos}:PPs X pos [] [] []:=fun pins s σ H Q I h=>pairTrees_nil_walk ⟨[],H,I,.nil,h⟩
theorem a2q{X:Cx}{pos:Pos}{k v:Expr}{ks:List (Option Expr)}{vs:List Expr}{tk tv:TE}{trs:List (TE×TE)}(hk:PE X k tk)(hv:PE X v tv)(hr:PPs X pos ks vs trs):
  PPs X pos (some k::ks) (v::vs) ((tk,tv)::trs):=fun pins s σ H Q I h=>
 pairTrees_cons_walk (thn (hk pins s σ H _ I h) fun u s1⟨x,H1,I1,rx,q1⟩=>thn (hv pins s1 σ H1 _ I1 q1) fun w2 s2⟨y,H2,I2,ry,q2⟩=>
  thn (hr pins s2 σ H2 _ I2 q2) fun ws s3⟨ps,H3,I3,rel,q3⟩=>⟨(x,y)::ps,H3,I3,.cons ⟨rx,ry⟩ rel,q3⟩)
noncomputable def a4t (kvs more:List (Key×V)):List (Key×V):=more.foldl (fun acc kv=>W2 acc kv.1 kv.2) kvs
theorem KV.merge:∀{more:List (Key×V)}{rs:List (Key×Value)}{kvs:List (Key×V)}{vs:List (Key×Value)},KV more rs->KV kvs vs->KV (a4t kvs more) (merged vs rs):=by
 intro more rs kvs vs r
 unfold KV at r
 induction r generalizing kvs vs with
 | nil=>intro q;exact q
 | @cons p q ps qs h t ih=>
  intro r0
  have e:KV (W2 kvs p.1 p.2) (stored vs q.1 q.2):=by
   have:=r0.put p.1 h.2
   rw[<-h.1];exact this
  exact ih e
theorem a3o:∀(more kvs:List (Key×V)),(a4t kvs more).length<=kvs.length+more.length
 | [],kvs=>by show kvs.length<=kvs.length+0;omega
 | p::r,kvs=>by
  have h1:=a3o r (W2 kvs p.1 p.2)
  have h2:=a1t kvs p.1 p.2
  show(a4t (W2 kvs p.1 p.2) r).length<=_
  rw[List.length_cons];omega
theorem a5y{P:Program}{w:World}:∀{kvs:List (Key×V)}{ws:List (Value×Value)},VV (kvs.map fun kv=>(kV kv.1,kv.2)) ws->∃rs,Carries (Z5 P w) ws rs/\KV kvs rs
 | [],_,r=>by rw[List.map_nil]at r;cases r;exact⟨[],True.intro,.nil⟩
 | p::kvs,_,r=>by
  rw[List.map_cons]at r
  cases r with
  | @cons a b as bs h t=>
   obtain⟨rs,c,q⟩:=a5y (P:=P) (w:=w) t
   obtain⟨b1,b2⟩:=b
   exact⟨(p.1,b2)::rs,⟨a5Q h.1,rfl,c⟩,.cons ⟨rfl,h.2⟩ q⟩
noncomputable def b6o (trs:List (TE×TE)):TE:=fun σ H Q=>∀p,H p=none->a8X trs σ (upd H p (.dK [])) fun ps H2=>H2 p=some (.dK [])/\∃kvs:List (Key×V),ps=kvs.map (fun kv=>(kV kv.1,kv.2))/\kvs.length<=15/\Q (.ref p) (upd H2 p (.dK (a4t [] kvs)))
theorem b4k{X:Cx}{pos:Pos}{keys:List (Option Expr)}{values:List Expr}{trs:List (TE×TE)}(h:PPs X pos keys values trs)(hall:keys.all (·.isSome)=true)(hl:keys.length=values.length)(h0:keys≠[])
  (h15:keys.length<=15):PE X (.Dict keys values pos) (b6o trs):=by
 intro pins s σ H Q I q
 have hn:=I.hok.fresh (AE s.heap.objs.size)
 have I1:=I.laid (a:=s.heap.objs.size) (o:= .dK []) (h':=s.heap.push {cls:= .type "dict",data:= .dict #[]}) (t':=s.toks) (fun _ _ q=>AH _ q) (AE _) (a5h s.heap I.big)
 refine wpAny_Dict_walk (knd:=Z5 X.prog X.w) hall hl h0 h15 (thn (h pins _ σ _ _ I1 (q _ hn)) fun ws s2⟨ps,H2,I2,rel,e,kvs,ep,lk,q2⟩=>?_)
 subst ep
 obtain⟨rs,c,rk⟩:=a5y (P:=X.prog) (w:=X.w) rel
 obtain⟨z,hd,vs0,r0,dd⟩:=b2D I2.hok e
 cases r0
 refine⟨rs,c,dd,fun h' dd' hs=>⟨.ref s.heap.objs.size,_,?_,rfl,q2⟩⟩
 have hz:(a4t [] kvs).length<=sizeLine:=by
  have h1:=a3o kvs []
  rw[List.length_nil]at h1
  rw[sizeLine_eq];omega
 have he:∃q,h'.get? s.heap.objs.size=some q:=let⟨q,_,_,hq,_⟩:=dd';⟨q,hq⟩
 exact a4X I2 (by rw[e];exact True.intro) hs he (a9p hz hd (rk.merge .nil) dd')
structure M2(X:Cx)(o:Expr)(m:Str)(apos:Pos)(e f:Expr)(cpos:Pos):Prop where
 base:attributeBase o m X.env (eval o X.env)=eval o X.env
 few:((backTo cpos (starEach [e,f] X.env)).all (fun x=>!x.1) && (backToKw cpos (keywordEach [] X.env)).all (fun x=>x.1.isSome)
  && decide (([e,f]:List Expr).length+([]:List Keyword).length+(if([]:List Keyword).isEmpty then 0 else 1) < 30))=true
 line:(apos.endLine==cpos.line)=true
 trees:backTo cpos (starEach [e,f] X.env)=[(false,eval e X.env),(false,eval f X.env)]
noncomputable def IsD (H:Hp) (a:Addr):Prop:=(∃kvs,Rd H a (.dK kvs))\/∃kvs,Rd H a (.dT kvs)
theorem b4R{X:Cx}{pins:List (Addr×Obj)}{σ:St}{H:Hp}{s:Shared}{a:Addr}(I:Inv X pins σ H s)(d:IsD H a):
  s.TypeIs (.ref a) "dict"/\(∀b,Value.ref a= .ref b->∃ob,s.heap.get? b=some ob/\ob.dict=none)/\(a==sysModules)=false:=by
 rcases d with⟨kvs,e⟩ | ⟨kvs,e⟩
 ·obtain⟨_,hd,vs,_,dd⟩:=a5I I.hok e
  refine⟨dd.typeIs,fun b q=>?_,hd⟩
  cases q
  obtain⟨ob,_,_,h1,h2,_⟩:=dd
  exact⟨ob,h1,h2.2.1⟩
 ·obtain⟨_,hd,xs,_,dd⟩:=a5x I.hok e
  refine⟨dd.typeIs,fun b q=>?_,hd⟩
  cases q
  obtain⟨ob,_,_,h1,h2,_⟩:=dd
  exact⟨ob,h1,h2.2.1⟩
section
variable{X:Cx}{pins:List (Addr×Obj)}{σ:St}{H:Hp}{s:Shared}{a:Addr}{y d:V}{u r:Value}{o:Option V}{A:Around}{E:Value->Shared->Prop}
theorem b5p{Q:Value->Shared->Prop}(hu:A.units+1 < cLine)(I:Inv X pins σ H s)(g:O3 H a y o)(ry:W4 y u)(rd:W4 d r)(h:∀w' s',Inv X pins σ H s'->W4 (o.getD d) w'->Q w' s'):
  wpAny (model X.prog X.w) A (call (.builtin "dict.get") [.ref a,u,r]) Q E s:=by
 rcases g with⟨kvs,k,e,ey,l⟩ | ⟨kvs,k,b,e,ey,eb,l⟩
 ·subst ey
  obtain⟨z,hd,vs,rel,dd⟩:=a5I I.hok e
  refine call_meetsIn PySem.F.slot_dict_get dd.typeIs PySem.F.entry_dict_get (PySem.F.args_dict_get_3 _ _ _) (meets_dict_get_default (Z5 X.prog X.w) a (a5Q ry) hd r) ⟨_,dd.mapOf,h _ _ (I.tok _) ?_⟩
  rw[l]
  exact(rel.val k).getD rd
 ·subst ey
  cases(show u=Value.ref b from ry)
  obtain⟨z,hd,xs,rel,dd⟩:=a5x I.hok e
  refine call_meetsIn PySem.F.slot_dict_get dd.typeIs PySem.F.entry_dict_get (PySem.F.args_dict_get_3 _ _ _) (meetsH_dict_get_default (tupleKind (Z5 X.prog X.w)) a b hd r) ⟨tupleKind_room_in1 hu,k,xs,a4r I.hok eb,dd,h _ _ (I.tok _) ?_⟩
  rw[l]
  exact(rel.val k).getD rd
end
noncomputable def b5E (td ty tx:TE):TE:=fun σ H Q=>td σ H fun x H1=>∃a,x= .ref a/\IsD H1 a/\ty σ H1 fun y H2=>tx σ H2 fun z H3=>∃o,O3 H3 a y o/\Q (o.getD z) H3
section
variable{X:Cx}{o e f:Expr}{apos cpos:Pos}{td ty tx:TE}
theorem b2s(hu:X.A.units+1 < cLine)(ho:PE X o td)(he:PE X e ty)(hf:PE X f tx)(m:M2 X o "get" apos e f cpos):PE X (.Call (.Attribute o "get" apos) [e,f] [] cpos) (b5E td ty tx):=by
 intro pins s σ H Q I h
 refine wpAny_Call_method m.base m.few m.line PySem.F.plainAttrs_dict PySem.F.slot_dict_get PySem.F.type_dict_get (thn (ho pins s σ H _ I h) fun u s1⟨x,H1,I1,rx,a,ex,d,q1⟩=>?_)
 subst ex
 obtain rfl:u=Value.ref a:=rx
 obtain⟨t1,t2,_⟩:=b4R I1 d
 refine⟨t1,t2,?_⟩
 rw[m.trees]
 refine Calls.callWith_builtin rfl (Calls.evalArgs_plain (Calls.spliced_cons (thn (he pins s1 σ H1 _ I1 q1) fun iv s2⟨y,H2,I2,ry,q2⟩=>
  Calls.spliced_cons (thn (hf pins s2 σ H2 _ I2 q2) fun fv s3⟨z,H3,I3,rz,ov,g,q3⟩=>Calls.spliced_nil ?_))))
 exact b5p hu I3 g ry rz fun w' s4 I4 rw'=>⟨_,H3,I4,rw',q3⟩
end
section
variable{X:Cx}{pins:List (Addr×Obj)}{σ:St}{H:Hp}{s:Shared}{a:Addr}{kvs:List (Key×V)}{A:Around}{E:Value->Shared->Prop}
end
section
variable{X:Cx}{pins:List (Addr×Obj)}{σ:St}{H:Hp}{s:Shared}{a:Addr}{y:V}{u:Value}{A:Around}{E:Value->Shared->Prop}
end
end L2
namespace L2
open PySem PySem.Spec PyProof.Rows
section
variable{X:Cx}
end
section
variable{κ:Type}[DecidableEq κ]
end
end L2
namespace L2
open PySem PySem.Spec PyProof.Rows
theorem b1b{prog:Program}{w:World}{A:Around}{E:Value->Shared->Prop}{s:Shared}{a:Addr}{items:Array Value}{Q:Option Value->Shared->Prop}(hL:s.heap.IsTuple a items)(hn:∀o,s.heap.get? a=some o->o.dict=none)(hA:A.handled=none)
  (h:∀h' tk,(∀b ob,s.heap.get? b=some ob->h'.get? b=some ob)->Q none {s with heap:=h',toks:=tk}):wpAny (model prog w) A (getAttr? (.ref a) "keys") Q E s:=by
 obtain⟨⟨c,dct,dat,sl⟩,hx,hc,k,hd⟩:=hL
 have hdn:=hn _ hx
 simp only at hc hd hdn
 subst hc hd hdn
 obtain⟨hp,g,d,tk,os⟩:=s
 have hT:∀tk',(⟨hp,g,d,tk',os⟩:Shared).TypeIs (.ref a) "tuple":=fun _=>⟨_,hx,rfl⟩
 have f1:=sub_AttributeError
 have f3:=F.slot_tuple_getattribute.lookup
 have f4:=F.slot_tuple_getattribute.bind (.ref a)
 have f5:=am_tuple_getattr_none
 have hmiss:typeLookup (.type "tuple") "keys"=pure none:=am_miss_of_fast (by decide +kernel)
 unfold getAttr? getAttrBy? getAttrBy
 repeat (any_goals (first | assumption | exact hT _ | ((with_reducible show wpAny _ _ (call (Value.builtin "tuple.__getattribute__") _ _) _ _ _);refine call_meets F.slot_tuple_getattribute (hT _) am_entry_tuple_getattribute (F.args_tuple_getattribute_2 _ _) (meets_getattribute_miss_tuple a items k sl "keys" _ hmiss (by decide +kernel) (by decide +kernel)) ⟨hx,hA,fun h' tk' e hx'=>?_⟩) | wp_step))
 obtain⟨t',u',he⟩:=hx'.there
 show wpAny _ _ (getattributeRaised _ _ _ _ _ _ _) _ _ _
 unfold getattributeRaised
 repeat (any_goals (first | assumption | wp_step))
 exact h _ _ hx'.keeps
theorem a6Z:entryFor table "dict.update.loop"=some Builtin.«dict.update.loop»:=entryFor_of_fast (by kernel_rfl)
theorem a3h:plainId "dict.update.loop"=true:=by decide +kernel
section
variable{X:Cx}
noncomputable def a1c (ps:List (Str×V)) (m:List (Key×V)):List (Key×V):=ps.foldl (fun m p=>W2 m (Sum.inr p.1) p.2) m
theorem b0W(hc:X.calm=true){A:Around}(hA:A.handled=none){pins:List (Addr×Obj)}{σ:St}{H0:Hp}{Q:VK}{a d it:Addr}{vs:List V}(hda:d≠a)(hit:it≠a)(hdi:d≠it):
  ∀(n i:Nat)(s:Shared)(m:List (Key×V))(ps:List (Str×V))(j:Int)(tk:Tok),n=vs.length - i->Inv X pins σ (upd H0 d (.dK m)) s->s.heap.IsTupleIter it a i->a4M X pins (upd H0 d (.dK m)) it->SqT X.K (upd H0 d (.dK m)) a vs->
   Paired (fun v(p:Str×V)=>∃t,v= .ref t/\t≠d/\SqT X.K H0 t [.str p.1,p.2]) (vs.drop i) ps->m.length+ps.length<=1000->H0 it=none->
   Q (.ref d) (upd H0 d (.dK (a1c ps m)))->codeAny (model X.prog X.w) A (.builtin "dict.update.loop" ⟨[.ref d,.ref it,.int j tk,.none],[]⟩) (wants (fun u s'=>u= .none/\∃H',Inv X pins σ H' s'/\Q (.ref d) H') (fun _ _=>False)) s:=by
 intro n
 induction n with
 | zero=>
  intro i s m ps j tk hn I st fp hsq hp hlen hn0 q
  have hd:vs.drop i=[]:=List.drop_eq_nil_of_le (by omega)
  rw[hd]at hp
  cases hp
  obtain⟨its,rv,pt,hz⟩:=I.tuple hsq
  have hl:=rv.length
  obtain⟨f0,f1,f2,f3,f4,f5⟩:=fp
  refine codeAny_builtin a6Z ?_
  rw[Around.under_plainId a3h _]
  show wpAny _ A.in1 (pyNext (.ref it) >>= _) _ _ s
  refine AA (wpAny_pyNext_tuple_end (A:=A.in1) hA st (show s.heap.IsTuple a its.toArray from pt) (by simp;omega) fun h' eb=>?_)
  have I':Inv X pins σ (upd H0 d (.dK m)) {s with heap:=h'}:=I.turned (t':=s.toks) (fun b o hb e=>eb b o hb e) f0 f1 f3 f4 f5
  show wpAny _ _ (Builtin.Dict.addKeywords d [] >>= _) _ _ _
  exact AA (AJ (AJ ⟨rfl,_,I',q⟩))
 | succ n ih=>
  intro i s m ps j tk hn I st fp hsq hp hlen hn0 q
  have hi:i < vs.length:=by omega
  have hdr:vs.drop i=vs[i]::vs.drop (i+1):=List.drop_eq_getElem_cons hi
  rw[hdr]at hp
  cases hp with
  | @cons _ p _ ps' h1 hrest=>
  obtain⟨t,e,htd,ht⟩:=h1
  obtain⟨its,rv,pt,hz⟩:=I.tuple hsq
  have hl:=rv.length
  have hx:vs[i]?=some (V.ref t):=by simp[hi,e]
  obtain⟨u,hu,ru⟩:=rv.get hx
  cases ru
  obtain⟨f0,f1,f2,f3,f4,f5⟩:=id fp
  refine codeAny_builtin a6Z ?_
  rw[Around.under_plainId a3h _]
  show wpAny _ A.in1 (pyNext (.ref it) >>= _) _ _ s
  refine AA (wpAny_pyNext_tuple_item (A:=A.in1) st (show s.heap.IsTuple a its.toArray from pt) (x:= .ref t) (by simpa using hu) fun h' st' sb=>?_)
  have I':Inv X pins σ (upd H0 d (.dK m)) {s with heap:=h'}:=I.turned (t':=s.toks) (fun b o hb e=>(sb.2 b hb).trans e) f0 f1 f3 f4 f5
  have ht':SqT X.K (upd H0 d (.dK m)) t [.str p.1,p.2]:=by
   rcases ht with(ht | ⟨o,ht⟩) | ht
   ·exact .inl (.inl (by rw[G7 htd];exact ht))
   ·exact .inl (.inr ⟨o,by rw[G7 htd];exact ht⟩)
   ·exact .inr ht
  obtain⟨kv,rkv,ptt,_⟩:=I'.tuple ht'
  cases rkv with
  | @cons _ ku _ _ rk rr=>
  cases rr with
  | @cons _ vu _ _ rvv rr=>
  cases rr
  obtain⟨tk2,rfl⟩:=rk
  have hTy:(⟨h',s.gens,s.drawn,s.toks,s.os⟩:Shared).TypeIs (.ref t) "tuple":=by obtain⟨o,ho,hcl,_⟩:=ptt;exact⟨o,ho,hcl⟩
  dsimp only
  obtain⟨ot,hot,hoc,kt,hodat⟩:=ptt
  obtain⟨z,hsm,ws,rel,dd⟩:=b2D I'.hok (G1 (H:=H0) (a:=d) (o:= .dK m))
  have hz2:ws.length<=sizeLine:=by rw[<-rel.length];exact z
  refine AA (wpAny_holding (AA (wpAny_tryCatch ?_)))
  unfold Builtin.Dict.pairItems
  refine AA (wpAny_typeOf hTy ?_)
  rw[if_pos (by decide)]
  refine AA (wpAny_seqItems hot hodat (AJ ?_))
  show wpAny _ _ (holding [Value.str p.1 tk2,vu] (dictSet d (Value.str p.1 tk2) vu)) _ _ _
  refine wpAny_holding (wpAny_dictSet_pairs (knd:=Z5 X.prog X.w) (k:=Sum.inr p.1) (a4J X.prog X.w p.1 tk2) dd (fun h2 dd2 sb2=>?_) hz2)
  have hl2:(W2 m (Sum.inr p.1) p.2).length<=sizeLine:=by
   have h3:=a1t m (Sum.inr p.1) p.2
   have:sizeLine=16777216:=sizeLine_eq
   simp only[List.length_cons]at hlen
   omega
  have he:∃q,h2.get? d=some q:=let⟨q,_,_,hq,_⟩:=dd2;⟨q,hq⟩
  have I2:Inv X pins σ (upd (upd H0 d (.dK m)) d (.dK (W2 m (Sum.inr p.1) p.2))) {heap:=h2,gens:=s.gens,drawn:=s.drawn,toks:=s.toks+1,os:=s.os}:=
   a4X (s:={heap:=h',gens:=s.gens,drawn:=s.drawn,toks:=s.toks,os:=s.os}) (t':=s.toks+1) I' (by rw[G1];exact True.intro) sb2 he (a9p hl2 hsm (rel.put _ rvv) dd2)
  rw[b3t]at I2
  refine AJ ⟨plainId_quiet a3h _,?_⟩
  have hsq2:SqT X.K (upd H0 d (.dK (W2 m (Sum.inr p.1) p.2))) a vs:=by
   rcases hsq with(h | ⟨o,h⟩) | h
   ·rw[G7 hda.symm]at h;exact .inl (.inl (by rw[G7 hda.symm];exact h))
   ·rw[G7 hda.symm]at h;exact .inl (.inr ⟨o,by rw[G7 hda.symm];exact h⟩)
   ·exact .inr h
  refine ih (i+1) _ (W2 m (Sum.inr p.1) p.2) ps' (j+1) _ (by omega) I2 ?_ ⟨by rw[G7 hdi.symm];exact hn0,f1,f2,f3,f4,f5⟩ hsq2 hrest ?_ hn0 q
  ·obtain⟨oi,hoi,r⟩:=st'
   exact⟨oi,(sb2.2 it hdi.symm).trans hoi,r⟩
  ·have h3:=a1t m (Sum.inr p.1) p.2
   simp only[List.length_cons]at hlen
   omega
theorem a9h(hc:X.calm=true):a1b X (.type "dict") (fun xs H Q=>∃(a:Addr)(o:Obj)(vs:List V)(ps:List (Str×V)),xs=[.ref a]/\H a=some (.frz o (.tup vs))/\o.dict=none/\Paired (fun v(p:Str×V)=>∃t,v= .ref t/\SqT X.K H t [.str p.1,p.2]) vs ps/\ps.length<=1000/\
  ∀d,H d=none->Q (.ref d) (upd H d (.dK (a1c ps [])))):=by
 intro pins s σ H xs us Q I r h
 obtain⟨a,o,vs,ps,rfl,ha,hod,hp,hlen,q⟩:=h
 obtain⟨u,rfl,ru⟩:=a3q r
 cases ru
 have hsq:SqT X.K H a vs:= .inl (.inr ⟨o,ha⟩)
 obtain⟨its,rv,pt,hz⟩:=I.tuple hsq
 have hobj:s.heap.get? a=some o:=(I.hok a _ ha).1
 have hfr:H s.heap.objs.size=none:=I.hok.fresh (AE _)
 refine callType_codes (Q₁:=fun obj s₁=>obj= .ref s.heap.objs.size/\s₁={s with heap:=s.heap.push {cls:= .type "dict",data:= .dict #[]}}) F.kt_called_dict (F.kt_typeCall_dict_1 _) F.entry_dict_init (kt_code_dict_new _ ⟨rfl,rfl⟩) ?_
 rintro obj s₁ ⟨rfl,rfl⟩
 have I1:Inv X pins σ (upd H s.heap.objs.size (.dK [])) {s with heap:=s.heap.push {cls:= .type "dict",data:= .dict #[]}}:=
  I.laid (a:=s.heap.objs.size) (o:= .dK []) (t':=s.toks) (fun _ _ q=>AH _ q) (AE _) (a5h s.heap I.big)
 have hnew:(s.heap.push {cls:= .type "dict",data:= .dict #[]}).DictOf (Z5 X.prog X.w) s.heap.objs.size []:=Heap.DictOf.new s.heap
 refine⟨hnew.typeIs,F.args_dict_init_2 _ _,?_⟩
 unfold Builtin.«dict.__init__»
 refine AA ?_
 unfold Builtin.Dict.selfAndRest
 refine AA (wpAny_notOrdered_dict hnew.typeIs ?_)
 show wpAny _ _ (pure (s.heap.objs.size,[Value.ref a])) _ _ _
 refine AJ ?_
 show wpAny _ _ (Builtin.Dict.updateFrom "dict.__init__" s.heap.objs.size (.ref a) [] .none) _ _ _
 have had:s.heap.objs.size≠a:=Ne.symm (R0 ha hfr)
 have hobj1:(s.heap.push {cls:= .type "dict",data:= .dict #[]}).get? a=some o:=AH _ hobj
 have htp:(s.heap.push {cls:= .type "dict",data:= .dict #[]}).IsTuple a its.toArray:=by
  obtain⟨o2,h1,h2⟩:=pt
  exact⟨o2,AH _ h1,h2⟩
 unfold Builtin.Dict.updateFrom
 refine AA (wpAny_typeOf (s:={s with heap:=s.heap.push {cls:= .type "dict",data:= .dict #[]}}) (T:="tuple") (by obtain⟨o2,h1,h2,_⟩:=htp;exact⟨o2,h1,h2⟩) ?_)
 rw[if_pos (by decide)]
 refine AA (b1b htp (fun o2 h2=>by rw[hobj1]at h2;cases h2;exact hod) (I.ok.hd hc) fun h' tk hk=>?_)
 rw[if_pos (show(none:Option Value).isNone=true from rfl)]
 refine AA (wpAny_rule ?_)
 have I2:Inv X pins σ (upd H s.heap.objs.size (.dK [])) {s with heap:=h',toks:=tk}:=I1.kept hk
 have htp2:h'.IsTuple a its.toArray:=by
  obtain⟨o2,h1,h2⟩:=htp
  exact⟨o2,hk _ _ h1,h2⟩
 refine AA (wpAny_pyIter_tuple (s:={s with heap:=h',toks:=tk}) htp2 ?_)
 refine AJ ⟨plainId_quiet a3h _,?_⟩
 have I3:=I2.kept (h':=h'.push {cls:= .type "tuple_iterator",data:= .fields #[.ref a,.int 0 0]}) (t':=tk) fun b ob e=>AH _ e
 have hfi:upd H s.heap.objs.size (.dK []) h'.objs.size=none:=I2.hok.fresh (AE _)
 have hdi:s.heap.objs.size≠h'.objs.size:=by
  intro z
  rw[<-z,G1]at hfi
  cases hfi
 have hfi0:H h'.objs.size=none:=by rw[G7 hdi.symm]at hfi;exact hfi
 have hia:h'.objs.size≠a:=fun z=>by
  rw[z,ha]at hfi0
  cases hfi0
 have hsq1:SqT X.K (upd H s.heap.objs.size (.dK [])) a vs:= .inl (.inr ⟨o,by rw[G7 had.symm];exact ha⟩)
 have L:=b0W (X:=X) hc (A:=X.A.in1) (I.ok.hd hc) (pins:=pins) (σ:=σ) (H0:=H) (Q:=Q) (a:=a) (d:=s.heap.objs.size) (it:=h'.objs.size) (vs:=vs) had hia hdi vs.length 0 _ [] ps 0 0 (by omega) I3 ⟨_,AS _ rfl,rfl,rfl⟩ (I2.fpOk (AE _) hfi) hsq1
  (Paired.mapP hp fun v p⟨t,e,ht⟩=>⟨t,e,fun z=>?_,ht⟩) (by simpa using hlen) hfi0 (q _ hfr)
 ·refine codeAny_mono L fun r s' hr=>?_
  cases r with
  | error e=>exact False.elim hr
  | ok f=>
   cases f with
   | ret v=>
    obtain⟨e,H',I',q'⟩:=hr
    exact⟨e,.ref s.heap.objs.size,H',I',rfl,q'⟩
   | next=>exact False.elim hr
   | brk=>exact False.elim hr
   | cont=>exact False.elim hr
 ·obtain⟨its2,_,⟨o2,h2,_⟩,_⟩:=I.tuple ht
  rw[z]at h2
  exact absurd (AT h2) (Nat.lt_irrefl _)
end
end L2
namespace L2
open PySem PySem.Spec PyProof.Rows PySem.W
section
variable{prog:Program}{w:World}{A:Around}{E:Value->Shared->Prop}{s:Shared}{T:String}{r d:Addr}{n:Nat}{P:Nat->Value->Prop}{OK:Heap->Prop}
end
theorem b6y{P:Program}{w:World}{k:Key}{u:Value}(h:(Z5 P w).is k u=true):W4 (kV k) u:=by
 rcases E4 (show a5T k u=true from h)with⟨i,t,rfl,rfl⟩ | ⟨x,t,rfl,rfl⟩
 ·exact⟨t,rfl⟩
 ·exact⟨t,rfl⟩
noncomputable def a3r (kvs:List (Key×V)):List V:=kvs.map fun kv=>kV kv.1
theorem a7C(kvs:List (Key×V)):(a3r kvs).length=kvs.length:=List.length_map _
section
variable{X:Cx}
end
end L2
namespace L2
open PySem PySem.Spec PyProof.Rows
noncomputable def Z0:Rw->Str
 | .bring _ _=>"bring"
 | .give _ _=>"give"
 | .set _ _=>"set"
 | .take _=>"take"
 | .say _ _=>"say"
 | .need _=>"need"
 | .ask _ _=>"ask"
 | .part _=>"part"
 | .doo _=>"do"
noncomputable def O4 (l:List Str) (x:Str):List Str:=if x∈l then l else l++[x]
noncomputable def D7 (l:List Str):List (Key×V):=l.map fun x=>(Sum.inr x,.bl true)
theorem a2M(l:List Str):(D7 l).length=l.length:=List.length_map _
theorem b1O(l:List Str)(x:Str):((D7 l).any fun kv=>decide (kv.1=Sum.inr x))=decide (x∈l):=by
 induction l with
 | nil=>simp[D7]
 | cons a r ih=>
  have:D7 (a::r)=(Sum.inr a,.bl true)::D7 r:=rfl
  rw[this,List.any_cons,ih]
  by_cases e:a=x
  ·subst e;simp
  ·have h1:¬(Sum.inr a:Key)=Sum.inr x:=fun z=>e (Sum.inr.inj z)
   have h2:¬x=a:=fun z=>e z.symm
   simp[e,h2]
theorem a4b(l:List Str)(x:Str):W2 (D7 l) (Sum.inr x) (.bl true)=D7 (O4 l x):=by
 unfold W2
 rw[b1O]
 unfold O4
 by_cases e:x∈l
 ·rw[if_pos (by simpa using e),if_pos e]
  unfold D7
  rw[List.map_map]
  refine List.map_congr_left fun a _=>?_
  show(if(Sum.inr a:Key)=Sum.inr x then((Sum.inr a:Key),V.bl true)else(Sum.inr a,V.bl true))=_
  split<;>rfl
 ·rw[if_neg (by simpa using e),if_neg e]
  unfold D7
  rw[List.map_append]
  rfl
theorem a1M.kind{H:Hp}{r:Addr}{rw:Rw}(h:a1M H r rw):∃x rest,H r=some (.tup (.str (Z0 rw)::x::rest)):=by
 cases rw with
 | bring p ps=>obtain⟨t,h1,h2⟩:=h;exact⟨_,_,h1⟩
 | give o g=>exact⟨_,_,h⟩
 | set o ts=>obtain⟨t,h1,h2⟩:=h;exact⟨_,_,h1⟩
 | take o=>exact⟨_,_,h⟩
 | say ts w=>obtain⟨t,h1,h2⟩:=h;exact⟨_,_,h1⟩
 | need ts=>obtain⟨t,h1,h2⟩:=h;exact⟨_,_,h1⟩
 | ask p w=>exact⟨_,_,h⟩
 | part p=>exact⟨_,_,h⟩
 | doo p=>exact⟨_,_,h⟩
end L2
namespace L2
open PySem PySem.Spec PyProof.Rows
section
variable{X:Cx}
end
end L2
namespace L2
open PySem PySem.Spec PyProof.Rows
section
variable{X:Cx}
theorem a3w(hu:X.A.units < cLine):OpR X (compareOp .NotEq) (fun x y H Q=>∃a b xs,x= .ref a/\y= .ref b/\SqL X.K H a xs/\SqL X.K H b []/\Q (.bl (!xs.isEmpty)) H):=by
 intro pins s σ H x y v u Q I rx ry h
 obtain⟨a,b,xs,rfl,rfl,ha,hb,q⟩:=h
 cases rx
 cases ry
 obtain⟨its,r1,p1,_⟩:=I.list ha
 obtain⟨its2,r2,p2,_⟩:=I.list hb
 cases r2
 cases xs with
 | nil=>
  cases r1
  exact SeqAt.RcNeAt.lists (e:=fun _=>true) p1.isList p2.isList rfl hu (fun j h1 _=>absurd h1 (by simp)) _ _ _ _ ⟨.bl false,H,I,rfl,q⟩
 | cons c r=>
  have hl1:=r1.length
  exact SeqAt.RcNeAt.lists_lengths p1.isList p2.isList (by rw[bne_iff_ne];intro z;simp only[List.size_toArray,List.length_nil,List.length_cons]at z hl1;omega) hu _ _ _ _ ⟨.bl true,H,I,rfl,q⟩
end
end L2
namespace L2
open PySem PySem.Spec PyProof.Rows
section
variable{X:Cx}{elts:List Expr}{k:Nat}{tpos:Pos}
end
end L2
namespace L2
open PySem PySem.Spec PyProof.Rows
end L2
namespace L2
open PySem PySem.Spec PyProof.Rows
end L2
namespace RV
open PySem PySem.Spec PyProof.Rows
theorem b2v:Manifest.owners.lookup (String.ofList ['d', 'e', 's', 'r', 'e', 'v', 'e', 'r'].reverse)=some Manifest.sig_reversed:=by kernel_rfl
theorem a3F:Slot "reversed" "__next__" "reversed.__next__":=
 .of (owner:="reversed") (n:="__next__") (by rw[typeLookup_type,builtinLookup_eq_fast];kernel_rfl) (by decide +kernel) (by decide +kernel) (by decide +kernel)
  (by first | exact .inl (by decide +kernel) | exact .inr (by decide +kernel)) (by rw[isSubtype_type];kernel_rfl)
theorem b0b:Slot "reversed" "__iter__" "reversed.__iter__":=
 .of (owner:="reversed") (n:="__iter__") (by rw[typeLookup_type,builtinLookup_eq_fast];kernel_rfl) (by decide +kernel) (by decide +kernel) (by decide +kernel)
  (by first | exact .inl (by decide +kernel) | exact .inr (by decide +kernel)) (by rw[isSubtype_type];kernel_rfl)
theorem b0l:entryFor table "reversed.__next__"=some Builtin.«reversed.__next__»:=entryFor_of_tree (by kernel_rfl)
theorem b3H:entryFor table "reversed.__iter__"=some Builtin.«dict_keyiterator.__iter__»:=
 entryFor_alias (id':="dict_keyiterator.__iter__") (by kernel_rfl) (by first | rfl | decide +kernel | (unfold String.splitOn;simp +decide [String.splitOnAux])) (by decide +kernel) (by kernel_rfl)
theorem b0h(a:Value):argsOk "reversed.__next__" ⟨[a],[]⟩:=by
 unfold argsOk;rw[signature?_of (id:="reversed.__next__") (n:=['_', '_', 't', 'x', 'e', 'n', '_', '_']) (o:=['d', 'e', 's', 'r', 'e', 'v', 'e', 'r']) (by kernel_rfl) b2v];kernel_rfl
theorem b4f(a:Value):argsOk "reversed.__iter__" ⟨[a],[]⟩:=by
 unfold argsOk;rw[signature?_of (id:="reversed.__iter__") (n:=['_', '_', 'r', 'e', 't', 'i', '_', '_']) (o:=['d', 'e', 's', 'r', 'e', 'v', 'e', 'r']) (by kernel_rfl) b2v];kernel_rfl
theorem b5v:typeLookup (.type "tuple") "__reversed__"=pure none:=by rw[typeLookup_type,builtinLookup_eq_fast];kernel_rfl
theorem b1G:isSubtype (.type "tuple") (.type "dict")=pure false:=by rw[isSubtype_type];kernel_rfl
theorem b6I:isSubtype (.type "reversed") (.type "reversed")=pure true:=by rw[isSubtype_type];kernel_rfl
theorem b3J:Slot "reversed" "__init__" "object.__init__":=
 .of (owner:="object") (n:="__init__") (by rw[typeLookup_type,builtinLookup_eq_fast];kernel_rfl) (by decide +kernel) (by decide +kernel) (by decide +kernel)
  (by first | exact .inl (by decide +kernel) | exact .inr (by decide +kernel)) (by rw[isSubtype_type];kernel_rfl)
theorem a4g:TypeCalled "reversed" "reversed.__new__" "object.__init__":=
 ⟨by decide +kernel,by decide +kernel,⟨_,_,F.mro_reversed⟩,F.made_reversed,by decide +kernel,b6I,b3J⟩
end RV
namespace RV
open PySem PySem.Spec PyProof.Rows
noncomputable def b1i (t:Addr) (i:Int):Obj:={cls:= .type "reversed",data:= .fields #[.ref t,rawInt i]}
noncomputable def a1Q (h:Heap) (a t:Addr) (i:Int):Prop:=∃o,h.get? a=some o/\o.cls= .type "reversed"/\o.data= .fields #[.ref t,rawInt i]
theorem a1Q.move{h h':Heap}{a t:Addr}{i:Int}(x:a1Q h a t i)(e:∀o,h.get? a=some o->h'.get? a=some o):a1Q h' a t i:=by
 obtain⟨o,ho,r⟩:=x
 exact⟨o,e o ho,r⟩
section
variable{prog:Program}{w:World}{A:Around}{E:Value->Shared->Prop}{s:Shared}
theorem a1Q.ty{a t:Addr}{i:Int}(x:a1Q s.heap a t i):s.TypeIs (.ref a) "reversed":=by
 obtain⟨o,ho,hc,_⟩:=x
 exact⟨o,ho,hc⟩
theorem b2T{t:Addr}{its:Array Value}{Q₁:Value->Shared->Prop}(ht:IsTup s.heap t its)(hz:its.size<=sizeLine)
  (q:∀tk,Q₁ (.ref s.heap.objs.size) {s with heap:=s.heap.push (b1i t ((its.size:Int) - 1)),toks:=tk}):
  codeAny (model prog w) A (.call (.builtin "reversed.__new__") ⟨[.type "reversed",.ref t],[]⟩) (wants Q₁ E) s:=by
 refine codeAny_of_tree ?_
 show wpAny _ A.in1 (checkBuiltinCall "reversed.__new__" ⟨[.type "reversed",.ref t],[]⟩ >>= fun _=>again (.builtin "reversed.__new__" ⟨[.type "reversed",.ref t],[]⟩)) _ _ s
 refine AA (wpAny_of_eq (F.newCall_reversed_1 _) (AJ ⟨plainId_quiet F.plain_reversed_new _,codeAny_builtin F.entry_reversed_new ?_⟩))
 rw[Around.under_plainId F.plain_reversed_new _]
 unfold Builtin.«reversed.__new__»
 refine AA (wpAny_of_eq (newClass_reversed _) ?_)
 try dsimp only
 refine AA (wpAny_of_eq (a:=()) (by first | rfl | kernel_rfl) ?_)
 refine AA (wpAny_of_eq (a:=()) (by first | rfl | kernel_rfl) ?_)
 try dsimp only
 refine AA (wpAny_specialOf ht.typeIs b5v ?_)
 try dsimp only
 refine AA (AA (wpAny_isInstance ht.typeIs b1G ?_))
 rw[if_neg AD]
 refine AA (wpAny_specialOf ht.typeIs slot_tuple_getitem.lookup ?_)
 show wpAny _ _ (if(["tuple.__getitem__","str.__getitem__","bytes.__getitem__","bytearray.__getitem__","memoryview.__getitem__","numpy.ndarray.__getitem__","sqlite3.Row.__getitem__"].contains "tuple.__getitem__")=true then pure true else _) _ _ s
 rw[if_pos (by decide +kernel)]
 refine AJ ?_
 rw[if_neg (by decide)]
 have hfit:(its.size:Int) < 2 ^ 63:=by have:sizeLine=16777216:=sizeLine_eq;omega
 refine AA (len_tuple ht hfit ?_)
 refine AA (wpAny_of_eq (a:=some (its.size:Int)) rfl ?_)
 show wpAny _ _ (newObj (Value.type "reversed") (.fields #[Value.ref t,rawInt ((its.size:Int) - 1)]) >>= _) _ _ _
 refine AA (wpAny_newObj_type (AJ ?_))
 exact q _
theorem b3e{t:Addr}{its:Array Value}{Q:Value->Shared->Prop}(ht:IsTup s.heap t its)(hz:its.size<=sizeLine)
  (q:∀tk,Q (.ref s.heap.objs.size) {s with heap:=s.heap.push (b1i t ((its.size:Int) - 1)),toks:=tk}):wpAny (model prog w) A (call (.type "reversed") [.ref t]) Q E s:=by
 refine callType_codes (Q₁:=fun obj s₁=>s₁.TypeIs obj "reversed"/\Q obj s₁) a4g (F.typeCall_reversed_1 _) F.entry_object_init (b2T ht hz fun tk=>⟨⟨_,AS _ rfl,rfl⟩,q tk⟩) fun obj s₁ h₁=>?_
 exact⟨h₁.1,F.args_object_init_2 obj _,object_init_meets a4g.init.lookup a4g.made (by decide) prog w A.in1 _ s₁ ⟨h₁.1,rfl,h₁.2⟩⟩
theorem b0U{it t:Addr}{i:Nat}{its:Array Value}{x:Value}{Q:Option Value->Shared->Prop}(hit:a1Q s.heap it t (i:Int))(ht:IsTup s.heap t its)(hx:its[i]?=some x)(hz:its.size<=sizeLine)
  (q:∀h' tk,a1Q h' it t ((i:Int) - 1)->Heap.SameBut it s.heap h'->Q (some x) {s with heap:=h',toks:=tk}):wpAny (model prog w) A (pyNext (.ref it)) Q E s:=by
 obtain⟨o,ho,hc,hd⟩:=id hit
 have hi:i < its.size:=by
  obtain⟨z,_⟩:=Array.getElem?_eq_some_iff.mp hx
  exact z
 have hsl:sizeLine=16777216:=sizeLine_eq
 have hneg:¬((i:Int) < 0):=by omega
 have hseq:seqIndex? (i:Int) its.size=some i:=by simp[seqIndex?,hneg,hi]
 unfold pyNext
 refine AA (wpAny_attempt (wpAny_callSpecial?_slot (name:=Str.ofString "__next__") hit.ty a3F (wpAny_call_entry a3F hit.ty b0l ?_ (b0h _))))
 unfold Builtin.«reversed.__next__»
 refine AA (wpAny_of_eq (a:=(Value.ref it,[])) rfl ?_)
 try dsimp only
 refine AA (wpAny_field ho hd (x:= .ref t) rfl ?_)
 refine AA (wpAny_field ho hd (x:=rawInt (i:Int)) rfl ?_)
 show wpAny _ _ (if(i:Int) < 0 then _ else _) _ _ s
 rw[if_neg (by omega)]
 refine AA (wpAny_specialOf ht.typeIs slot_tuple_getitem.lookup ?_)
 rw[if_neg (by simp)]
 refine AA (wpAny_mkInt ?_)
 refine AA (wpAny_attempt (getItem_tuple (s:={s with toks:=s.toks+1}) ht (by omega) (by omega) hseq hx ?_))
 show wpAny _ _ (field (Value.ref it) 1 >>= _) _ _ _
 refine AA (wpAny_field (s:={s with toks:=s.toks+1}) ho hd (x:=rawInt (i:Int)) rfl ?_)
 show wpAny _ _ (setField (Value.ref it) 1 (rawInt ((i:Int) - 1)) >>= _) _ _ _
 refine AA (wpAny_setField (s:={s with toks:=s.toks+1}) ho hd (by simp) ?_)
 refine AJ ⟨x,rfl,AJ (q _ _ ?_ (Heap.SameBut.update ..))⟩
 exact⟨_,Heap.get?_update_self _ ho (Obj.isFreed_of_fields (Obj.data_mapFields hd _)),(Obj.cls_mapFields ..).trans hc,by
  rw[Obj.data_mapFields hd]
  simp⟩
theorem b1A{it t:Addr}{Q:Option Value->Shared->Prop}(hh:A.handled=none)(hit:a1Q s.heap it t (-1))
  (q:∀h' tk,Heap.ExtBut it s.heap h'->Q none {s with heap:=h',toks:=tk}):wpAny (model prog w) A (pyNext (.ref it)) Q E s:=by
 obtain⟨o,ho,hc,hd⟩:=id hit
 unfold pyNext
 refine AA (wpAny_attempt (wpAny_callSpecial?_slot (name:=Str.ofString "__next__") hit.ty a3F (wpAny_call_entry a3F hit.ty b0l ?_ (b0h _))))
 unfold Builtin.«reversed.__next__»
 refine AA (wpAny_of_eq (a:=(Value.ref it,[])) rfl ?_)
 try dsimp only
 refine AA (wpAny_field ho hd (x:= .ref t) rfl ?_)
 refine AA (wpAny_field ho hd (x:=rawInt (-1)) rfl ?_)
 show wpAny _ _ (if(-1:Int) < 0 then _ else _) _ _ s
 rw[if_pos (by decide)]
 refine AA (wpAny_rule ?_)
 refine AA (AA (wpAny_setField ho hd (by simp) ?_))
 have h1:=Heap.get?_update_self (Obj.mapFields (·.setIfInBounds 1 (rawInt (-1)))) ho (Obj.isFreed_of_fields (Obj.data_mapFields hd _))
 refine wpAny_setField h1 (Obj.data_mapFields hd _) (by simp) ?_
 refine AA ?_
 show wpAny _ _ (newExc (Value.type "StopIteration") [] >>= _) _ _ _
 refine AA ?_
 simp only[newTuple,newExc]
 refine AA (wpAny_newObj_type (AA (m:=firstArgMember _ _) (wpAny_of_eq (a:=Value.none) (by first | rfl | (simp only[firstArgMember];rfl)) (wpAny_newObj_type ?_ (by size_fits)))) (by size_fits))
 simp only[raiseNew]
 refine AA (wpAny_handled ?_)
 rw[show A.in1.handled=none from hh]
 refine AA (AJ (wpAny_throw ?_))
 exact AA (wpAny_isInstance (T:="StopIteration") (b:=true) ⟨_,AS _ rfl,rfl⟩ isSubtype_stop (AJ (q _ _ ((((Heap.SameBut.update ..).trans (Heap.SameBut.update ..)).extBut.push _).push _))))
theorem a6N{it t:Addr}{i:Int}{Q:Value->Shared->Prop}(hit:a1Q s.heap it t i)(h:Q (.ref it) s):wpAny (model prog w) A (pyIter (.ref it)) Q E s:=by
 refine wpAny_pyIter_slot hit.ty b0b (wpAny_call_entry b0b hit.ty b3H ?_ (b4f _))
 show wpAny _ _ (ret (.ref it)) _ _ s
 exact AJ ⟨_,rfl,"reversed",_,hit.ty,a3F.lookup,h⟩
end
end RV
namespace RV
open PySem PySem.Spec PyProof.Rows
section
variable{prog:Program}{w:World}{A:Around}{E:Value->Shared->Prop}{s:Shared}
end
end RV
namespace RV
open PySem PySem.Spec PyProof.Rows
section
variable{prog:Program}{w:World}{A:Around}{E:Value->Shared->Prop}{s:Shared}
end
end RV
namespace L2
open PySem PySem.Spec PyProof.Rows PySem.W RV
section
variable{X:Cx}{e:Expr}{te:TE}{pos pos2 p p2:Pos}
theorem b5L(he:PE X e te)(gR:Gl X "reversed")(mR:X.mg "reversed"=none)(hs:starEach [e] X.env=[(false,eval e X.env)]:=by rfl)
  {pins:List (Addr×Obj)}{s:Shared}{σ:St}{H:Hp}{R:VK}{Q:Value->Shared->Prop}(I:Inv X pins σ H s)(h:te σ H R)
  (k:∀x H1 s1 a xs its tk,Inv X pins σ H1 s1->R x H1->x= .ref a->W0 xs its->IsTup s1.heap a its.toArray->its.toArray.size<=sizeLine->SqT X.K H1 a xs->Q (.ref s1.heap.objs.size) {s1 with heap:=s1.heap.push (b1i a ((its.toArray.size:Int) - 1)),toks:=tk})
  (kr:∀x H1,R x H1->∃a xs,x= .ref a/\SqT X.K H1 a xs):
  wpAny (model X.prog X.w) X.A (eval (.Call (.Name "reversed" p2) [e] [] pos2) X.env) Q X.xe s:=by
 refine wpAny_Call_Name_kw (a4w I gR mR boot_reversed ?_ (by decide) (by decide))
 refine PyProof.Rows.callWith_type1 ?_ hs (by rfl)
 rw[hs]
 refine Calls.spliced_cons (thn (he pins s σ H _ I h) fun u s1⟨x,H1,I1,r1,q1⟩=>?_)
 obtain⟨a,xs,rfl,ht⟩:=kr x H1 q1
 cases r1
 obtain⟨its,hv,htup,hz⟩:=I1.tuple ht
 have hz':its.toArray.size<=sizeLine:=by have:=hv.length;simp;omega
 refine Calls.spliced_nil ?_
 exact b3e htup hz' fun tk=>k _ H1 s1 a xs its tk I1 q1 rfl hv htup hz' ht
end
end L2
namespace L2
open PySem PySem.Spec PyProof.Rows
section
variable{P:Program}{w:World}{A:Around}{E:Value->Shared->Prop}{s:Shared}{z TI TO i1 i2 l1 l2:Addr}{xs ys:Array Value}{I1 I2:Nat->Heap->Prop}{S1 S2:Heap->Prop}
end
section
variable{X:Cx}{elts:List Expr}{k:Nat}{tpos:Pos}
end
end L2
namespace L2
open PySem PySem.Spec PyProof.Rows PySem.W
noncomputable def a8L (h:Heap) (d:Addr) (es:Array DictEntry) (ep:Nat):Prop:=∃o,h.get? d=some o/\o.ExactDict/\o.data= .dict es ep
section
variable{P:Program}{w:World}{A:Around}{E:Value->Shared->Prop}{s:Shared}{d:Addr}{es:Array DictEntry}{ep:Nat}
theorem a8L.ty(r:a8L s.heap d es ep):s.TypeIs (.ref d) "dict":=by
 obtain⟨ob,e,c,_⟩:=r
 exact⟨ob,e,c.1⟩
theorem b1N{Q:Value->Shared->Prop}(lo:(d==sysModules)=false)(r:a8L s.heap d es ep)
  (q:Q (.ref s.heap.objs.size) {s with heap:=s.heap.push {cls:= .type "dict_keyiterator",data:= .fields #[.ref d,.int 0 0,.int es.size 0,.int ep 0]}}):wpAny (model P w) A (pyIter (.ref d)) Q E s:=by
 have ty:=r.ty
 obtain⟨ob,eb,cb,db⟩:=r
 refine wpAny_pyIter_slot ty F.slot_dict_iter (wpAny_call_entry F.slot_dict_iter ty F.entry_dict_iter ?_ (F.args_dict_iter_1 _))
 unfold Builtin.«dict.__iter__» Builtin.Dict.dictSlotNone
 refine AA (AA (wpAny_notOrdered_dict ty ?_))
 show wpAny _ _ (pure (Value.ref d)) _ _ s
 refine AJ ?_
 show wpAny _ _ (Builtin.Dict.showsAll d >>= _) _ _ s
 unfold Builtin.Dict.showsAll
 rw[if_neg (fun z=>by rw[lo]at z;exact AD z)]
 refine AA (AJ (AA (wpAny_dictEntries eb db (AA (wpAny_dictEpoch eb db ?_)))))
 refine AA (wpAny_newObj_type (AJ ⟨_,rfl,"dict_keyiterator",_,⟨_,AS _ rfl,rfl⟩,F.slot_dict_keyiterator_next.lookup,?_⟩))
 simpa [rawInt]using q
theorem b2l{it:Addr}{i:Nat}{e:DictEntry}{Q:Option Value->Shared->Prop}(hi:s.heap.IsKeyIter it d i es.size ep)(r:a8L s.heap d es ep)(he:es[i]?=some e)
  (q:∀h',h'.IsKeyIter it d (i+1) es.size ep->Heap.SameBut it s.heap h'->Q (some e.key) {s with heap:=h'}):wpAny (model P w) A (pyNext (.ref it)) Q E s:=by
 obtain⟨oi,ei,ci,di⟩:=id hi
 obtain⟨ob,eb,cb,db⟩:=r
 unfold pyNext
 refine AA (wpAny_attempt (wpAny_callSpecial?_slot (name:=Str.ofString "__next__") hi.typeIs F.slot_dict_keyiterator_next (wpAny_call_entry F.slot_dict_keyiterator_next hi.typeIs F.entry_dict_keyiterator_next ?_ (F.args_dict_keyiterator_next_1 _))))
 refine AA (AJ (AA (AA ?_)))
 first | refine AA (wpAny_typeNameOfWhole_keyiter hi.typeIs (AJ (AA (wpAny_fieldsOf ei di ?_)))) | refine AA (wpAny_typeNameOf_keyiter hi.typeIs (AJ (AA (wpAny_fieldsOf ei di ?_))))
 simp only[show Builtin.Dict_items.ownsTuple "dict_keyiterator"=false by decide,Bool.false_eq_true,if_false]
 show wpAny _ _ (ite ((Value.ref d==Value.none)=true) _ _) _ _ s
 rw[if_neg (by exact AD)]
 refine AA (AJ (AA (wpAny_dictEntries eb db ?_)))
 rw[if_neg (by simp)]
 refine AA (AJ (AA (wpAny_dictEpoch eb db ?_)))
 rw[if_neg (by simp)]
 refine AJ ?_
 simp only[show¬((i:Int) < 0)from by omega,if_false,Int.toNat_natCast,he]
 refine AA ?_
 first | refine AA (wpAny_typeNameOfWhole_keyiter hi.typeIs (AJ (AA (wpAny_isOneOf_keyiter hi.typeIs ?_)))) | refine AA (wpAny_typeNameOf_keyiter hi.typeIs (AJ (AA (wpAny_isOneOf_keyiter hi.typeIs ?_))))
 show wpAny _ _ (setField (Value.ref it) 1 (rawInt ((i:Int)+1)) >>= _) _ _ s
 refine AA (wpAny_setField ei di (by simp) ?_)
 have hi2:(s.heap.update it (Obj.mapFields (·.setIfInBounds 1 (rawInt ((i:Int)+1))))).IsKeyIter it d (i+1) es.size ep:=⟨_,Heap.get?_update_self _ ei (Obj.isFreed_of_fields (Obj.data_mapFields di _)),(Obj.cls_mapFields ..).trans ci,by
  rw[Obj.data_mapFields di]
  simp[rawInt]⟩
 refine AA (wpAny_holding (AA (wpAny_isOneOf_keyiter (s:={s with heap:=s.heap.update it (Obj.mapFields (·.setIfInBounds 1 (rawInt ((i:Int)+1))))}) hi2.typeIs ?_)))
 show wpAny _ _ (pure e.key) _ _ _
 exact AJ (AJ ⟨_,rfl,AJ (q _ hi2 (Heap.SameBut.update ..))⟩)
theorem b1L{it:Addr}{i:Nat}{Q:Option Value->Shared->Prop}(hA:A.handled=none)(hi:s.heap.IsKeyIter it d i es.size ep)(r:a8L s.heap d es ep)(he:es[i]?=none)
  (q:∀h',Heap.ExtBut it s.heap h'->Q none {s with heap:=h'}):wpAny (model P w) A (pyNext (.ref it)) Q E s:=by
 obtain⟨oi,ei,ci,di⟩:=id hi
 obtain⟨ob,eb,cb,db⟩:=r
 unfold pyNext
 refine AA (wpAny_attempt (wpAny_callSpecial?_slot (name:=Str.ofString "__next__") hi.typeIs F.slot_dict_keyiterator_next (wpAny_call_entry F.slot_dict_keyiterator_next hi.typeIs F.entry_dict_keyiterator_next ?_ (F.args_dict_keyiterator_next_1 _))))
 refine AA (AJ (AA (AA ?_)))
 first | refine AA (wpAny_typeNameOfWhole_keyiter hi.typeIs (AJ (AA (wpAny_fieldsOf ei di ?_)))) | refine AA (wpAny_typeNameOf_keyiter hi.typeIs (AJ (AA (wpAny_fieldsOf ei di ?_))))
 simp only[show Builtin.Dict_items.ownsTuple "dict_keyiterator"=false by decide,Bool.false_eq_true,if_false]
 show wpAny _ _ (ite ((Value.ref d==Value.none)=true) _ _) _ _ s
 rw[if_neg (by exact AD)]
 refine AA (AJ (AA (wpAny_dictEntries eb db ?_)))
 rw[if_neg (by simp)]
 refine AA (AJ (AA (wpAny_dictEpoch eb db ?_)))
 rw[if_neg (by simp)]
 refine AJ ?_
 simp only[show¬((i:Int) < 0)from by omega,if_false,Int.toNat_natCast,he]
 refine AA ?_
 first | refine AA (wpAny_typeNameOfWhole_keyiter hi.typeIs (AJ ?_)) | refine AA (wpAny_typeNameOf_keyiter hi.typeIs (AJ ?_))
 show wpAny _ _ (setField (Value.ref it) 0 .none >>= _) _ _ s
 refine AA (wpAny_setField ei di (by simp) ?_)
 show wpAny _ _ (newExc (Value.type "StopIteration") [] >>= _) _ _ _
 refine AA ?_
 simp only[newTuple,newExc]
 refine AA (wpAny_newObj_type (AA (m:=firstArgMember _ _) (wpAny_of_eq (a:=Value.none) (by first | rfl | (simp only[firstArgMember];rfl)) (wpAny_newObj_type ?_ (by size_fits)))) (by size_fits))
 simp only[raiseNew]
 refine AA (wpAny_handled ?_)
 rw[show A.in1.handled=none from hA]
 refine AA (AJ (wpAny_throw ?_))
 exact AA (wpAny_isInstance (T:="StopIteration") (b:=true) ⟨_,AS _ rfl,rfl⟩ isSubtype_stop (AJ (q _ (((Heap.SameBut.update ..).extBut.push _).push _))))
end
section
variable{X:Cx}
end
end L2
namespace L2
open PySem PySem.Spec PyProof.Rows
section
variable{X:Cx}
end
end L2
namespace RG
open PySem PySem.Spec PyProof.Rows
section
variable{prog:Program}{w:World}{A:Around}{E:Value->Shared->Prop}{s:Shared}
variable{I:Addr}{fp:List Addr}{n:Nat}{P:Nat->Value->Prop}{St:Nat->Heap->Prop}{T:String}
end
end RG
namespace RG
open PySem PySem.Spec PyProof.Rows
section
variable{prog:Program}{w:World}{A:Around}{E:Value->Shared->Prop}{s:Shared}
end
end RG
namespace L2
open PySem PySem.Spec PyProof.Rows PySem.W RG
section
variable{X:Cx}{e:Expr}{te:TE}{pos pos2 pos3 p p2 p3:Pos}
end
end L2
namespace L2
open PySem PySem.Spec PyProof.Rows PySem.W
section
variable{X:Cx}{pins:List (Addr×Obj)}{σ:List (Option V)}{H:Hp}{s:Shared}
theorem Inv.freeze{d:Addr}{o:Obj}{u:HO}(I:Inv X pins σ H s)(h:H d=some u)(n1:∀xs,u≠ .tup xs)(n2:∀o' u',u≠ .frz o' u')(n3:∀ps,u≠ .tbl ps)(n4:∀a,u≠ .own a)(ho:s.heap.get? d=some o):Inv X pins σ (upd H d (.frz o u)) s:=by
 have ne:∀{b:Addr}{v:HO},H b=some v->v≠u->b≠d:=fun{b v}e hv z=>by
  rw[z,h]at e
  exact hv (Option.some.inj e).symm
 have kt:∀(b:Addr)(xs:List V),H b=some (.tup xs)->upd H d (.frz o u) b=some (.tup xs):=fun b xs e=>by
  rw[G7 (ne e fun z=>n1 xs z.symm)]
  exact e
 have ko:∀(a b:Addr),H b=some (.own a)->upd H d (.frz o u) b=some (.own a):=fun a b e=>by
  rw[G7 (ne e fun z=>n4 a z.symm)]
  exact e
 refine I.step (h':=s.heap) (g':=s.gens) (d':=s.drawn) (t':=s.toks) (ch:=[]) (fun _ z=>nomatch z) (fun b ob _ _ _ e _=>e) (fun b ob _ _ _ e _=>⟨ob.slots,e⟩)
  (fun b ob _ _ n=>by rw[G7 (fun z=>by rw[z,h]at n;cases n)];exact n) (fun b ob _ e=>⟨ob,e⟩) kt
  (fun b ob v e=>by rw[G7 (ne e fun z=>n2 ob v z.symm)];exact e) (fun b ps e=>⟨#[],by rw[G7 (ne e fun z=>n3 ps z.symm),e];simp⟩) (fun m hm=>hm) (fun b v e=>?_) I.bare
 by_cases hb:b=d
 ·subst hb
  rw[G1]at e
  cases e
  exact⟨ho,(I.hok b u h).stay (fun c w _ q=>q) (fun c q=>ko b c q) kt⟩
 ·rw[G7 hb]at e
  exact(I.hok b v e).stay (fun c w _ q=>q) (fun c q=>ko b c q) kt
end
noncomputable def ItD (d:Addr) (o:Obj) (u:HO) (ks:List V):It:=⟨fun i H=>H d=some (.frz o u)/\i < ks.length,fun i H x H'=>H'=H/\ks[i]?=some x,fun i H=>H d=some (.frz o u)/\ks.length<=i⟩
theorem b1l{P:Program}{w:World}{K:W.Frag}{tg:Expr}{d it:Addr}{o:Obj}{u:HO}{ks:List V}{es:Array DictEntry}{ep:Nat}(hx:o.ExactDict)(hd:o.data= .dict es ep)(hl:ks.length=es.size)(hk:∀(i:Nat)(k:V),ks[i]?=some k->∃e:DictEntry,es[i]?=some e/\W4 k e.key):
  a8Z P w K tg (ItD d o u ks) [it] it (fun i h=>h.IsKeyIter it d i es.size ep)where
 mem:=by simp
 obj:=fun i h st b hb=>by
  have z:b=it:=by simpa using hb
  subst z
  obtain⟨oi,ei,ci,di⟩:=st
  exact⟨oi,ei,fun v y=>by rw[di]at y;cases y⟩
 keep:=fun i h h' st kp=>st.at fun ob e=>kp it (by simp) ob e
 item:=by
  intro X hP hw hK hc i pins s σ H E I hf st hg
  subst hP hw hK
  obtain⟨hfz,hi⟩:=hg
  have hod:s.heap.get? d=some o:=(show Z6 X.prog X.w H s.heap d (.frz o u)from I.hok d _ hfz).1
  obtain⟨k,hki⟩:∃k,ks[i]?=some k:=⟨ks[i],by simp[hi]⟩
  obtain⟨e,he,hr⟩:=hk i k hki
  obtain⟨f0,f1,f2,f3,f4,f5⟩:=hf it (by simp)
  refine b2l st ⟨o,hod,hx,hd⟩ he fun h' st' sb=>?_
  have I1:Inv X pins σ H {s with heap:=h'}:=I.turned (t':=s.toks) (fun b ob hb e=>(sb.2 b hb).trans e) f0 f1 f3 f4 f5
  obtain⟨oi,ei,ci,di⟩:=id st'
  exact⟨e.key,rfl,a8u (s:={s with heap:=h'}) ei ci di (by decide) ⟨k,H,I1,hr,⟨rfl,hki⟩,st',fun b hb=>(hf b hb).1⟩⟩
 done:=by
  intro X hP hw hK hc i pins s σ H E I hf st hg
  subst hP hw hK
  obtain⟨hfz,hi⟩:=hg
  have hod:s.heap.get? d=some o:=(show Z6 X.prog X.w H s.heap d (.frz o u)from I.hok d _ hfz).1
  obtain⟨f0,f1,f2,f3,f4,f5⟩:=hf it (by simp)
  exact b1L (I.ok.hd hc) st ⟨o,hod,hx,hd⟩ (by simp;omega) fun h' eb=>⟨rfl,I.turned (t':=s.toks) (fun b ob hb e=>eb b ob hb e) f0 f1 f3 f4 f5⟩
 self:=fun _ _ _ _ _ st h=>wpAny_pyIter_keyiter st h
section
variable{X:Cx}{tg:Expr}
theorem b0A{H:Hp}{h:Heap}{d:Addr}{kvs:List (Key×V)}(ok:Z6 X.prog X.w H h d (.dK kvs)):∃(o:Obj)(es:Array DictEntry)(ep:Nat),h.get? d=some o/\o.ExactDict/\o.data= .dict es ep/\(d==sysModules)=false/\(a3r kvs).length=es.size/\∀(i:Nat)(k:V),(a3r kvs)[i]?=some k->∃e:DictEntry,es[i]?=some e/\W4 k e.key:=by
 obtain⟨z,lo,vs,rel,o,es,ep,h1,h2,h3,h4,h5,h6⟩:=ok
 have l1:=rel.length
 have l2:es.size=vs.length:=by rw[<-h5.length];simp
 refine⟨o,es,ep,h1,h2,h3,lo,by rw[a7C];omega,fun i k e=>?_⟩
 unfold a3r at e
 rw[AN]at e
 cases hkv:kvs[i]? with
 | none=>rw[hkv]at e;cases e
 | some kv=>
  rw[hkv]at e
  have ek:kV kv.1=k:=Option.some.inj e
  obtain⟨v,hv,hrel⟩:=Paired.get? rel hkv
  have hi:i < es.size:=by rw[l2];exact(AB.mp hv).1
  have h7:=(h5.get? (e:=es[i]) (k:=v.1) (v:=v.2) (by simp[hi]) hv).1
  refine⟨es[i],by simp[hi],?_⟩
  rw[<-ek,show kv.1=v.1 from hrel.1]
  exact b6y h7
noncomputable def b5o (te:TE):TI:=fun σ H R=>te σ H fun x H1=>∃d kvs,x= .ref d/\((H1 d=some (.dK kvs)/\∀o,R (ItD d o (.dK kvs) (a3r kvs)) (upd H1 d (.frz o (.dK kvs))))\/∃o,H1 d=some (.frz o (.dK kvs))/\R (ItD d o (.dK kvs) (a3r kvs)) H1)
theorem b1v{l:Expr}{tl:TE}(hl:PE X l tl):PI X tg l (b5o tl):=by
 intro pins s σ H R I h
 refine thn (hl pins s σ H _ I h) fun v s1⟨x,H1,I1,r1,q1⟩=>?_
 obtain⟨d,kvs,e,q⟩:=q1
 subst e
 cases r1
 have ok:Z6 X.prog X.w H1 s1.heap d (.dK kvs):=by
  rcases q with⟨hd,_⟩ | ⟨o,hd,_⟩
  ·exact I1.hok d _ hd
  ·exact(show Z6 X.prog X.w H1 s1.heap d (.frz o (.dK kvs))from I1.hok d _ hd).2
 obtain⟨o,es,ep,h1,h2,h3,lo,hlen,hks⟩:=b0A ok
 have fin:∀H2:Hp,Inv X pins σ H2 s1->R (ItD d o (.dK kvs) (a3r kvs)) H2->wpAny (model X.prog X.w) X.A (pyIter (.ref d)) (PIE X pins σ tg R) X.xe s1:=fun H2 I2 q2=>by
  refine b1N lo ⟨o,h1,h2,h3⟩ ?_
  refine⟨s1.heap.objs.size,[s1.heap.objs.size],_,_,H2,rfl,I2.kept (t':=s1.toks) fun b ob e=>AH _ e,b1l h2 h3 hlen hks,⟨_,AS _ rfl,rfl,rfl⟩,fun b hb=>?_,q2⟩
  have z:b=s1.heap.objs.size:=by simpa using hb
  subst z
  exact I2.fpOk (AE _) (I2.hok.fresh (AE _))
 rcases q with⟨hd,q⟩ | ⟨o',hd,q⟩
 ·exact fin _ (I1.freeze hd (fun _ z=>nomatch z) (fun _ _ z=>nomatch z) (fun _ z=>nomatch z) (fun _ z=>nomatch z) h1) (q o)
 ·have ho:=(show Z6 X.prog X.w H1 s1.heap d (.frz o' (.dK kvs))from I1.hok d _ hd).1
  have eo:o'=o:=Option.some.inj (ho.symm.trans h1)
  subst eo
  exact fin H1 I1 q
end
theorem b1T{d:Addr}{o:Obj}{u:HO}{ks:List V}{g:TG}{tb:TS}{D:a1F}{σ:St}{H:Hp}(Pv:Nat->St->Hp->Prop)(h0:Pv 0 σ H)(hl:∀i σ H,i<=ks.length->Pv i σ H->H d=some (.frz o u))(hs:∀(i:Nat)(k:V)σ H,ks[i]?=some k->Pv i σ H->g k σ H fun σ2 H2=>tb {D with nx:=Pv (i+1),ct:=Pv (i+1),bk:=D.nx} σ2 H2)(hd:∀σ H,Pv ks.length σ H->D.nx σ H):
  ∃W:Nat->Nat->St->Hp->Prop,(∃m,W 0 m σ H)/\∀i m σ H,W i m σ H->
   ((ItD d o u ks).stop i H/\D.nx σ H)\/((ItD d o u ks).go i H/\∃N:St->Hp->Prop,(∀σ' H',N σ' H'->∃m',m' < m/\W (i+1) m' σ' H')/\∀y H',(ItD d o u ks).yld i H y H'->g y σ H' fun σ2 H2=>tb {D with nx:=N,ct:=N,bk:=D.nx} σ2 H2):=by
 refine⟨fun i m σ H=>m=ks.length - i/\i<=ks.length/\Pv i σ H,⟨_,rfl,AZ _,h0⟩,?_⟩
 rintro i m σ H ⟨rfl,hi,p⟩
 have q:=hl i σ H hi p
 by_cases hlt:i < ks.length
 ·refine .inr ⟨⟨q,hlt⟩,Pv (i+1),fun σ' H' p'=>⟨ks.length - (i+1),by omega,rfl,hlt,p'⟩,?_⟩
  rintro y H' ⟨rfl,hy⟩
  exact hs i y σ _ hy p
 ·have e:i=ks.length:=by omega
  subst e
  exact .inl ⟨⟨q,AE _⟩,hd σ H p⟩
end L2
namespace L2
open PySem PySem.Spec PyProof.Rows
noncomputable def isS (x:Str):Value->Bool
 | .str z _=>z==x
 | _=>false
section
variable{X:Cx}
theorem a8Q:MtR X "list.index" (fun x vs H Q=>∃(l:Addr)(ys:List Str)(w:Str)(j:Nat),x= .ref l/\vs=[.str w]/\SqL X.K H l (ys.map V.str)/\ys[j]?=some w/\(∀i,i < j->ys[i]?≠some w)/\Q (.int (j:Int)) H):=by
 intro pins s σ H x xs v us Q I rx rs h
 obtain⟨l,ys,w,j,rfl,rfl,hq,hj,hno,q⟩:=h
 cases rx
 obtain⟨u,rfl,t,rfl⟩:=a3q rs
 obtain⟨its,r',pl,hz⟩:=I.list hq
 obtain⟨⟨cls,dd,data,sl⟩,ho,hc,n,hd⟩:=pl.isList
 simp only at hc hd
 subst hc hd
 have hl:=r'.length
 rw[List.length_map]at hl hz
 have hjl:j < ys.length:=(AB.mp hj).1
 have hsl:sizeLine=16777216:=sizeLine_eq
 have at':∀m(hm:m < its.toArray.size)(y:Str),ys[m]?=some y->isS w its.toArray[m]=(y==w):=fun m hm y hy=>by
  obtain⟨u,hu,ru⟩:=r'.get (i:=m) (x:=V.str y) (by rw[AN,hy];rfl)
  obtain⟨t',rfl⟩:=ru
  have e:its.toArray[m]= .str y t':=by
   have:its[m]?=some its.toArray[m]:=by simp at hm;simp[hm]
   rw[hu]at this
   exact(Option.some.inj this).symm
  rw[e]
  rfl
 refine call_meets PySem.F.slot_list_index ⟨_,ho,rfl⟩ PySem.F.entry_list_index (PySem.F.args_list_index_2 _ _)
  (SeqAt.list_indexAt l its.toArray n dd sl (.str w t) (isS w) j (by simp;omega) (by omega) ?_ ?_) ⟨ho,fun y hy=>?_,⟨.int (j:Int),H,I.tok _,⟨_,rfl⟩,q⟩⟩
 ·rw[at' j (by simp;omega) w hj]
  exact beq_self_eq_true w
 ·intro m hm hlt
  obtain⟨y,hy⟩:∃y,ys[m]?=some y:=⟨ys[m]'(by omega),by simp⟩
  rw[at' m hm y hy]
  exact beq_eq_false_iff_ne.mpr fun z=>hno m hlt (by rw[hy,z])
 ·obtain⟨m,hm,e⟩:=Array.mem_iff_getElem.mp hy
  have hm':m < ys.length:=by simp at hm;omega
  obtain⟨u,hu,ru⟩:=r'.get (i:=m) (x:=V.str ys[m]) (by rw[AN];simp[hm'])
  have e2:its.toArray[m]=u:=by
   have:its[m]?=some its.toArray[m]:=by simp at hm;simp[hm]
   rw[hu]at this
   exact(Option.some.inj this).symm
  rw[<-e,at' m hm ys[m] (by simp[hm']),e2]
  have:=a9f (A:=X.A.in1) (s:=s) ru (show W4 (V.str w) (.str w t)from⟨t,rfl⟩) rfl rfl
  exact this
end
end L2
namespace L2
open PySem PySem.Spec PyProof.Rows
section
variable{X:Cx}
end
end L2
namespace L2
open PySem PySem.Spec PyProof.Rows
noncomputable def a2y (K:W.Frag) (C:Addr) (m qual:Str) (st:Stmt):Prop:=∃f fd,Fun K m qual st f fd/\b2p K C m f
noncomputable def b5S (K:W.Frag) (C:Addr) (qual:Str) (st:Stmt):Prop:=∃f fd,Fun K "__init__" qual st f fd/\Mk K C f
theorem F9{K:W.Frag}{C:Addr}{m qual:Str}{st:Stmt}{f:Addr}{oc:Value}{od an:Option Addr}{osl:Array (Option Value)}{kV doc pm cdv ct:Value}
  (a:W.findIn K (.ref C) m=some (some (.ref f)))(i:W.isFn K (.ref f)=true)(l:K.lookup f=some ⟨oc,od,.func (W.fnOf m qual (J7 st) (J2 st) (G4 st) .none kV doc pm an cdv ct),osl⟩)
  (c:W.codeIn K cdv qual=true)(k:W.keepIn K (.ref f)=true):a2y K C m qual st:=⟨f,_,a7r l c k,⟨a,i,k⟩⟩
theorem b3V{K:W.Frag}{C:Addr}{qual:Str}{st:Stmt}{f:Addr}{oc:Value}{od an:Option Addr}{osl:Array (Option Value)}{kV doc pm cdv ct:Value}
  (mk:W.makesIn K C=true)(a:W.findIn K (.ref C) "__init__"=some (some (.ref f)))(i:W.isFn K (.ref f)=true)(kc:W.keepIn K (.ref C)=true)(l:K.lookup f=some ⟨oc,od,.func (W.fnOf "__init__" qual (J7 st) (J2 st) (G4 st) .none kV doc pm an cdv ct),osl⟩)
  (c:W.codeIn K cdv qual=true)(k:W.keepIn K (.ref f)=true):b5S K C qual st:=⟨f,_,a7r l c k,⟨mk,a,i,kc⟩⟩
structure MCl(P:Program)(w:World)(K:W.Frag)(mg:Str->Option Value)(base:Heap)(k:Nat)(C:Addr)(m:Str)(ps:List Str)(sp:Sp):Prop where
 ex:∃f fd,a2L P w K mg base CX0 k f fd ps sp/\b2p K C m f/\a2b K fd ps []
structure ICl(P:Program)(w:World)(K:W.Frag)(mg:Str->Option Value)(base:Heap)(k:Nat)(x:Str)(C:Addr)(ps:List Str)(sp:Sp):Prop where
 ex:∃f fd,a2L P w K mg base CX0 k f fd ps sp/\Mk K C f/\mg x=some (.ref C)/\a2b K fd ps []
section
variable{P:Program}{w:World}{K:W.Frag}{mg:Str->Option Value}{base:Heap}
theorem MCl.of{C:Addr}{m qual:Str}{st:Stmt}{N ps:List Str}{k:Nat}{sp:Sp}(T:a2y K C m qual st)(S:R1 N ps (G4 st))(len:∀vs H Q E,sp vs H Q E->vs.length=ps.length)
  (hb:∀(kV doc pm:Value)(an:Option Addr)(cdv ct:Value)(us:List Value),us.length=ps.length->bindArgs (W.fnOf m qual (J7 st) (J2 st) (G4 st) .none kV doc pm an cdv ct) ⟨us,[]⟩=pure (ps.zip us))
  (hbody:∀(f:Addr)(cdv:Value)(A:Around)(outer:List Env)(s:Shared)(H:Hp)(vs:List V)(Q:VK)(E:XK),M8 k (A.deeper (envOfC qual (G4 st) s.heap.objs.size f cdv))->sp vs H Q E->
   ∃t,PSs (a5u CX0 P w K mg base N qual (G4 st) f cdv A outer s H E).nox (J2 st) t/\t {nx:=fun _ H'=>Q .non H',rt:=Q} (a2m N vs) H):MCl P w K mg base (k+1) C m ps sp:=by
 obtain⟨f,fd,F,M⟩:=T
 exact⟨f,fd,F.ok S len (fun cdv A outer s H vs Q E=>hbody f cdv A outer s H vs Q E),M,F.binds hb⟩
theorem ICl.of{x:Str}{C:Addr}{qual:Str}{st:Stmt}{N ps:List Str}{k:Nat}{sp:Sp}(T:b5S K C qual st)(hm:mg x=some (.ref C))(S:R1 N ps (G4 st))(len:∀vs H Q E,sp vs H Q E->vs.length=ps.length)
  (hb:∀(kV doc pm:Value)(an:Option Addr)(cdv ct:Value)(us:List Value),us.length=ps.length->bindArgs (W.fnOf "__init__" qual (J7 st) (J2 st) (G4 st) .none kV doc pm an cdv ct) ⟨us,[]⟩=pure (ps.zip us))
  (hbody:∀(f:Addr)(cdv:Value)(A:Around)(outer:List Env)(s:Shared)(H:Hp)(vs:List V)(Q:VK)(E:XK),M8 k (A.deeper (envOfC qual (G4 st) s.heap.objs.size f cdv))->sp vs H Q E->
   ∃t,PSs (a5u CX0 P w K mg base N qual (G4 st) f cdv A outer s H E).nox (J2 st) t/\t {nx:=fun _ H'=>Q .non H',rt:=Q} (a2m N vs) H):ICl P w K mg base (k+1) x C ps sp:=by
 obtain⟨f,fd,F,M⟩:=T
 exact⟨f,fd,F.ok S len (fun cdv A outer s H vs Q E=>hbody f cdv A outer s H vs Q E),M,hm,F.binds hb⟩
end
section
variable{X:Cx}{j k:Nat}{C:Addr}{x m:Str}{ps:List Str}{sp:Sp}{o e:Expr}{es:List Expr}{ta:TE}{t:TA}{p pos apos:Pos}
theorem a1h{pl:Sem Bool}(M:MCl X.prog X.w X.K X.mg X.base j C m ps sp)(c:Cls X.K C)(hr:M8 k X.A)(he:PE X o ta)(ha:PA X (e::es) t)(hjk:j<=k:=by decide)
  (hst:starEach (e::es) X.env=(false,eval e X.env)::starEach es X.env:=by rfl)(hpl:(backTo pos (starEach es X.env)).any (·.1)=false:=by rfl)
  (ht:eval (.Call (.Attribute o m apos) (e::es) [] pos) X.env=(do
   let ov<-eval o X.env
   standAt apos.atName
   let(f,first)<-holding [ov] (getMethod ov m pl)
   callWith pos f first (backTo pos (starEach (e::es) X.env)) (backToKw pos (keywordEach [] X.env))):=by rfl):
  PE X (.Call (.Attribute o m apos) (e::es) [] pos) (b0d C m sp [] E0 ta t):=by
 obtain⟨f,fd,F,hm,hb⟩:=M.ex
 exact b4m he c hm F (hr.mono hjk) hb .nil a7d ha hst hpl ht
theorem b4E{pl:Sem Bool}(M:MCl X.prog X.w X.K X.mg X.base j C m ps sp)(c:Cls X.K C)(hr:M8 k X.A)(he:PE X o ta)(hjk:j<=k:=by decide)
  (ht:eval (.Call (.Attribute o m apos) [] [] pos) X.env=(do
   let ov<-eval o X.env
   standAt apos.atName
   let(f,first)<-holding [ov] (getMethod ov m pl)
   callWith pos f first (backTo pos (starEach [] X.env)) (backToKw pos (keywordEach [] X.env))):=by rfl):
  PE X (.Call (.Attribute o m apos) [] [] pos) (b0d C m sp [] E0 ta a9r):=by
 obtain⟨f,fd,F,hm,hb⟩:=M.ex
 exact b1x he c hm F (hr.mono hjk) hb .nil a7d ht
theorem b6J(M:ICl X.prog X.w X.K X.mg X.base j x C ps sp)(hr:M8 k X.A)(hg:Gl X x)(ha:PA X (e::es) t)(hjk:j+1<=k:=by decide)(hdb:(x==("__debug__":Str))=false:=by decide)
  (he:starEach (e::es) X.env=(false,eval e X.env)::starEach es X.env:=by rfl)(hpl:(backTo pos (starEach es X.env)).any (·.1)=false:=by rfl):
  PE X (.Call (.Name x p) (e::es) [] pos) (b2V C sp [] E0 t):=by
 obtain⟨f,fd,F,M,hm,hb⟩:=M.ex
 exact b0a M F (hr.mono hjk) hg hm hb .nil a7d ha hdb he hpl
end
end L2
namespace L2
open PySem PySem.Spec PyProof.Rows PySem.W RV
noncomputable def Itv (K:W.Frag) (a:Addr) (n:Nat):It:=
 ⟨fun i H=>i < n/\∃xs,SqT K H a xs/\xs.length=n,fun i H x H'=>H'=H/\∀xs,SqT K H a xs->xs.length=n->xs.reverse[i]?=some x,fun i H=>n<=i⟩
theorem b2d{P:Program}{w:World}{K:W.Frag}{tg:Expr}(a it:Addr)(n:Nat):a8Z P w K tg (Itv K a n) [it] it (fun i h=>i<=n/\a1Q h it a ((n:Int) - 1 - (i:Int)))where
 mem:=by simp
 obj:=fun i h st b hb=>by
  have e:b=it:=by simpa using hb
  subst e
  obtain⟨_,o,e,c,d⟩:=st
  exact⟨o,e,fun v z=>by rw[d]at z;cases z⟩
 keep:=fun i h h' st k=>⟨st.1,st.2.move fun o e=>k it (by simp) o e⟩
 item:=by
  intro X hP hw hK hc i pins s σ H E I hf st hg
  subst hP hw hK
  obtain⟨hi,xs,hq,hn⟩:=hg
  obtain⟨its,rv,p,hz⟩:=I.tuple hq
  have hl:=rv.length
  obtain⟨x,hx⟩:∃x,xs[n - 1 - i]?=some x:=⟨xs[n - 1 - i]'(by omega),AG (by omega)⟩
  obtain⟨u,hu,ru⟩:=rv.get hx
  obtain⟨f0,f1,f2,f3,f4,f5⟩:=hf it (by simp)
  have hit:=st.2
  have e1:(n:Int) - 1 - (i:Int)=((n - 1 - i:Nat):Int):=by omega
  rw[e1]at hit
  refine b0U (its:=its.toArray) hit p (x:=u) (by simpa using hu) (by simp;omega) fun h' tk hit' same=>?_
  have I1:Inv X pins σ H {s with heap:=h',toks:=tk}:=I.turned (t':=tk) (fun b o hb e=>(same.2 b hb).trans e) f0 f1 f3 f4 f5
  have e2:((n - 1 - i:Nat):Int) - 1=(n:Int) - 1 - ((i+1:Nat):Int):=by omega
  rw[e2]at hit'
  obtain⟨o,e,c,d⟩:=id hit'
  refine⟨u,rfl,a8u (s:={s with heap:=h',toks:=tk}) e c d (by decide) ⟨x,H,I1,ru,⟨rfl,fun ys hy _=>?_⟩,⟨hi,hit'⟩,fun b hb=>(hf b hb).1⟩⟩
  rw[I.tuple_inj hy hq,List.getElem?_reverse (by omega),hn]
  exact hx
 done:=by
  intro X hP hw hK hc i pins s σ H E I hf st hg
  subst hP hw hK
  obtain⟨f0,f1,f2,f3,f4,f5⟩:=hf it (by simp)
  have hit:=st.2
  have hin:n<=i:=hg
  have e1:(n:Int) - 1 - (i:Int)= -1:=by have:=st.1;omega
  rw[e1]at hit
  exact b1A (I.ok.hd hc) hit fun h' tk eb=>⟨rfl,I.turned (t':=tk) (fun b o hb e=>eb b o hb e) f0 f1 f3 f4 f5⟩
 self:=fun _ _ _ _ _ st h=>a6N st.2 h
noncomputable def b7p (K:W.Frag) (te:TE):TI:=fun σ H R=>te σ H fun x H1=>∃a xs,x= .ref a/\SqT K H1 a xs/\R (Itv K a xs.length) H1
theorem b5f{X:Cx}{tg e:Expr}{te:TE}{p2 pos2:Pos}(gR:Gl X "reversed")(mR:X.mg "reversed"=none)(he:PE X e te)(hs:starEach [e] X.env=[(false,eval e X.env)]:=by rfl):PI X tg (.Call (.Name "reversed" p2) [e] [] pos2) (b7p X.K te):=by
 intro pins s σ H R I h
 refine b5L he gR mR hs I h (fun x H1 s1 a xs its tk I1 q1 ex hv htup hz ht=>?_) fun x H1 q=>by obtain⟨a,xs,e1,e2,_⟩:=q;exact⟨a,xs,e1,e2⟩
 obtain⟨a',ys,e1,e2,q⟩:=q1
 have ea:a=a':=V.ref.inj (ex.symm.trans e1)
 subst ea
 have exy:=I1.tuple_inj ht e2
 subst exy
 have hl:=hv.length
 have st:a1Q (s1.heap.push (b1i a ((its.toArray.size:Int) - 1))) s1.heap.objs.size a ((its.toArray.size:Int) - 1):=⟨_,AS _ rfl,rfl,by simp[b1i]⟩
 refine a6N (s:={s1 with heap:=s1.heap.push (b1i a ((its.toArray.size:Int) - 1)),toks:=tk}) st ?_
 refine⟨s1.heap.objs.size,[s1.heap.objs.size],_,_,H1,rfl,I1.kept (t':=tk) fun b o e=>AH _ e,b2d a _ xs.length,⟨AZ _,?_⟩,fun b hb=>?_,q⟩
 ·have e3:(xs.length:Int) - 1 - ((0:Nat):Int)=(its.toArray.size:Int) - 1:=by simp;omega
  rw[e3]
  exact st
 ·have e:b=s1.heap.objs.size:=by simpa using hb
  subst e
  exact I1.fpOk (AE _) (I1.hok.fresh (AE _))
theorem b3k{K:W.Frag}{a:Addr}{xs:List V}{g:TG}{tb:TS}{D:a1F}{σ:St}{H:Hp}(Pv:Nat->St->Hp->Prop)(h0:Pv 0 σ H)(hl:∀i σ H,i<=xs.length->Pv i σ H->SqT K H a xs)
  (hs:∀i x σ H,xs.reverse[i]?=some x->Pv i σ H->g x σ H fun σ2 H2=>tb {D with nx:=Pv (i+1),ct:=Pv (i+1),bk:=D.nx} σ2 H2)(hd:∀σ H,Pv xs.length σ H->D.nx σ H):
  ∃W:Nat->Nat->St->Hp->Prop,(∃m,W 0 m σ H)/\∀i m σ H,W i m σ H->
   ((Itv K a xs.length).stop i H/\D.nx σ H)\/((Itv K a xs.length).go i H/\∃N:St->Hp->Prop,(∀σ' H',N σ' H'->∃m',m' < m/\W (i+1) m' σ' H')/\∀x H',(Itv K a xs.length).yld i H x H'->g x σ H' fun σ2 H2=>tb {D with nx:=N,ct:=N,bk:=D.nx} σ2 H2):=by
 refine⟨fun i m σ H=>m=xs.length - i/\i<=xs.length/\Pv i σ H,⟨xs.length,by simp,AZ _,h0⟩,?_⟩
 rintro i m σ H ⟨rfl,hi,p⟩
 have q:=hl i σ H hi p
 by_cases hlt:i < xs.length
 ·refine .inr ⟨⟨hlt,xs,q,rfl⟩,Pv (i+1),fun σ' H' p'=>⟨xs.length - (i+1),by omega,rfl,hlt,p'⟩,fun x H' y=>?_⟩
  obtain⟨e,y⟩:=y
  subst e
  exact hs i x σ _ (y xs q rfl) p
 ·have e:i=xs.length:=by omega
  subst e
  exact .inl ⟨AE _,hd σ H p⟩
end L2
namespace L2
open PySem PySem.Spec PyProof.Rows
structure GA where
 w:Addr
 n:Addr
 b:Addr
 l:Addr
 gv:Addr
 wt:Addr
 tr:Addr
noncomputable def gF (A:GA) (tk:Int) (ft:V):List (Str×V):=[("walk",.ref A.w),("numbers",.ref A.n),("taken",.int tk),("begun",.ref A.b),("loaded",.ref A.l),("given",.ref A.gv),("waiting",.ref A.wt),("trace",.ref A.tr),("fault",ft)]
section
variable{A:GA}{tk:Int}{ft:V}{rd md:Addr}
theorem a2t:(gF A tk ft).lookup ("walk":Str)=some (.ref A.w):=by kernel_rfl
theorem a5M:(gF A tk ft).lookup ("numbers":Str)=some (.ref A.n):=by kernel_rfl
theorem a6c:(gF A tk ft).lookup ("taken":Str)=some (.int tk):=by kernel_rfl
theorem a8a:(gF A tk ft).lookup ("begun":Str)=some (.ref A.b):=by kernel_rfl
theorem a7a:(gF A tk ft).lookup ("loaded":Str)=some (.ref A.l):=by kernel_rfl
theorem a1Z:(gF A tk ft).lookup ("given":Str)=some (.ref A.gv):=by kernel_rfl
theorem a3v:(gF A tk ft).lookup ("waiting":Str)=some (.ref A.wt):=by kernel_rfl
theorem a3P:(gF A tk ft).lookup ("trace":Str)=some (.ref A.tr):=by kernel_rfl
theorem a8V:(gF A tk ft).lookup ("fault":Str)=some ft:=by kernel_rfl
theorem a7A:(gF A tk ft).lookup ("load":Str)=none:=by kernel_rfl
theorem a5V:(gF A tk ft).lookup ("begin":Str)=none:=by kernel_rfl
theorem b2R:(gF A tk ft).lookup ("go_on":Str)=none:=by kernel_rfl
theorem b1f:(gF A tk ft).lookup ("do_row":Str)=none:=by kernel_rfl
theorem b0S:(gF A tk ft).lookup ("is_off":Str)=none:=by kernel_rfl
theorem a6i:(gF A tk ft).lookup ("early_word":Str)=none:=by kernel_rfl
theorem a8e:(gF A tk ft).lookup ("enter":Str)=none:=by kernel_rfl
theorem a9F:(gF A tk ft).lookup ("do_work":Str)=none:=by kernel_rfl
theorem b0u:(gF A tk ft).lookup ("give":Str)=none:=by kernel_rfl
theorem a7N:(gF A tk ft).lookup ("next_told":Str)=none:=by kernel_rfl
theorem a3c:(gF A tk ft).lookup ("value_of":Str)=none:=by kernel_rfl
theorem a5i:(gF A tk ft).lookup ("thing_value":Str)=none:=by kernel_rfl
theorem b1o(v:Int):U0 "taken" (.int v) (gF A tk ft)=gF A v ft:=by kernel_rfl
theorem a7c(v:V):U0 "fault" v (gF A tk ft)=gF A tk v:=by kernel_rfl
theorem a9o:(gF A tk ft).length < 1000:=by show 9 < 1000;decide
end
noncomputable abbrev Wx:=Str×Nat×Rw
noncomputable abbrev Dd:=Str×Int×Str×Nat
noncomputable abbrev Ft:=Str×Str×Nat×Int
section
variable{CP CG:Addr}{H:Hp}{g:Addr}{A:GA}{N:Nt}{ns:List Int}{S:GS}
end
noncomputable def ivl:Option V->Int
 | some (.int i)=>i
 | _=>0
noncomputable def rdR:Rw->List (Int×Str)
 | .set _ ts=>U4 3 ts
 | .need ts=>U4 1 ts
 | .say ts none=>U4 1 ts
 | .say ts (some x)=>(2*(ts.length:Int)+1,x)::U4 1 ts
 | .ask _ (some x)=> [(3,x)]
 | _=> []
noncomputable def sgR:Rw->List (Int×Th)
 | .set _ ts=>ts
 | .need ts=>ts
 | .say ts _=>ts
 | _=> []
end L2
namespace L2
open PySem PySem.Spec PyProof.Rows
end L2
namespace L2
open PySem
end L2
namespace L2
open PySem PySem.Spec PyProof.Rows
section
variable{X:Cx}
end
end L2
namespace L2
open PySem PySem.Spec PyProof.Rows
section
variable{X:Cx}
theorem a3L:∀{us:List Value}{ns:List Int},IntsAre us ns->W0 (ns.map V.int) us
 | _,_,.nil=> .nil
 | _,_,.cons _ _ h=> .cons ⟨_,rfl⟩ (a3L h)
end
end L2
namespace L2
open PySem PySem.Spec PyProof.Rows
section
variable{prog:Program}{w:World}{A:Around}{E:Value->Shared->Prop}{s:Shared}
end
section
variable{X:Cx}
end
end L2
namespace L2
open PySem PySem.Spec PyProof.Rows
theorem a9N(l b:Addr)(items:Array Value)(n:Nat)(items2:Array Value)(hlong:¬(!items.isEmpty && Builtin.List.listTooLong (items.size+items2.size))=true)(h1:items.size<=sizeLine)(h2:items.size+items2.size<=sizeLine):
  Meets (Builtin.«list.extend» ⟨[.ref l,.ref b],[]⟩) (fun _ R s=>s.heap.get? l=some {cls:= .type "list",dict:=none,data:= .seq items n,slots:= #[]}/\(∃o n2,s.heap.get? b=some o/\o.cls= .type "tuple"/\o.data= .seq items2 n2)/\
   R (.ok (.ret Value.none)) {s with heap:=s.heap.update l (Obj.mapSeq fun x=>x++items2)}):=
 .of_wp fun prog w A R s h=>by
  obtain⟨hl,⟨o,n2,ho,hc,hd⟩,q⟩:=h
  show wpAny _ _ (Builtin.List.listExtendWith (.ref l) (.ref b) .none) _ _ s
  unfold Builtin.List.listExtendWith
  apply AA
  refine wpAny_typeOf (T:="tuple") ⟨o,ho,hc⟩ ?_
  rw[if_pos (by simp)]
  apply AA
  refine listItems_at ho hd ?_
  apply AA
  refine listItems_at hl rfl ?_
  rw[if_neg hlong]
  apply AA
  refine listUpdate_at hl rfl ?_ h1 (by rw[Array.size_append];omega)
  exact AJ ⟨_,rfl,q⟩
section
variable{X:Cx}
noncomputable def b2Z (K:W.Frag):V->List V->Hp->VK->Prop:=fun x vs H Q=>∃l b xs zs,x= .ref l/\vs=[.ref b]/\H l=some (.lst xs)/\SqT K H b zs/\xs.length+zs.length<=sizeLine/\Q .non (upd H l (.lst (xs++zs)))
theorem a9q:MtM X "list.extend" (b2Z X.K):=by
 intro pins s σ H x vs v us Q I rx rv h
 obtain⟨l,b,xs,zs,rfl,rfl,hH,hB,hz,q⟩:=h
 cases rx
 obtain⟨u,rfl,ru⟩:=rv.one
 cases ru
 obtain⟨z,its,n,r,hl,e⟩:=I.lstM hH
 obtain⟨its2,r2,⟨o,ho,hc,n2,hd⟩,z2⟩:=I.tuple hB
 have l1:=r.length
 have l2:=r2.length
 have hsz:its.toArray.size+its2.toArray.size<=sizeLine:=by rw[List.size_toArray,List.size_toArray];omega
 have hlong:¬(!its.toArray.isEmpty && Builtin.List.listTooLong (its.toArray.size+its2.toArray.size))=true:=by
  rw[a8U hsz,Bool.and_false]
  exact AD
 refine call_meets PySem.F.slot_list_extend ⟨_,e,rfl⟩ PySem.F.entry_list_extend (PySem.F.args_list_extend_2 _ _) (a9N l b its.toArray n its2.toArray hlong (by rw[List.size_toArray];omega) hsz) ⟨e,⟨o,n2,ho,hc,hd⟩,?_⟩
 refine⟨.non,_,I.lset (its':=its++its2) hH e (by simp) (r.append r2) ?_,rfl,q⟩
 rw[List.length_append]
 omega
end
end L2
namespace L2
open PySem PySem.Spec PyProof.Rows PySem.W RG
open AutoSeq1 (wpAny_loadPart')
section
variable{prog:Program}{w:World}{A:Around}{E:Value->Shared->Prop}{s:Shared}
end
section
variable{X:Cx}{e:Expr}{te:TE}{pos pos3 p p3:Pos}
end
end L2
namespace L2
open PySem PySem.Spec PyProof.Rows PySem.W
section
variable{X:Cx}{e:Expr}{te:TE}{pos pos3 p p3:Pos}
end
end L2
namespace L2
open PySem PySem.Spec PyProof.Rows PySem.W
section
variable{prog:Program}{w:World}{A:Around}{R:Result->Shared->Prop}{it best:Addr}{fp wr:List Addr}{n:Nat}{P:Nat->Value->Prop}{St:Nat->Heap->Prop}
end
section
variable{X:Cx}
end
end L2
namespace L2
open PySem PySem.Spec PyProof.Rows
section
variable{X:Cx}
theorem a7F:a1b X (.builtin "sorted") (fun xs H Q=>∃(p:Addr)(ns ms:List Int),xs=[.ref p]/\SqL X.K H p (ns.map V.int)/\ns.length < 64/\ns.Perm ms/\ms.Pairwise (· <= ·)/\∀l,H l=none->Q (.ref l) (upd H l (.lst (ms.map V.int)))):=by
 intro pins s σ H xs us Q I r h
 obtain⟨p,ns,ms,rfl,hq,h64,hp,hs,q⟩:=h
 obtain⟨u,rfl,rx⟩:=a3q r
 cases rx
 obtain⟨its,r',pl,hz⟩:=I.list hq
 have hi:=a5O r'
 have hlen:=r'.length
 have hpl:=hp.length_eq
 rw[List.length_map]at hlen hz
 refine sorted_ints pl.isList hi (by omega) fun out ns' a1 a2 a3=>?_
 have e:ns'=ms:=W.ksm_same (a2.trans hp) a3 hs
 subst e
 obtain⟨ep,he⟩:=sortedAll_at s.heap its out
 have hob:Z6 X.prog X.w (upd H (s.heap.objs.size+1) (.lst (ns'.map V.int))) (sortedAll s.heap its out) (s.heap.objs.size+1) (.lst (ns'.map V.int)):=⟨by rw[List.length_map];omega,out.toList,ep,a3L a1,by rw[he,Array.toArray_toList]⟩
 exact⟨.ref (s.heap.objs.size+1),_,I.laid (t':=s.toks) (fun b o hb=>sortedAll_old hb) (Nat.le_succ _) hob,rfl,q _ (I.hok.fresh (Nat.le_succ _))⟩
end
end L2
namespace L2
open PySem PySem.Spec PyProof.Rows
end L2
namespace L2
open PySem PySem.Spec PyProof.Rows
theorem b3I{α:Type}[DecidableEq α]{d d':List α}(h:d.length=d'.length):((List.range d.length).all fun j=>decide (d[j]?=d'[j]?))=decide (d=d'):=by
 rw[Bool.eq_iff_iff]
 simp only[List.all_eq_true,List.mem_range,decide_eq_true_eq]
 refine⟨fun z=>List.ext_getElem? fun i=>?_,fun z=>by rw[z];simp⟩
 rcases Nat.lt_or_ge i d.length with c | c
 ·exact z i c
 ·rw[List.getElem?_eq_none c,List.getElem?_eq_none (by omega)]
theorem b1u{α:Type}[DecidableEq α]{d d':List α}:(((List.range (min d.length d'.length)).all fun j=>decide (d[j]?=d'[j]?)) && d.length==d'.length)=decide (d=d'):=by
 by_cases h:d.length=d'.length
 ·rw[<-h,Nat.min_self,b3I h]
  simp
 ·have:¬d=d':=fun z=>h (by rw[z])
  simp[h,this]
theorem a5Y{xs:List V}{its:List Value}(r:W0 xs its){j:Nat}{x:V}(h:xs[j]?=some x)(hj:j < its.toArray.size):W4 x its.toArray[j]:=by
 obtain⟨w1,g1,rw1⟩:=r.get h
 have:its[j]?=some its.toArray[j]:=by simp at hj;simp[hj]
 rw[g1]at this
 rw[<-Option.some.inj this]
 exact rw1
theorem b3G{t:Addr}{w:Value}(h:W4 (.ref t) w):w= .ref t:=by cases h;rfl
end L2
namespace L2
open PySem PySem.Spec PyProof.Rows
theorem a9W(f:Nat->Int):∀k,argBest (fun i j=>decide (f i > f j)) k<=k/\∀i,i<=k->f i<=f (argBest (fun i j=>decide (f i > f j)) k)
 | 0=>⟨AE _,fun i hi=>by rw[Nat.le_zero.mp hi];exact Int.le_refl _⟩
 | k+1=>by
  obtain⟨h1,h2⟩:=a9W f k
  show(if decide (f (k+1) > f (argBest (fun i j=>decide (f i > f j)) k))then k+1 else argBest (fun i j=>decide (f i > f j)) k)<=k+1/\∀i,i<=k+1->f i<=f (if decide (f (k+1) > f (argBest (fun i j=>decide (f i > f j)) k))then k+1 else argBest (fun i j=>decide (f i > f j)) k)
  by_cases hl:f (k+1) > f (argBest (fun i j=>decide (f i > f j)) k)
  ·rw[if_pos (decide_eq_true hl)]
   refine⟨AE _,fun i hi=>?_⟩
   by_cases z:i=k+1
   ·rw[z];exact Int.le_refl _
   ·exact Int.le_trans (h2 i (by omega)) (Int.le_of_lt hl)
  ·rw[if_neg (by simpa using hl)]
   refine⟨by omega,fun i hi=>?_⟩
   by_cases z:i=k+1
   ·rw[z];exact Int.not_lt.mp hl
   ·exact h2 i (by omega)
theorem a4x{X:Cx}(hc:X.calm=true):a1b X (.builtin "max") (fun xs H Q=>∃(p:Addr)(ns:List Int),xs=[.ref p]/\SqL X.K H p (ns.map V.int)/\ns≠[]/\∀m:Int,m∈ns->(∀n∈ns,n<=m)->Q (.int m) H):=by
 intro pins s σ H xs us Q I r h
 obtain⟨p,ns,rfl,hq,hne,q⟩:=h
 obtain⟨u,rfl,ru⟩:=a3q r
 cases ru
 obtain⟨its,r',pl,hz⟩:=I.list hq
 have hi:=a5O r'
 obtain⟨ys,hx⟩:=hi.allInts.items
 have hl':s.heap.IsList p (intItems ys):=hx▸pl.isList
 have e1:ns=ys.toList.map (·.1):=by
  rw[<-nums_intItems,<-hx]
  exact(show numsOf its.toArray.toList=ns from hi.numsOf).symm
 have hsz:ys.size=ns.length:=by rw[e1];simp
 have hpos:0 < ns.length:=List.length_pos_iff.mpr hne
 have hat:∀i,i < ns.length->ns[i]?=some (numAt ys i):=fun i hi=>by
  have h2:i < ys.size:=by omega
  rw[e1]
  simp[numAt,h2]
 obtain⟨b1,b2⟩:=a9W (numAt ys) (ys.size - 1)
 refine max_intList (I.ok.hd hc) hl' (by omega) fun v h' tk hv hk=>?_
 generalize argBest (fun i j=>decide (numAt ys i > numAt ys j)) (ys.size - 1)=k at hv b1 b2
 have hkl:k < ns.length:=by omega
 have ev:∃t,v= .int (numAt ys k) t:=by
  have hks:k < ys.size:=by omega
  unfold intItems at hv
  simp[hks]at hv
  exact⟨_,by rw[<-hv];simp[numAt,hks];rfl⟩
 obtain⟨t,rfl⟩:=ev
 refine⟨.int _,H,I.kept hk,⟨_,rfl⟩,q _ (AF (hat k hkl)) fun n hn=>?_⟩
 obtain⟨i,hi'⟩:=BB hn
 have hil:=(AB.mp hi').1
 rw[hat i hil]at hi'
 rw[<-Option.some.inj hi']
 exact b2 i (by omega)
end L2
namespace XC
open PySem
noncomputable abbrev b7y (l:List Env):List Addr:=l.filterMap (·.frame)
section
variable{M:Model}{A:Around}{E:Value->Shared->Prop}{s:Shared}
end
end XC
namespace L2
open PySem PySem.Spec PyProof.Rows XC
section
variable{P:Program}{w:World}{K:W.Frag}{mg:Str->Option Value}{base:Heap}{N:List Str}{qual:Str}{scope:Scope}{f:Addr}{cd:Value}{A:Around}{outer:List Env}{s:Shared}{H:Hp}{E:XK}{pins:List (Addr×Obj)}{σ:St}{H':Hp}{s':Shared}
end
end L2
namespace L2
open PySem PySem.Spec PyProof.Rows XC
section
variable{X:Cx}{pins:List (Addr×Obj)}{σ:St}{H H':Hp}{s:Shared}{h':Heap}{a:Addr}{ts:List Addr}
end
noncomputable abbrev Cx.hand (X:Cx) (a:Addr):Cx:={X with A:=X.A.mark (some (.ref a)),calm:=false,xe:=fun _ _=>False}
section
variable{X:Cx}{pins:List (Addr×Obj)}{σ:St}{H:Hp}{s:Shared}{a:Addr}
end
section
variable{X:Cx}{j k:Nat}{f:Str}{ps:List Str}{sp:Sp}{e:Expr}{es:List Expr}{ta:TA}{p pos cpos:Pos}
end
section
variable{X:Cx}{body:List Stmt}{tb:XK->TS}{x n:Str}{B:Addr}{i:Nat}{b0:Stmt}{suite:List Stmt}{th:Addr->TS}{np hp pos:Pos}
end
noncomputable abbrev bmV:List Value:=[.type "ValueError",.type "Exception",.type "BaseException",.type "object"]
section
variable{P:Program}{w:World}{K:W.Frag}{mg:Str->Option Value}{base:Heap}{N:List Str}{qual:Str}{scope:Scope}{f:Addr}{cd:Value}{A:Around}{outer:List Env}{s:Shared}{H:Hp}{E:XK}
end
end L2
namespace L2
open PySem PySem.Spec PyProof.Rows XC
section
variable{prog:Program}{w:World}{A:Around}{E:Value->Shared->Prop}{s:Shared}{K:W.Frag}{x C:Addr}{ox:Obj}{od:Option Obj}
end
end L2
namespace L2
open PySem PySem.Spec PyProof.Rows XC
section
variable{prog:Program}{w:World}{A:Around}{E:Value->Shared->Prop}{s:Shared}{K:W.Frag}{x C:Addr}{o:Obj}{vs:Array Value}{f:Str}{v:Value}
end
section
variable{prog:Program}{w:World}{A:Around}{E:Value->Shared->Prop}{h:Heap}{g:Array GenState}{d:Drawn}{t:Nat}{os:OsState}
variable{nm q:Str}{C N e:Addr}{bs bm:List Value}{hdct:Bool}{sn:List Str}{sub:List Value}{ab:Bool}{col:Option Bool}{dd:Option Addr}{k0 k1 k2 k3 k5:Option Value}{oe:Obj}{vs:Array Value}{v:Value}
end
section
variable{prog:Program}{w:World}{A:Around}{E:Value->Shared->Prop}{h:Heap}{g:Array GenState}{d:Drawn}{t:Nat}{os:OsState}
variable{nm q:Str}{C N fI:Addr}{bs bm:List Value}{hdct:Bool}{sn:List Str}{sub:List Value}{ab:Bool}{col:Option Bool}{dd:Option Addr}{k0 k1 k2 k3 k5:Option Value}{oI:Obj}{rest:List Value}
end
end L2
namespace L2
open PySem PySem.Spec PyProof.Rows XC
section
variable{X:Cx}{b:Str}{B:Addr}{bp apos pos spos:Pos}{e1 e2:Expr}{ta:TA}
end
section
variable{X:Cx}{o value:Expr}{f:Str}{ta tv:TE}{pos pos':Pos}
end
end L2
namespace L2
open PySem PySem.Spec PyProof.Rows XC
section
variable{P:Program}{w:World}{K:W.Frag}{mg:Str->Option Value}{base:Heap}{N:List Str}{qual:Str}{scope:Scope}{f:Addr}{cd:Value}{A:Around}{outer:List Env}{s:Shared}{H:Hp}{E:XK}
end
end L2
namespace XC
open PySem
section
variable{M:Model}{A:Around}{E:Value->Shared->Prop}{s:Shared}
end
end XC
namespace L2
open PySem PySem.Spec PyProof.Rows XC
section
variable{P:Program}{w:World}{K:W.Frag}{mg:Str->Option Value}{base:Heap}{N:List Str}{qual:Str}{scope:Scope}{f:Addr}{cd:Value}{A:Around}{outer:List Env}{s:Shared}{H:Hp}{E:XK}{pins:List (Addr×Obj)}{σ:St}{H':Hp}{s':Shared}
end
section
variable{X:Cx}{tg elt iter:Expr}{ifs:List Expr}{sc:Scope}{pos:Pos}{M:List Str}{ρ:List (Option Nat)}{wi:TI}{g:TG}{tt:TT}{te:TE}
end
section
variable{P:Program}{w:World}{K:W.Frag}{mg:Str->Option Value}{base:Heap}{N':List Str}{qual:Str}{scope:Scope}{f:Addr}{cd:Value}{A:Around}{outer:List Env}{s0:Shared}{H0:Hp}{E:XK}
variable{tg elt iter:Expr}{ifs:List Expr}{sc:Scope}{pos:Pos}{M:List Str}{ρ:List (Option Nat)}{wi:TI}{g:TG}{tt:TT}{te:TE}
end
end L2
namespace L2
open PySem XC
section
variable{P:Program}{w:World}{K:W.Frag}{mg:Str->Option Value}{base:Heap}{N':List Str}{qual:Str}{scope:Scope}{f:Addr}{cd:Value}{A:Around}{outer:List Env}{s0:Shared}{H0:Hp}{E:XK}
variable{tg elt iter:Expr}{ifs:List Expr}{sc:Scope}{pos:Pos}{M:List Str}{ρ:List (Option Nat)}{wi:TI}{g:TG}{tt:TT}{te:TE}
end
end L2
namespace L2
open PySem PySem.Spec PyProof.Rows
section
variable{X:Cx}
end
end L2
namespace L2
open PySem PySem.Spec PyProof.Rows
section
variable{X:Cx}{C:Addr}{x:Str}{p pos:Pos}
end
end L2
namespace L2
open PySem PySem.Spec PyProof.Rows PySem.W
section
variable{prog:Program}{w:World}{KT:Type}[DecidableEq KT]{knd:KeyKind prog w KT}{A:Around}{E:Value->Shared->Prop}{s:Shared}{r d:Addr}{kvs:List (KT×Value)}{ep:Nat}
end
section
variable{X:Cx}{o:Expr}{to:TE}{apos cpos:Pos}
end
end L2
namespace L2
open PySem PySem.Spec PyProof.Rows PySem.W
section
variable{X:Cx}{o:Expr}{to:TE}{apos cpos:Pos}{elts:List Expr}{k:Nat}{tpos:Pos}
end
section
variable{X:Cx}{o e f:Expr}{apos cpos:Pos}{td ty tx:TE}
end
end L2
namespace L2
open PySem PySem.Spec PyProof.Rows
noncomputable def b4B (K:W.Frag) (C:Addr) (qual:Str) (st:Stmt) (dv:Value):Prop:=∃f D oc od kV doc pm an cdv ct osl oc2 od2 n2 sl2,K.lookup f=some ⟨oc,od,.func (W.fnOf "__init__" qual (J7 st) (J2 st) (G4 st) (.ref D) kV doc pm an cdv ct),osl⟩/\W.codeIn K cdv qual=true/\W.keepIn K (.ref f)=true/\Mk K C f/\K.lookup D=some ⟨oc2,od2,.seq #[dv] n2,sl2⟩
structure a9T(P:Program)(w:World)(K:W.Frag)(mg:Str->Option Value)(base:Heap)(k:Nat)(x:Str)(C:Addr)(ps:List Str)(dvs:List V)(sp:Sp):Prop where
 ex:∃f fd ds,a2L P w K mg base CX0 k f fd ps sp/\Mk K C f/\mg x=some (.ref C)/\a2b K fd ps ds/\W0 dvs ds
section
variable{P:Program}{w:World}{K:W.Frag}{mg:Str->Option Value}{base:Heap}
theorem a9T.of{x:Str}{C:Addr}{qual:Str}{st:Stmt}{N ps:List Str}{k:Nat}{sp:Sp}{dv:Value}{ds:List Value}{dvs:List V}(T:b4B K C qual st dv)(hm:mg x=some (.ref C))(S:R1 N ps (G4 st))(len:∀vs H Q E,sp vs H Q E->vs.length=ps.length)(hds:W0 dvs ds)
  (hb:∀(D:Addr)(kV doc pm:Value)(an:Option Addr)(cdv ct:Value)(us:List Value),(us++ds).length=ps.length->∃k:Option (Array Value)->Sem (List (Str×Value)),bindArgs (W.fnOf "__init__" qual (J7 st) (J2 st) (G4 st) (.ref D) kV doc pm an cdv ct) ⟨us,[]⟩=seqItems? (.ref D) >>= k/\k (some #[dv])=pure (ps.zip (us++ds)))
  (hbody:∀(f:Addr)(cdv:Value)(A:Around)(outer:List Env)(s:Shared)(H:Hp)(vs:List V)(Q:VK)(E:XK),M8 k (A.deeper (envOfC qual (G4 st) s.heap.objs.size f cdv))->sp vs H Q E->
   ∃t,PSs (a5u CX0 P w K mg base N qual (G4 st) f cdv A outer s H E).nox (J2 st) t/\t {nx:=fun _ H'=>Q .non H',rt:=Q} (a2m N vs) H):a9T P w K mg base (k+1) x C ps dvs sp:=by
 obtain⟨f,D,oc,od,kV,doc,pm,an,cdv,ct,osl,oc2,od2,n2,sl2,lk,hcd,hk,M,hD⟩:=T
 refine⟨f,_,ds,b1W lk hcd S len fun A outer s H vs Q E hr hsp=>?_,M,hm,fun s us X hl=>?_,hds⟩
 ·obtain⟨t,h,q⟩:=hbody f cdv A outer s H vs Q E hr hsp
  exact⟨t,h.nox,q⟩
 ·obtain⟨k,e1,e2⟩:=hb D kV doc pm an cdv ct us hl
  exact BindsTo.of_defaults rfl (X _ _ hD) rfl e1 e2
end
section
variable{X:Cx}{j k:Nat}{C:Addr}{x:Str}{ps:List Str}{sp:Sp}{e:Expr}{es:List Expr}{t:TA}{p pos:Pos}{dvs:List V}
theorem a9C(M:a9T X.prog X.w X.K X.mg X.base j x C ps dvs sp)(hr:M8 k X.A)(hg:Gl X x)(ha:PA X (e::es) t)(hjk:j+1<=k:=by decide)(hdb:(x==("__debug__":Str))=false:=by decide)
  (he:starEach (e::es) X.env=(false,eval e X.env)::starEach es X.env:=by rfl)(hpl:(backTo pos (starEach es X.env)).any (·.1)=false:=by rfl):
  PE X (.Call (.Name x p) (e::es) [] pos) (b2V C sp dvs E0 t):=by
 obtain⟨f,fd,ds,F,M,hm,hb,hd⟩:=M.ex
 exact b0a M F (hr.mono hjk) hg hm hb hd a7d ha hdb he hpl
end
noncomputable def b5w (te:TE):TI:=fun σ H R=>te σ H fun x H1=>∃d kvs,x= .ref d/\Rd H1 d (.dK kvs)/\∀(o:Obj)(Hf:Hp),(∀a u,a≠d->H1 a=some u->Hf a=some u)->Hf d=some (.frz o (.dK kvs))->(∀a,Hf a=none->H1 a=none)->R (ItD d o (.dK kvs) (a3r kvs)) Hf
theorem b1Y{X:Cx}{tg l:Expr}{i:Nat}(hl:PE X l (a9z i)):PI X tg l (b5w (a9z i)):=by
 have h:=b1v (tg:=tg) hl
 intro pins s σ H R I hh
 refine h pins s σ H R I ?_
 obtain⟨v,hv,d,kvs,rfl,hrd,k⟩:=hh
 refine⟨_,hv,d,kvs,rfl,?_⟩
 rcases hrd with h | ⟨o,h⟩
 ·refine .inl ⟨h,fun o=>k o _ (fun a u ha e=>by rw[G7 ha];exact e) G1 fun a ha=>?_⟩
  by_cases z:a=d
  ·subst z;rw[G1]at ha;cases ha
  ·rw[G7 z]at ha;exact ha
 ·exact .inr ⟨o,h,k o H (fun _ _ _ e=>e) h fun _ e=>e⟩
end L2
namespace L2
open PySem PySem.Spec PyProof.Rows
noncomputable def siV:V->Bool
 | .int _=>true
 | .str _=>true
 | _=>false
theorem a8i{v:V}(h:siV v=true):a3b v=true:=by cases v<;>first | rfl | cases h
theorem b5r{x y:V}(hx:siV x=true)(hy:siV y=true):eqV x y=decide (x=y):=by
 cases x<;>first | cases hx | skip
 ·cases y<;>first | cases hy | skip
  ·rename_i a b
   show(a==b)=_
   rw[Bool.eq_iff_iff];simp
  ·show false=_
   rw[Bool.eq_iff_iff];simp
 ·cases y<;>first | cases hy | skip
  ·show false=_
   rw[Bool.eq_iff_iff];simp
  ·rename_i a b
   show(a==b)=_
   rw[Bool.eq_iff_iff];simp
noncomputable def TSI (H:Hp) (v:V) (d:List V):Prop:=∃t,v= .ref t/\H t=some (.tup d)/\d.all siV=true
theorem TSI.inj{H:Hp}{v:V}{a b:List V}(h:TSI H v a)(g:TSI H v b):a=b:=by
 obtain⟨t,rfl,h1,_⟩:=h
 obtain⟨t',e,h2,_⟩:=g
 cases e
 rw[h1]at h2
 exact HO.tup.inj (Option.some.inj h2)
theorem b5P{X:Cx}{pins:List (Addr×Obj)}{s:Shared}{σ:St}{H:Hp}{A:Around}{t t':Addr}{d d':List V}(I:Inv X pins σ H s)(hu:A.units < cLine)(h:H t=some (.tup d))(h':H t'=some (.tup d'))(f:d.all siV=true)(f':d'.all siV=true):SeqAt.EqAt A s (.ref t) (.ref t') (decide (d=d')):=by
 by_cases ett:t=t'
 ·subst ett
  rw[h]at h'
  have e:d=d':=HO.tup.inj (Option.some.inj h')
  rw[decide_eq_true e]
  exact SeqAt.EqAt.same _
 ·obtain⟨js,q1,pt1,_⟩:=I.tuple (SqT.of h)
  obtain⟨js2,q2,pt2,_⟩:=I.tuple (SqT.of h')
  have m1:=q1.length
  have m2:=q2.length
  have R:=SeqAt.RcAt.tuples (A:=A) (e:=fun j=>decide (d[j]?=d'[j]?)) (show s.heap.IsTuple t js.toArray from pt1) (show s.heap.IsTuple t' js2.toArray from pt2) hu fun j j1 j2=>by
   have k1:j < d.length:=by simp at j1;omega
   have k2:j < d'.length:=by simp at j2;omega
   have r1:=a5Y q1 (x:=d[j]) (AG k1) j1
   have r2:=a5Y q2 (x:=d'[j]) (AG k2) j2
   have g1:=List.all_eq_true.mp f _ (List.getElem_mem k1)
   have g2:=List.all_eq_true.mp f' _ (List.getElem_mem k2)
   have:=a9f (A:=A.in1) (s:=s) r1 r2 (a8i g1) (a8i g2)
   have e:eqV d[j] d'[j]=decide (d[j]?=d'[j]?):=by
    rw[AG k1,AG k2,b5r g1 g2,Bool.eq_iff_iff]
    simp
   rw[e]at this
   exact this
  have e1:js.toArray.size=d.length:=by simp;omega
  have e2:js2.toArray.size=d'.length:=by simp;omega
  rw[e1,e2,b1u]at R
  exact SeqAt.EqAt.of_refs ett R
open Classical in
noncomputable def isT (H:Hp) (d:List V) (u:Value):Bool:=decide (∃b,u= .ref b/\TSI H (.ref b) d)
open Classical in
theorem b4J{H:Hp}{d:List V}{u:Value}(h:∃b,u= .ref b/\TSI H (.ref b) d):isT H d u=true:=by unfold isT;exact decide_eq_true h
open Classical in
theorem b4y{H:Hp}{d:List V}{u:Value}(h:¬∃b,u= .ref b/\TSI H (.ref b) d):isT H d u=false:=by unfold isT;exact AM h
theorem b3y{H:Hp}{its:List Value}{ys:List V}{d:List V}{ds:List (List V)}(r:W0 ys its)(hys:Paired (TSI H) ys ds):its.toArray.any (isT H d)=decide (d∈ds):=by
 rw[List.any_toArray,Bool.eq_iff_iff,List.any_eq_true,decide_eq_true_iff]
 constructor
 ·rintro⟨w,hw,e⟩
  obtain⟨j,hj,ej⟩:=List.getElem_of_mem hw
  have hjy:j < ys.length:=by have:=r.length;omega
  obtain⟨d',g1,t,u1,w1⟩:=Paired.get? hys (AG hjy)
  obtain⟨w',g,rw1⟩:=r.get (AG hjy)
  rw[u1]at rw1
  have f1:w'=Value.ref t:=by cases rw1;rfl
  have f2:w=Value.ref t:=by
   rw[AG hj]at g
   rw[<-f1,<-Option.some.inj g,ej]
  by_cases z:d'=d
  ·rw[<-z];exact AF g1
  ·exfalso
   have:=b4y (H:=H) (d:=d) (u:=w) (fun⟨b,eb,hb⟩=>z (by
    rw[f2]at eb
    cases eb
    exact TSI.inj ⟨t,rfl,w1⟩ hb))
   rw[this]at e
   cases e
 ·intro hd
  obtain⟨j,hj⟩:=BB hd
  obtain⟨y,hy,t,u1,w1⟩:=Paired.get?' hys hj
  obtain⟨w,g,rw1⟩:=r.get hy
  rw[u1]at rw1
  have f1:w=Value.ref t:=by cases rw1;rfl
  exact⟨w,AF g,by rw[f1];exact b4J ⟨t,rfl,t,rfl,w1⟩⟩
theorem b5C{X:Cx}{pins:List (Addr×Obj)}{s:Shared}{σ:St}{H:Hp}(I:Inv X pins σ H s)(hu:X.A.units+1 < cLine){a:Addr}{its:List Value}{ys:List V}{d:List V}{ds:List (List V)}(ha:H a=some (.tup d))(hf:d.all siV=true)(r:W0 ys its)(hys:Paired (TSI H) ys ds):∀w,w∈its.toArray->SeqAt.EqAt X.A.in1 s w (.ref a) (isT H d w):=by
 intro w hw
 obtain⟨j,hj,e⟩:=List.getElem_of_mem (show w∈its by simpa using hw)
 have hj2:j < its.toArray.size:=by simpa using hj
 have hjy:j < ys.length:=by have:=r.length;omega
 obtain⟨d',g1,t,u1,w1,w2⟩:=Paired.get? hys (AG hjy)
 have r1:=a5Y r (AG hjy) hj2
 rw[u1]at r1
 have f1:w=Value.ref t:=by
  have:its.toArray[j]=Value.ref t:=b3G r1
  rw[<-this,<-e]
  simp
 have ee:isT H d w=decide (d'=d):=by
  rw[f1]
  by_cases z:d'=d
  ·rw[decide_eq_true z]
   exact b4J ⟨t,rfl,t,rfl,z▸w1,hf⟩
  ·rw[AM z]
   refine b4y fun⟨b,eb,hb⟩=>z ?_
   cases eb
   exact TSI.inj ⟨t,rfl,w1,w2⟩ hb
 rw[ee,f1]
 exact b5P (A:=X.A.in1) I (by show X.A.units+1 < cLine;exact hu) w1 ha w2 hf
noncomputable def b7o (K:W.Frag) (neg:Bool):V->V->Hp->VK->Prop:=fun x y H Q=>∃a l ys d ds,x= .ref a/\y= .ref l/\H a=some (.tup d)/\d.all siV=true/\SqL K H l ys/\Paired (TSI H) ys ds/\Q (.bl (if neg=true then !decide (d∈ds)else decide (d∈ds))) H
theorem b0J{X:Cx}{K:W.Frag}(hK:X.K=K)(hu:X.A.units+1 < cLine):OpR X (compareOp .NotIn) (b7o K true):=by
 subst hK
 intro pins s σ H x y v u Q I rx ry h
 obtain⟨a,l,ys,d,ds,rfl,rfl,ha,hf,hl,hys,q⟩:=h
 cases rx
 cases ry
 obtain⟨its,r,pl,_⟩:=I.list hl
 refine SeqAt.notIn_listAt (isT H d) pl.isList (b5C I hu ha hf r hys) ⟨.bl _,H,I,?_,q⟩
 rw[b3y r hys]
 rfl
end L2
namespace L2
open PySem PySem.Spec PyProof.Rows
noncomputable def b4H (K:W.Frag) (mg:Str->Option Value) (x:Str) (st:Stmt) (dv:Value):Prop:=∃f D oc od kV doc pm an cdv ct osl oc2 od2 n2 sl2,K.lookup f=some ⟨oc,od,.func (W.fnOf x x (J7 st) (J2 st) (G4 st) (.ref D) kV doc pm an cdv ct),osl⟩/\W.codeIn K cdv x=true/\W.keepIn K (.ref f)=true/\mg x=some (.ref f)/\K.lookup D=some ⟨oc2,od2,.seq #[dv] n2,sl2⟩
structure a9D(P:Program)(w:World)(K:W.Frag)(mg:Str->Option Value)(base:Heap)(k:Nat)(x:Str)(ps:List Str)(dvs:List V)(sp:Sp):Prop where
 ex:∃f fd ds,a2L P w K mg base CX0 k f fd ps sp/\mg x=some (.ref f)/\W.keepIn K (.ref f)=true/\a2b K fd ps ds/\W0 dvs ds
section
variable{P:Program}{w:World}{K:W.Frag}{mg:Str->Option Value}{base:Heap}
theorem a9D.of{x:Str}{st:Stmt}{N ps:List Str}{k:Nat}{sp:Sp}{dv:Value}{ds:List Value}{dvs:List V}(T:b4H K mg x st dv)(S:R1 N ps (G4 st))(len:∀vs H Q E,sp vs H Q E->vs.length=ps.length)(hds:W0 dvs ds)
  (hb:∀(D:Addr)(kV doc pm:Value)(an:Option Addr)(cdv ct:Value)(us:List Value),(us++ds).length=ps.length->∃k:Option (Array Value)->Sem (List (Str×Value)),bindArgs (W.fnOf x x (J7 st) (J2 st) (G4 st) (.ref D) kV doc pm an cdv ct) ⟨us,[]⟩=seqItems? (.ref D) >>= k/\k (some #[dv])=pure (ps.zip (us++ds)))
  (hbody:∀(f:Addr)(cdv:Value)(A:Around)(outer:List Env)(s:Shared)(H:Hp)(vs:List V)(Q:VK)(E:XK),M8 k (A.deeper (envOfC x (G4 st) s.heap.objs.size f cdv))->sp vs H Q E->
   ∃t,PSs (a5u CX0 P w K mg base N x (G4 st) f cdv A outer s H E).nox (J2 st) t/\t {nx:=fun _ H'=>Q .non H',rt:=Q} (a2m N vs) H):a9D P w K mg base (k+1) x ps dvs sp:=by
 obtain⟨f,D,oc,od,kV,doc,pm,an,cdv,ct,osl,oc2,od2,n2,sl2,lk,hcd,hk,hm,hD⟩:=T
 refine⟨f,_,ds,b1W lk hcd S len fun A outer s H vs Q E hr hsp=>?_,hm,hk,fun s us X hl=>?_,hds⟩
 ·obtain⟨t,h,q⟩:=hbody f cdv A outer s H vs Q E hr hsp
  exact⟨t,h.nox,q⟩
 ·obtain⟨k,e1,e2⟩:=hb D kV doc pm an cdv ct us hl
  exact BindsTo.of_defaults rfl (X _ _ hD) rfl e1 e2
end
theorem a9m{X:Cx}{j k:Nat}{x:Str}{ps:List Str}{sp:Sp}{e:Expr}{es:List Expr}{t:TA}{p pos:Pos}{dvs:List V}(C:a9D X.prog X.w X.K X.mg X.base j x ps dvs sp)(hr:M8 k X.A)(hg:Gl X x)(ha:PA X (e::es) t)(hjk:j<=k:=by decide)
  (hdb:(x==("__debug__":Str))=false:=by decide)(he:starEach (e::es) X.env=(false,eval e X.env)::starEach es X.env:=by rfl)(hpl:(backTo pos (starEach es X.env)).any (·.1)=false:=by rfl):
  PE X (.Call (.Name x p) (e::es) [] pos) (b2j sp dvs E0 t):=by
 obtain⟨f,fd,ds,F,hm,hk,hb,hd⟩:=C.ex
 exact a9Y F (hr.mono hjk) hg hm hk hb hd a7d ha hdb he hpl
end L2
namespace K62
open PySem L2 PyProof.Rows
noncomputable def top (i:Nat):Stmt:=zP.main.body.getD i (.Pass ⟨0,0,0,0⟩)
noncomputable abbrev a1K:Stmt:=top 1
theorem a4H:R1 ["row","kind"] ["row"] (G4 a1K):=⟨rfl,rfl,rfl,by decide +kernel,rfl,by decide +kernel,by decide +kernel⟩
noncomputable abbrev a0V:Stmt:=top 2
theorem a6y:R1 ["pairs","words","given","own"] ["pairs"] (G4 a0V):=⟨rfl,rfl,rfl,by decide +kernel,rfl,by decide +kernel,by decide +kernel⟩
noncomputable abbrev a1o:Stmt:=top 3
theorem a1D:R1 ["terms","words","sign","thing"] ["terms"] (G4 a1o):=⟨rfl,rfl,rfl,by decide +kernel,rfl,by decide +kernel,by decide +kernel⟩
noncomputable abbrev a0S:Stmt:=top 4
theorem a6h:R1 ["when"] ["when"] (G4 a0S):=⟨rfl,rfl,rfl,by decide +kernel,rfl,by decide +kernel,by decide +kernel⟩
noncomputable abbrev a1a:Stmt:=top 5
theorem a3l:R1 ["row","kind"] ["row"] (G4 a1a):=⟨rfl,rfl,rfl,by decide +kernel,rfl,by decide +kernel,by decide +kernel⟩
noncomputable abbrev a1y:Stmt:=top 6
theorem a1I:R1 ["terms","first","names","place","term"] ["terms","first"] (G4 a1y):=⟨rfl,rfl,rfl,by decide +kernel,rfl,by decide +kernel,by decide +kernel⟩
noncomputable abbrev a0W:Stmt:=top 7
theorem a6q:R1 ["row"] ["row"] (G4 a0W):=⟨rfl,rfl,rfl,by decide +kernel,rfl,by decide +kernel,by decide +kernel⟩
noncomputable abbrev a2Y:Stmt:=top 9
theorem a3k:R1 ["onward","some","found","waiting","part"] ["onward","some"] (G4 a2Y):=⟨rfl,rfl,rfl,by decide +kernel,rfl,by decide +kernel,by decide +kernel⟩
noncomputable abbrev a0v:Stmt:=E1 (top 11) 1
theorem a5c:R1 ["self","part","name"] ["self","part","name"] (G4 a0v):=⟨rfl,rfl,rfl,by decide +kernel,rfl,by decide +kernel,by decide +kernel⟩
noncomputable abbrev a2j:Stmt:=E1 (top 11) 4
theorem a5f:R1 ["self","root","numbers","going"] ["self","root","numbers"] (G4 a2j):=⟨rfl,rfl,rfl,by decide +kernel,rfl,by decide +kernel,by decide +kernel⟩
noncomputable abbrev D5:Stmt:=E1 (top 12) 0
theorem a3Q:R1 ["self","walk","numbers"] ["self","walk","numbers"] (G4 D5):=⟨rfl,rfl,rfl,by decide +kernel,rfl,by decide +kernel,by decide +kernel⟩
noncomputable abbrev a0X:Stmt:=E1 (top 12) 1
theorem a3m:R1 ["self","packs","pack"] ["self","packs"] (G4 a0X):=⟨rfl,rfl,rfl,by decide +kernel,rfl,by decide +kernel,by decide +kernel⟩
noncomputable abbrev a0A:Stmt:=E1 (top 12) 2
theorem a0M:R1 ["self","part","place","number","row"] ["self","part"] (G4 a0A):=⟨rfl,rfl,rfl,by decide +kernel,rfl,by decide +kernel,by decide +kernel⟩
noncomputable abbrev a0x:Stmt:=E1 (top 12) 3
theorem a2N:R1 ["self","step"] ["self"] (G4 a0x):=⟨rfl,rfl,rfl,by decide +kernel,rfl,by decide +kernel,by decide +kernel⟩
noncomputable abbrev a0j:Stmt:=E1 (top 12) 4
theorem a2D:R1 ["self","part","where","row","word"] ["self","part","where","row"] (G4 a0j):=⟨rfl,rfl,rfl,by decide +kernel,rfl,by decide +kernel,by decide +kernel⟩
noncomputable abbrev a0l:Stmt:=E1 (top 12) 5
theorem a2E:R1 ["self","part","row","key"] ["self","part","row"] (G4 a0l):=⟨rfl,rfl,rfl,by decide +kernel,rfl,by decide +kernel,by decide +kernel⟩
noncomputable abbrev E8:Stmt:=E1 (top 12) 6
theorem a0t:R1 ["self","part","row","word","name"] ["self","part","row"] (G4 E8):=⟨rfl,rfl,rfl,by decide +kernel,rfl,by decide +kernel,by decide +kernel⟩
noncomputable abbrev a0w:Stmt:=E1 (top 12) 7
theorem a5H:R1 ["self","kind","part"] ["self","kind","part"] (G4 a0w):=⟨rfl,rfl,rfl,by decide +kernel,rfl,by decide +kernel,by decide +kernel⟩
noncomputable abbrev M0:Stmt:=E1 (top 12) 8
theorem a1g:R1 ["self","part","where","row","kind","value"] ["self","part","where","row"] (G4 M0):=⟨rfl,rfl,rfl,by decide +kernel,rfl,by decide +kernel,by decide +kernel⟩
noncomputable abbrev a0J:Stmt:=E1 (top 12) 9
theorem a6x:R1 ["self","part","name","value"] ["self","part","name","value"] (G4 a0J):=⟨rfl,rfl,rfl,by decide +kernel,rfl,by decide +kernel,by decide +kernel⟩
noncomputable abbrev F6:Stmt:=E1 (top 12) 10
theorem a3B:R1 ["self"] ["self"] (G4 F6):=⟨rfl,rfl,rfl,by decide +kernel,rfl,by decide +kernel,by decide +kernel⟩
noncomputable abbrev D4:Stmt:=E1 (top 12) 11
theorem F1:R1 ["self","part","terms","total","sign","thing"] ["self","part","terms"] (G4 D4):=⟨rfl,rfl,rfl,by decide +kernel,rfl,by decide +kernel,by decide +kernel⟩
noncomputable abbrev O8:Stmt:=E1 (top 12) 12
theorem a2V:R1 ["self","part","thing"] ["self","part","thing"] (G4 O8):=⟨rfl,rfl,rfl,by decide +kernel,rfl,by decide +kernel,by decide +kernel⟩
noncomputable abbrev a2Q:Stmt:=top 14
theorem b3T:R1 ["bundle","root","numbers","ahead"] ["bundle","root","numbers","ahead"] (G4 a2Q):=⟨rfl,rfl,rfl,by decide +kernel,rfl,by decide +kernel,by decide +kernel⟩
noncomputable abbrev W1:Stmt:=E1 (top 15) 0
theorem a2J:R1 ["self","bundle","ahead"] ["self","bundle","ahead"] (G4 W1):=⟨rfl,rfl,rfl,by decide +kernel,rfl,by decide +kernel,by decide +kernel⟩
noncomputable abbrev O9:Stmt:=E1 (top 15) 1
theorem a2O:R1 ["self","part"] ["self","part"] (G4 O9):=⟨rfl,rfl,rfl,by decide +kernel,rfl,by decide +kernel,by decide +kernel⟩
noncomputable abbrev Z7:Stmt:=E1 (top 15) 2
theorem a2G:R1 ["self","part"] ["self","part"] (G4 Z7):=⟨rfl,rfl,rfl,by decide +kernel,rfl,by decide +kernel,by decide +kernel⟩
noncomputable abbrev Z8:Stmt:=E1 (top 15) 3
theorem Z1:R1 ["self","root","come","found","other","packs"] ["self","root"] (G4 Z8):=⟨rfl,rfl,rfl,by decide +kernel,rfl,by decide +kernel,by decide +kernel⟩
noncomputable abbrev a1w:Stmt:=top 16
theorem F0:R1 ["packs","found","place","rows","part","number","row"] ["packs"] (G4 a1w):=⟨rfl,rfl,rfl,by decide +kernel,rfl,by decide +kernel,by decide +kernel⟩
noncomputable abbrev a0m:Stmt:=top 17
theorem a2d:R1 ["blocks","onward","part"] ["blocks"] (G4 a0m):=⟨rfl,rfl,rfl,by decide +kernel,rfl,by decide +kernel,by decide +kernel⟩
noncomputable abbrev a0y:Stmt:=top 19
theorem a5D:R1 ["_law_script","_law_k"] ["_law_script","_law_k"] (G4 a0y):=⟨rfl,rfl,rfl,by decide +kernel,rfl,by decide +kernel,by decide +kernel⟩
noncomputable abbrev a0Z:Stmt:=top 20
theorem a0B:R1 ["_law_cell","_law_many","_law_found","_law_number","_law_k"] ["_law_cell","_law_many"] (G4 a0Z):=⟨rfl,rfl,rfl,by decide +kernel,rfl,by decide +kernel,by decide +kernel⟩
noncomputable abbrev a0G:Stmt:=top 21
theorem F4:R1 ["_law_cell","_law_many","_law_letters","_law_ahead","_law_behind","_law_k"] ["_law_cell","_law_many"] (G4 a0G):=⟨rfl,rfl,rfl,by decide +kernel,rfl,by decide +kernel,by decide +kernel⟩
noncomputable abbrev a2n:Stmt:=top 22
theorem a0e:R1 ["_law_owns","_law_numbers","_law_terms","_law_k","_law_number","_law_thing","_law_sign"] ["_law_owns","_law_numbers"] (G4 a2n):=⟨rfl,rfl,rfl,by decide +kernel,rfl,by decide +kernel,by decide +kernel⟩
noncomputable abbrev a2o:Stmt:=top 23
theorem a3y:R1 ["_law_kind","_law_numbers","_law_other","_law_owns","_law_own","_law_when"] ["_law_kind","_law_numbers","_law_other","_law_owns","_law_own"] (G4 a2o):=⟨rfl,rfl,rfl,by decide +kernel,rfl,by decide +kernel,by decide +kernel⟩
noncomputable abbrev F8:Stmt:=top 24
theorem U6:R1 ["_law_cell","_law_cells","_law_many","_law_names_here","_law_drawn","_law_owns","_law_blocks_here","_law_made_here","_law_numbers","_law_at","_law_kind","_law_own","_law_other"] ["_law_cell","_law_cells"] (G4 F8):=⟨rfl,rfl,rfl,by decide +kernel,rfl,by decide +kernel,by decide +kernel⟩
noncomputable abbrev a1n:Stmt:=top 25
theorem a0K:R1 ["_law_names_here","_law_blocks_here","_law_root","_law_words","_law_there_here","_law_at","_law_row_here"] ["_law_names_here","_law_blocks_here","_law_root","_law_words"] (G4 a1n):=⟨rfl,rfl,rfl,by decide +kernel,rfl,by decide +kernel,by decide +kernel⟩
noncomputable abbrev a0k:Stmt:=top 26
theorem E3:R1 ["_law_names_here","_law_blocks_here","_law_cell","_law_found","_law_asked","_law_rows","_law_row_here","_law_name","_law_there_here","_law_root"] ["_law_names_here","_law_blocks_here","_law_cell"] (G4 a0k):=⟨rfl,rfl,rfl,by decide +kernel,rfl,by decide +kernel,by decide +kernel⟩
noncomputable abbrev O1:Stmt:=top 27
theorem E6:R1 ["_law_names_here","_law_blocks_here","_law_cell","_law_lies","_law_k","_law_packs","_law_origins","_law_loads","_law_root","_law_there_here","_law_numbers"] ["_law_names_here","_law_blocks_here","_law_cell"] (G4 O1):=⟨rfl,rfl,rfl,by decide +kernel,rfl,by decide +kernel,by decide +kernel⟩
noncomputable abbrev a1r:Stmt:=top 28
theorem F3:R1 ["_law_row_here","_law_terms","_law_first","_law_found","_law_k"] ["_law_row_here"] (G4 a1r):=⟨rfl,rfl,rfl,by decide +kernel,rfl,by decide +kernel,by decide +kernel⟩
noncomputable abbrev a1W:Stmt:=top 29
theorem a4A:R1 ["_law_state","_law_numbers","_law_number"] ["_law_state","_law_numbers"] (G4 a1W):=⟨rfl,rfl,rfl,by decide +kernel,rfl,by decide +kernel,by decide +kernel⟩
noncomputable abbrev a1x:Stmt:=top 30
theorem a0n:R1 ["_law_terms","_law_known","_law_total","_law_sign","_law_thing"] ["_law_terms","_law_known"] (G4 a1x):=⟨rfl,rfl,rfl,by decide +kernel,rfl,by decide +kernel,by decide +kernel⟩
noncomputable abbrev a1u:Stmt:=top 31
theorem a0q:R1 ["_law_state","_law_part","_law_pack","_law_inside","_law_number","_law_row_here"] ["_law_state","_law_part"] (G4 a1u):=⟨rfl,rfl,rfl,by decide +kernel,rfl,by decide +kernel,by decide +kernel⟩
noncomputable abbrev a1L:Stmt:=top 32
theorem a0H:R1 ["_law_state","_law_pack","_law_number","_law_row_here","_law_known","_law_when","_law_word","_law_name"] ["_law_state","_law_pack","_law_number","_law_row_here"] (G4 a1L):=⟨rfl,rfl,rfl,by decide +kernel,rfl,by decide +kernel,by decide +kernel⟩
noncomputable abbrev a1O:Stmt:=top 33
theorem a0g:R1 ["_law_made_here","_law_root","_law_numbers","_law_first","_law_loads","_law_name","_law_some","_law_state"] ["_law_made_here","_law_root","_law_numbers","_law_first"] (G4 a1O):=⟨rfl,rfl,rfl,by decide +kernel,rfl,by decide +kernel,by decide +kernel⟩
noncomputable abbrev a1S:Stmt:=top 34
theorem a4C:R1 ["_law_found","_law_due","_law_k"] ["_law_found","_law_due"] (G4 a1S):=⟨rfl,rfl,rfl,by decide +kernel,rfl,by decide +kernel,by decide +kernel⟩
noncomputable abbrev a6a:Stmt:=top 35
theorem a2e:R1 ["_law_script","_law_names_here","_law_blocks_here","_law_made_here","_law_numbers","_law_walks","_law_k","_law_root","_law_due","_law_first"] ["_law_script"] (G4 a6a):=⟨rfl,rfl,rfl,by decide +kernel,rfl,by decide +kernel,by decide +kernel⟩
structure Txt(K:W.Frag)(mg:Str->Option Value):Prop where
 n_len:mg "len"=none
 n_range:mg "range"=none
 n_str:mg "str"=none
 n_tuple:mg "tuple"=none
 n_list:mg "list"=none
 n_dict:mg "dict"=none
 n_enumerate:mg "enumerate"=none
 n_isinstance:mg "isinstance"=none
 n_max:mg "max"=none
 n_sorted:mg "sorted"=none
 n_reversed:mg "reversed"=none
 n_int:mg "int"=none
 n_bool:mg "bool"=none
 d_words_of:Y9 K mg "words_of" a1K
 d_pair_words:Y9 K mg "pair_words" a0V
 d_sum_words:Y9 K mg "sum_words" a1o
 d_when_words:Y9 K mg "when_words" a0S
 d_read_names:Y9 K mg "read_names" a1a
 d_sum_names:Y9 K mg "sum_names" a1y
 d_when_names:Y9 K mg "when_names" a0W
 d_spread:Y9 K mg "spread" a2Y
 d_blocks_in:Y9 K mg "blocks_in" a1w
 d_next_parts:Y9 K mg "next_parts" a0m
 d_law_cell_at:Y9 K mg "_law_cell_at" a0y
 d_law_stream:Y9 K mg "_law_stream" a0Z
 d_law_names:Y9 K mg "_law_names" a0G
 d_law_sum:Y9 K mg "_law_sum" a2n
 d_law_row:Y9 K mg "_law_row" a2o
 d_law_blocks:Y9 K mg "_law_blocks" F8
 d_law_there:Y9 K mg "_law_there" a1n
 d_law_roots:Y9 K mg "_law_roots" a0k
 d_law_made:Y9 K mg "_law_made" O1
 d_law_reads:Y9 K mg "_law_reads" a1r
 d_law_load:Y9 K mg "_law_load" a1W
 d_law_value:Y9 K mg "_law_value" a1x
 d_law_begin:Y9 K mg "_law_begin" a1u
 d_law_done:Y9 K mg "_law_done" a1L
 d_law_told:Y9 K mg "_law_told" a1O
 d_law_same:Y9 K mg "_law_same" a1S
structure Tc(K:W.Frag)(mg:Str->Option Value)(CP CG:Addr):Prop extends Txt K mg where
 c_PacksWalk:Cls K CP
 c_Going:Cls K CG
 g_PacksWalk:mg "PacksWalk"=some (.ref CP)
 g_Going:mg "Going"=some (.ref CG)
 nG_walk:B0 K CG "walk"
 nG_numbers:B0 K CG "numbers"
 nG_taken:B0 K CG "taken"
 nG_begun:B0 K CG "begun"
 nG_loaded:B0 K CG "loaded"
 nG_given:B0 K CG "given"
 nG_waiting:B0 K CG "waiting"
 nG_trace:B0 K CG "trace"
 nG_fault:B0 K CG "fault"
 nP_blocks:B0 K CP "blocks"
 nP_loads:B0 K CP "loads"
 nP_ahead:B0 K CP "ahead"
 m_load:a2y K CG "load" "Going.load" a0X
 m_begin:a2y K CG "begin" "Going.begin" a0A
 m_go_on:a2y K CG "go_on" "Going.go_on" a0x
 m_do_row:a2y K CG "do_row" "Going.do_row" a0j
 m_is_off:a2y K CG "is_off" "Going.is_off" a0l
 m_early_word:a2y K CG "early_word" "Going.early_word" E8
 m_enter:a2y K CG "enter" "Going.enter" a0w
 m_do_work:a2y K CG "do_work" "Going.do_work" M0
 m_give:a2y K CG "give" "Going.give" a0J
 m_next_told:a2y K CG "next_told" "Going.next_told" F6
 m_value_of:a2y K CG "value_of" "Going.value_of" D4
 m_thing_value:a2y K CG "thing_value" "Going.thing_value" O8
 m_rows_of:a2y K CP "rows_of" "PacksWalk.rows_of" O9
 m_key_of:a2y K CP "key_of" "Walk.key_of" a0v
 m_loads_of:a2y K CP "loads_of" "PacksWalk.loads_of" Z7
 m_ahead_of:a2y K CP "ahead_of" "PacksWalk.ahead_of" Z8
 m_go:a2y K CP "go" "Walk.go" a2j
 d_play:b4H K mg "play" a2Q (.bool false)
 i_PacksWalk:b4B K CP "PacksWalk.__init__" W1 (.bool false)
 i_Going:b5S K CG "Going.__init__" D5
section
variable{P:Program}{w:World}{K:W.Frag}{mg:Str->Option Value}{base:Heap}{CP CG:Addr}
theorem a1v(x:Str):∀l:List Str,inV (.str x) (l.map V.str)=decide (x∈l)
 | []=>by simp[inV]
 | a::r=>by
  have ih:=a1v x r
  unfold inV at ih⊢
  rw[List.map_cons,List.any_cons,ih]
  by_cases e:a=x
  ·subst e;simp[eqV]
  ·have h2:¬x=a:=fun z=>e z.symm
   simp[eqV,e,h2]
noncomputable def b0q (K:W.Frag):Sp:=fun vs H Q _=>∃(a:Addr)(ns:List Int),vs=[.ref a]/\SqL K H a (ns.map V.int)/\ns.length<=63/\∀H',Q (.bl true) H'
theorem a1f{α:Type}[DecidableEq α]:∀(l N:List α),l.Nodup->(∀x∈l,x∈N)->l.length<=N.length
 | [],N,_,_=>AZ _
 | a::r,N,hn,hs=>by
  rw[List.nodup_cons]at hn
  have ha:a∈N:=hs a AQ
  have h1:=a1f r (N.erase a) hn.2 fun x hx=>(List.mem_erase_of_ne (fun z=>hn.1 (by rw[<-z];exact hx))).mpr (hs x (AO _ hx))
  rw[List.length_erase_of_mem ha]at h1
  have:0 < N.length:=List.length_pos_of_mem ha
  simp only[List.length_cons];omega
theorem a7R(l:List Str)(x:Str):Y3 (D7 l) (Sum.inr x)=if x∈l then some (.bl true)else none:=by
 induction l with
 | nil=>rfl
 | cons a r ih=>
  have e:D7 (a::r)=(Sum.inr a,.bl true)::D7 r:=rfl
  rw[e]
  by_cases h:a=x
  ·subst h
   rw[F7 rfl,if_pos AQ]
  ·rw[F2 (fun z=>h (Sum.inr.inj z)),ih]
   by_cases hm:x∈r
   ·rw[if_pos hm,if_pos (AO _ hm)]
   ·rw[if_neg hm,if_neg (fun z=>by rcases List.mem_cons.mp z with y | y;exact h y.symm;exact hm y)]
theorem a3f(l:List Str)(x:Str):(Y3 (D7 l) (Sum.inr x)).isSome=decide (x∈l):=by
 rw[a7R]
 by_cases h:x∈l
 ·rw[if_pos h,decide_eq_true h];rfl
 ·rw[if_neg h,AM h];rfl
theorem E9(l:List Str)(x y:Str):y∈O4 l x↔y∈l\/y=x:=by
 unfold O4
 by_cases h:x∈l
 ·rw[if_pos h]
  exact⟨.inl,fun z=>by rcases z with z | z;exact z;rw[z];exact h⟩
 ·rw[if_neg h,AK,AC]
theorem b3v{c:TT}{tb R:TS}{D:a1F}{N:L2.St->Hp->Prop}{i:Nat}{v:V}{σ:L2.St}{H:Hp}(e:N=a7g (a7s c tb) R D)(h:a7s c tb {D with nx:=R D} (σ.set i (some v)) H):a3p i v σ H N:=by
 show N (σ.set i (some v)) H
 rw[e]
 exact h
theorem a3j:∀(l N:List Str),l.Nodup->(∀x∈l,x∈N)->l.length<=N.length
 | [],N,_,_=>AZ _
 | a::r,N,hn,hs=>by
  rw[List.nodup_cons]at hn
  have ha:a∈N:=hs a AQ
  have h1:=a3j r (N.erase a) hn.2 fun x hx=>(List.mem_erase_of_ne (fun z=>hn.1 (by rw[<-z];exact hx))).mpr (hs x (AO _ hx))
  rw[List.length_erase_of_mem ha]at h1
  have:0 < N.length:=List.length_pos_of_mem ha
  simp only[List.length_cons];omega
theorem a5R{l:List Str}(h:l.Nodup)(x:Str):(O4 l x).Nodup:=by
 unfold O4
 by_cases hx:x∈l
 ·rw[if_pos hx];exact h
 ·rw[if_neg hx]
  refine List.nodup_append.mpr ⟨h,by simp,fun a ha b hb z=>?_⟩
  rw[AC.mp hb]at z
  exact hx (by rw[<-z];exact ha)
inductive Rch (E:Str->Str->Prop) (S:List Str):Str->Prop where
 | base {n:Str}:n∈S->Rch E S n
 | step {n m:Str}:Rch E S n->E n m->Rch E S m
theorem Rch.of{E:Str->Str->Prop}{S:List Str}{l:List Str}(h1:∀n∈S,n∈l)(h2:∀n∈l,∀m,E n m->m∈l){n:Str}(h:Rch E S n):n∈l:=by
 induction h with
 | base h=>exact h1 _ h
 | step _ e ih=>exact h2 _ ih _ e
theorem a9J(qs:List (Str×V))(q:Str×V):a1c (qs++[q]) []=W2 (a1c qs []) (Sum.inr q.1) q.2:=by
 unfold a1c;rw[List.foldl_append];rfl
theorem a6I:∀(qs:List (Str×V))(m:List (Key×V)),(a1c qs m).length<=m.length+qs.length
 | [],m=>by simp[a1c]
 | q::r,m=>by
  have h:=a6I r (W2 m (Sum.inr q.1) q.2)
  have h2:(W2 m (Sum.inr q.1) q.2).length<=m.length+1:=by
   unfold W2
   split
   ·rw[List.length_map];omega
   ·rw[List.length_append];simp
  show(a1c r (W2 m (Sum.inr q.1) q.2)).length<=_
  simp only[List.length_cons];omega
theorem O3.kr{H:Hp}{a:Addr}{kvs:List (Key×V)}{k:Key}(e:Rd H a (.dK kvs)):O3 H a (kV k) (Y3 kvs k):= .inl ⟨kvs,k,e,rfl,rfl⟩
theorem Rd.same{H H':Hp}{a:Addr}{u:HO}(s:G8 H H')(h:Rd H a u):Rd H' a u:=by
 rcases h with h | ⟨o,h⟩
 ·exact .inl (s _ _ h)
 ·exact .inr ⟨o,s _ _ h⟩
noncomputable def b2w:Sp:=fun vs H Q _=>∃(d t:Addr)(kvs:List (Key×V))(S N:List Str)(g:Str->List Str),vs=[.ref d,.ref t]/\Rd H d (.dK kvs)/\H t=some (.tup (S.map V.str))/\(∀n∈N,∃u,Y3 kvs (Sum.inr n)=some (.ref u)/\(H u=some (.lst ((g n).map V.str))\/H u=some (.tup ((g n).map V.str))))/\(∀n∈S,n∈N)/\(∀n∈N,∀m∈g n,m∈N)/\(∀n∈N,(g n).length<=2000)/\S.length<=100/\N.length<=50/\
 ∀(f:Addr)(l:List Str)(H':Hp),G8 H H'->H' f=some (.dK (D7 l))->(∀n,n∈l↔Rch (fun a b=>b∈g a) S n)->Q (.ref f) H'
noncomputable def muS (f wl:Addr) (H:Hp):Nat:=match H f,H wl with
 | some (.dK kvs),some (.lst W)=>(50 - kvs.length)*2001+W.length
 | _,_=>0
theorem a9K{f wl:Addr}{H:Hp}{l W:List Str}(h1:H f=some (.dK (D7 l)))(h2:H wl=some (.lst (W.map V.str))):muS f wl H=(50 - l.length)*2001+W.length:=by
 unfold muS
 rw[h1,h2]
 simp only[a2M,List.length_map]
theorem b0L(W:List Str):(W.map V.str).dropLast=W.dropLast.map V.str:=by
 rw[List.map_dropLast]
theorem b0K(T:Txt K mg):L2.Cl P w K mg base 1 "spread" ["onward","some"] b2w:=by
 refine Cl.of T.d_spread a3k (fun vs H Q E h=>?_) (fun _ _ _ _ _ _ us hl=>by obtain⟨a,b,rfl⟩:=a2F hl;rfl) (fun fa cdv A outer s H vs Q E hr h=>?_)
 ·obtain⟨d,t,kvs,S,N,g,rfl,_⟩:=h
  rfl
 ·obtain⟨d,t,kvs,S,N,g,rfl,hd,ht,hg,hSN,hgN,hg100,hS100,hN,q⟩:=h
  have hu:=a0s hr
  refine⟨_,(G3 (J6 (i:=2) a3k.nd rfl (Or.inl rfl) a0z)
   (G3 (J6 (i:=3) a3k.nd rfl (Or.inl rfl) (Y0 a2z (by rfl) T.n_list boot_list (G0 (pv 1) G2)))
   (G3 (a5e AL (a5A (pv 3) (fun _=>rfl))
    (G3 (J6 (i:=4) a3k.nd rfl (Or.inl rfl) (b2U PySem.F.plainAttrs_list PySem.F.slot_list_pop PySem.F.type_list_pop b1E (pv 3)))
    (G6 (R8 (M4 (a2h hu (pv 4) (pv 2)))
     (G3 (D9 hu (pv 2) (pv 4) a1P rfl)
     (G6 (U1 (D0 PySem.F.plainAttrs_list PySem.F.slot_list_extend PySem.F.type_list_extend a4q (pv 3) (G0 (Y0 a2z (by rfl) T.n_list boot_list (G0 (W9 hu (pv 0) (pv 4) (fun _ _=>rfl)) G2)) G2))))) J5))))
   (G6 (R3 (pv 2)))))),?_⟩
  intro f gf
  have s1:G8 H (upd H f (.dK [])):=(G8.refl H).new gf
  refine⟨_,rfl,t,_,rfl,.inr (SqT.of (s1 _ _ ht)),fun wl gw=>?_⟩
  have s2:G8 H (upd (upd H f (.dK [])) wl (.lst (S.map V.str))):=s1.new gw
  have hfw:f≠wl:=R0 (G1 (H:=H) (a:=f) (o:= .dK [])) gw
  have gwH:H wl=none:=s1.free gw
  apply b3v
  ·with_reducible_and_instances rfl
  refine a5B (fun σ H2=>∃(l W:List Str)(v4:Option V),σ=[some (.ref d),some (.ref t),some (.ref f),some (.ref wl),v4]/\G8 H H2/\H2 f=some (.dK (D7 l))/\H2 wl=some (.lst (W.map V.str))/\l.Nodup/\(∀n∈l,n∈N)/\(∀n∈W,n∈N)/\(∀n∈l,Rch (fun a b=>b∈g a) S n)/\(∀n∈W,Rch (fun a b=>b∈g a) S n)/\(∀n∈S,n∈l\/n∈W)/\(∀n∈l,∀m∈g n,m∈l\/m∈W)/\W.length+(50 - l.length)*2001<=100200) (fun _ H2=>muS f wl H2)
   ⟨[],S,none,rfl,s2,by rw[G7 hfw,G1];rfl,G1,List.nodup_nil,fun n hn=>by simp at hn,hSN,fun n hn=>by simp at hn,fun n hn=> .base hn,fun n hn=> .inr hn,fun n hn=>by simp at hn,by simp only[List.length_nil];omega⟩ ?_ ?_
  ·rintro σ H2 ⟨l,W,v4,rfl,s3,hf,hw,hnd,hlN,hWN,hlR,hWR,hSl,hcl,hbd⟩
   refine⟨_,rfl,_,.inl ⟨_,SqL.of hw,rfl⟩,?_⟩
   have hll:=a3j l N hnd hlN
   cases hW:W.getLast? with
   | none=>
    have hWe:W=[]:=List.getLast?_eq_none_iff.mp hW
    subst hWe
    refine Y4 ?_
    refine⟨_,rfl,q f l H2 s3 hf fun n=>⟨hlR n,fun hr'=>?_⟩⟩
    refine Rch.of (fun n hn=>?_) (fun n hn m hm=>?_) hr'
    ·rcases hSl n hn with z | z
     ·exact z
     ·simp at z
    ·rcases hcl n hn m hm with z | z
     ·exact z
     ·simp at z
   | some x=>
    have hne:W≠[]:=fun z=>by rw[z]at hW;simp at hW
    have hWd:W=W.dropLast++[x]:=by
     obtain⟨ys,hys⟩:=List.getLast?_eq_some_iff.mp hW
     rw[hys,List.dropLast_concat]
    have hxW:x∈W:=by rw[hWd];simp
    have hpos:0 < W.length:=List.length_pos_of_mem hxW
    rw[show(!(W.map V.str).isEmpty)=true by cases W with | nil=>exact absurd rfl hne | cons _ _=>rfl]
    refine O7 ?_
    have hlast:(W.map V.str)[(W.map V.str).length - 1]?=some (.str x):=by
     rw[AN,List.length_map,<-List.getLast?_eq_getElem?,hW];rfl
    refine⟨_,rfl,.inl ⟨rfl,_,SqL.of hw⟩,wl,_,_,rfl,rfl,hw,hlast,?_⟩
    rw[b0L]
    have s4:G8 H (upd H2 wl (.lst (W.dropLast.map V.str))):=s3.put gwH
    have hf4:upd H2 wl (.lst (W.dropLast.map V.str)) f=some (.dK (D7 l)):=by rw[G7 hfw];exact hf
    have hw4:upd H2 wl (.lst (W.dropLast.map V.str)) wl=some (.lst (W.dropLast.map V.str)):=G1
    have hmu:=a9K hf hw
    generalize upd H2 wl (.lst (W.dropLast.map V.str))=H4 at s4 hf4 hw4⊢
    have hdl:W.dropLast.length=W.length - 1:=List.length_dropLast
    have hmemW:∀n,n∈W↔n∈W.dropLast\/n=x:=fun n=>by
     conv=>lhs;rw[hWd]
     rw[AK,AC]
    refine⟨_,rfl,_,rfl,f,_,rfl,O3.k (k:=Sum.inr x) hf4,?_⟩
    refine⟨_,rfl,?_⟩
    rw[a3f]
    by_cases hx:x∈l
    ·rw[decide_eq_true hx]
     refine Y4 ?_
     refine⟨⟨l,W.dropLast,_,rfl,s4,hf4,hw4,hnd,hlN,fun n hn=>hWN n ((hmemW n).mpr (.inl hn)),hlR,fun n hn=>hWR n ((hmemW n).mpr (.inl hn)),fun n hn=>?_,fun n hn m hm=>?_,by omega⟩,?_⟩
     ·rcases hSl n hn with z | z
      ·exact .inl z
      ·rcases(hmemW n).mp z with y | y
       ·exact .inr y
       ·rw[y];exact .inl hx
     ·rcases hcl n hn m hm with z | z
      ·exact .inl z
      ·rcases(hmemW m).mp z with y | y
       ·exact .inr y
       ·rw[y];exact .inl hx
     ·show muS f wl H4 < muS f wl H2
      rw[a9K hf4 hw4,hmu]
      omega
    ·rw[AM hx]
     refine O7 ?_
     have hlen1:l.length<=50:=by omega
     have hxN:x∈N:=hWN x hxW
     have hadd:O4 l x=l++[x]:=by unfold O4;rw[if_neg hx]
     have hnd':(O4 l x).Nodup:=a5R hnd x
     have hlN':∀n∈O4 l x,n∈N:=fun n hn=>by
      rcases(E9 l x n).mp hn with z | z
      ·exact hlN n z
      ·rw[z];exact hxN
     have hll':=a3j _ N hnd' hlN'
     rw[hadd,List.length_append,List.length_singleton]at hll'
     refine⟨_,rfl,_,rfl,f,_,rfl,a2v.k (k:=Sum.inr x) hf4 (J9 (by rw[a2M];omega)),?_⟩
     rw[a4b]
     have s5:G8 H (upd H4 f (.dK (D7 (O4 l x)))):=s4.put gf
     have hf5:upd H4 f (.dK (D7 (O4 l x))) f=some (.dK (D7 (O4 l x))):=G1
     have hw5:upd H4 f (.dK (D7 (O4 l x))) wl=some (.lst (W.dropLast.map V.str)):=by rw[G7 hfw.symm];exact hw4
     generalize upd H4 f (.dK (D7 (O4 l x)))=H5 at s5 hf5 hw5⊢
     obtain⟨u,hvu,hut⟩:=hg x hxN
     have hvd:O3 H5 d (.str x) (some (.ref u)):=by
      have:=O3.kr (k:=Sum.inr x) (Rd.same s5 hd)
      rw[hvu]at this
      exact this
     refine⟨_,rfl,.inl ⟨rfl,_,SqL.of hw5⟩,_,rfl,_,rfl,d,_,rfl,hvd,u,_,rfl,(hut.imp (fun z=>SqL.of (s5 _ _ z)) fun z=>SqT.of (s5 _ _ z)),fun c gc=>?_⟩
     have hwc:wl≠c:=fun z=>by rw[z,gc]at hw5;cases hw5
     have hfc:f≠c:=fun z=>by rw[z,gc]at hf5;cases hf5
     have h100:=hg100 x hxN
     refine⟨wl,c,_,_,rfl,rfl,U3 hw5 gc,G1,Nat.le_of_lt (by
      have:sizeLine=16777216:=sizeLine_eq
      rw[List.length_map,List.length_map];omega),?_⟩
     rw[<-List.map_append]
     have s6:G8 H (upd (upd H5 c (.lst ((g x).map V.str))) wl (.lst ((W.dropLast++g x).map V.str))):=(s5.new gc).put gwH
     have hf6:upd (upd H5 c (.lst ((g x).map V.str))) wl (.lst ((W.dropLast++g x).map V.str)) f=some (.dK (D7 (O4 l x))):=by rw[G7 hfw,G7 hfc];exact hf5
     refine⟨⟨O4 l x,W.dropLast++g x,_,rfl,s6,hf6,G1,hnd',hlN',fun n hn=>?_,fun n hn=>?_,fun n hn=>?_,fun n hn=>?_,fun n hn m hm=>?_,?_⟩,?_⟩
     ·rcases AK.mp hn with z | z
      ·exact hWN n ((hmemW n).mpr (.inl z))
      ·exact hgN x hxN n z
     ·rcases(E9 l x n).mp hn with z | z
      ·exact hlR n z
      ·rw[z];exact hWR x hxW
     ·rcases AK.mp hn with z | z
      ·exact hWR n ((hmemW n).mpr (.inl z))
      ·exact .step (hWR x hxW) z
     ·rcases hSl n hn with z | z
      ·exact .inl ((E9 l x n).mpr (.inl z))
      ·rcases(hmemW n).mp z with y | y
       ·exact .inr (BA _ y)
       ·exact .inl ((E9 l x n).mpr (.inr y))
     ·rcases(E9 l x n).mp hn with z | z
      ·rcases hcl n z m hm with y | y
       ·exact .inl ((E9 l x m).mpr (.inl y))
       ·rcases(hmemW m).mp y with c' | c'
        ·exact .inr (BA _ c')
        ·exact .inl ((E9 l x m).mpr (.inr c'))
      ·subst z
       exact .inr (AW _ hm)
     ·rw[hadd,List.length_append,List.length_append,List.length_singleton];omega
     ·show muS f wl _ < muS f wl H2
      rw[a9K hf6 G1,hmu,hadd,List.length_append,List.length_append,List.length_singleton]
      omega
  ·rintro σ H2 Q1 Q2 hQ ⟨v,e,b,hb,hq⟩
   exact⟨v,e,b,hb,hQ _ _ hq⟩
theorem a3C{κ:Type}[DecidableEq κ]{kvs:List (κ×V)}{k:κ}{v:V}(h:k∉kvs.map (·.1)):W2 kvs k v=kvs++[(k,v)]:=by
 unfold W2
 rw[if_neg]
 intro z
 obtain⟨p,hp,e⟩:=List.any_eq_true.mp z
 exact h (by rw[<-of_decide_eq_true e];exact List.mem_map_of_mem (f:=(·.1)) hp)
noncomputable def But (d:Addr) (H H':Hp):Prop:=∀a o,a≠d->H a=some o->H' a=some o
noncomputable def bkv (qs:List (Str×Addr)):List (Key×V):=qs.map fun q=>(Sum.inr q.1,V.ref q.2)
theorem a8N(qs:List (Str×Addr))(q:Str×Addr):bkv (qs++[q])=bkv qs++[(Sum.inr q.1,.ref q.2)]:=by unfold bkv;rw[List.map_append];rfl
theorem a2A:∀{qs:List (Str×Addr)}{m:Str}{c:Addr},(qs.map (·.1)).Nodup->(m,c)∈qs->Y3 (bkv qs) (Sum.inr m)=some (.ref c)
 | [],m,c,_,h=>by simp at h
 | q::r,m,c,hn,h=>by
  rw[List.map_cons,List.nodup_cons]at hn
  have e:bkv (q::r)=(Sum.inr q.1,V.ref q.2)::bkv r:=rfl
  rw[e]
  rcases List.mem_cons.mp h with z | z
  ·rw[<-z]
   exact F7 rfl
  ·rw[F2 (fun y=>hn.1 (by rw[Sum.inr.inj y];exact List.mem_map_of_mem (f:=(·.1)) z))]
   exact a2A hn.2 z
noncomputable def b4Z (K:W.Frag):Sp:=fun vs H Q _=>∃(a:Addr)(ns:List Int)(k:Int),vs=[.ref a,.int k]/\SqL K H a (ns.map V.int)/\0<=k/\∀c:Int,Q (.int c) H
theorem b3R(T:Txt K mg):L2.Cl P w K mg base 1 "_law_cell_at" ["_law_script","_law_k"] (b4Z K):=by
 refine Cl.of T.d_law_cell_at a5D (fun vs H Q E h=>?_) (fun _ _ _ _ _ _ us hl=>by obtain⟨a,b,rfl⟩:=a2F hl;rfl) (fun f cdv A outer s H vs Q E hr h=>?_)
 ·obtain⟨a,ns,k,rfl,_⟩:=h
  rfl
 ·obtain⟨a,ns,k,rfl,hS,hk,q⟩:=h
  refine⟨_,(G3 (R8 (J3 a5J (pv 1) (R9 U2 (by rfl) T.n_len PySem.boot_len (G0 (pv 0) G2)) (R4 _))
    (G6 (R3 (J0 W7 (pv 0) (pv 1) (fun _ _=>rfl)))) J5)
   (G6 (R3 G5))),?_⟩
  refine⟨_,rfl,_,rfl,a,_,rfl,.inl hS,_,_,rfl,rfl,_,rfl,?_⟩
  refine a4n (fun hlt=>?_) (fun hlt=>?_)
  ·have hlt':k < (ns.length:Int):=by simpa using hlt
   refine⟨_,rfl,_,rfl,a,_,_,_,rfl,rfl,hS,a7o V.int ns 0 hk hlt',?_⟩
   exact q _
  ·exact q 0
theorem a5C{X:Cx}:a1b X (.type "tuple") (fun xs H Q=>∃p ys,xs=[.ref p]/\SqL X.K H p ys/\∀l o,H l=none->o.dict=none->Q (.ref l) (upd H l (.frz o (.tup ys)))):=by
 intro pins s σ H xs us Q I r h
 obtain⟨p,ys,rfl,hq,q⟩:=h
 obtain⟨u,rfl,rx⟩:=a3q r
 cases rx
 obtain⟨its,r',pl,hz⟩:=I.list hq
 have hlen:=r'.length
 refine call_tuple_list pl.isList (fun h' kp=>?_) (by simp only[List.size_toArray]<;>omega)
 have I1:Inv X pins σ H {s with heap:=h'}:=I.kept (t':=s.toks) kp
 have I2:Inv X pins σ (upd H h'.objs.size (.frz {cls:= .type "tuple",data:= .seq its.toArray} (.tup ys))) {s with heap:=h'.push {cls:= .type "tuple",data:= .seq its.toArray}}:=
  I1.laid (t':=s.toks) (fun b o e=>AH _ e) (AE _) ⟨AS _ rfl,hz,its,r',⟨_,AS _ rfl,rfl,_,rfl⟩⟩
 exact⟨.ref h'.objs.size,_,I2,rfl,q _ _ (I1.hok.fresh (AE _)) rfl⟩
structure Rk where
 a:Addr
 k:Str
 t:Option Str
 w:Rw
noncomputable def wk6:Rw->Bool
 | .bring _ _=>false
 | .give _ _=>false
 | .part _=>false
 | _=>true
noncomputable def kdR:Rw->Str
 | .bring _ _=>"bring"
 | .give _ _=>"give"
 | .set _ _=>"set"
 | .take _=>"take"
 | .say _ _=>"say"
 | .need _=>"need"
 | .ask _ _=>"ask"
 | .part _=>"part"
 | .doo _=>"do"
noncomputable def toR:Rw->Option Str
 | .ask p _=>some p
 | .doo p=>some p
 | _=>none
noncomputable def a2T (ns:List Str) (H:Hp) (r:Rk):Prop:=∃y tl,H r.a=some (.tup (.str r.k::y::tl))/\r.k≠ "part"/\((r.k="do" \/r.k="ask")->∃m∈ns,r.t=some m/\y= .str m)/\a1M H r.a r.w/\a8b r.w/\wk6 r.w=true/\r.k=kdR r.w/\∀p,toR r.w=some p->p∈ns
theorem a2T.mono{ns:List Str}{H H':Hp}(s:R7 H H'){r:Rk}(h:a2T ns H r):a2T ns H' r:=by
 obtain⟨y,tl,h1,h2,h3,h4,h5⟩:=h
 exact⟨y,tl,s _ _ h1,h2,h3,h4.mono s,h5⟩
inductive Ro where
 | part (n:Str)
 | row (r:Rk)
noncomputable def a6u (ns:List Str) (H:Hp) (v:V):Ro->Prop
 | .part n=>∃a,v= .ref a/\H a=some (.tup [.str "part",.str n])
 | .row r=>v= .ref r.a/\a2T ns H r
theorem a6u.mono{ns:List Str}{H H':Hp}(s:R7 H H'){v:V}{o:Ro}(h:a6u ns H v o):a6u ns H' v o:=by
 cases o with
 | part n=>
  obtain⟨a,h1,h2⟩:=h
  exact⟨a,h1,s _ _ h2⟩
 | row r=>exact⟨h.1,h.2.mono s⟩
noncomputable def tag:Str->Nat->List Ro->List (Str×Nat×Rk)
 | _,_,[]=> []
 | _,i,.part n::t=>tag n (i+1) t
 | c,i,.row r::t=>(c,i,r)::tag c (i+1) t
noncomputable def cur:Str->List Ro->Str
 | c,[]=>c
 | _,.part n::t=>cur n t
 | c,.row _::t=>cur c t
theorem a0d:∀(A B:List Ro)(c:Str)(i:Nat),tag c i (A++B)=tag c i A++tag (cur c A) (i+A.length) B
 | [],B,c,i=>by simp[tag,cur]
 | .part n::t,B,c,i=>by
  simp only[List.cons_append,tag,cur,List.length_cons]
  rw[a0d t B n (i+1),show i+1+t.length=i+(t.length+1)by omega]
 | .row r::t,B,c,i=>by
  simp only[List.cons_append,tag,cur,List.length_cons]
  rw[a0d t B c (i+1),show i+1+t.length=i+(t.length+1)by omega]
theorem a1e:∀(A B:List Ro)(c:Str),cur c (A++B)=cur (cur c A) B
 | [],B,c=>rfl
 | .part n::t,B,c=>a1e t B n
 | .row r::t,B,c=>a1e t B c
noncomputable def R6 (P:List Ro):List Str:=P.filterMap fun o=>match o with | .part n=>some n | .row _=>none
theorem a1H(A B:List Ro):R6 (A++B)=R6 A++R6 B:=List.filterMap_append
noncomputable def b0i (c:Str) (P:List Ro):List (Str×Rk):=(tag c 0 P).map fun x=>(x.1,x.2.2)
noncomputable def prs (P:List Ro):List (Str×Rk):=b0i "" P
theorem a8I:∀(rs:List Rk)(c:Str)(i:Nat),(tag c i (rs.map Ro.row)).map (fun x=>(x.1,x.2.2))=rs.map fun r=>(c,r)
 | [],_,_=>rfl
 | r::t,c,i=>by
  simp only[List.map_cons,tag]
  rw[a8I t c (i+1)]
theorem b3c(A:List Ro)(n:Str)(rs:List Rk):prs (A++ .part n::rs.map Ro.row)=prs A++rs.map fun r=>(n,r):=by
 unfold prs b0i
 rw[a0d,List.map_append]
 simp only[tag]
 rw[a8I]
theorem b1I(rs:List Rk):R6 (rs.map Ro.row)=[]:=by
 induction rs with
 | nil=>rfl
 | cons r t ih=>exact ih
theorem b2t(A:List Ro)(n:Str)(rs:List Rk):R6 (A++ .part n::rs.map Ro.row)=R6 A++[n]:=by
 rw[a1H]
 show R6 A++(n::R6 (rs.map Ro.row))=_
 rw[b1I]
noncomputable def Y8:Nat->List (List Ro)->List (Str×Nat×Nat×Rk)
 | _,[]=> []
 | j,P::t=>(tag "" 0 P).map (fun x=>(x.1,j,x.2.1,x.2.2))++Y8 (j+1) t
theorem a4m:∀(A:List (List Ro))(P:List Ro)(j:Nat),Y8 j (A++[P])=Y8 j A++(tag "" 0 P).map fun x=>(x.1,j+A.length,x.2.1,x.2.2)
 | [],P,j=>by simp[Y8]
 | B::t,P,j=>by
  simp only[List.cons_append,Y8,List.length_cons]
  rw[a4m t P (j+1),List.append_assoc,show j+1+t.length=j+(t.length+1)by omega]
theorem a3N:∀(A:List (List Ro))(j:Nat),(Y8 j A).map (fun x=>(x.1,x.2.2.2))=A.flatMap prs
 | [],_=>rfl
 | P::t,j=>by
  simp only[Y8,List.map_append,List.map_map,List.flatMap_cons]
  rw[a3N t (j+1)]
  rfl
theorem a6b{α β:Type}{f:List α->List β}{E:List α}{e:List β}:∀(A:List (List α))(l:Nat)(P:List α),A[l]?=some P->f (P++E)=f P++e->((A.set l (P++E)).flatMap f).Perm (A.flatMap f++e)
 | [],l,P,h,_=>by simp at h
 | B::t,0,P,h,he=>by
  simp only[List.getElem?_cons_zero,Option.some.injEq]at h
  subst h
  simp only[List.set_cons_zero,List.flatMap_cons,he]
  rw[List.append_assoc,List.append_assoc]
  exact List.Perm.append_left _ List.perm_append_comm
 | B::t,l+1,P,h,he=>by
  simp only[List.getElem?_cons_succ]at h
  simp only[List.set_cons_succ,List.flatMap_cons]
  rw[List.append_assoc]
  exact List.Perm.append_left _ (a6b t l P h he)
noncomputable def Ed (ws:List Str) (ns:List Str) (bs:List (List Rk)) (n m:Str):Prop:=∃(j:Nat)(rs:List Rk)(r:Rk),ns[j]?=some n/\bs[j]?=some rs/\r∈rs/\r.k∈ws/\r.t=some m
noncomputable def a6s (ns:List Str) (bs:List (List Rk)):List (Str×Rk):=(ns.zip bs).flatMap fun q:Str×List Rk=>q.2.map fun r=>(q.1,r)
theorem a5o{ns:List Str}{bs:List (List Rk)}{n:Str}{r:Rk}:(n,r)∈a6s ns bs↔∃(j:Nat)(rs:List Rk),ns[j]?=some n/\bs[j]?=some rs/\r∈rs:=by
 unfold a6s
 rw[List.mem_flatMap]
 constructor
 ·rintro⟨⟨n',rs⟩,hq,hm⟩
  obtain⟨r',hr,e⟩:=AV.mp hm
  cases e
  obtain⟨j,hj⟩:=BB hq
  rw[List.getElem?_zip_eq_some]at hj
  exact⟨j,rs,hj.1,hj.2,hr⟩
 ·rintro⟨j,rs,h1,h2,h3⟩
  exact⟨(n,rs),AF (List.getElem?_zip_eq_some.mpr ⟨h1,h2⟩),AV.mpr ⟨r,h3,rfl⟩⟩
structure b0H(ns:List Str)(bs:List (List Rk))(packs:List (List Ro)):Prop where
 hd:∀P∈packs,P=[]\/∃n t,P= .part n::t
 pt:(packs.flatMap R6).Perm ns
 pr:(packs.flatMap prs).Perm (a6s ns bs)
noncomputable def a2B (r:Rk):Bool:=decide (r.k="do") || decide (r.k="ask")
noncomputable def gTo (tg:List (Str×Nat×Nat×Rk)) (n:Str):List Str:=(tg.filter fun x=>decide (x.1=n)).filterMap fun x=>if a2B x.2.2.2=true then x.2.2.2.t else none
theorem b0H.to{ns:List Str}{bs:List (List Rk)}{packs:List (List Ro)}(h:b0H ns bs packs){ws:List Str}(hw:∀x,x∈ws↔x="ask" \/x="do")(n m:Str):m∈gTo (Y8 0 packs) n↔Ed ws ns bs n m:=by
 have e1:∀r:Rk,(n,r)∈(Y8 0 packs).map (fun x=>(x.1,x.2.2.2))↔(n,r)∈a6s ns bs:=fun r=>by
  rw[a3N]
  exact h.pr.mem_iff
 unfold gTo
 rw[List.mem_filterMap]
 constructor
 ·rintro⟨x,hx,e⟩
  rw[List.mem_filter]at hx
  have hn:x.1=n:=of_decide_eq_true hx.2
  split at e
  ·rename_i hh
   have:=(e1 x.2.2.2).mp (AV.mpr ⟨x,hx.1,by rw[hn]⟩)
   obtain⟨j,rs,h1,h2,h3⟩:=a5o.mp this
   refine⟨j,rs,x.2.2.2,h1,h2,h3,(hw _).mpr ?_,e⟩
   unfold a2B at hh
   rw[Bool.or_eq_true,decide_eq_true_eq,decide_eq_true_eq]at hh
   exact hh.symm
  ·cases e
 ·rintro⟨j,rs,r,h1,h2,h3,h4,h5⟩
  obtain⟨x,hx,e⟩:=AV.mp ((e1 r).mpr (a5o.mpr ⟨j,rs,h1,h2,h3⟩))
  have e2:x.1=n:=congrArg Prod.fst e
  have e3:x.2.2.2=r:=congrArg Prod.snd e
  refine⟨x,List.mem_filter.mpr ⟨hx,decide_eq_true e2⟩,?_⟩
  have hh:a2B x.2.2.2=true:=by
   rw[e3]
   unfold a2B
   rw[Bool.or_eq_true,decide_eq_true_eq,decide_eq_true_eq]
   exact((hw _).mp h4).symm
  rw[if_pos hh,e3,h5]
theorem a6t{X R:TS}{D:a1F}{r:VK}{b k:L2.St->Hp->Prop}{i:Nat}{v:V}{σ:L2.St}{H:Hp}(h:a7g X R D (σ.set i (some v)) H):a3p i v σ H (a1F.nx ⟨a7g X R D,r,b,k⟩):=h
theorem a2f{X R:TS}{D:a1F}{r:VK}{b k:L2.St->Hp->Prop}{σ:L2.St}{H:Hp}(h:a7g X R D σ H):a8k ⟨a7g X R D,r,b,k⟩ σ H:=h
theorem a4i{t u:TT}{σ:L2.St}{H:Hp}{a b:Bool}(ht:∀Q:Bool->Hp->Prop,Q a H->t σ H Q)(hu:∀Q:Bool->Hp->Prop,Q b H->u σ H Q):∀Q:Bool->Hp->Prop,Q (a && b) H->b5k t u σ H Q:=fun Q h=>by
 refine ht _ ?_
 cases a with
 | true=>exact O7 (hu _ h)
 | false=>exact Y4 h
theorem a0o{t:TT}{B R:TS}{D:a1F}{σ:L2.St}{H:Hp}(C:Bool->Hp->Prop)(J:L2.St->Hp->Prop)(ht:∀Q:Bool->Hp->Prop,(∀b H1,C b H1->Q b H1)->t σ H Q)(h1:∀H1,C true H1->∀D':a1F,(∀σ' H',J σ' H'->D'.nx σ' H')->B D' σ H1)(h2:∀H1,C false H1->J σ H1)(hR:∀σ' H',J σ' H'->R D σ' H'):a7g (a9y t B a8k) R D σ H:=by
 refine ht _ fun b H1 hc=>?_
 cases b with
 | true=>exact O7 (h1 H1 hc _ fun σ' H' j=>hR σ' H' j)
 | false=>exact Y4 (hR σ H1 (h2 H1 hc))
theorem a7v{t:TT}{B:TS}{D:a1F}{σ:L2.St}{H:Hp}(C:Bool->Hp->Prop)(ht:∀Q:Bool->Hp->Prop,(∀b H1,C b H1->Q b H1)->t σ H Q)(h1:∀H1,C true H1->B D σ H1)(h2:∀H1,C false H1->D.nx σ H1):a9y t B a8k D σ H:=by
 refine ht _ fun b H1 hc=>?_
 cases b with
 | true=>exact O7 (h1 H1 hc)
 | false=>exact Y4 (h2 H1 hc)
theorem a4y{t u:TT}{σ:L2.St}{H:Hp}(C1 C:Bool->Hp->Prop)(ht:∀Q:Bool->Hp->Prop,(∀b H1,C1 b H1->Q b H1)->t σ H Q)(hu:∀H1,C1 true H1->∀Q:Bool->Hp->Prop,(∀b H2,C b H2->Q b H2)->u σ H1 Q)(hf:∀H1,C1 false H1->C false H1):∀Q:Bool->Hp->Prop,(∀b H1,C b H1->Q b H1)->b5k t u σ H Q:=fun Q h=>by
 refine ht _ fun b H1 hc=>?_
 cases b with
 | true=>exact O7 (hu H1 hc Q h)
 | false=>exact Y4 (h false H1 (hf H1 hc))
theorem b5g{X:Cx}{K:W.Frag}(hK:X.K=K){o e:Expr}{es:List Expr}{to:TE}{t:TA}{name:Str}{apos cpos:Pos}{T id:String}{r:V->List V->Hp->VK->Prop}(pa:PlainAttrs T)(slot:Slot T name id)(hty:typeOf (.builtin id)=pure (.type "method_descriptor"))(hm:MtR X id r)(ho:PE X o to)(ha:PA X (e::es) t)
  (hbase:attributeBase o name X.env (eval o X.env)=eval o X.env:=by rfl)
  (hfew:((backTo cpos (starEach (e::es) X.env)).all (fun x=>!x.1) && (backToKw cpos (keywordEach [] X.env)).all (fun x=>x.1.isSome) && decide ((e::es).length+([]:List Keyword).length+(if([]:List Keyword).isEmpty then 0 else 1) < 30))=true:=by rfl)
  (hline:(apos.endLine==cpos.line)=true:=by rfl)(hs:starEach (e::es) X.env=(false,eval e X.env)::starEach es X.env:=by rfl)(hplain:(backTo cpos (starEach es X.env)).any (·.1)=false:=by rfl):
  PE X (.Call (.Attribute o name apos) (e::es) [] cpos) (tBM K T r to t):=by
 subst hK
 exact D0 pa slot hty hm ho ha hbase hfew hline hs hplain
theorem b0F{X:Cx}{K:W.Frag}(h:X.K=K):MtR X "list.index" (fun x vs H Q=>∃(l:Addr)(ys:List Str)(w:Str)(j:Nat),x= .ref l/\vs=[.str w]/\SqL K H l (ys.map V.str)/\ys[j]?=some w/\(∀i,i < j->ys[i]?≠some w)/\Q (.int (j:Int)) H):=h▸a8Q
theorem a1i:∀l:List Str,(l.map V.str).all a3b=true
 | []=>rfl
 | _::r=>a1i r
theorem a2S{l:List Str}{i:Int}(h0:0<=i)(h1:i < (l.length:Int)):∃x,x∈l/\atI (l.map V.str) i=some (.str x):=by
 obtain⟨v,hv,e⟩:=a5a (l.map V.str) h0 (by rw[List.length_map];exact h1)
 obtain⟨x,hx,rfl⟩:=AV.mp hv
 exact⟨x,hx,e⟩
noncomputable def b3i (ns:List Str) (H:Hp) (v:V) (rs:List Rk):Prop:=∃b,v= .ref b/\H b=some (.lst (rs.map fun r=>V.ref r.a))/\∀r∈rs,a2T ns H r
noncomputable def a2C (ns:List Str) (H:Hp) (bl:Addr) (bs:List (List Rk)):Prop:=∃vs,H bl=some (.lst vs)/\Paired (b3i ns H) vs bs/\bs.length=ns.length/\∀rs∈bs,rs.length<=40
theorem b3i.same{ns:List Str}{H H':Hp}(s:G8 H H'){v:V}{rs:List Rk}(h:b3i ns H v rs):b3i ns H' v rs:=by
 obtain⟨b,h1,h2,h3⟩:=h
 exact⟨b,h1,s _ _ h2,fun r hr=>(h3 r hr).mono s.tups⟩
theorem a2C.same{ns:List Str}{H H':Hp}(s:G8 H H'){bl:Addr}{bs:List (List Rk)}(h:a2C ns H bl bs):a2C ns H' bl bs:=by
 obtain⟨vs,h1,h2,h3⟩:=h
 exact⟨vs,s _ _ h1,Paired.mapP h2 fun _ _ z=>z.same s,h3⟩
theorem a8D{ns:List Str}(hnd:ns.Nodup){j:Nat}{x:Str}(h:ns[j]?=some x):∀i,i < j->ns[i]?≠some x:=fun i hi z=>by
 have hj:j < ns.length:=(AB.mp h).1
 have:=(List.getElem?_inj (i:=i) (j:=j) (by omega) hnd).mp (by rw[z,h])
 omega
noncomputable def b3j (K:W.Frag):Sp:=fun vs H Q _=>∃(nl bl wt:Addr)(root:Str)(ns ws:List Str)(bs:List (List Rk)),vs=[.ref nl,.ref bl,.str root,.ref wt]/\H nl=some (.lst (ns.map V.str))/\a2C ns H bl bs/\ns.Nodup/\ns.length<=12/\root∈ns/\H wt=some (.tup (ws.map V.str))/\(∀w∈ws,w="do" \/w="ask")/\
 ∀(l:Addr)(L:List Str)(H':Hp),G8 H H'->H l=none->H' l=some (.lst (L.map V.str))->L.Nodup->(∀x∈L,x∈ns)->(∀m,m∈L↔Rch (Ed ws ns bs) [root] m)->Q (.ref l) H'
noncomputable def muC (σ:L2.St) (_:Hp):Nat:=match σ[5]? with
 | some (some (V.int i))=>30 - i.toNat
 | _=>0
theorem a5d(T:Txt K mg):L2.Cl P w K mg base 1 "_law_there" ["_law_names_here","_law_blocks_here","_law_root","_law_words"] (b3j K):=by
 refine Cl.of T.d_law_there a0K (fun vs H Q E h=>?_) (fun _ _ _ _ _ _ us hl=>by obtain⟨a,b,c,d,rfl⟩:=b0O hl;rfl) (fun fa cdv A outer s H vs Q E hr h=>?_)
 ·obtain⟨nl,bl,wt,root,ns,ws,bs,rfl,_⟩:=h
  rfl
 ·obtain⟨nl,bl,wt,root,ns,ws,bs,rfl,hnl,hbk,hnd0,hn12,hroot,hwt,hws,q⟩:=h
  refine⟨_,(G3 (J6 (i:=4) a0K.nd rfl (Or.inl rfl) (Z2 (G0 (pv 2) G2)))
   (G3 (J6 (i:=5) a0K.nd rfl (Or.inl rfl) G5)
   (G3 (a5e AL (J3 a5J (pv 5) (R9 U2 (by rfl) T.n_len PySem.boot_len (G0 (pv 4) G2)) (R4 _))
    (G3 (Y2 AL rfl (E2 (J0 W7 (pv 1) (D0 PySem.F.plainAttrs_list PySem.F.slot_list_index PySem.F.type_list_index a8Q (pv 0) (G0 (J0 W7 (pv 4) (pv 5) (fun _ _=>rfl)) G2)) (fun _ _=>rfl))) (J8 (i:=6) a0K.nd rfl (Or.inl rfl))
     (G6 (R8 (PW.pt (a0T (J3 a2i (J0 J1 (pv 6) G5 (fun _ _=>rfl)) (pv 3) (by with_unfolding_all rfl)) (M6 (J3 a1B (J0 J1 (pv 6) G5 (fun _ _=>rfl)) (pv 4) (by with_unfolding_all rfl)))))
      (G6 (U1 (D0 PySem.F.plainAttrs_list PySem.F.slot_list_append PySem.F.type_list_append W5 (pv 4) (G0 (J0 J1 (pv 6) G5 (fun _ _=>rfl)) G2)))) J5)))
    (G6 (J6 (i:=5) a0K.nd rfl (Or.inl rfl) (J4 O6 (pv 5) G5)))))
   (G6 (R3 (pv 4)))))),?_⟩
  refine⟨_,rfl,a3Y,fun l gl=>?_⟩
  have s2:G8 H (upd H l (.lst [.str root])):=(G8.refl H).new gl
  refine a6t ?_
  refine a5B (D:=_) (fun σ H2=>∃(L:List Str)(i:Nat)(v6:Option V),σ=[some (.ref nl),some (.ref bl),some (.str root),some (.ref wt),some (.ref l),some (.int (i:Int)),v6]/\G8 H H2/\H2 l=some (.lst (L.map V.str))/\L.Nodup/\i<=L.length/\(∀x∈L,x∈ns)/\root∈L/\(∀x∈L,Rch (Ed ws ns bs) [root] x)/\∀j x,j < i->L[j]?=some x->∀y,Ed ws ns bs x y->y∈L) muC
   ⟨[root],0,none,rfl,s2,G1,by simp,by simp,fun x hx=>by rw[AC.mp hx];exact hroot,by simp,fun x hx=> .base hx,fun j x hj=>by omega⟩ ?_ ?_
  ·rintro σ H2 ⟨L,i,v6,rfl,s3,hl,hnd,hiL,hLN,hrL,hRc,hcl2⟩
   have hLl:=a1f L _ hnd hLN
   refine⟨_,rfl,_,rfl,l,_,rfl,.inl (SqL.of hl),_,_,rfl,rfl,_,rfl,?_⟩
   rw[List.length_map]
   refine a4n (fun hlt=>?_) (fun hlt=>?_)
   ·have hiL':i < L.length:=by have:=of_decide_eq_true hlt;omega
    have hx:L[i]?=some L[i]:=by simp[hiL']
    have hxN:=hLN _ (List.getElem_mem hiL')
    obtain⟨jn,hjn⟩:=BB hxN
    obtain⟨bvs,hbl0,hbp,hbsl,hb40⟩:=id hbk
    have hbl:=s3 _ _ hbl0
    have hjl:jn < ns.length:=(AB.mp hjn).1
    have hrs:bs[jn]?=some bs[jn]:=AG (by omega)
    obtain⟨bv,hbv,b,rfl,hb0,hra0⟩:=Paired.get?' hbp hrs
    generalize bs[jn]=rs at hrs hb0 hra0
    have hbl':b≠l:=fun z=>by rw[z,gl]at hb0;cases hb0
    have hb:=s3 _ _ hb0
    have hra:=fun r hr=>(hra0 r hr).mono s3.tups
    refine⟨_,rfl,_,rfl,.inl ⟨rfl,_,SqL.of (s3 _ _ hnl)⟩,_,rfl,_,rfl,l,_,_,_,rfl,rfl,SqL.of hl,G9 (by rw[AN,hx];rfl),nl,ns,_,jn,rfl,rfl,SqL.of (s3 _ _ hnl),hjn,a8D hnd0 hjn,?_⟩
    refine⟨bl,_,_,_,rfl,rfl,SqL.of hbl,G9 hbv,?_⟩
    refine⟨b,rfl,⟨_,SqL.of hb⟩,a0O (K:=K) (a:=b) (xs:=rs.map fun r=>V.ref r.a) (fun t σ H3=>∃(L':List Str)(v6:Option V),σ=[some (.ref nl),some (.ref bl),some (.str root),some (.ref wt),some (.ref l),some (.int (i:Int)),v6]/\G8 H H3/\But l H2 H3/\H3 l=some (.lst ((L++L').map V.str))/\(L++L').Nodup/\(∀x∈L++L',x∈ns)/\(∀x∈L++L',Rch (Ed ws ns bs) [root] x)/\∀r∈rs.take t,r.k∈ws->∀m,r.t=some m->m∈L++L')
     ⟨[],_,rfl,s3,fun a o _ h=>h,by rw[List.append_nil];exact hl,by rw[List.append_nil];exact hnd,by rw[List.append_nil];exact hLN,by rw[List.append_nil];exact hRc,by simp⟩ (fun t σ H3 _⟨_,_,_,_,B3,_⟩=>SqL.of (B3 _ _ hbl' hb)) ?_ ?_⟩
    ·rintro t y σ H3 hy ⟨L',v6',rfl,s4,B3,hl3,hnd3,hN3,hR3,hc3⟩
     rw[AN]at hy
     obtain⟨r,hr,rfl⟩:=AX.mp hy
     have hrm:r∈rs:=AF hr
     obtain⟨y1,tl,hrt0,hkp,hto,_⟩:=hra r hrm
     have hrt:=B3 _ _ (fun z=>by rw[z,hl]at hrt0;cases hrt0) hrt0
     have hLl3:=a1f _ _ hnd3 hN3
     have z0:atI (V.str r.k::y1::tl) 0=some (.str r.k):=G9 (j:=0) rfl
     have z1:atI (V.str r.k::y1::tl) 1=some y1:=G9 (j:=1) rfl
     have hwt3:SqT K H3 wt (ws.map V.str):=SqT.of (s4 _ _ hwt)
     refine⟨_,rfl,r.a,_,_,_,rfl,rfl,SqT.of hrt,z0,_,rfl,wt,_,rfl,.inr hwt3,rfl,a1i _,_,rfl,?_⟩
     rw[a1v]
     by_cases hkw:r.k∈ws
     ·rw[decide_eq_true hkw]
      refine O7 ?_
      obtain⟨m,hmN,hrt',rfl⟩:=hto (hws _ hkw)
      refine⟨_,rfl,r.a,_,_,_,rfl,rfl,SqT.of hrt,z1,_,rfl,l,_,rfl,.inl (SqL.of hl3),rfl,a1i _,_,rfl,?_⟩
      rw[a1v]
      have hmk:Ed ws ns bs L[i] m:=⟨jn,rs,r,hjn,hrs,hrm,hkw,hrt'⟩
      by_cases hin:m∈L++L'
      ·rw[decide_eq_true hin]
       refine Y4 ?_
       refine⟨L',_,rfl,s4,B3,hl3,hnd3,hN3,hR3,fun r1 hr1 hk1 m' hm'=>?_⟩
       rw[I0 hr]at hr1
       rcases AK.mp hr1 with z | z
       ·exact hc3 r1 z hk1 m' hm'
       ·rw[AC.mp z,hrt']at hm'
        cases hm'
        exact hin
      ·rw[AM hin]
       refine O7 ?_
       refine⟨_,rfl,.inl ⟨rfl,_,SqL.of hl3⟩,_,rfl,r.a,_,_,_,rfl,rfl,SqT.of hrt,z1,l,_,_,rfl,rfl,hl3,J9 (by rw[List.length_map];omega),?_⟩
       refine⟨L'++[m],_,rfl,s4.put gl,(fun a o ha h=>by rw[G7 ha];exact B3 a o ha h),?_,?_,?_,?_,?_⟩
       ·rw[G1,<-List.append_assoc,List.map_append (l₂:=[m])];rfl
       ·rw[<-List.append_assoc]
        refine List.nodup_append.mpr ⟨hnd3,by simp,fun a ha b hb z=>?_⟩
        rw[AC.mp hb]at z
        exact hin (by rw[<-z];exact ha)
       ·intro x hx
        rw[<-List.append_assoc]at hx
        rcases AK.mp hx with z | z
        ·exact hN3 x z
        ·rw[AC.mp z];exact hmN
       ·intro x hx
        rw[<-List.append_assoc]at hx
        rcases AK.mp hx with z | z
        ·exact hR3 x z
        ·rw[AC.mp z];exact .step (hRc _ (List.getElem_mem hiL')) hmk
       ·intro r1 hr1 hk1 m' hm'
        rw[<-List.append_assoc]
        rw[I0 hr]at hr1
        rcases AK.mp hr1 with z | z
        ·exact BA _ (hc3 r1 z hk1 m' hm')
        ·rw[AC.mp z,hrt']at hm'
         cases hm'
         exact AW _ (AC.mpr rfl)
     ·rw[AM hkw]
      refine Y4 (Y4 ?_)
      refine⟨L',_,rfl,s4,B3,hl3,hnd3,hN3,hR3,fun r1 hr1 hk1 m' hm'=>?_⟩
      rw[I0 hr]at hr1
      rcases AK.mp hr1 with z | z
      ·exact hc3 r1 z hk1 m' hm'
      ·rw[AC.mp z]at hk1
       exact absurd hk1 hkw
    ·rintro σ H3 ⟨L',v6',rfl,s4,B3,hl3,hnd3,hN3,hR3,hc3⟩
     rw[List.length_map,AR]at hc3
     refine⟨_,rfl,_,_,rfl,rfl,⟨⟨L++L',i+1,_,rfl,s4,hl3,hnd3,by rw[List.length_append];omega,hN3,BA _ hrL,hR3,fun j x hj hx' y hy=>?_⟩,?_⟩⟩
     ·rw[List.getElem?_append_left (by omega)]at hx'
      by_cases e':j=i
      ·subst e'
       have hxe:x=L[j]:=Option.some.inj (hx'.symm.trans hx)
       rw[hxe]at hy
       obtain⟨j2,rs2,r2,g1,g2,g3,g4,g5⟩:=hy
       have:jn=j2:=(List.getElem?_inj hjl hnd0).mp (by rw[hjn,g1])
       subst this
       rw[hrs]at g2
       cases g2
       exact hc3 r2 g3 g4 y g5
      ·exact BA _ (hcl2 j x (by omega) hx' y hy)
     ·show(30 - ((i:Int)+1).toNat) < 30 - ((i:Int)).toNat
      omega
   ·have hiE:i=L.length:=by
     have:¬((i:Int) < (L.length:Int)):=fun z=>hlt (decide_eq_true z)
     omega
    refine⟨_,rfl,q l L H2 s3 gl hl hnd hLN fun m=>⟨hRc m,fun hm=>?_⟩⟩
    refine Rch.of (fun n hn=>by rw[AC.mp hn];exact hrL) (fun x hx y hy=>?_) hm
    obtain⟨j,hj⟩:=BB hx
    exact hcl2 j x (by have:=(AB.mp hj).1;omega) hj y hy
  ·rintro σ H2 Q1 Q2 hQ ⟨v,e1,v2,e2,p,xs,e3,h4,i,j,e5,e6,k,e7,h8⟩
   exact⟨v,e1,v2,e2,p,xs,e3,h4,i,j,e5,e6,k,e7,hQ _ _ h8⟩
noncomputable def Bnd (ns:List Int):Prop:=∀n∈ns,0<=n/\n < 2305843009213693951
noncomputable def b2z:Sp:=fun vs H Q _=>∃(c m:Int),vs=[.int c,.int m]/\1<=m/\m<=20/\∀(l:Addr)(ns:List Int)(H':Hp),G8 H H'->H' l=some (.lst (ns.map V.int))->(ns.length:Int)=m->Bnd ns->Q (.ref l) H'
theorem a8g(xs:List V)(k:Nat)(hk:k<=xs.length):a5Z xs (some (k:Int)) none=xs.drop k:=by
 unfold a5Z
 rw[HT.b2A,HT.a7O,Nat.min_eq_left hk,List.take_of_length_le (by simp)]
theorem b0T(T:Txt K mg):L2.Cl P w K mg base 1 "_law_stream" ["_law_cell","_law_many"] b2z:=by
 refine Cl.of T.d_law_stream a0B (fun vs H Q E h=>?_) (fun _ _ _ _ _ _ us hl=>by obtain⟨a,b,rfl⟩:=a2F hl;rfl) (fun f cdv A outer s H vs Q E hr h=>?_)
 ·obtain⟨c,m,rfl,_⟩:=h
  rfl
 ·obtain⟨c,m,rfl,hm1,hm2,q⟩:=h
  refine⟨_,(G3 (J6 (i:=2) a0B.nd rfl (Or.inl rfl) (Z2 G2))
   (G3 (J6 (i:=3) a0B.nd rfl (Or.inl rfl) (J4 O0 (pv 0) G5))
   (G3 (Y2 AL rfl (Z4 (by rfl) T.n_range (G0 (J4 O6 (pv 1) G5) G2)) (J8 (i:=4) a0B.nd rfl (Or.inl rfl))
    (G3 (J6 (i:=3) a0B.nd rfl (Or.inl rfl) (J4 O0 (J4 O6 (J4 O6 (J4 O6 (J4 a0R (pv 3) (pv 3)) (J4 a0R G5 (pv 3))) (J4 a0R G5 (pv 4))) G5) G5))
    (G6 (U1 (D0 PySem.F.plainAttrs_list PySem.F.slot_list_append PySem.F.type_list_append W5 (pv 2) (G0 (pv 3) G2))))))
   (G6 (R3 (a3W a4W (pv 2) (a3i G5) b0f)))))),?_⟩
  refine⟨a1G,fun l hl=>⟨_,rfl,_,_,rfl,rfl,(by show(0:Int) < 2305843009213693951;decide),?_⟩⟩
  have s1:G8 H (upd H l (.lst [])):=(G8.refl H).new hl
  refine⟨_,rfl,_,_,rfl,rfl,_,rfl,(by omega),(by omega),M1 (fun i σ H2=>∃(zs:List Int)(z:Int)(v4:Option V),σ=[some (.int c),some (.int m),some (.ref l),some (.int z),v4]/\G8 H H2/\H2 l=some (.lst (zs.map V.int))/\zs.length=i/\Bnd zs/\0<=z/\z < 2305843009213693951)
   ⟨[],_,none,rfl,s1,G1,rfl,(fun n hn=>by simp at hn),(by omega),(by omega)⟩ ?_ ?_⟩
  ·rintro i σ H2 hi ⟨zs,z,v4,rfl,s2,hl2,hlen,hb,hz0,hz1⟩
   refine⟨_,rfl,_,rfl,_,_,rfl,rfl,.inl ⟨by omega,by omega⟩,_,rfl,_,_,rfl,rfl,.inl ⟨by decide,by decide⟩,_,_,rfl,rfl,_,rfl,_,_,rfl,rfl,.inl ⟨by decide,by decide⟩,_,_,rfl,rfl,_,_,rfl,rfl,_,_,rfl,rfl,(by show(0:Int) < 2305843009213693951;decide),?_⟩
   generalize z*z+48271*z+7*(0+(i:Int))+3=y
   refine⟨_,rfl,.inl ⟨rfl,_,SqL.of hl2⟩,_,rfl,l,_,_,rfl,rfl,hl2,J9 (by rw[List.length_map];omega),?_⟩
   refine⟨zs++[y % 2305843009213693951],y % 2305843009213693951,_,rfl,s2.put hl,by rw[G1,List.map_append];rfl,by simp[hlen],fun n hn=>?_,by omega,by omega⟩
   rcases AK.mp hn with h | h
   ·exact hb n h
   ·rw[AC.mp h];omega
  ·rintro σ H2 ⟨zs,z,v4,rfl,s2,hl2,hlen,hb,hz0,hz1⟩
   refine⟨_,rfl,_,rfl,l,_,rfl,SqL.of hl2,fun d hd=>?_⟩
   refine q d (zs.drop 1) _ (s2.new hd) ?_ (by rw[List.length_drop];omega) fun n hn=>hb n (List.mem_of_mem_drop hn)
   rw[G1]
   exact congrArg (fun z=>some (HO.lst z)) ((a8g _ 1 (by rw[List.length_map];omega)).trans (List.map_drop ..).symm)
theorem a1s{K:W.Frag}{a:Addr}{xs:List V}{g:TG}{tt:TT}{te:TE}{Q:Hp->Prop}{σ:L2.St}{H:Hp}{D:Addr}(Pv:Nat->L2.St->Hp->Prop)(h0:Pv 0 σ (upd H D (.lst [])))
  (hl:∀i σ2 H2,Pv i σ2 H2->SqL K H2 a xs)
  (hs:∀i x σ2 H2,xs[i]?=some x->Pv i σ2 H2->g x σ2 H2 fun σ4 H4=>tt σ4 H4 fun b H5=>
   if b=true then te σ4 H5 fun y H6=>∃ys,H6 D=some (.lst ys)/\ys.length < sizeLine/\Pv (i+1) σ4 (upd H6 D (.lst (ys++[y])))else Pv (i+1) σ4 H5)
  (hd:∀σ2 H2,Pv xs.length σ2 H2->Q H2):
  ∃W:Nat->Nat->L2.St->Hp->Prop,(∃m,W 0 m σ (upd H D (.lst [])))/\∀i m σ2 H2,W i m σ2 H2->
   ((Itl K a).stop i H2/\Q H2)\/((Itl K a).go i H2/\∃N:L2.St->Hp->Prop,(∀σ' H',N σ' H'->∃m',m' < m/\W (i+1) m' σ' H')/\∀x H3,(Itl K a).yld i H2 x H3->g x σ2 H3 fun σ4 H4=>tt σ4 H4 fun b H5=>
    if b=true then te σ4 H5 fun y H6=>∃ys,H6 D=some (.lst ys)/\ys.length < sizeLine/\N σ4 (upd H6 D (.lst (ys++[y])))else N σ4 H5):=by
 refine a3g xs.length Pv h0 (fun i σ2 H2 hi p=>?_) fun σ2 H2 p=>⟨⟨xs,hl _ _ _ p,AE _⟩,hd _ _ p⟩
 have e:=AG hi
 refine⟨⟨xs,_,hl _ _ _ p,e⟩,fun x H3 hy=>?_⟩
 obtain⟨rfl,hx⟩:=hy
 exact hs i x σ2 H3 (hx xs (hl _ _ _ p)) p
theorem a0f{i n:Int}(h:0 < n):0<=i % n/\i % n < n:=⟨Int.emod_nonneg _ (by omega),Int.emod_lt_of_pos _ h⟩
noncomputable def a2s:Str:="abcdefghijklmnopqrstuvwxyz"
theorem a6A:∀k:Nat,k < 26->atI a2s.cps.toList (k:Int)=some (97+k):=by decide +kernel
theorem a6d{i:Int}(h0:0<=i)(h1:i < 26):atI a2s.cps.toList i=some (97+i.toNat):=by
 have:=a6A i.toNat (by omega)
 rw[show((i.toNat:Nat):Int)=i by omega]at this
 exact this
noncomputable def nmK (u v:Str) (k:Nat):Str:=u++(⟨#[97+k % 26]⟩:Str)++v++(["","2"]:List Str).getD (k/26) ""
theorem b4b{u v:Str}{k k':Nat}(hk:k < 26)(hk':k' < 26)(h:nmK u v k=nmK u v k'):k=k':=by
 unfold nmK at h
 rw[Nat.div_eq_of_lt hk,Nat.div_eq_of_lt hk',Nat.mod_eq_of_lt hk,Nat.mod_eq_of_lt hk']at h
 have h1:=congrArg (fun z:Str=>z.cps.toList) h
 have e:∀z:Nat,((u++(⟨#[z]⟩:Str)++v++(["","2"]:List Str).getD 0 ""):Str).cps.toList=u.cps.toList++([z]++v.cps.toList):=fun z=>by
  show(((u.cps++ #[z])++v.cps)++ #[]).toList=_
  rw[Array.append_empty,Array.toList_append,Array.toList_append,List.append_assoc]
 have h2:u.cps.toList++([97+k]++v.cps.toList)=u.cps.toList++([97+k']++v.cps.toList):=by rw[<-e,<-e];exact h1
 have h3:=List.append_cancel_left h2
 have:=(List.cons.inj h3).1
 omega
noncomputable def a7z (u v:Str) (m:Nat):List Str:=(List.range m).map (nmK u v)
theorem b1k(u v:Str)(m:Nat):a7z u v (m+1)=a7z u v m++[nmK u v m]:=by unfold a7z;rw[List.range_succ,List.map_append];rfl
theorem a8o(u v:Str)(m:Nat):(a7z u v m).length=m:=by unfold a7z;simp
theorem b3U{u v:Str}{m:Nat}(hm:m<=26):(a7z u v m).Nodup:=by
 unfold a7z
 rw[List.nodup_iff_pairwise_ne,List.pairwise_map]
 refine List.Pairwise.imp_of_mem (fun ha hb hne h=>hne (b4b ?_ ?_ h)) (List.nodup_iff_pairwise_ne.mp List.nodup_range)
 ·have:=List.mem_range.mp ha;omega
 ·have:=List.mem_range.mp hb;omega
noncomputable def Lts (u:Str):Prop:=u.cps.toList.all a3n=true
theorem b0c:Lts "":=rfl
theorem b1D(k:Nat):a3n (97+k % 26)=true:=by
 have:=Nat.mod_lt k (show 0 < 26 by decide)
 unfold a3n
 simp only[Bool.and_eq_true,decide_eq_true_eq]
 omega
theorem Lts.snoc{u:Str}(h:Lts u){k:Nat}(hk:k < 26):Lts (u++(⟨#[97+k]⟩:Str)):=by
 have e:((u++(⟨#[97+k]⟩:Str)):Str).cps.toList=u.cps.toList++[97+k]:=by
  show(u.cps++ #[97+k]).toList=_
  rw[Array.toList_append]
 unfold Lts
 rw[e,List.all_append,show u.cps.toList.all a3n=true from h]
 have:=b1D k
 rw[Nat.mod_eq_of_lt hk]at this
 simp[this]
theorem b6E{u:List Nat}(hu:u.all a3n=true){r:List Nat}(hr:r.all b1j=true)(h0:0 < u.length)(h8:u.length+r.length<=8):b6p (u++r)=true:=by
 cases u with
 | nil=>exact absurd h0 (by decide)
 | cons c t=>
  rw[List.all_cons,Bool.and_eq_true]at hu
  show(a3n c && (t++r).all b1j && decide ((t++r).length<=7))=true
  have ht:t.all b1j=true:=List.all_eq_true.mpr fun x hx=>by
   have:=List.all_eq_true.mp hu.2 x hx
   unfold b1j
   rw[this]
   rfl
  rw[hu.1,List.all_append,ht,hr,List.length_append]
  simp only[List.length_cons]at h8
  simp
  omega
theorem b5G{u v:Str}{k:Nat}(hu:Lts u)(hv:Lts v)(ul:u.length<=3)(vl:v.length<=3):Z9 (nmK u v k):=by
 have h2:∀j:Nat,((["","2"]:List Str).getD j "").cps.toList.all b1j=true/\((["","2"]:List Str).getD j "").cps.toList.length<=1:=fun j=>by
  match j with
  | 0=>exact⟨by decide +kernel,by decide +kernel⟩
  | 1=>exact⟨by decide +kernel,by decide +kernel⟩
  | j+2=>exact⟨rfl,AZ _⟩
 obtain⟨h21,h22⟩:=h2 (k/26)
 have e:(nmK u v k).cps.toList=(u.cps.toList++[97+k % 26]++v.cps.toList)++((["","2"]:List Str).getD (k/26) "").cps.toList:=by
  show(((u.cps++ #[97+k % 26])++v.cps)++((["","2"]:List Str).getD (k/26) "").cps).toList=_
  rw[Array.toList_append,Array.toList_append,Array.toList_append]
 unfold Z9
 rw[e]
 have lu:u.cps.toList.length=u.length:=Array.length_toList
 have lv:v.cps.toList.length=v.length:=Array.length_toList
 refine b6E ?_ h21 ?_ ?_
 ·rw[List.all_append,List.all_append,show u.cps.toList.all a3n=true from hu,show v.cps.toList.all a3n=true from hv]
  simp[b1D]
 ·simp only[List.length_append,List.length_singleton]
  omega
 ·simp only[List.length_append,List.length_singleton]
  omega
noncomputable def b2M:Sp:=fun vs H Q _=>∃(c m:Int),vs=[.int c,.int m]/\0<=m/\m<=40/\∀(l:Addr)(ns:List Str)(H':Hp),G8 H H'->H l=none->H' l=some (.lst (ns.map V.str))->(ns.length:Int)=m->(m<=26->ns.Nodup)->(∀x∈ns,Z9 x)->Q (.ref l) H'
theorem b1z(T:Txt K mg):L2.Cl P w K mg base 1 "_law_names" ["_law_cell","_law_many"] b2M:=by
 refine Cl.of T.d_law_names F4 (fun vs H Q E h=>?_) (fun _ _ _ _ _ _ us hl=>by obtain⟨a,b,rfl⟩:=a2F hl;rfl) (fun f cdv A outer s H vs Q E hr h=>?_)
 ·obtain⟨c,m,rfl,_⟩:=h
  rfl
 ·obtain⟨c,m,rfl,hm0,hm1,q⟩:=h
  have hsz:sizeLine=16777216:=sizeLine_eq
  have c4:=a0f (i:=c) (n:=4) (by decide)
  have d4:=a0f (i:=c/4) (n:=4) (by decide)
  refine⟨_,(G3 (J6 (i:=2) F4.nd rfl (Or.inr rfl) I9)
   (G3 (J6 (i:=3) F4.nd rfl (Or.inr rfl) I9)
   (G3 (J6 (i:=4) F4.nd rfl (Or.inr rfl) I9)
   (G3 (Y2 AL rfl (Z4 (by rfl) T.n_range (G0 (J4 O0 (pv 0) G5) G2)) (J8 (i:=5) F4.nd rfl (Or.inl rfl))
    (G6 (J6 (i:=3) F4.nd rfl (Or.inr rfl) (J4 a1N (pv 3) (J0 a8Y (pv 2) (J4 O0 (J4 M5 (J4 M5 (pv 0) G5) (J4 O6 (J4 a0R G5 (pv 5)) G5)) G5) (fun _ _=>rfl))))))
   (G3 (Y2 AL rfl (Z4 (by rfl) T.n_range (G0 (J4 O0 (J4 M5 (pv 0) G5) G5) G2)) (J8 (i:=5) F4.nd rfl (Or.inl rfl))
    (G6 (J6 (i:=4) F4.nd rfl (Or.inr rfl) (J4 a1N (pv 4) (J0 a8Y (pv 2) (J4 O0 (J4 M5 (J4 M5 (pv 0) G5) (J4 O6 (J4 a0R G5 (pv 5)) G5)) G5) (fun _ _=>rfl))))))
   (G6 (R3 (a0I (M:=["_law_k","_law_behind","_law_ahead","_law_letters"]) (ρ:=[none,some 4,some 3,some 2]) (G4 a0G) ["_law_cell","_law_many","_law_letters","_law_ahead","_law_behind","_law_k"] ⟨rfl,by decide +kernel,by decide +kernel,by decide +kernel,rfl,by decide +kernel,by decide +kernel⟩ (Z4 (by rfl) T.n_range (G0 (pv 1) G2)) (fun _ _ _ _ _ _=>(J8 (i:=0) (show(["_law_k","_law_behind","_law_ahead","_law_letters"]:List Str).Nodup by decide +kernel) rfl (Or.inl rfl))) (fun _ _ _ _ _ _=>a1l) (fun _ _ _ _ _ _=>(J4 a1N (J4 a1N (J4 a1N (pv 2) (J0 a8Y (pv 3) (J4 O0 (pv 0) G5) (fun _ _=>rfl))) (pv 1)) (J0 (a3D (K:=K) rfl) (Z2 (G0 I9 (G0 I9 G2))) (J4 M5 (pv 0) G5) (fun _ _=>rfl)))))))))))),?_⟩
  refine⟨_,rfl,_,_,rfl,rfl,(by show(0:Int) < 4;decide),_,rfl,(by omega),(by omega),?_⟩
  refine M1 (n:=(c % 4).toNat) (fun i σ H2=>∃(u:Str)(v5:Option V),σ=[some (.int c),some (.int m),some (.str a2s),some (.str u),some (.str ""),v5]/\H2=H/\u.length=i/\Lts u) ⟨"",none,rfl,rfl,rfl,b0c⟩ ?_ ?_
  ·rintro i σ H2 hi ⟨u,v5,rfl,rfl,hul,hU⟩
   have m26:=a0f (i:=c/16/(5*(0+(i:Int))+1)) (n:=26) (by decide)
   refine⟨_,rfl,_,rfl,_,rfl,_,_,rfl,rfl,⟨by decide,by decide⟩,_,rfl,_,_,rfl,rfl,.inl ⟨by decide,by decide⟩,_,_,rfl,rfl,_,_,rfl,rfl,⟨by omega,by omega⟩,_,_,rfl,rfl,(by show(0:Int) < 26;decide),a2s,_,_,rfl,rfl,(by decide +kernel),a6d m26.1 m26.2,?_⟩
   refine⟨_,_,rfl,rfl,(by show u.length+1<=sizeLine;omega),?_⟩
   exact⟨_,_,rfl,rfl,by rw[Str.length_append,hul];rfl,hU.snoc (by omega)⟩
  ·rintro σ H2 ⟨u,v5,rfl,rfl,hul,hU⟩
   refine⟨_,rfl,_,_,rfl,rfl,⟨by decide,by decide⟩,_,_,rfl,rfl,(by show(0:Int) < 4;decide),_,rfl,(by omega),(by omega),?_⟩
   refine M1 (n:=(c/4 % 4).toNat) (fun i σ H3=>∃(v:Str)(v5:Option V),σ=[some (.int c),some (.int m),some (.str a2s),some (.str u),some (.str v),v5]/\H3=H2/\v.length=i/\Lts v) ⟨"",_,rfl,rfl,rfl,b0c⟩ ?_ ?_
   ·rintro i σ H3 hi ⟨v,v5,rfl,rfl,hvl,hV⟩
    have m26:=a0f (i:=c/16/(7*(0+(i:Int))+2)) (n:=26) (by decide)
    refine⟨_,rfl,_,rfl,_,rfl,_,_,rfl,rfl,⟨by decide,by decide⟩,_,rfl,_,_,rfl,rfl,.inl ⟨by decide,by decide⟩,_,_,rfl,rfl,_,_,rfl,rfl,⟨by omega,by omega⟩,_,_,rfl,rfl,(by show(0:Int) < 26;decide),a2s,_,_,rfl,rfl,(by decide +kernel),a6d m26.1 m26.2,?_⟩
    refine⟨_,_,rfl,rfl,(by show v.length+1<=sizeLine;omega),?_⟩
    exact⟨_,_,rfl,rfl,by rw[Str.length_append,hvl];rfl,hV.snoc (by omega)⟩
   ·rintro σ H3 ⟨v,v5,rfl,rfl,hvl,hV⟩
    refine⟨_,rfl,_,rfl,(by omega),(by omega),fun D gD=>?_⟩
    refine a3g m.toNat (fun i σ H4=>∃v0:Option V,σ=[v0,some (.str v),some (.str u),some (.str a2s)]/\G8 H3 H4/\H4 D=some (.lst ((a7z u v i).map V.str))) ⟨_,rfl,(G8.refl H3).new gD,G1⟩ ?_ ?_
    ·rintro i σ H4 hi ⟨v0,rfl,s4,hD⟩
     refine⟨hi,?_⟩
     rintro x H5 ⟨rfl,rfl⟩
     refine ntG ?_
     have e1:(0:Int)+(i:Int)=((i:Nat):Int):=by omega
     have e2:(0+(i:Int)) % 26=((i % 26:Nat):Int):=by omega
     have e3:(0+(i:Int))/26=((i/26:Nat):Int):=by omega
     have hi40:i < 40:=by omega
     have a1:atI a2s.cps.toList ((0+(i:Int)) % 26)=some (97+i % 26):=by
      rw[e2]
      exact a6A _ (Nat.mod_lt _ (by decide))
     have hdl:i/26 < 2:=by omega
     have a2:atI ((["","2"]:List Str).map V.str) ((0+(i:Int))/26)=some (.str ((["","2"]:List Str).getD (i/26) "")):=by
      rw[e3]
      exact a7o V.str (["","2"]:List Str) "" (i:=((i/26:Nat):Int)) (by omega) (by show((i/26:Nat):Int) < 2;omega)
     have a3:((["","2"]:List Str).getD (i/26) "").length<=1:=by
      have:∀j:Nat,j < 2->((["","2"]:List Str).getD j "").length<=1:=by decide +kernel
      exact this _ hdl
     refine⟨_,rfl,_,rfl,_,rfl,_,_,rfl,rfl,(by show(0:Int) < 26;decide),a2s,_,_,rfl,rfl,(by decide +kernel),a1,?_⟩
     refine⟨_,_,rfl,rfl,(by show u.length+1<=sizeLine;omega),_,rfl,_,_,rfl,rfl,(by rw[Str.length_append];show(u.length+1)+v.length<=sizeLine;omega),?_⟩
     refine⟨a0p,fun l gl=>⟨_,rfl,_,_,rfl,rfl,⟨by decide,by decide⟩,l,_,_,_,rfl,rfl,SqL.of G1,a2,?_⟩⟩
     have hl2:(u++(⟨#[97+i % 26]⟩:Str)++v).length=u.length+1+v.length:=by rw[Str.length_append,Str.length_append];rfl
     refine⟨_,_,rfl,rfl,(by show(u++(⟨#[97+i % 26]⟩:Str)++v).length+_<=sizeLine;rw[hl2];omega),?_⟩
     have hlD:l≠D:=fun z=>by rw[z,hD]at gl;cases gl
     refine⟨_,(U3 hD gl),J9 (by rw[List.length_map,a8o];omega),_,rfl,(s4.new gl).put gD,?_⟩
     rw[G1,b1k,List.map_append]
     rfl
    ·rintro σ H4 ⟨v0,rfl,s4,hD⟩
     refine⟨AE _,?_⟩
     exact q D (a7z u v m.toNat) H4 s4 gD hD (by rw[a8o];omega) (fun h26=>b3U (by omega)) fun x hx=>by obtain⟨k,_,rfl⟩:=AV.mp hx;exact b5G hU hV (by omega) (by omega)
structure SgS(ts:List (Int×Th)):Prop where
 th:∀p∈ts,b1a p.2
 sg:∀p∈ts,p.1=1\/p.1= -1
 hd:∀p,ts.head?=some p->p.1=1
theorem SgS.nil:SgS []:=⟨(fun p h=>by cases h),(fun p h=>by cases h),(fun p h=>by cases h)⟩
theorem SgS.snoc{ts:List (Int×Th)}(h:SgS ts){s:Int}{t:Th}(ht:b1a t)(hs:s=1\/s= -1)(h0:ts=[]->s=1):SgS (ts++[(s,t)]):=by
 refine⟨fun p hp=>?_,fun p hp=>?_,fun p hp=>?_⟩
 ·rcases AK.mp hp with z | z
  ·exact h.th p z
  ·rw[AC.mp z];exact ht
 ·rcases AK.mp hp with z | z
  ·exact h.sg p z
  ·rw[AC.mp z];exact hs
 ·cases ts with
  | nil=>cases hp;exact h0 rfl
  | cons a l=>exact h.hd p hp
theorem SgS.ok{ts:List (Int×Th)}(h:SgS ts)(lo:1<=ts.length)(hi:ts.length<=6):a8n ts:=⟨lo,hi,h.th,h.sg,h.hd⟩
theorem b5h{x:Int}:b1a (.num (x % 10 ^ (17:Int).toNat)):=by
 have:=a0f (i:=x) (n:=10 ^ (17:Int).toNat) (by decide)
 exact⟨this.1,Int.lt_trans this.2 (by decide)⟩
noncomputable def b5d:Sp:=fun vs H Q _=>∃(ow nu:Addr)(os:List Str)(xs:List Int),vs=[.ref ow,.ref nu]/\H ow=some (.lst (os.map V.str))/\H nu=some (.lst (xs.map V.int))/\9<=xs.length/\xs.length<=12/\Bnd xs/\(∀x∈os,Z9 x)/\∀(t:Addr)(ts:List (Int×Th))(H':Hp),G8 H H'->D1 H' t ts->a8n ts->Q (.ref t) H'
theorem atB{xs:List Int}(hb:Bnd xs){i:Int}(h0:0<=i)(h1:i < (xs.length:Int)):∃x:Int,atI (xs.map V.int) i=some (.int x)/\0<=x/\x < 2305843009213693951:=by
 obtain⟨v,hv,e⟩:=a5a (xs.map V.int) h0 (by rw[List.length_map];exact h1)
 obtain⟨x,hx,rfl⟩:=AV.mp hv
 exact⟨x,e,(hb x hx).1,(hb x hx).2⟩
theorem b5i(T:Txt K mg):L2.Cl P w K mg base 1 "_law_sum" ["_law_owns","_law_numbers"] b5d:=by
 refine Cl.of T.d_law_sum a0e (fun vs H Q E h=>?_) (fun _ _ _ _ _ _ us hl=>by obtain⟨a,b,rfl⟩:=a2F hl;rfl) (fun f cdv A outer s H vs Q E hr h=>?_)
 ·obtain⟨ow,nu,os,xs,rfl,_⟩:=h
  rfl
 ·obtain⟨ow,nu,os,xs,rfl,how,hnu,hx9,hx12,hb,hos,q⟩:=h
  have hu0:=Nat.lt_of_succ_lt (a0s hr)
  refine⟨_,(G3 (J6 (i:=2) a0e.nd rfl (Or.inl rfl) (Z2 G2))
   (G3 (Y2 AL rfl (Z4 (by rfl) T.n_range (G0 (J4 O6 G5 (J4 O0 (J0 W7 (pv 1) G5 (fun _ _=>rfl)) G5)) G2)) (J8 (i:=3) a0e.nd rfl (Or.inl rfl))
    (G3 (J6 (i:=4) a0e.nd rfl (Or.inl rfl) (J0 W7 (pv 1) (J4 O6 (pv 3) G5) (fun _ _=>rfl)))
    (G3 (J6 (i:=5) a0e.nd rfl (Or.inl rfl) (J4 O0 (J4 M5 (pv 4) G5) (J4 a7u G5 G5)))
    (G3 (R8 (PW.pt (a0T (J3 b2Q (J4 O0 (pv 4) G5) G5 (R4 _)) (M6 (J3 (a3w hu0) (pv 0) (Z2 G2) (R4 _)))))
     (G6 (J6 (i:=5) a0e.nd rfl (Or.inl rfl) (J0 W7 (pv 0) (J4 O0 (J4 M5 (pv 4) G5) (R9 U2 (by rfl) T.n_len PySem.boot_len (G0 (pv 0) G2))) (fun _ _=>rfl)))) J5)
    (G3 (J6 (i:=6) a0e.nd rfl (Or.inl rfl) G5)
    (G3 (R8 (PW.pt (a0T (J3 b2Q (pv 3) G5 (R4 _)) (M6 (J3 Y5 (J4 O0 (J4 M5 (J0 W7 (pv 1) G5 (fun _ _=>rfl)) (J4 O6 G5 (J4 a0R G5 (pv 3)))) G5) G5 (R4 _)))))
     (G6 (J6 (i:=6) a0e.nd rfl (Or.inl rfl) (b4A b1Z G5))) J5)
    (G6 (U1 (D0 PySem.F.plainAttrs_list PySem.F.slot_list_append PySem.F.type_list_append W5 (pv 2) (G0 (R5 (G0 (pv 6) (G0 (pv 5) G2))) G2))))))))))
   (G6 (R3 (Y0 W8 (by rfl) T.n_tuple boot_tuple (G0 (pv 2) G2)))))),?_⟩
  refine⟨a1G,fun D gD=>?_⟩
  obtain⟨x0,hx0,x00,_⟩:=atB hb (i:=0) (by omega) (by omega)
  have m6:=a0f (i:=x0) (n:=6) (by decide)
  refine⟨_,rfl,nu,_,_,_,rfl,rfl,SqL.of (U3 hnu gD),hx0,_,_,rfl,rfl,(by show(0:Int) < 6;decide),_,_,rfl,rfl,_,rfl,(by omega),(by omega),?_⟩
  refine M1 (n:=(1+x0 % 6).toNat) (fun i σ H2=>∃(us:List V)(ts:List (Int×Th))(v3 v4 v5 v6:Option V),σ=[some (.ref ow),some (.ref nu),some (.ref D),v3,v4,v5,v6]/\G8 H H2/\H2 D=some (.lst us)/\us.length=i/\a6L H2 us ts/\SgS ts) ⟨[],[],none,none,none,none,rfl,(G8.refl H).new gD,G1,rfl,.nil,SgS.nil⟩ ?_ ?_
  ·rintro i σ H2 hi ⟨us,ts,v3,v4,v5,v6,rfl,s2,hD,hul,hts,hsg⟩
   have hnu2:=s2 _ _ hnu
   have how2:=s2 _ _ how
   obtain⟨x1,hx1,x10,_⟩:=atB hb (i:=0+(i:Int)+1) (by omega) (by omega)
   refine⟨_,rfl,_,rfl,_,_,rfl,rfl,nu,_,_,_,rfl,rfl,SqL.of hnu2,hx1,?_⟩
   refine⟨_,rfl,_,_,rfl,rfl,⟨by decide,by decide⟩,_,_,rfl,rfl,⟨by decide,by decide,by decide⟩,_,_,rfl,rfl,(by show(0:Int) < 10 ^ (17:Int).toNat;decide),?_⟩
   refine a6t ?_
   refine a0o (fun b H1=>G8 H2 H1/\(b=true->0 < os.length)) (fun σ' H1=>∃th:Th,σ'=[some (.ref ow),some (.ref nu),some (.ref D),some (.int (0+(i:Int))),some (.int x1),some (thV th),v6]/\G8 H2 H1/\b1a th) ?_ ?_ ?_ ?_
   ·refine a4y (fun b H1=>H1=H2) _ (fun Q' h=>?_) (fun H1 e Q' h=>?_) (fun H1 e=>?_)
    ·exact⟨_,rfl,_,_,rfl,rfl,(by show(0:Int) < 4;decide),_,_,rfl,rfl,_,rfl,h _ _ rfl⟩
    ·subst e
     refine⟨_,rfl,a1G,fun z gz=>⟨ow,z,_,rfl,rfl,SqL.of (U3 how2 gz),SqL.of G1,_,rfl,h _ _ ⟨(G8.refl H1).new gz,fun hb=>?_⟩⟩⟩
     cases os with
     | nil=>cases hb
     | cons a b=>simp
    ·subst e
     exact⟨G8.refl H1,fun z=>by cases z⟩
   ·rintro H1 ⟨s3,hne⟩ D' hJ
    have hol:=hne rfl
    obtain⟨y,hy,ey⟩:=a2S (l:=os) (i:=x1/4 % (os.length:Int)) (a0f (by omega)).1 (a0f (by omega)).2
    refine⟨_,rfl,_,rfl,_,_,rfl,rfl,⟨by decide,by decide⟩,_,rfl,ow,_,rfl,.inl (SqL.of (s3 _ _ how2)),_,_,rfl,rfl,(by rw[List.length_map];show(0:Int) < (os.length:Int);omega),ow,_,_,_,rfl,rfl,SqL.of (s3 _ _ how2),(by rw[List.length_map];exact ey),?_⟩
    exact hJ _ _ ⟨.nam y,rfl,s3,hos y hy⟩
   ·rintro H1 ⟨s3,hne⟩
    exact⟨.num _,rfl,s3,b5h⟩
   ·rintro σ' H1 ⟨th,rfl,s3,hth⟩
    have hnu3:=s3 _ _ hnu2
    have hD3:=s3 _ _ hD
    refine a6t ?_
    refine a0o (fun b H4=>H4=H1/\(b=true->0 < i)) (fun σ' H4=>∃sg:Int,σ'=[some (.ref ow),some (.ref nu),some (.ref D),some (.int (0+(i:Int))),some (.int x1),some (thV th),some (.int sg)]/\H4=H1/\(sg=1\/sg= -1)/\(i=0->sg=1)) ?_ ?_ ?_ ?_
    ·refine a4y (fun b H4=>H4=H1/\(b=true->0 < i)) _ (fun Q' h=>?_) (fun H4 e Q' h=>?_) (fun H4 e=>⟨e.1,fun z=>by cases z⟩)
     ·exact⟨_,rfl,_,_,rfl,rfl,_,rfl,h _ _ ⟨rfl,fun z=>by have:=of_decide_eq_true z;omega⟩⟩
     ·obtain⟨rfl,hi0⟩:=e
      have hi0:=hi0 rfl
      exact⟨_,rfl,nu,_,_,_,rfl,rfl,SqL.of hnu3,hx0,_,rfl,_,_,rfl,rfl,.inl ⟨by decide,by decide⟩,_,_,rfl,rfl,_,_,rfl,rfl,⟨by omega,by omega⟩,_,_,rfl,rfl,(by show(0:Int) < 2;decide),rfl,_,rfl,h _ _ ⟨rfl,fun _=>hi0⟩⟩
    ·rintro H4 ⟨rfl,hi0⟩ D' hJ
     exact⟨_,rfl,hJ _ _ ⟨-1,rfl,rfl,.inr rfl,fun z=>by have:=hi0 rfl;omega⟩⟩
    ·rintro H4 ⟨rfl,_⟩
     exact⟨1,rfl,rfl,.inl rfl,fun _=>rfl⟩
    ·rintro σ' H4 ⟨sg,rfl,rfl,hsg1,hsg0⟩
     refine⟨_,rfl,.inl ⟨rfl,_,SqL.of hD3⟩,_,rfl,_,rfl,a0p,fun t gt=>?_⟩
     have hD4:upd H4 t (.tup [.int sg,thV th]) D=some (.lst us):=U3 hD3 gt
     have ht4:upd H4 t (.tup [.int sg,thV th]) t=some (.tup [.int sg,thV th]):=G1
     have s4:G8 H2 (upd H4 t (.tup [.int sg,thV th])):=s3.new gt
     generalize upd H4 t (.tup [.int sg,thV th])=H5 at hD4 ht4 s4⊢
     have T6:R7 H5 (upd H5 D (.lst (us++[.ref t]))):=R7.lst hD4
     exact⟨D,_,_,rfl,rfl,hD4,J9 (by omega),_,ts++[(sg,th)],_,_,_,_,rfl,(s2.trans s4).put gD,G1,by rw[List.length_append,hul];rfl,Paired.snoc ((hts.mono s4.tups).mono T6) ⟨t,rfl,T6 _ _ ht4,hth⟩,hsg.snoc hth hsg1 fun z=>hsg0 (by have:=AI hts;have hz:=congrArg List.length z;simp only[List.length_nil]at hz;omega)⟩
  ·rintro σ H2 ⟨us,ts,v3,v4,v5,v6,rfl,s2,hD,hul,hts,hsg⟩
   have hl:=AI hts
   exact⟨_,rfl,D,_,rfl,.inl ⟨SqL.of hD,fun t gt=>q t ts _ (s2.new gt) ⟨⟨us,G1,hts.mono (R7.new gt)⟩,by omega,by omega⟩ (hsg.ok (by omega) (by omega))⟩⟩
noncomputable def b4P:Sp:=fun vs H Q _=>∃(kd:Int)(ow nu:Addr)(os:List Str)(xs:List Int)(oth own:Str),vs=[.int kd,.ref nu,.str oth,.ref ow,.str own]/\H ow=some (.lst (os.map V.str))/\H nu=some (.lst (xs.map V.int))/\9<=xs.length/\xs.length<=12/\Bnd xs/\(∀x∈os,Z9 x)/\(kd < 4->Z9 own)/\Z9 oth/\
 ∀(a:Addr)(k:Str)(y:V)(tl:List V)(rw:Rw)(H':Hp),G8 H H'->H' a=some (.tup (.str k::y::tl))->k≠ "part" ->((k="do" \/k="ask")->y= .str oth)->a1M H' a rw->a8b rw->wk6 rw=true->k=kdR rw->(∀p,toR rw=some p->p=oth)->Q (.ref a) H'
theorem b5H(T:Txt K mg):L2.Cl P w K mg base 2 "_law_row" ["_law_kind","_law_numbers","_law_other","_law_owns","_law_own"] b4P:=by
 have C_law_sum:=b5i (P:=P) (w:=w) (base:=base) T
 refine Cl.of T.d_law_row a3y (fun vs H Q E h=>?_) (fun _ _ _ _ _ _ us hl=>match us,hl with | [_,_,_,_,_],_=>rfl) (fun f cdv A outer s H vs Q E hr h=>?_)
 ·obtain⟨kd,ow,nu,os,xs,oth,own,rfl,_⟩:=h
  rfl
 ·obtain⟨kd,ow,nu,os,xs,oth,own,rfl,how,hnu,hx9,hx12,hb,hos,hown,hoth,q⟩:=h
  have hu0:=Nat.lt_of_succ_lt (a0s hr)
  refine⟨_,(G3 (J6 (i:=5) a3y.nd rfl (Or.inl rfl) a3t)
   (G3 (R8 (PW.pt (a0T (J3 (a3w hu0) (pv 3) (Z2 G2) (R4 _)) (M6 (J3 Y5 (J4 O0 (J0 W7 (pv 1) G5 (fun _ _=>rfl)) G5) G5 (R4 _)))))
    (G6 (J6 (i:=5) a3y.nd rfl (Or.inl rfl) (J0 W7 (pv 3) (J4 O0 (J4 M5 (J0 W7 (pv 1) G5 (fun _ _=>rfl)) G5) (R9 U2 (by rfl) T.n_len PySem.boot_len (G0 (pv 3) G2))) (fun _ _=>rfl)))) J5)
   (G3 (R8 (J3 a5J (pv 0) G5 (R4 _))
    (G6 (R3 (R5 (G0 I9 (G0 (pv 4) (G0 (W6 C_law_sum hr (by rfl) (G0 (pv 3) (G0 (pv 1) G2))) G2)))))) J5)
   (G3 (R8 (J3 Y5 (pv 0) G5 (R4 _))
    (G6 (R3 (R5 (G0 I9 (G0 (pv 4) G2))))) J5)
   (G3 (R8 (J3 a5J (pv 0) G5 (R4 _))
    (G6 (R3 (R5 (G0 I9 (G0 (W6 C_law_sum hr (by rfl) (G0 (pv 3) (G0 (pv 1) G2))) (G0 (pv 5) G2)))))) J5)
   (G3 (R8 (J3 Y5 (pv 0) G5 (R4 _))
    (G6 (R3 (R5 (G0 I9 (G0 (W6 C_law_sum hr (by rfl) (G0 (pv 3) (G0 (pv 1) G2))) G2))))) J5)
   (G3 (R8 (J3 a5J (pv 0) G5 (R4 _))
    (G6 (R3 (R5 (G0 I9 (G0 (pv 2) (G0 (pv 5) G2)))))) J5)
   (G6 (R3 (R5 (G0 I9 (G0 (pv 2) G2)))))))))))),?_⟩
  obtain⟨x7,hx7,x70,_⟩:=atB hb (i:=7) (by omega) (by omega)
  refine a6t ?_
  refine a0o (fun b H1=>G8 H H1/\(b=true->0 < os.length)) (fun σ' H1=>∃wh:Option Str,σ'=[some (.int kd),some (.ref nu),some (.str oth),some (.ref ow),some (.str own),some (a2H wh)]/\G8 H H1/\b1C wh) ?_ ?_ ?_ ?_
  ·refine a4y (fun b H1=>G8 H H1/\(b=true->0 < os.length)) _ (fun Q' h=>?_) (fun H1 e Q' h=>?_) (fun H1 e=>⟨e.1,fun z=>by cases z⟩)
   ·refine⟨_,rfl,a1G,fun z gz=>⟨ow,z,_,rfl,rfl,SqL.of (U3 how gz),SqL.of G1,_,rfl,h _ _ ⟨(G8.refl H).new gz,fun hb=>?_⟩⟩⟩
    cases os with
    | nil=>cases hb
    | cons a b=>simp
   ·exact⟨_,rfl,nu,_,_,_,rfl,rfl,SqL.of (e.1 _ _ hnu),hx7,_,_,rfl,rfl,(by show(0:Int) < 2;decide),rfl,_,rfl,h _ _ ⟨e.1,fun _=>e.2 rfl⟩⟩
  ·rintro H1 ⟨s1,hne⟩ D' hJ
   have hol:=hne rfl
   obtain⟨y,hy,ey⟩:=a2S (l:=os) (i:=x7/2 % (os.length:Int)) (a0f (by omega)).1 (a0f (by omega)).2
   refine⟨_,rfl,_,rfl,nu,_,_,_,rfl,rfl,SqL.of (s1 _ _ hnu),hx7,_,_,rfl,rfl,⟨by decide,by decide⟩,_,rfl,ow,_,rfl,.inl (SqL.of (s1 _ _ how)),_,_,rfl,rfl,(by rw[List.length_map];show(0:Int) < (os.length:Int);omega),ow,_,_,_,rfl,rfl,SqL.of (s1 _ _ how),(by rw[List.length_map];exact ey),?_⟩
   exact hJ _ _ ⟨some y,rfl,s1,fun z e=>by cases e;exact hos y hy⟩
  ·rintro H1 ⟨s1,hne⟩
   exact⟨none,rfl,s1,fun z e=>by cases e⟩
  ·rintro σ' H1 ⟨wh,rfl,s1,hwh⟩
   have how1:=s1 _ _ how
   have hnu1:=s1 _ _ hnu
   refine⟨_,rfl,_,_,rfl,rfl,_,rfl,a4n (fun hk=>?_) (fun _=>a2f ?_)⟩
   ·refine⟨_,rfl,_,rfl,_,rfl,ow,nu,os,xs,rfl,how1,hnu1,hx9,hx12,hb,hos,fun t ts H2 s2 htm hsum=>⟨a7Q,fun a ga=>?_⟩⟩
    exact q a _ _ _ (.set own ts) _ ((s1.trans s2).new ga) G1 (by decide +kernel) (fun z=>by rcases z with z | z<;>exact absurd z (by decide +kernel)) ⟨t,G1,htm.mono (R7.new ga)⟩ ⟨hown (by have:=of_decide_eq_true hk;omega),hsum⟩ rfl rfl (fun p e=>by cases e)
   refine⟨_,rfl,rfl,_,rfl,a4n (fun hk=>?_) (fun _=>a2f ?_)⟩
   ·refine⟨_,rfl,a0p,fun a ga=>?_⟩
    exact q a _ _ _ (.take own) _ (s1.new ga) G1 (by decide +kernel) (fun z=>by rcases z with z | z<;>exact absurd z (by decide +kernel)) G1 (hown (by have:=V.int.inj (of_decide_eq_true hk);omega)) rfl rfl (fun p e=>by cases e)
   refine⟨_,rfl,_,_,rfl,rfl,_,rfl,a4n (fun hk=>?_) (fun _=>a2f ?_)⟩
   ·refine⟨_,rfl,_,rfl,ow,nu,os,xs,rfl,how1,hnu1,hx9,hx12,hb,hos,fun t ts H2 s2 htm hsum=>⟨_,rfl,a7Q,fun a ga=>?_⟩⟩
    exact q a _ _ _ (.say ts wh) _ ((s1.trans s2).new ga) G1 (by decide +kernel) (fun z=>by rcases z with z | z<;>exact absurd z (by decide +kernel)) ⟨t,G1,htm.mono (R7.new ga)⟩ ⟨hsum,hwh⟩ rfl rfl (fun p e=>by cases e)
   refine⟨_,rfl,rfl,_,rfl,a4n (fun hk=>?_) (fun _=>a2f ?_)⟩
   ·refine⟨_,rfl,_,rfl,ow,nu,os,xs,rfl,how1,hnu1,hx9,hx12,hb,hos,fun t ts H2 s2 htm hsum=>⟨a0p,fun a ga=>?_⟩⟩
    exact q a _ _ _ (.need ts) _ ((s1.trans s2).new ga) G1 (by decide +kernel) (fun z=>by rcases z with z | z<;>exact absurd z (by decide +kernel)) ⟨t,G1,htm.mono (R7.new ga)⟩ hsum rfl rfl (fun p e=>by cases e)
   refine⟨_,rfl,_,_,rfl,rfl,_,rfl,a4n (fun hk=>?_) (fun _=>?_)⟩
   ·refine⟨_,rfl,_,rfl,a7Q,fun a ga=>?_⟩
    exact q a _ _ _ (.ask oth wh) _ (s1.new ga) G1 (by decide +kernel) (fun _=>rfl) G1 ⟨hoth,hwh⟩ rfl rfl (fun p e=>by cases e;rfl)
   ·refine⟨_,rfl,a0p,fun a ga=>?_⟩
    exact q a _ _ _ (.doo oth) _ (s1.new ga) G1 (by decide +kernel) (fun _=>rfl) G1 hoth rfl rfl (fun p e=>by cases e;rfl)
theorem b2W{K:W.Frag}{a:Addr}{xs:List V}{Qh:Hp->Prop}{v:Option V}{H:Hp}{D:Addr}(hl:H a=some (.lst xs))(hD:H D=none)(hx:xs.length<=900)
  (q:∀(as:List Addr)(H':Hp),G8 H H'->H' D=some (.lst (as.map V.ref))->as.length=xs.length->as.Nodup->(∀b∈as,H b=none/\b≠D/\H' b=some (.lst []))->Qh H'):
  ∃W:Nat->Nat->L2.St->Hp->Prop,(∃m,W 0 m [v] (upd H D (.lst [])))/\∀i m σ2 H2,W i m σ2 H2->
   ((Itl K a).stop i H2/\Qh H2)\/((Itl K a).go i H2/\∃N:L2.St->Hp->Prop,(∀σ' H',N σ' H'->∃m',m' < m/\W (i+1) m' σ' H')/\∀x H3,(Itl K a).yld i H2 x H3->a3p 0 x σ2 H3 fun σ4 H4=>a4T σ4 H4 fun b H5=>
    if b=true then b5O a9r σ4 H5 fun y H6=>∃ys,H6 D=some (.lst ys)/\ys.length < sizeLine/\N σ4 (upd H6 D (.lst (ys++[y])))else N σ4 H5):=by
 refine a3g xs.length (fun i σ H2=>∃(v0:Option V)(as:List Addr),σ=[v0]/\G8 H H2/\H2 D=some (.lst (as.map V.ref))/\as.length=i/\as.Nodup/\∀b∈as,H b=none/\b≠D/\H2 b=some (.lst [])) ⟨v,[],rfl,(G8.refl H).new hD,G1,rfl,List.nodup_nil,by simp⟩ ?_ ?_
 ·rintro i σ H2 hi ⟨v0,as,rfl,s2,hD2,hlen,hnd,hall⟩
  refine⟨⟨xs,xs[i],SqL.of (s2 _ _ hl),by simp⟩,?_⟩
  rintro x H3 ⟨rfl,_⟩
  refine ntG ?_
  refine⟨a1G,fun p gp=>?_⟩
  have hpD:p≠D:=fun z=>by rw[z,hD2]at gp;cases gp
  have hD3:upd H3 p (.lst []) D=some (.lst (as.map V.ref)):=U3 hD2 gp
  refine⟨_,hD3,J9 (by rw[List.length_map];omega),_,as++[p],rfl,(s2.new gp).put hD,?_,by rw[List.length_append,hlen];rfl,?_,?_⟩
  ·rw[G1,List.map_append];rfl
  ·rw[List.nodup_append]
   refine⟨hnd,by simp,fun b hb c hc e=>?_⟩
   rw[AC.mp hc]at e
   have:=(hall b hb).2.2
   rw[e,gp]at this
   cases this
  ·intro b hb
   rcases AK.mp hb with z | z
   ·obtain⟨h1,h2,h3⟩:=hall b z
    exact⟨h1,h2,by rw[G7 h2];exact U3 h3 gp⟩
   ·rw[AC.mp z]
    exact⟨s2.free gp,hpD,by rw[G7 hpD,G1]⟩
 ·rintro σ H2 ⟨v0,as,rfl,s2,hD2,hlen,hnd,hall⟩
  exact⟨⟨xs,SqL.of (s2 _ _ hl),AE _⟩,q as H2 s2 hD2 hlen hnd hall⟩
theorem b3f{l:List Addr}{i:Int}{n:Nat}(hn:l.length=n)(h0:0<=i)(h1:i < (n:Int)):∃b∈l,atI (l.map V.ref) i=some (.ref b):=by
 obtain⟨v,hv,e⟩:=a5a (l.map V.ref) h0 (by rw[List.length_map,hn];exact h1)
 obtain⟨b,hb,rfl⟩:=AV.mp hv
 exact⟨b,hb,e⟩
noncomputable def b7g (H:Hp) (v:V) (xs:List Int):Prop:=∃l,v= .ref l/\H l=some (.lst (xs.map V.int))/\xs.length=12/\Bnd xs
noncomputable def a6e (xs:List Int):Bool:=decide (xs.getD 1 0 % 12 < 4)
noncomputable def a2U (dr:List (List Int)):Nat:=(dr.filter a6e).length
theorem a4h(A:List (List Int))(xs:List Int):a2U (A++[xs])=a2U A+(if a6e xs=true then 1 else 0):=by
 unfold a2U
 rw[List.filter_append,List.length_append]
 by_cases h:a6e xs=true
 ·rw[if_pos h,List.filter_cons_of_pos h];rfl
 ·rw[if_neg h,List.filter_cons_of_neg h];rfl
theorem b3u(dr:List (List Int))(i:Nat):a2U (dr.take i)<=a2U dr:=by
 unfold a2U
 exact((List.take_sublist i dr).filter _).length_le
noncomputable def b2u:Sp:=fun vs H Q _=>∃(c:Int)(cl:Addr)(cs:List Int),vs=[.int c,.ref cl]/\H cl=some (.lst (cs.map V.int))/\cs.length<=40/\
 ∀(t nl bl:Addr)(ns:List Str)(bs:List (List Rk))(H':Hp),G8 H H'->H' t=some (.tup [.ref nl,.ref bl])->H' nl=some (.lst (ns.map V.str))->a2C ns H' bl bs->ns.Nodup->1<=ns.length->ns.length<=12->(∀x∈ns,Z9 x)->Q (.ref t) H'
structure Gb(ns:List Str)(H0:Hp)(B:Addr)(ba:List Addr)(j:Nat)(H:Hp):Prop where
 sm:G8 H0 H
 hB:H B=some (.lst (ba.map V.ref))
 rw:∀b∈ba,∃rs:List Rk,H b=some (.lst (rs.map fun r=>V.ref r.a))/\(∀r∈rs,a2T ns H r)/\rs.length<=j
theorem Gb.up{ns:List Str}{H0:Hp}{B:Addr}{ba:List Addr}{j:Nat}{H H':Hp}(g:Gb ns H0 B ba j H)(s:G8 H H'):Gb ns H0 B ba j H':=
 ⟨g.sm.trans s,s _ _ g.hB,fun b hb=>by
  obtain⟨rs,h1,h2,h3⟩:=g.rw b hb
  exact⟨rs,s _ _ h1,fun r hr=>(h2 r hr).mono s.tups,h3⟩⟩
theorem Gb.row{ns:List Str}{H0:Hp}{B:Addr}{ba:List Addr}{j:Nat}{H:Hp}(g:Gb ns H0 B ba j H)(fr:∀b∈ba,H0 b=none/\b≠B){b:Addr}(hb:b∈ba){rs:List Rk}(hr:H b=some (.lst (rs.map fun r=>V.ref r.a)))(hrs:∀r∈rs,a2T ns H r)(hl:rs.length<=j){r:Rk}(h:a2T ns H r):
  Gb ns H0 B ba (j+1) (upd H b (.lst ((rs.map fun r=>V.ref r.a)++[.ref r.a]))):=by
 have T:=R7.lst (ys:=(rs.map fun r=>V.ref r.a)++[.ref r.a]) hr
 refine⟨g.sm.put (fr b hb).1,by rw[G7 (fr b hb).2.symm];exact g.hB,fun c hc=>?_⟩
 by_cases e:c=b
 ·subst e
  refine⟨rs++[r],by rw[G1,List.map_append];rfl,fun x hx=>?_,by rw[List.length_append];simp;omega⟩
  rcases AK.mp hx with z | z
  ·exact(hrs x z).mono T
  ·rw[AC.mp z];exact h.mono T
 ·obtain⟨rs1,h1,h2,h3⟩:=g.rw c hc
  exact⟨rs1,by rw[G7 e];exact h1,fun x hx=>(h2 x hx).mono T,by omega⟩
theorem Gb.bks{ns:List Str}{H0:Hp}{B:Addr}{ba:List Addr}{j:Nat}{H:Hp}(g:Gb ns H0 B ba j H)(hj:j<=40)(hl:ba.length=ns.length):∃bs,a2C ns H B bs:=by
 have:∀l:List Addr,(∀b∈l,b∈ba)->∃bs:List (List Rk),Paired (b3i ns H) (l.map V.ref) bs/\bs.length=l.length/\∀rs∈bs,rs.length<=40:=by
  intro l
  induction l with
  | nil=>exact fun _=>⟨[],.nil,rfl,by simp⟩
  | cons a t ih=>
   intro h
   obtain⟨bs,h1,h2,h3⟩:=ih fun b hb=>h b (AO _ hb)
   obtain⟨rs,g1,g2,g3⟩:=g.rw a (h a AQ)
   refine⟨rs::bs,.cons ⟨a,rfl,g1,g2⟩ h1,by simp[h2],fun x hx=>?_⟩
   rcases List.mem_cons.mp hx with z | z
   ·rw[z];omega
   ·exact h3 x z
 obtain⟨bs,h1,h2,h3⟩:=this ba fun b hb=>hb
 exact⟨bs,_,g.hB,h1,by omega,h3⟩
theorem atD{xs:List Int}(hb:Bnd xs)(hl:xs.length=12)(k:Nat)(hk:k < 12):atI (xs.map V.int) (k:Int)=some (.int (xs.getD k 0))/\0<=xs.getD k 0:=by
 have e:xs[k]?=some xs[k]:=AG (by omega)
 have e2:xs.getD k 0=xs[k]:=by rw[List.getD_eq_getElem?_getD,e];rfl
 exact⟨G9 (by rw[AN,e,e2];rfl),by rw[e2];exact(hb _ (List.getElem_mem _)).1⟩
noncomputable def DrB (D:Addr) (H:Hp) (v:V) (xs:List Int):Prop:=b7g H v xs/\v≠ .ref D
theorem b6C{D:Addr}{H:Hp}{us:List V}{dr:List (List Int)}{xs:List Int}(hP:Paired (DrB D H) us dr)(h:us=xs.map V.int)(hl:xs.length=12):False:=by
 cases xs with
 | nil=>cases hl
 | cons x t=>
  subst h
  cases hP with
  | cons h1 _=>
   obtain⟨⟨l,e,_⟩,_⟩:=h1
   cases e
theorem DrB.put{D:Addr}{H H':Hp}{o:HO}{v:V}{xs:List Int}(s:G8 H H')(h:DrB D H v xs):DrB D (upd H' D o) v xs:=by
 obtain⟨⟨l,rfl,h2,h3⟩,h4⟩:=h
 exact⟨⟨l,rfl,by rw[G7 (fun z=>h4 (by rw[z]))];exact s _ _ h2,h3⟩,h4⟩
theorem DrB.same{D:Addr}{H H':Hp}{v:V}{xs:List Int}(s:G8 H H')(h:DrB D H v xs):DrB D H' v xs:=by
 obtain⟨⟨l,rfl,h2,h3⟩,h4⟩:=h
 exact⟨⟨l,rfl,s _ _ h2,h3⟩,h4⟩
theorem b1p(T:Txt K mg):L2.Cl P w K mg base 3 "_law_blocks" ["_law_cell","_law_cells"] b2u:=by
 have C_law_names:=b1z (P:=P) (w:=w) (base:=base) T
 have C_law_stream:=b0T (P:=P) (w:=w) (base:=base) T
 have C_law_row:=b5H (P:=P) (w:=w) (base:=base) T
 refine Cl.of T.d_law_blocks U6 (fun vs H Q E h=>?_) (fun _ _ _ _ _ _ us hl=>by obtain⟨a,b,rfl⟩:=a2F hl;rfl) (fun f cdv A outer s H vs Q E hr h=>?_)
 ·obtain⟨c,cl,cs,rfl,_⟩:=h
  rfl
 ·obtain⟨c,cl,cs,rfl,hcl,hcs,q⟩:=h
  refine⟨_,(G3 (J6 (i:=2) U6.nd rfl (Or.inl rfl) (J4 O6 G5 (J4 O0 (pv 0) G5)))
   (G3 (R8 (J3 Y5 (J4 O0 (J4 M5 (pv 0) G5) G5) G5 (R4 _))
    (G6 (J6 (i:=2) U6.nd rfl (Or.inl rfl) G5)) J5)
   (G3 (J6 (i:=3) U6.nd rfl (Or.inl rfl) (W6 C_law_names hr (by rfl) (G0 (J4 M5 (pv 0) G5) (G0 (pv 2) G2))))
   (G3 (a4Q (j:=4) (M:=["_law_one"]) (ρ:=[none]) (G4 F8) ["_law_cell","_law_cells","_law_many","_law_names_here","_law_drawn","_law_owns","_law_blocks_here","_law_made_here","_law_numbers","_law_at","_law_kind","_law_own","_law_other"] ⟨rfl,by decide +kernel,by decide +kernel,by decide +kernel,rfl,by decide +kernel,by decide +kernel⟩ U6.nd rfl (Or.inl rfl) (E2 (pv 1)) (fun _ _ _ _ _ _=>(J8 (i:=0) (show(["_law_one"]:List Str).Nodup by decide +kernel) rfl (Or.inl rfl))) (fun _ _ _ _ _ _=>a1l) (fun _ _ _ _ _ _=>(W6 C_law_stream hr (by rfl) (G0 (pv 0) (G0 G5 G2)))))
   (G3 (J6 (i:=5) U6.nd rfl (Or.inl rfl) (W6 C_law_names hr (by rfl) (G0 (J4 M5 (pv 0) G5) (G0 (R9 U2 (by rfl) T.n_len PySem.boot_len (G0 (a0I (M:=["_law_one"]) (ρ:=[none]) (G4 F8) ["_law_cell","_law_cells","_law_many","_law_names_here","_law_drawn","_law_owns","_law_blocks_here","_law_made_here","_law_numbers","_law_at","_law_kind","_law_own","_law_other"] ⟨rfl,by decide +kernel,by decide +kernel,by decide +kernel,rfl,by decide +kernel,by decide +kernel⟩ (E2 (pv 4)) (fun _ _ _ _ _ _=>(J8 (i:=0) (show(["_law_one"]:List Str).Nodup by decide +kernel) rfl (Or.inl rfl))) (fun _ _ _ _ _ _=>(a3G (J3 a5J (J4 O0 (J0 (a3D (K:=K) rfl) (pv 0) G5 (fun _ _=>rfl)) G5) G5 (R4 _)))) (fun _ _ _ _ _ _=>(pv 0))) G2)) G2))))
   (G3 (a4Q (j:=6) (M:=["_law_name"]) (ρ:=[none]) (G4 F8) ["_law_cell","_law_cells","_law_many","_law_names_here","_law_drawn","_law_owns","_law_blocks_here","_law_made_here","_law_numbers","_law_at","_law_kind","_law_own","_law_other"] ⟨rfl,by decide +kernel,by decide +kernel,by decide +kernel,rfl,by decide +kernel,by decide +kernel⟩ U6.nd rfl (Or.inl rfl) (E2 (pv 3)) (fun _ _ _ _ _ _=>(J8 (i:=0) (show(["_law_name"]:List Str).Nodup by decide +kernel) rfl (Or.inl rfl))) (fun _ _ _ _ _ _=>a1l) (fun _ _ _ _ _ _=>(Z2 G2)))
   (G3 (J6 (i:=7) U6.nd rfl (Or.inl rfl) G5)
   (G3 (Y2 AL rfl (E2 (pv 4)) (J8 (i:=8) U6.nd rfl (Or.inl rfl))
    (G3 (J6 (i:=9) U6.nd rfl (Or.inl rfl) (J4 O0 (J0 W7 (pv 8) G5 (fun _ _=>rfl)) (pv 2)))
    (G3 (J6 (i:=10) U6.nd rfl (Or.inl rfl) (J4 O0 (J0 W7 (pv 8) G5 (fun _ _=>rfl)) G5))
    (G3 (R8 (PW.pt (a0T (J3 Y5 (pv 2) G5 (R4 _)) (M6 (J3 b2Q (pv 10) G5 (R4 _)))))
     (G6 (J6 (i:=10) U6.nd rfl (Or.inl rfl) G5)) J5)
    (G3 (J6 (i:=11) U6.nd rfl (Or.inl rfl) I9)
    (G3 (R8 (J3 a5J (pv 10) G5 (R4 _))
     (G3 (J6 (i:=11) U6.nd rfl (Or.inl rfl) (J0 W7 (pv 5) (pv 7) (fun _ _=>rfl)))
     (G6 (J6 (i:=7) U6.nd rfl (Or.inl rfl) (J4 O6 (pv 7) G5)))) J5)
    (G3 (J6 (i:=12) U6.nd rfl (Or.inl rfl) (J0 W7 (pv 3) (J4 O0 (J4 O6 (J4 O6 (pv 9) G5) (J4 O0 (J0 W7 (pv 8) G5 (fun _ _=>rfl)) (R9 (b0Z rfl) (by rfl) T.n_max boot_max (G0 G5 (G0 (J4 a7B (pv 2) G5) G2))))) (pv 2)) (fun _ _=>rfl)))
    (G6 (U1 (D0 PySem.F.plainAttrs_list PySem.F.slot_list_append PySem.F.type_list_append W5 (J0 W7 (pv 6) (pv 9) (fun _ _=>rfl)) (G0 (W6 C_law_row hr (by rfl) (G0 (pv 10) (G0 (a3W a4W (pv 8) (a3i G5) b0f) (G0 (pv 12) (G0 (pv 5) (G0 (pv 11) G2)))))) G2)))))))))))
   (G6 (R3 (R5 (G0 (pv 3) (G0 (pv 6) G2))))))))))))),?_⟩
  have c6:=a0f (i:=c) (n:=6) (by decide)
  refine⟨_,rfl,_,_,rfl,rfl,(by show(0:Int) < 6;decide),_,_,rfl,rfl,?_⟩
  refine a6t ?_
  refine a0o (fun b H1=>H1=H) (fun σ' H1=>∃m:Int,σ'=[some (.int c),some (.ref cl),some (.int m),none,none,none,none,none,none,none,none,none,none]/\H1=H/\1<=m/\m<=12) ?_ ?_ ?_ ?_
  ·exact fun Q' h=>⟨_,rfl,_,_,rfl,rfl,⟨by decide,by decide⟩,_,_,rfl,rfl,(by show(0:Int) < 8;decide),rfl,_,rfl,h _ _ rfl⟩
  ·rintro H1 rfl D' hJ
   exact hJ _ _ ⟨12,rfl,rfl,by decide,by decide⟩
  ·rintro H1 rfl
   exact⟨1+c % 6,rfl,rfl,by omega,by omega⟩
  rintro σ' H1 ⟨m,rfl,rfl,hm1,hm2⟩
  refine⟨_,rfl,_,_,rfl,rfl,⟨by decide,by decide⟩,_,rfl,c/48,m,rfl,by omega,by omega,fun nl ns H2 s2 _ hnl hnsl hnd hnle=>?_⟩
  have hnd':=hnd (by omega)
  have hcl2:=s2 _ _ hcl
  refine⟨_,rfl,cl,rfl,⟨_,SqL.of hcl2⟩,fun D gD=>a1s (K:=K) (a:=cl) (xs:=cs.map V.int) (fun i σ H3=>∃(v0:Option V)(us:List V)(dr:List (List Int)),σ=[v0]/\G8 H2 H3/\H3 D=some (.lst us)/\Paired (DrB D H3) us dr/\dr.length=i) ⟨_,[],[],rfl,(G8.refl H2).new gD,G1,.nil,rfl⟩ (fun i σ H3⟨_,_,_,_,s3,_⟩=>SqL.of (s3 _ _ hcl2)) ?_ ?_⟩
  ·rintro i x σ H3 hx ⟨v0,us,dr,rfl,s3,hD,hus,hdl⟩
   rw[AN]at hx
   obtain⟨z,hz,rfl⟩:=AX.mp hx
   have hi:i < cs.length:=(AB.mp hz).1
   refine ntG ?_
   refine⟨_,rfl,z,12,rfl,by decide,by decide,fun l xs H4 s4 hl hxl hb=>?_⟩
   have hD4:=s4 _ _ hD
   have hul:=AI hus
   have hlD:l≠D:=fun e=>by
    subst e
    rw[hl]at hD4
    exact b6C hus (HO.lst.inj (Option.some.inj hD4)).symm (by omega)
   refine⟨us,hD4,J9 (by omega),_,us++[.ref l],dr++[xs],rfl,(s3.trans s4).put gD,G1,Paired.snoc (Paired.mapP hus fun v xs' h=>h.put s4) ⟨⟨l,rfl,by rw[G7 hlD];exact hl,by omega,hb⟩,fun z=>hlD (V.ref.inj z)⟩,by rw[List.length_append,hdl];rfl⟩
  ·rintro σ H3 ⟨v0,us,dr,rfl,s3,hD,hus,hdl⟩
   rw[List.length_map]at hdl
   have hul:=AI hus
   have hnl3:=s3 _ _ hnl
   refine⟨_,rfl,_,_,rfl,rfl,⟨by decide,by decide⟩,_,rfl,D,rfl,⟨_,SqL.of hD⟩,fun D2 gD2=>a1s (K:=K) (a:=D) (xs:=us) (fun i σ H4=>∃(v0:Option V)(ys:List V),σ=[v0]/\G8 H3 H4/\H4 D2=some (.lst ys)/\ys.length=a2U (dr.take i)) ⟨_,[],rfl,(G8.refl H3).new gD2,G1,rfl⟩ (fun i σ H4⟨_,_,_,s4,_⟩=>SqL.of (s4 _ _ hD)) ?_ ?_⟩
   ·rintro i x σ H4 hx ⟨v0',ys,rfl,s4,hD4,hyl⟩
    obtain⟨xs,hxs,⟨l,rfl,hl,hl12,hb⟩,_⟩:=Paired.get? hus hx
    have hi:i < us.length:=(AB.mp hx).1
    obtain⟨a1,a10⟩:=atD hb hl12 1 (by decide)
    have hcl:a2U (dr.take i)<=40:=by
     unfold a2U
     have:=BC a6e (dr.take i)
     rw[AU]at this
     omega
    refine⟨_,rfl,l,_,_,_,rfl,rfl,SqL.of (s4 _ _ hl),a1,_,_,rfl,rfl,(by show(0:Int) < 12;decide),_,_,rfl,rfl,_,rfl,?_⟩
    by_cases hlow:a6e xs=true
    ·rw[show decide (xs.getD 1 0 % 12 < 4)=true from hlow]
     refine O7 ?_
     refine⟨_,rfl,ys,hD4,J9 (by omega),_,_,rfl,s4.put gD2,G1,?_⟩
     rw[List.length_append,I0 hxs,a4h,if_pos hlow,hyl]
     rfl
    ·rw[show decide (xs.getD 1 0 % 12 < 4)=false from Bool.eq_false_iff.mpr hlow]
     refine Y4 ?_
     refine⟨_,_,rfl,s4,hD4,?_⟩
     rw[I0 hxs,a4h,if_neg hlow,hyl]
     rfl
   ·rintro σ H4 ⟨v0',ys,rfl,s4,hD4,hyl⟩
    rw[hul,AR]at hyl
    have hcl:a2U dr<=40:=by
     unfold a2U
     have:=BC a6e dr
     omega
    refine⟨D2,_,rfl,.inl (SqL.of hD4),c/7,_,rfl,by omega,by omega,fun ol os H5 s5 _ hol hosl _ hosN=>?_⟩
    have s35:=s4.trans s5
    have hnl5:=s35 _ _ hnl3
    have hxl:(ns.map V.str).length<=900:=by rw[List.length_map];omega
    refine⟨_,rfl,nl,rfl,⟨_,SqL.of hnl5⟩,fun B gB=>b2W (K:=K) hnl5 gB hxl fun ba H6 s6 hB6 hba hbaN hbaA=>?_⟩
    rw[List.length_map]at hba
    have hD6:=s6 _ _ (s35 _ _ hD)
    have hus6:Paired (DrB D H6) us dr:=Paired.mapP hus fun _ _ z=>z.same (s35.trans s6)
    have fr:∀b∈ba,H5 b=none/\b≠B:=fun b hb=>⟨(hbaA b hb).1,(hbaA b hb).2.1⟩
    have g0:Gb ns H5 B ba 0 H6:=⟨s6,hB6,fun b hb=>⟨[],(hbaA b hb).2.2,by simp,by simp⟩⟩
    refine⟨_,rfl,D,rfl,⟨_,SqL.of hD6⟩,?_⟩
    refine a0O (K:=K) (a:=D) (xs:=us) (fun i σ H7=>∃v8 v9 v10 v11 v12:Option V,σ=[some (.int c),some (.ref cl),some (.int m),some (.ref nl),some (.ref D),some (.ref ol),some (.ref B),some (.int (a2U (dr.take i):Int)),v8,v9,v10,v11,v12]/\Gb ns H5 B ba i H7) ⟨_,_,_,_,_,rfl,g0⟩ (fun i σ H7 _⟨_,_,_,_,_,_,g⟩=>SqL.of (g.sm _ _ (s35 _ _ hD))) ?_ ?_
    ·rintro i x σ H7 hx ⟨v8,v9,v10,v11,v12,rfl,g7⟩
     have hi:i < us.length:=(AB.mp hx).1
     obtain⟨xs,hxs,⟨l,rfl,hl0,hl12,hb⟩,_⟩:=Paired.get? hus6 hx
     have hl:H7 l=some (.lst (xs.map V.int)):=by
      obtain⟨xs',hxs',⟨l',e',hl',_⟩,_⟩:=Paired.get? hus hx
      cases e'
      have e2:=s6 _ _ (s35 _ _ hl')
      rw[hl0]at e2
      rw[e2]
      exact g7.sm _ _ (s35 _ _ hl')
     obtain⟨a0,a00⟩:=atD hb hl12 0 (by decide)
     obtain⟨a1,a10⟩:=atD hb hl12 1 (by decide)
     obtain⟨a2,a20⟩:=atD hb hl12 2 (by decide)
     have mm:=a0f (i:=xs.getD 0 0) (n:=m) (by omega)
     have m12:=a0f (i:=xs.getD 1 0) (n:=12) (by decide)
     have hlo:a6e xs=decide (xs.getD 1 0 % 12 < 4):=rfl
     generalize xs.getD 0 0=x0 at a0 a00 mm
     generalize xs.getD 1 0=x1 at a1 a10 m12 hlo
     generalize xs.getD 2 0=x2 at a2 a20
     have hol7:=g7.sm _ _ hol
     have hnl7:=g7.sm _ _ hnl5
     refine⟨_,rfl,l,_,_,_,rfl,rfl,SqL.of hl,a0,_,rfl,_,_,rfl,rfl,(by show(0:Int) < m;omega),?_⟩
     refine⟨_,rfl,l,_,_,_,rfl,rfl,SqL.of hl,a1,_,_,rfl,rfl,(by show(0:Int) < 12;decide),?_⟩
     refine a6t ?_
     refine a0o (fun b H8=>H8=H7/\(b=true->7 < x1 % 12)) (fun σ' H8=>∃kd:Int,σ'=[some (.int c),some (.ref cl),some (.int m),some (.ref nl),some (.ref D),some (.ref ol),some (.ref B),some (.int (a2U (dr.take i):Int)),some (.ref l),some (.int (x0 % m)),some (.int kd),v11,v12]/\H8=H7/\(kd < 4↔x1 % 12 < 4)) ?_ ?_ ?_ ?_
     ·refine a4y (fun b H8=>H8=H7) _ (fun Q' h=>?_) (fun H8 e Q' h=>?_) (fun H8 e=>⟨e,fun z=>by cases z⟩)
      ·exact⟨_,rfl,rfl,_,rfl,h _ _ rfl⟩
      ·subst e
       exact⟨_,rfl,_,_,rfl,rfl,_,rfl,h _ _ ⟨rfl,fun z=>of_decide_eq_true z⟩⟩
     ·rintro H8 ⟨rfl,h7⟩ D' hJ
      have:=h7 rfl
      exact hJ _ _ ⟨4,rfl,rfl,by omega⟩
     ·rintro H8 ⟨rfl,_⟩
      exact⟨_,rfl,rfl,Iff.rfl⟩
     rintro σ' H8 ⟨kd,rfl,rfl,hkd⟩
     refine a6t ?_
     have hcn:a2U (dr.take (i+1))=a2U (dr.take i)+(if a6e xs=true then 1 else 0):=by rw[I0 hxs,a4h]
     have hle:=b3u dr (i+1)
     refine a0o (fun b H9=>H9=H8/\b=decide (kd < 4)) (fun σ' H9=>∃own:Str,σ'=[some (.int c),some (.ref cl),some (.int m),some (.ref nl),some (.ref D),some (.ref ol),some (.ref B),some (.int (a2U (dr.take (i+1)):Int)),some (.ref l),some (.int (x0 % m)),some (.int kd),some (.str own),v12]/\H9=H8/\(kd < 4->Z9 own)) ?_ ?_ ?_ ?_
     ·exact fun Q' h=>⟨_,rfl,_,_,rfl,rfl,_,rfl,h _ _ ⟨rfl,rfl⟩⟩
     ·rintro H9 ⟨rfl,hk4⟩ D' hJ
      have hk4':=of_decide_eq_true hk4.symm
      have hl1:a6e xs=true:=by rw[hlo];exact decide_eq_true (hkd.mp hk4')
      rw[if_pos hl1]at hcn
      obtain⟨y,hy,ey⟩:=a2S (l:=os) (i:=(a2U (dr.take i):Int)) (by omega) (by omega)
      refine⟨_,rfl,_,rfl,ol,_,_,_,rfl,rfl,SqL.of hol7,ey,?_⟩
      refine⟨_,rfl,_,_,rfl,rfl,hJ _ _ ⟨y,?_,rfl,fun _=>hosN y hy⟩⟩
      rw[hcn]
      rfl
     ·rintro H9 ⟨rfl,hk4⟩
      have hk4':=of_decide_eq_false hk4.symm
      have hl1:¬a6e xs=true:=by rw[hlo];exact fun z=>hk4' (hkd.mpr (of_decide_eq_true z))
      rw[if_neg hl1]at hcn
      refine⟨"",?_,rfl,fun z=>absurd z hk4'⟩
      rw[hcn]
      rfl
     rintro σ' H9 ⟨own,rfl,rfl,hownN⟩
     have hmax:(if(m - 1) > (1:Int)then m - 1 else 1)≥1:=by split<;>omega
     have hoth:=a0f (i:=x0 % m+1+x2 % (if(m - 1) > (1:Int)then m - 1 else 1)) (n:=m) (by omega)
     obtain⟨oth,hothN,eoth⟩:=a2S (l:=ns) hoth.1 (by rw[hnsl];exact hoth.2)
     refine⟨_,rfl,_,rfl,_,_,rfl,rfl,_,rfl,l,_,_,_,rfl,rfl,SqL.of hl,a2,_,rfl,_,_,rfl,rfl,_,_,rfl,_,_,rfl,rfl,hmax,_,_,rfl,rfl,_,rfl,_,_,rfl,rfl,(by show(0:Int) < m;omega),nl,_,_,_,rfl,rfl,SqL.of hnl7,eoth,?_⟩
     obtain⟨b,hbm,eb⟩:=b3f (n:=ba.length) rfl mm.1 (by rw[hba,hnsl];exact mm.2)
     obtain⟨rs,hbH,hrs,hrl⟩:=g7.rw b hbm
     refine⟨_,rfl,_,rfl,B,_,_,_,rfl,rfl,SqL.of g7.hB,eb,.inl ⟨rfl,_,SqL.of hbH⟩,_,rfl,_,rfl,_,rfl,l,_,rfl,SqL.of hl,fun nu gnu=>?_⟩
     have e3:a5Z (xs.map V.int) (some 3) none=(xs.drop 3).map V.int:=(a8g _ 3 (by rw[List.length_map];omega)).trans (List.map_drop ..).symm
     rw[e3]
     have s9:G8 H9 (upd H9 nu (.lst ((xs.drop 3).map V.int))):=(G8.refl H9).new gnu
     refine⟨_,rfl,_,rfl,_,rfl,kd,ol,nu,os,xs.drop 3,oth,own,rfl,s9 _ _ hol7,G1,by rw[List.length_drop];omega,by rw[List.length_drop];omega,fun n hn=>hb n (List.mem_of_mem_drop hn),hosN,hownN,hnle oth hothN,fun a k y tl rw' H10 s10 ha hk hto hrow hrok hwk hkd' hto'=>?_⟩
     have g10:=g7.up (s9.trans s10)
     have hr10:a2T ns H10 ⟨a,k,some oth,rw'⟩:=⟨y,tl,ha,hk,fun z=>⟨oth,hothN,rfl,hto z⟩,hrow,hrok,hwk,hkd',fun p e=>by rw[hto' p e];exact hothN⟩
     refine⟨b,_,_,rfl,rfl,s10 _ _ (s9 _ _ hbH),J9 (by rw[List.length_map];omega),_,_,_,_,_,rfl,?_⟩
     exact g10.row fr hbm (s10 _ _ (s9 _ _ hbH)) (fun r hr=>(hrs r hr).mono (s9.trans s10).tups) hrl hr10
    ·rintro σ H7 ⟨v8,v9,v10,v11,v12,rfl,g7⟩
     obtain⟨bs,hbs⟩:=g7.bks (by omega) (by omega)
     have s7:=((s2.trans s3).trans (s35)).trans g7.sm
     refine⟨_,rfl,_,rfl,a0p,fun t gt=>?_⟩
     have s8:=(G8.refl H7).new (o:= .tup [.ref nl,.ref B]) gt
     exact q t nl B ns bs _ (s7.new gt) G1 (s8 _ _ (g7.sm _ _ hnl5)) (hbs.same s8) hnd' (by omega) (by omega) hnle
theorem b6i{t:TT}{A B:TS}{D:a1F}{r:VK}{b k:L2.St->Hp->Prop}{σ:L2.St}{H:Hp}(h:a9y t A B D σ H):a1F.nx ⟨a9y t A B D,r,b,k⟩ σ H:=h
theorem a8d{K:W.Frag}{a D:Addr}{ns:List Str}{ρ:L2.St}{v:Option V}{tt:TT}{Qh:Hp->Prop}{H:Hp}(p:Str->Bool)(hl:H a=some (.lst (ns.map V.str)))(hD:H D=none)(hn:ns.length<=900)
  (ht:∀x∈ns,∀H',G8 H H'->∀Q:Bool->Hp->Prop,Q (p x) H'->tt (some (.str x)::ρ) H' Q)(q:∀H':Hp,G8 H H'->H' D=some (.lst ((ns.filter p).map V.str))->Qh H'):
  ∃W:Nat->Nat->L2.St->Hp->Prop,(∃m,W 0 m (v::ρ) (upd H D (.lst [])))/\∀i m σ2 H2,W i m σ2 H2->
   ((Itl K a).stop i H2/\Qh H2)\/((Itl K a).go i H2/\∃N:L2.St->Hp->Prop,(∀σ' H',N σ' H'->∃m',m' < m/\W (i+1) m' σ' H')/\∀x H3,(Itl K a).yld i H2 x H3->a3p 0 x σ2 H3 fun σ4 H4=>tt σ4 H4 fun b H5=>
    if b=true then a9z 0 σ4 H5 fun y H6=>∃ys,H6 D=some (.lst ys)/\ys.length < sizeLine/\N σ4 (upd H6 D (.lst (ys++[y])))else N σ4 H5):=by
 refine a1s (K:=K) (a:=a) (xs:=ns.map V.str) (fun i σ H2=>∃v0:Option V,σ=v0::ρ/\G8 H H2/\H2 D=some (.lst (((ns.take i).filter p).map V.str))) ⟨v,rfl,(G8.refl H).new hD,G1⟩ (fun i σ H2⟨_,_,s2,_⟩=>SqL.of (s2 _ _ hl)) ?_ ?_
 ·rintro i x σ H2 hx ⟨v0,rfl,s2,hD2⟩
  rw[AN]at hx
  obtain⟨y,hy,rfl⟩:=AX.mp hx
  show tt (some (.str y)::ρ) H2 _
  refine ht y (AF hy) H2 s2 _ ?_
  by_cases e:p y=true
  ·rw[if_pos e]
   refine⟨_,rfl,_,hD2,J9 ?_,_,rfl,s2.put hD,?_⟩
   ·rw[List.length_map]
    have:=BC p (ns.take i)
    rw[AU]at this
    omega
   ·rw[G1,I0 hy,List.filter_append,List.filter_cons_of_pos e,List.map_append]
    rfl
  ·rw[if_neg e]
   refine⟨_,rfl,s2,?_⟩
   rw[I0 hy,List.filter_append,List.filter_cons_of_neg e]
   simpa using hD2
 ·rintro σ H2 ⟨v0,rfl,s2,hD2⟩
  rw[List.length_map,AR]at hD2
  exact q H2 s2 hD2
noncomputable def b3S:Sp:=fun vs H Q _=>∃(nl bl:Addr)(c:Int)(ns:List Str)(bs:List (List Rk)),vs=[.ref nl,.ref bl,.int c]/\H nl=some (.lst (ns.map V.str))/\a2C ns H bl bs/\ns.Nodup/\1<=ns.length/\ns.length<=12/\
 ∀(l:Addr)(L:List Str)(H':Hp),G8 H H'->H l=none->H' l=some (.lst (L.map V.str))->(∀x∈L,x∈ns)->L.length<=25->1<=L.length->(∀rs∈bs,∀r∈rs,r.k="ask" ->∀m,r.t=some m->m∈L)->Q (.ref l) H'
theorem b2q(T:Txt K mg):L2.Cl P w K mg base 2 "_law_roots" ["_law_names_here","_law_blocks_here","_law_cell"] b3S:=by
 have C_law_there:=a5d (P:=P) (w:=w) (base:=base) T
 refine Cl.of T.d_law_roots E3 (fun vs H Q E h=>?_) (fun _ _ _ _ _ _ us hl=>by obtain⟨a,b,c,rfl⟩:=a6v hl;rfl) (fun f cdv A outer s H vs Q E hr h=>?_)
 ·obtain⟨nl,bl,c,ns,bs,rfl,_⟩:=h
  rfl
 ·obtain⟨nl,bl,c,ns,bs,rfl,hnl,hbk,hnd,hn1,hn12,q⟩:=h
  have hu:=a0s hr
  have hx900:ns.length<=900:=by omega
  refine⟨_,(G3 (J6 (i:=3) E3.nd rfl (Or.inr rfl) (Z2 (G0 (J0 W7 (pv 0) (J4 O0 (pv 2) (R9 U2 (by rfl) T.n_len PySem.boot_len (G0 (pv 0) G2))) (fun _ _=>rfl)) G2)))
   (G3 (J6 (i:=4) E3.nd rfl (Or.inr rfl) a0z)
   (G3 (Y2 AL rfl (E2 (pv 1)) (J8 (i:=5) E3.nd rfl (Or.inl rfl))
    (G6 (Y2 AL rfl (E2 (pv 5)) (J8 (i:=6) E3.nd rfl (Or.inl rfl))
     (G6 (R8 (J3 Y5 (J0 J1 (pv 6) G5 (fun _ _=>rfl)) I9 (R4 _))
      (G6 (D9 hu (pv 4) (J0 J1 (pv 6) G5 (fun _ _=>rfl)) a1P rfl)) J5)))))
   (G3 (Y2 AL rfl (E2 (pv 0)) (J8 (i:=7) E3.nd rfl (Or.inl rfl))
    (G3 (J6 (i:=8) E3.nd rfl (Or.inl rfl) (Z2 G2))
    (G3 (Y2 AL rfl (E2 (J4 a4l (pv 3) (a0I (M:=["_law_part","_law_asked"]) (ρ:=[none,some 4]) (G4 a0k) ["_law_names_here","_law_blocks_here","_law_cell","_law_found","_law_asked","_law_rows","_law_row_here","_law_name","_law_there_here","_law_root"] ⟨rfl,by decide +kernel,by decide +kernel,by decide +kernel,rfl,by decide +kernel,by decide +kernel⟩ (E2 (pv 0)) (fun _ _ _ _ _ _=>(J8 (i:=0) (show(["_law_part","_law_asked"]:List Str).Nodup by decide +kernel) rfl (Or.inl rfl))) (fun _ _ _ _ _ _=>(a3G (M4 (a5X hu (pv 0) (pv 1))))) (fun _ _ _ _ _ _=>(pv 0))))) (J8 (i:=9) E3.nd rfl (Or.inl rfl))
     (G6 (J6 (i:=8) E3.nd rfl (Or.inl rfl) (J4 a4l (pv 8) (W6 C_law_there hr (by rfl) (G0 (pv 0) (G0 (pv 1) (G0 (pv 9) (G0 (R5 (G0 I9 G2)) G2)))))))))
    (G6 (R8 (J3 a1B (pv 7) (pv 8) (by with_unfolding_all rfl))
     (G6 (U1 (D0 PySem.F.plainAttrs_list PySem.F.slot_list_append PySem.F.type_list_append W5 (pv 3) (G0 (pv 7) G2)))) J5)))))
   (G6 (R3 (J4 a4l (pv 3) (a0I (M:=["_law_name","_law_asked","_law_found"]) (ρ:=[none,some 4,some 3]) (G4 a0k) ["_law_names_here","_law_blocks_here","_law_cell","_law_found","_law_asked","_law_rows","_law_row_here","_law_name","_law_there_here","_law_root"] ⟨rfl,by decide +kernel,by decide +kernel,by decide +kernel,rfl,by decide +kernel,by decide +kernel⟩ (E2 (pv 0)) (fun _ _ _ _ _ _=>(J8 (i:=0) (show(["_law_name","_law_asked","_law_found"]:List Str).Nodup by decide +kernel) rfl (Or.inl rfl))) (fun _ _ _ _ _ _=>(a3G (PW.pt (a0T (M4 (a5X hu (pv 0) (pv 1))) (M6 (J3 (a6f (K:=K) rfl) (pv 0) (pv 2) (by with_unfolding_all rfl))))))) (fun _ _ _ _ _ _=>(pv 0)))))))))),?_⟩
  have mm:=a0f (i:=c) (n:=(ns.length:Int)) (by omega)
  obtain⟨x0,hx0,e0⟩:=a2S (l:=ns) mm.1 mm.2
  refine⟨_,rfl,_,rfl,_,rfl,nl,_,rfl,.inl (SqL.of hnl),_,_,rfl,rfl,(by rw[List.length_map];show(0:Int) < (ns.length:Int);omega),nl,_,_,_,rfl,rfl,SqL.of hnl,(by rw[List.length_map];exact e0),a3Y,fun F gF=>?_⟩
  have s1:G8 H (upd H F (.lst [.str x0])):=(G8.refl H).new gF
  have hF1:upd H F (.lst [.str x0]) F=some (.lst [.str x0]):=G1
  generalize upd H F (.lst [.str x0])=H1 at s1 hF1⊢
  intro d gd
  have s2:G8 H1 (upd H1 d (.dK [])):=(G8.refl H1).new gd
  have hdF:d≠F:=fun z=>by rw[z,hF1]at gd;cases gd
  obtain⟨bvs,hbl,hbp,hbsl,hb40⟩:=hbk.same (s1.trans s2)
  have hd2:upd H1 d (.dK []) d=some (.dK (D7 [])):=G1
  have hF2:=s2 _ _ hF1
  generalize upd H1 d (.dK [])=H2 at s2 hd2 hF2 hbl hbp⊢
  have s12:=s1.trans s2
  refine⟨_,rfl,bl,rfl,⟨_,SqL.of hbl⟩,?_⟩
  refine a0O (K:=K) (a:=bl) (xs:=bvs) (fun i σ H3=>∃(l:List Str)(v5 v6:Option V),σ=[some (.ref nl),some (.ref bl),some (.int c),some (.ref F),some (.ref d),v5,v6,none,none,none]/\But d H2 H3/\H3 d=some (.dK (D7 l))/\l.Nodup/\(∀x∈l,x∈ns)/\∀rs∈bs.take i,∀r∈rs,r.k="ask" ->∀m,r.t=some m->m∈l) ⟨[],none,none,rfl,fun _ _ _ h=>h,hd2,by simp,by simp,by simp⟩ (fun i σ H3 _⟨_,_,_,_,B3,_⟩=>SqL.of (B3 _ _ (fun z=>by rw[z,hd2]at hbl;cases hbl) hbl)) ?_ ?_
  ·rintro i x σ H3 hx ⟨l,v5,v6,rfl,B3,hd3,hlnd,hlN,hlA⟩
   obtain⟨rs,hrs,b,rfl,hb,hra⟩:=Paired.get? hbp hx
   have hbd:b≠d:=fun z=>by rw[z,hd2]at hb;cases hb
   refine⟨_,rfl,b,rfl,⟨_,SqL.of (B3 _ _ hbd hb)⟩,?_⟩
   refine a0O (K:=K) (a:=b) (xs:=rs.map fun r=>V.ref r.a) (fun j σ H4=>∃(l:List Str)(v6:Option V),σ=[some (.ref nl),some (.ref bl),some (.int c),some (.ref F),some (.ref d),some (.ref b),v6,none,none,none]/\But d H2 H4/\H4 d=some (.dK (D7 l))/\l.Nodup/\(∀x∈l,x∈ns)/\(∀rs∈bs.take i,∀r∈rs,r.k="ask" ->∀m,r.t=some m->m∈l)/\∀r∈rs.take j,r.k="ask" ->∀m,r.t=some m->m∈l) ⟨l,_,rfl,B3,hd3,hlnd,hlN,hlA,by simp⟩ (fun i σ H4 _⟨_,_,_,B4,_⟩=>SqL.of (B4 _ _ hbd hb)) ?_ ?_
   ·rintro j y σ H4 hy ⟨l4,v6',rfl,B4,hd4,hnd4,hN4,hA4,hR4⟩
    rw[AN]at hy
    obtain⟨r,hr',rfl⟩:=AX.mp hy
    obtain⟨y1,tl,hrt0,hkp,hto,_⟩:=hra r (AF hr')
    have hrt:=B4 _ _ (fun z=>by rw[z,hd2]at hrt0;cases hrt0) hrt0
    have z0:atI (V.str r.k::y1::tl) 0=some (.str r.k):=G9 (j:=0) rfl
    have z1:atI (V.str r.k::y1::tl) 1=some y1:=G9 (j:=1) rfl
    refine⟨_,rfl,r.a,_,_,_,rfl,rfl,SqT.of hrt,z0,rfl,_,rfl,a4n (fun hk=>?_) (fun hk=>?_)⟩
    ·have hk':r.k="ask":=V.str.inj (of_decide_eq_true hk)
     obtain⟨m,hmN,hrt',rfl⟩:=hto (.inr hk')
     have hll:=a1f l4 _ hnd4 hN4
     refine⟨_,rfl,_,rfl,r.a,_,_,_,rfl,rfl,SqT.of hrt,z1,d,_,rfl,a2v.k (k:=Sum.inr m) hd4 (J9 (by rw[a2M];omega)),?_⟩
     refine⟨O4 l4 m,_,rfl,(fun a o ha h=>by rw[G7 ha];exact B4 a o ha h),by rw[G1,a4b],a5R hnd4 m,fun x hx=>?_,fun rs' h1 r' h2 h3 m' h4=>(E9 l4 m m').mpr (.inl (hA4 rs' h1 r' h2 h3 m' h4)),fun r' h2 h3 m' h4=>?_⟩
     ·rcases(E9 l4 m x).mp hx with z | z
      ·exact hN4 x z
      ·rw[z];exact hmN
     ·rw[I0 hr']at h2
      rcases AK.mp h2 with z | z
      ·exact(E9 l4 m m').mpr (.inl (hR4 r' z h3 m' h4))
      ·rw[AC.mp z,hrt']at h4
       exact(E9 l4 m m').mpr (.inr (Option.some.inj h4).symm)
    ·refine⟨l4,_,rfl,B4,hd4,hnd4,hN4,hA4,fun r' h2 h3 m' h4=>?_⟩
     rw[I0 hr']at h2
     rcases AK.mp h2 with z | z
     ·exact hR4 r' z h3 m' h4
     ·rw[AC.mp z]at h3
      exact absurd (decide_eq_true (congrArg V.str h3)) hk
   ·rintro σ H4 ⟨l4,v6',rfl,B4,hd4,hnd4,hN4,hA4,hR4⟩
    refine⟨l4,_,_,rfl,B4,hd4,hnd4,hN4,fun rs' h1 r' h2 h3 m' h4=>?_⟩
    rw[I0 hrs]at h1
    rcases AK.mp h1 with z | z
    ·exact hA4 rs' z r' h2 h3 m' h4
    ·rw[AC.mp z]at h2
     rw[List.length_map,AR]at hR4
     exact hR4 r' h2 h3 m' h4
  ·rintro σ H3 ⟨l,v5,v6,rfl,B3,hd3,hlnd,hlN,hlA⟩
   rw[AI hbp,AR]at hlA
   have s13:G8 H H3:=fun a o h=>by
    have h1:=s12 a o h
    exact B3 a o (fun z=>by rw[z,s1.free gd]at h;cases h) h1
   have hF3:=B3 _ _ hdF.symm hF2
   have hnl3:=s13 _ _ hnl
   refine⟨_,rfl,nl,rfl,⟨_,SqL.of hnl3⟩,?_⟩
   have hnF:nl≠F:=fun z=>by rw[z,gF]at hnl;cases hnl
   refine a0O (K:=K) (a:=nl) (xs:=ns.map V.str) (fun i σ H4=>∃(L:List Str)(v7 v8 v9:Option V),σ=[some (.ref nl),some (.ref bl),some (.int c),some (.ref F),some (.ref d),v5,v6,v7,v8,v9]/\But F H3 H4/\H4 F=some (.lst (L.map V.str))/\(∀x∈L,x∈ns)/\L.length<=1+i/\1<=L.length) ⟨[x0],_,_,_,rfl,fun _ _ _ h=>h,hF3,fun x hx=>by rw[AC.mp hx];exact hx0,by simp,by simp⟩ (fun i σ H4 _⟨_,_,_,_,_,B4,_⟩=>SqL.of (B4 _ _ hnF hnl3)) ?_ ?_
   ·rintro i x σ H4 hx ⟨L,v7,v8,v9,rfl,B4,hF4,hLN,hLl,hL1⟩
    rw[AN]at hx
    obtain⟨y,hy,rfl⟩:=AX.mp hx
    have hi:i < ns.length:=(AB.mp hy).1
    have s34:G8 H H4:=fun a o h=>B4 a o (fun z=>by rw[z,gF]at h;cases h) (s13 a o h)
    have hd4:=B4 _ _ hdF hd3
    refine⟨a1G,fun t0 gt0=>?_⟩
    have s5:G8 H4 (upd H4 t0 (.lst [])):=(G8.refl H4).new gt0
    have ht0:upd H4 t0 (.lst []) t0=some (.lst (([]:List Str).map V.str)):=G1
    generalize upd H4 t0 (.lst [])=H5 at s5 ht0⊢
    refine⟨_,rfl,_,rfl,nl,rfl,⟨_,SqL.of (s5 _ _ (s34 _ _ hnl))⟩,fun D gD=>a8d (K:=K) (fun x=>decide (x∈l)) (s5 _ _ (s34 _ _ hnl)) gD hx900 (fun x hx H' s' Q' h=>?_) fun H6 s6 hD6=>?_⟩
    ·refine⟨_,rfl,_,rfl,d,_,rfl,O3.k (k:=Sum.inr x) (s' _ _ (s5 _ _ hd4)),_,rfl,?_⟩
     rw[a3f]
     exact h
    have hfl:=BC (fun x=>decide (x∈l)) ns
    refine⟨F,D,_,_,rfl,rfl,s6 _ _ (s5 _ _ hF4),hD6,(by rw[List.length_map,List.length_map];exact Nat.le_of_lt (J9 (by omega))),fun p gp=>?_⟩
    rw[<-List.map_append]
    have hR:∀x∈L++ns.filter (fun x=>decide (x∈l)),x∈ns:=fun x hx=>by
     rcases AK.mp hx with z | z
     ·exact hLN x z
     ·exact(List.mem_filter.mp z).1
    have hRl:(L++ns.filter (fun x=>decide (x∈l))).length<=25:=by rw[List.length_append];omega
    generalize L++ns.filter (fun x=>decide (x∈l))=R at hR hRl⊢
    have s7:G8 H6 (upd H6 p (.lst (R.map V.str))):=(G8.refl H6).new gp
    have hp7:upd H6 p (.lst (R.map V.str)) p=some (.lst (R.map V.str)):=G1
    generalize upd H6 p (.lst (R.map V.str))=H7 at s7 hp7⊢
    have s57:=s6.trans s7
    refine⟨p,rfl,⟨_,SqL.of hp7⟩,?_⟩
    refine a0O (K:=K) (a:=p) (xs:=R.map V.str) (fun j σ H8=>∃(t:Addr)(X:List Str)(v9:Option V),σ=[some (.ref nl),some (.ref bl),some (.int c),some (.ref F),some (.ref d),v5,v6,some (.str y),some (.ref t),v9]/\G8 H7 H8/\H8 t=some (.lst (X.map V.str))/\X.length<=12*j) ⟨t0,[],_,rfl,G8.refl H7,s57 _ _ ht0,by simp⟩ (fun j σ H8 _⟨_,_,_,_,s8,_⟩=>SqL.of (s8 _ _ hp7)) ?_ ?_
    ·rintro j r σ H8 hr8 ⟨t,X,v9',rfl,s8,ht,hXl⟩
     rw[AN]at hr8
     obtain⟨rt,hrt,rfl⟩:=AX.mp hr8
     have hj:j < R.length:=(AB.mp hrt).1
     have s48:G8 H H8:=s34.trans (s5.trans (s57.trans s8))
     refine⟨_,rfl,_,rfl,_,rfl,_,rfl,a3Y,fun wt gwt=>?_⟩
     have s9:G8 H8 (upd H8 wt (.tup [.str "do"])):=(G8.refl H8).new gwt
     refine⟨nl,bl,wt,rt,ns,["do"],bs,rfl,s9 _ _ (s48 _ _ hnl),hbk.same (s48.trans s9),hnd,hn12,hR _ (AF hrt),G1,fun w hw=> .inl (AC.mp hw),fun l' L' H9 s10 _ hl' hnd' hN' _=>?_⟩
     have hL':=a1f L' _ hnd' hN'
     refine⟨t,l',_,_,rfl,rfl,s10 _ _ (s9 _ _ ht),hl',(by rw[List.length_map,List.length_map];exact Nat.le_of_lt (J9 (by omega))),fun t' gt'=>?_⟩
     rw[<-List.map_append]
     exact⟨t',X++L',_,rfl,(s8.trans (s9.trans s10)).new gt',G1,by rw[List.length_append];omega⟩
    ·rintro σ H8 ⟨t,X,v9',rfl,s8,ht,hXl⟩
     have s48:G8 H4 H8:=s5.trans (s57.trans s8)
     refine b6i ?_
     refine a7v (fun b H9=>H9=H8) (fun Q' h=>?_) ?_ ?_
     ·exact⟨_,rfl,_,rfl,t,_,rfl,.inl (SqL.of ht),rfl,a1i _,_,rfl,h _ _ rfl⟩
     ·rintro H9 rfl
      have hF9:=s48 _ _ hF4
      refine⟨_,rfl,.inl ⟨rfl,_,SqL.of hF9⟩,_,rfl,F,_,_,rfl,rfl,hF9,J9 (by rw[List.length_map];omega),?_⟩
      refine⟨L++[y],_,_,_,rfl,(fun a o ha h=>by rw[G7 ha];exact s48 _ _ (B4 a o ha h)),by rw[G1,List.map_append];rfl,fun x hx=>?_,by rw[List.length_append];simp;omega,by rw[List.length_append];omega⟩
      rcases AK.mp hx with z | z
      ·exact hLN x z
      ·rw[AC.mp z];exact AF hy
     ·rintro H9 rfl
      exact⟨L,_,_,_,rfl,fun a o ha h=>s48 _ _ (B4 a o ha h),s48 _ _ hF4,hLN,by omega,hL1⟩
   ·rintro σ H4 ⟨L,v7,v8,v9,rfl,B4,hF4,hLN,hLl,hL1⟩
    rw[List.length_map]at hLl
    have s34:G8 H H4:=fun a o h=>B4 a o (fun z=>by rw[z,gF]at h;cases h) (s13 a o h)
    have hd4:=B4 _ _ hdF hd3
    refine⟨_,rfl,_,rfl,nl,rfl,⟨_,SqL.of (s34 _ _ hnl)⟩,fun D gD=>a8d (K:=K) (fun x=>decide (x∈l) && !decide (x∈L)) (s34 _ _ hnl) gD hx900 (fun x hx H' s' Q' h=>?_) fun H6 s6 hD6=>?_⟩
    ·refine a4i (a:=decide (x∈l)) (b:= !decide (x∈L)) (fun Q'' h'=>?_) (fun Q'' h'=>?_) _ h
     ·refine⟨_,rfl,_,rfl,d,_,rfl,O3.k (k:=Sum.inr x) (s' _ _ hd4),_,rfl,?_⟩
      rw[a3f]
      exact h'
     ·refine⟨_,rfl,_,rfl,F,_,rfl,.inl (SqL.of (s' _ _ hF4)),rfl,a1i _,_,rfl,?_⟩
      rw[a1v]
      exact h'
    have hfl:=BC (fun x=>decide (x∈l) && !decide (x∈L)) ns
    refine⟨F,D,_,_,rfl,rfl,s6 _ _ hF4,hD6,(by rw[List.length_map,List.length_map];exact Nat.le_of_lt (J9 (by omega))),fun p gp=>?_⟩
    refine q p (L++ns.filter fun x=>decide (x∈l) && !decide (x∈L)) _ ((s34.trans s6).new gp) (s34.free (s6.free gp)) (by rw[G1,List.map_append]) (fun x hx=>?_) (by rw[List.length_append];omega) (by rw[List.length_append];omega) (fun rs' h1 r' h2 h3 m' h4=>?_)
    ·rcases AK.mp hx with z | z
     ·exact hLN x z
     ·exact(List.mem_filter.mp z).1
    ·have hm:=hlA rs' h1 r' h2 h3 m' h4
     by_cases z:m'∈L
     ·exact BA _ z
     ·exact AW _ (List.mem_filter.mpr ⟨hlN m' hm,by simp[hm,z]⟩)
theorem a6R{K:W.Frag}{m:Nat}{Qh:Hp->Prop}{v:Option V}{H:Hp}{D:Addr}(hD:H D=none)(hx:m<=900)
  (q:∀(as:List Addr)(H':Hp),G8 H H'->H' D=some (.lst (as.map V.ref))->as.length=m->as.Nodup->(∀b∈as,H b=none/\b≠D/\H' b=some (.lst []))->Qh H'):
  ∃W:Nat->Nat->L2.St->Hp->Prop,(∃k,W 0 k [v] (upd H D (.lst [])))/\∀i k σ2 H2,W i k σ2 H2->
   ((Itr 0 m).stop i H2/\Qh H2)\/((Itr 0 m).go i H2/\∃N:L2.St->Hp->Prop,(∀σ' H',N σ' H'->∃m',m' < k/\W (i+1) m' σ' H')/\∀x H3,(Itr 0 m).yld i H2 x H3->a3p 0 x σ2 H3 fun σ4 H4=>a4T σ4 H4 fun b H5=>
    if b=true then b5O a9r σ4 H5 fun y H6=>∃ys,H6 D=some (.lst ys)/\ys.length < sizeLine/\N σ4 (upd H6 D (.lst (ys++[y])))else N σ4 H5):=by
 refine a3g m (fun i σ H2=>∃(v0:Option V)(as:List Addr),σ=[v0]/\G8 H H2/\H2 D=some (.lst (as.map V.ref))/\as.length=i/\as.Nodup/\∀b∈as,H b=none/\b≠D/\H2 b=some (.lst [])) ⟨v,[],rfl,(G8.refl H).new hD,G1,rfl,List.nodup_nil,by simp⟩ ?_ ?_
 ·rintro i σ H2 hi ⟨v0,as,rfl,s2,hD2,hlen,hnd,hall⟩
  refine⟨hi,?_⟩
  rintro x H3 ⟨rfl,rfl⟩
  refine ntG ?_
  refine⟨a1G,fun p gp=>?_⟩
  have hpD:p≠D:=fun z=>by rw[z,hD2]at gp;cases gp
  have hD3:upd H3 p (.lst []) D=some (.lst (as.map V.ref)):=U3 hD2 gp
  refine⟨_,hD3,J9 (by rw[List.length_map];omega),_,as++[p],rfl,(s2.new gp).put hD,?_,by rw[List.length_append,hlen];rfl,?_,?_⟩
  ·rw[G1,List.map_append];rfl
  ·rw[List.nodup_append]
   refine⟨hnd,by simp,fun b hb c hc e=>?_⟩
   rw[AC.mp hc]at e
   have:=(hall b hb).2.2
   rw[e,gp]at this
   cases this
  ·intro b hb
   rcases AK.mp hb with z | z
   ·obtain⟨h1,h2,h3⟩:=hall b z
    exact⟨h1,h2,by rw[G7 h2];exact U3 h3 gp⟩
   ·rw[AC.mp z]
    exact⟨s2.free gp,hpD,by rw[G7 hpD,G1]⟩
 ·rintro σ H2 ⟨v0,as,rfl,s2,hD2,hlen,hnd,hall⟩
  exact⟨AE _,q as H2 s2 hD2 hlen hnd hall⟩
theorem a7W{α β:Type}{F:α->β->Prop}:∀{xs us:List α}{ys ws:List β},Paired F xs ys->Paired F us ws->Paired F (xs++us) (ys++ws)
 | _,_,_,_,.nil,h=>h
 | _,_,_,_,.cons h1 h2,h=> .cons h1 (a7W h2 h)
theorem b0x{ns:List Str}{bs:List (List Rk)}{k:Nat}{n:Str}{rs:List Rk}(h1:ns[k]?=some n)(h2:bs[k]?=some rs):a6s (ns.take (k+1)) (bs.take (k+1))=a6s (ns.take k) (bs.take k)++rs.map fun r=>(n,r):=by
 unfold a6s
 have l1:k < ns.length:=(AB.mp h1).1
 have l2:k < bs.length:=(AB.mp h2).1
 rw[I0 h1,I0 h2,List.zip_append (by rw[AU,AU];omega),List.flatMap_append]
 congr 1
 simp
structure Aq(H0:Hp)(P O:Addr)(pa oa:List Addr):Prop where
 nd:pa.Nodup
 fr:∀b,b∈pa\/b∈oa->H0 b=none/\b≠P/\b≠O
 dj:∀b∈pa,b∉oa
 ne:H0 P=none/\H0 O=none
structure Gq(ns:List Str)(H0:Hp)(P O:Addr)(pa oa:List Addr)(pk:List (List Ro))(j jo:Nat)(H:Hp):Prop where
 sm:G8 H0 H
 hP:H P=some (.lst (pa.map V.ref))
 hO:H O=some (.lst (oa.map V.ref))
 ln:pk.length=pa.length
 rw:∀(l:Nat)(b:Addr)(Pl:List Ro),pa[l]?=some b->pk[l]?=some Pl->∃vs,H b=some (.lst vs)/\Paired (a6u ns H) vs Pl/\vs.length<=j
 ro:∀b∈oa,∃vs,H b=some (.lst vs)/\vs.length<=jo
theorem Gq.up{ns:List Str}{H0:Hp}{P O:Addr}{pa oa:List Addr}{pk:List (List Ro)}{j jo:Nat}{H H':Hp}(g:Gq ns H0 P O pa oa pk j jo H)(s:G8 H H'):Gq ns H0 P O pa oa pk j jo H':=
 ⟨g.sm.trans s,s _ _ g.hP,s _ _ g.hO,g.ln,fun l b Pl h1 h2=>by
  obtain⟨vs,a1,a2,a3⟩:=g.rw l b Pl h1 h2
  exact⟨vs,s _ _ a1,Paired.mapP a2 fun _ _ z=>z.mono s.tups,a3⟩,fun b hb=>by
  obtain⟨vs,a1,a2⟩:=g.ro b hb
  exact⟨vs,s _ _ a1,a2⟩⟩
theorem Gq.putP{ns:List Str}{H0:Hp}{P O:Addr}{pa oa:List Addr}{pk:List (List Ro)}{j j' jo:Nat}{H:Hp}(g:Gq ns H0 P O pa oa pk j jo H)(a:Aq H0 P O pa oa){l:Nat}{b:Addr}{Pl E:List Ro}{vs ws:List V}(hl:pa[l]?=some b)(hp:pk[l]?=some Pl)(hb:H b=some (.lst vs))(hvs:Paired (a6u ns H) vs Pl)(hws:Paired (a6u ns H) ws E)(hj:j<=j')(hlen:vs.length+ws.length<=j'):
  Gq ns H0 P O pa oa (pk.set l (Pl++E)) j' jo (upd H b (.lst (vs++ws))):=by
 have T:=R7.lst (ys:=vs++ws) hb
 have hbm:=AF hl
 obtain⟨f0,fP,fO⟩:=a.fr b (.inl hbm)
 have hll:l < pk.length:=(AB.mp hp).1
 refine⟨g.sm.put f0,by rw[G7 fP.symm];exact g.hP,by rw[G7 fO.symm];exact g.hO,by rw[List.length_set];exact g.ln,fun l' b' Pl' h1 h2=>?_,fun b' hb'=>?_⟩
 ·by_cases e:l=l'
  ·subst e
   rw[hl]at h1
   cases h1
   rw[List.getElem?_set_self hll]at h2
   cases h2
   exact⟨_,G1,a7W (Paired.mapP hvs fun _ _ z=>z.mono T) (Paired.mapP hws fun _ _ z=>z.mono T),by rw[List.length_append];exact hlen⟩
  ·rw[List.getElem?_set_ne e]at h2
   obtain⟨vs',a1,a2,a3⟩:=g.rw l' b' Pl' h1 h2
   have hne:b'≠b:=fun z=>by
    subst z
    exact e ((List.getElem?_inj (AB.mp hl).1 a.nd).mp (by rw[hl,h1]))
   exact⟨vs',by rw[G7 hne];exact a1,Paired.mapP a2 fun _ _ z=>z.mono T,by omega⟩
 ·obtain⟨vs',a1,a2⟩:=g.ro b' hb'
  exact⟨vs',by rw[G7 (show b'≠b from fun z=>a.dj b hbm (z▸hb'))];exact a1,by omega⟩
theorem Gq.putO{ns:List Str}{H0:Hp}{P O:Addr}{pa oa:List Addr}{pk:List (List Ro)}{j jo jo':Nat}{H:Hp}(g:Gq ns H0 P O pa oa pk j jo H)(a:Aq H0 P O pa oa){b:Addr}{vs:List V}(hbm:b∈oa){vs0:List V}(hb:H b=some (.lst vs0))(hj:jo<=jo')(hlen:vs.length<=jo'):
  Gq ns H0 P O pa oa pk j jo' (upd H b (.lst vs)):=by
 have T:=R7.lst (ys:=vs) hb
 obtain⟨f0,fP,fO⟩:=a.fr b (.inr hbm)
 refine⟨g.sm.put f0,by rw[G7 fP.symm];exact g.hP,by rw[G7 fO.symm];exact g.hO,g.ln,fun l' b' Pl' h1 h2=>?_,fun b' hb'=>?_⟩
 ·obtain⟨vs',a1,a2,a3⟩:=g.rw l' b' Pl' h1 h2
  exact⟨vs',by rw[G7 (show b'≠b from fun z=>a.dj b' (AF h1) (z▸hbm))];exact a1,Paired.mapP a2 fun _ _ z=>z.mono T,by omega⟩
 ·by_cases e:b'=b
  ·subst e
   exact⟨_,G1,hlen⟩
  ·obtain⟨vs',a1,a2⟩:=g.ro b' hb'
   exact⟨vs',by rw[G7 e];exact a1,by omega⟩
structure Pq(ns:List Str)(bs:List (List Rk))(k:Nat)(pk:List (List Ro)):Prop where
 hd:∀P∈pk,P=[]\/∃n t,P= .part n::t
 pt:(pk.flatMap R6).Perm (ns.take k)
 pr:(pk.flatMap prs).Perm (a6s (ns.take k) (bs.take k))
theorem Pq.more{ns:List Str}{bs:List (List Rk)}{k:Nat}{pk:List (List Ro)}(h:Pq ns bs k pk){l:Nat}{Pl:List Ro}{n:Str}{rs:List Rk}(hp:pk[l]?=some Pl)(h1:ns[k]?=some n)(h2:bs[k]?=some rs):Pq ns bs (k+1) (pk.set l (Pl++(.part n::rs.map Ro.row))):=by
 refine⟨fun P hP=>?_,?_,?_⟩
 ·rcases List.mem_or_eq_of_mem_set hP with z | z
  ·exact h.hd P z
  ·rcases h.hd Pl (AF hp)with e | ⟨n',t,e⟩
   ·rw[z,e];exact .inr ⟨n,_,rfl⟩
   ·rw[z,e];exact .inr ⟨n',_,rfl⟩
 ·refine(a6b (e:=[n]) pk l Pl hp (b2t Pl n rs)).trans ?_
  rw[I0 h1]
  exact h.pt.append_right _
 ·refine(a6b (e:=rs.map fun r=>(n,r)) pk l Pl hp (b3c Pl n rs)).trans ?_
  rw[b0x h1 h2]
  exact h.pr.append_right _
theorem Pq.ok{ns:List Str}{bs:List (List Rk)}{pk:List (List Ro)}(h:Pq ns bs ns.length pk)(hl:bs.length=ns.length):b0H ns bs pk:=by
 refine⟨h.hd,?_,?_⟩
 ·have:=h.pt
  rwa[AR]at this
 ·have:=h.pr
  rwa[AR,<-hl,AR]at this
theorem Pq.zero{ns:List Str}{bs:List (List Rk)}(m:Nat):Pq ns bs 0 (List.replicate m []):=by
 have e:∀{β:Type}(f:List Ro->List β),f []=[]->(List.replicate m ([]:List Ro)).flatMap f=[]:=fun f hf=>by
  rw[List.flatMap_eq_nil_iff]
  intro x hx
  rw[List.eq_of_mem_replicate hx]
  exact hf
 refine⟨fun P hP=> .inl (List.eq_of_mem_replicate hP),?_,?_⟩
 ·rw[e R6 rfl];exact List.Perm.refl _
 ·rw[e prs rfl];exact List.Perm.refl _
noncomputable def a7M (ns:List Str) (H:Hp) (v:V) (Pl:List Ro):Prop:=∃a vs,v= .ref a/\H a=some (.tup vs)/\Paired (a6u ns H) vs Pl
noncomputable def a9H (H:Hp) (v:V) (q:Str×List Int):Prop:=∃t u,v= .ref t/\H t=some (.tup [.str q.1,.ref u])/\H u=some (.tup (q.2.map V.int))
theorem a7M.mono{ns:List Str}{H H':Hp}(s:R7 H H'){v:V}{Pl:List Ro}(h:a7M ns H v Pl):a7M ns H' v Pl:=by
 obtain⟨a,vs,h1,h2,h3⟩:=h
 exact⟨a,vs,h1,s _ _ h2,Paired.mapP h3 fun _ _ z=>z.mono s⟩
theorem a9H.mono{H H':Hp}(s:R7 H H'){v:V}{q:Str×List Int}(h:a9H H v q):a9H H' v q:=by
 obtain⟨t,u,h1,h2,h3⟩:=h
 exact⟨t,u,h1,s _ _ h2,s _ _ h3⟩
theorem b4N{l:List (Str×List Rk)}(h:∀q∈l,q.2.length<=40):(l.flatMap fun q:Str×List Rk=>q.2.map fun r=>(q.1,r)).length<=40*l.length:=by
 induction l with
 | nil=>simp
 | cons a t ih=>
  have h1:=ih fun q hq=>h q (AO _ hq)
  have h2:=h a AQ
  rw[List.flatMap_cons,List.length_append,List.length_map,List.length_cons]
  omega
theorem Pq.tl{ns:List Str}{bs:List (List Rk)}{pk:List (List Ro)}(h:Pq ns bs ns.length pk)(hl:bs.length=ns.length)(h12:ns.length<=12)(h40:∀rs∈bs,rs.length<=40):(Y8 0 pk).length<=480:=by
 have e1:=(h.ok hl).pr.length_eq
 have e2:=congrArg List.length (a3N pk 0)
 rw[List.length_map]at e2
 have e3:(a6s ns bs).length<=40*(ns.zip bs).length:=b4N fun q hq=>h40 _ (List.of_mem_zip hq).2
 rw[List.length_zip]at e3
 omega
structure a4L(ns:List Str)(bs:List (List Rk))(H:Hp)(t:Addr)(pk:List (List Ro))(lds:List (Str×List Int)):Prop where
 ex:∃(p o l:Addr)(us ws:List V)(ob:Obj),H t=some (.tup [.ref p,.ref o,.ref l])/\H p=some (.tup us)/\Paired (a7M ns H) us pk/\H l=some (.frz ob (.tup ws))/\ob.dict=none/\Paired (a9H H) ws lds
 ok:b0H ns bs pk
 pl:pk.length<=12
 rl:∀P∈pk,P.length<=500
 tl:(Y8 0 pk).length<=480
 ll:lds.length<=25
 ln:∀q∈lds,q.1∈ns/\q.2.length<=12
 l1:1<=lds.length
 ak:∀rs∈bs,∀r∈rs,r.k="ask" ->∀m,r.t=some m->m∈lds.map (·.1)
noncomputable def b4T:Sp:=fun vs H Q _=>∃(nl bl:Addr)(c:Int)(ns:List Str)(bs:List (List Rk)),vs=[.ref nl,.ref bl,.int c]/\H nl=some (.lst (ns.map V.str))/\a2C ns H bl bs/\ns.Nodup/\1<=ns.length/\ns.length<=12/\
 ∀(t:Addr)(pk:List (List Ro))(lds:List (Str×List Int))(H':Hp),G8 H H'->a4L ns bs H' t pk lds->Q (.ref t) H'
theorem a6E:∀l:List Int,(l.map V.int).all a3b=true
 | []=>rfl
 | _::r=>a6E r
theorem a9E(ns:List Int):∃ms:List Int,ns.Perm ms/\ms.Pairwise (· <= ·):=by
 refine⟨ns.mergeSort (fun a b=>decide (a<=b)),(List.mergeSort_perm _ _).symm,?_⟩
 have:=List.pairwise_mergeSort (le:=fun a b:Int=>decide (a<=b)) (fun a b c h1 h2=>by simp at *;omega) (fun a b=>by simp;omega) ns
 exact this.imp fun h=>by simpa using h
theorem b3o(T:Txt K mg):L2.Cl P w K mg base 3 "_law_made" ["_law_names_here","_law_blocks_here","_law_cell"] b4T:=by
 have C_law_there:=a5d (P:=P) (w:=w) (base:=base) T
 have C_law_roots:=b2q (P:=P) (w:=w) (base:=base) T
 refine Cl.of T.d_law_made E6 (fun vs H Q E h=>?_) (fun _ _ _ _ _ _ us hl=>by obtain⟨a,b,c,rfl⟩:=a6v hl;rfl) (fun f cdv A outer s H vs Q E hr h=>?_)
 ·obtain⟨nl,bl,c,ns,bs,rfl,_⟩:=h
  rfl
 ·obtain⟨nl,bl,c,ns,bs,rfl,hnl,hbk,hnd,hn1,hn12,q⟩:=h
  have hsz:sizeLine=16777216:=sizeLine_eq
  refine⟨_,(G3 (J6 (i:=3) E6.nd rfl (Or.inr rfl) (Z2 G2))
   (G3 (Y2 AL rfl (Z4 (by rfl) T.n_range (G0 (R9 U2 (by rfl) T.n_len PySem.boot_len (G0 (pv 0) G2)) G2)) (J8 (i:=4) E6.nd rfl (Or.inr rfl))
    (G6 (U1 (D0 PySem.F.plainAttrs_list PySem.F.slot_list_append PySem.F.type_list_append W5 (pv 3) (G0 (J4 O0 (J4 M5 (pv 2) (J4 O6 (J4 a0R G5 (pv 4)) G5)) (J4 O6 (J4 O6 G5 (R9 (a4x rfl) (by rfl) T.n_max boot_max (G0 (J4 a4l (Z2 (G0 (b4A b1Z G5) G2)) (pv 3)) G2))) G5)) G2)))))
   (G3 (a4Q (j:=5) (M:=["_law_k"]) (ρ:=[none]) (G4 O1) ["_law_names_here","_law_blocks_here","_law_cell","_law_lies","_law_k","_law_packs","_law_origins","_law_loads","_law_root","_law_there_here","_law_numbers"] ⟨rfl,by decide +kernel,by decide +kernel,by decide +kernel,rfl,by decide +kernel,by decide +kernel⟩ E6.nd rfl (Or.inl rfl) (Z4 (by rfl) T.n_range (G0 (J4 O6 G5 (R9 (a4x rfl) (by rfl) T.n_max boot_max (G0 (pv 3) G2))) G2)) (fun _ _ _ _ _ _=>(J8 (i:=0) (show(["_law_k"]:List Str).Nodup by decide +kernel) rfl (Or.inl rfl))) (fun _ _ _ _ _ _=>a1l) (fun _ _ _ _ _ _=>(Z2 G2)))
   (G3 (a4Q (j:=6) (M:=["_law_k"]) (ρ:=[none]) (G4 O1) ["_law_names_here","_law_blocks_here","_law_cell","_law_lies","_law_k","_law_packs","_law_origins","_law_loads","_law_root","_law_there_here","_law_numbers"] ⟨rfl,by decide +kernel,by decide +kernel,by decide +kernel,rfl,by decide +kernel,by decide +kernel⟩ E6.nd rfl (Or.inl rfl) (Z4 (by rfl) T.n_range (G0 (J4 O6 G5 (R9 (a4x rfl) (by rfl) T.n_max boot_max (G0 (pv 3) G2))) G2)) (fun _ _ _ _ _ _=>(J8 (i:=0) (show(["_law_k"]:List Str).Nodup by decide +kernel) rfl (Or.inl rfl))) (fun _ _ _ _ _ _=>a1l) (fun _ _ _ _ _ _=>(Z2 G2)))
   (G3 (Y2 AL rfl (Z4 (by rfl) T.n_range (G0 (R9 U2 (by rfl) T.n_len PySem.boot_len (G0 (pv 0) G2)) G2)) (J8 (i:=4) E6.nd rfl (Or.inr rfl))
    (G3 (U1 (D0 PySem.F.plainAttrs_list PySem.F.slot_list_extend PySem.F.type_list_extend a4q (J0 W7 (pv 5) (J0 W7 (pv 3) (pv 4) (fun _ _=>rfl)) (fun _ _=>rfl)) (G0 (J4 a4l (Z2 (G0 (R5 (G0 I9 (G0 (J0 W7 (pv 0) (pv 4) (fun _ _=>rfl)) G2))) G2)) (J0 W7 (pv 1) (pv 4) (fun _ _=>rfl))) G2)))
    (G6 (U1 (D0 PySem.F.plainAttrs_list PySem.F.slot_list_extend PySem.F.type_list_extend a4q (J0 W7 (pv 6) (J0 W7 (pv 3) (pv 4) (fun _ _=>rfl)) (fun _ _=>rfl)) (G0 (J4 a4l (Z2 (G0 (R5 (G0 (J0 W7 (pv 0) (pv 4) (fun _ _=>rfl)) (G0 a3t G2))) G2)) (a0I (M:=["_law_at","_law_names_here","_law_k"]) (ρ:=[none,some 0,some 4]) (G4 O1) ["_law_names_here","_law_blocks_here","_law_cell","_law_lies","_law_k","_law_packs","_law_origins","_law_loads","_law_root","_law_there_here","_law_numbers"] ⟨rfl,by decide +kernel,by decide +kernel,by decide +kernel,rfl,by decide +kernel,by decide +kernel⟩ (Z4 (by rfl) T.n_range (G0 (R9 U2 (by rfl) T.n_len PySem.boot_len (G0 (J0 W7 (pv 1) (pv 4) (fun _ _=>rfl)) G2)) G2)) (fun _ _ _ _ _ _=>(J8 (i:=0) (show(["_law_at","_law_names_here","_law_k"]:List Str).Nodup by decide +kernel) rfl (Or.inl rfl))) (fun _ _ _ _ _ _=>a1l) (fun _ _ _ _ _ _=>(R5 (G0 (J0 (a3D (K:=K) rfl) (pv 1) (pv 2) (fun _ _=>rfl)) (G0 (pv 0) G2)))))) G2))))))
   (G3 (J6 (i:=7) E6.nd rfl (Or.inl rfl) (Z2 G2))
   (G3 (Y2 AL rfl (E2 (W6 C_law_roots hr (by rfl) (G0 (pv 0) (G0 (pv 1) (G0 (pv 2) G2))))) (J8 (i:=8) E6.nd rfl (Or.inl rfl))
    (G3 (J6 (i:=9) E6.nd rfl (Or.inl rfl) (W6 C_law_there hr (by rfl) (G0 (pv 0) (G0 (pv 1) (G0 (pv 8) (G0 (R5 (G0 I9 G2)) G2))))))
    (G3 (J6 (i:=10) E6.nd rfl (Or.inr rfl) (R9 a7F (by rfl) T.n_sorted boot_sorted (G0 (a0I (M:=["_law_part","_law_lies","_law_names_here"]) (ρ:=[none,some 3,some 0]) (G4 O1) ["_law_names_here","_law_blocks_here","_law_cell","_law_lies","_law_k","_law_packs","_law_origins","_law_loads","_law_root","_law_there_here","_law_numbers"] ⟨rfl,by decide +kernel,by decide +kernel,by decide +kernel,rfl,by decide +kernel,by decide +kernel⟩ (E2 (pv 9)) (fun _ _ _ _ _ _=>(J8 (i:=0) (show(["_law_part","_law_lies","_law_names_here"]:List Str).Nodup by decide +kernel) rfl (Or.inl rfl))) (fun _ _ _ _ _ _=>a1l) (fun _ _ _ _ _ _=>(J0 (a3D (K:=K) rfl) (pv 1) (b5g (K:=K) rfl PySem.F.plainAttrs_list PySem.F.slot_list_index PySem.F.type_list_index (b0F (K:=K) rfl) (pv 2) (G0 (pv 0) G2)) (fun _ _=>rfl)))) G2)))
    (G6 (U1 (D0 PySem.F.plainAttrs_list PySem.F.slot_list_append PySem.F.type_list_append W5 (pv 7) (G0 (R5 (G0 (pv 8) (G0 (Y0 W8 (by rfl) T.n_tuple boot_tuple (G0 (a0I (M:=["_law_k","_law_numbers"]) (ρ:=[none,some 10]) (G4 O1) ["_law_names_here","_law_blocks_here","_law_cell","_law_lies","_law_k","_law_packs","_law_origins","_law_loads","_law_root","_law_there_here","_law_numbers"] ⟨rfl,by decide +kernel,by decide +kernel,by decide +kernel,rfl,by decide +kernel,by decide +kernel⟩ (Z4 (by rfl) T.n_range (G0 (R9 U2 (by rfl) T.n_len PySem.boot_len (G0 (pv 5) G2)) G2)) (fun _ _ _ _ _ _=>(J8 (i:=0) (show(["_law_k","_law_numbers"]:List Str).Nodup by decide +kernel) rfl (Or.inl rfl))) (fun _ _ _ _ _ _=>(a3G (J3 (a5j (K:=K) rfl) (pv 0) (pv 1) (by with_unfolding_all rfl)))) (fun _ _ _ _ _ _=>(pv 0))) G2)) G2))) G2)))))))
   (G6 (R3 (R5 (G0 (Y0 W8 (by rfl) T.n_tuple boot_tuple (G0 (a0I (M:=["_law_pack"]) (ρ:=[none]) (G4 O1) ["_law_names_here","_law_blocks_here","_law_cell","_law_lies","_law_k","_law_packs","_law_origins","_law_loads","_law_root","_law_there_here","_law_numbers"] ⟨rfl,by decide +kernel,by decide +kernel,by decide +kernel,rfl,by decide +kernel,by decide +kernel⟩ (E2 (pv 5)) (fun _ _ _ _ _ _=>(J8 (i:=0) (show(["_law_pack"]:List Str).Nodup by decide +kernel) rfl (Or.inl rfl))) (fun _ _ _ _ _ _=>a1l) (fun _ _ _ _ _ _=>(Y0 (a3d (K:=K) rfl) (by rfl) T.n_tuple boot_tuple (G0 (pv 0) G2)))) G2)) (G0 (Y0 W8 (by rfl) T.n_tuple boot_tuple (G0 (a0I (M:=["_law_some"]) (ρ:=[none]) (G4 O1) ["_law_names_here","_law_blocks_here","_law_cell","_law_lies","_law_k","_law_packs","_law_origins","_law_loads","_law_root","_law_there_here","_law_numbers"] ⟨rfl,by decide +kernel,by decide +kernel,by decide +kernel,rfl,by decide +kernel,by decide +kernel⟩ (E2 (pv 6)) (fun _ _ _ _ _ _=>(J8 (i:=0) (show(["_law_some"]:List Str).Nodup by decide +kernel) rfl (Or.inl rfl))) (fun _ _ _ _ _ _=>a1l) (fun _ _ _ _ _ _=>(Y0 (a3d (K:=K) rfl) (by rfl) T.n_tuple boot_tuple (G0 (pv 0) G2)))) G2)) (G0 (Y0 a5C (by rfl) T.n_tuple boot_tuple (G0 (pv 7) G2)) G2))))))))))))),?_⟩
  refine⟨a1G,fun L gL=>?_⟩
  have hnL:nl≠L:=fun z=>by rw[z,gL]at hnl;cases hnl
  refine⟨_,rfl,nl,_,rfl,.inl (SqL.of (U3 hnl gL)),_,rfl,(by omega),(by rw[List.length_map];omega),?_⟩
  rw[List.length_map]
  refine M1 (n:=ns.length) (fun i σ H2=>∃(ls:List Int)(v4:Option V),σ=[some (.ref nl),some (.ref bl),some (.int c),some (.ref L),v4,none,none,none,none,none,none]/\G8 H H2/\H2 L=some (.lst (ls.map V.int))/\ls.length=i/\∀x∈ls,0<=x/\x < (i:Int)) ⟨[],none,rfl,(G8.refl H).new gL,G1,rfl,by simp⟩ ?_ ?_
  ·rintro i σ H2 hi ⟨ls,v4,rfl,s2,hL,hll,hlb⟩
   refine⟨_,rfl,.inl ⟨rfl,_,SqL.of hL⟩,_,rfl,_,rfl,_,_,rfl,rfl,.inl ⟨by decide,by decide⟩,_,_,rfl,rfl,_,_,rfl,rfl,⟨by omega,by omega⟩,?_⟩
   refine⟨_,rfl,a3Y,fun z gz=>?_⟩
   refine⟨_,rfl,z,L,_,_,rfl,rfl,G1,U3 hL gz,(by show 1+_<=sizeLine;rw[List.length_map];omega),fun p gp=>?_⟩
   refine⟨p, -1::ls,rfl,SqL.of G1,by simp,fun mx hmx hmax=>?_⟩
   have hmx0: -1<=mx:=hmax _ AQ
   have hmxi:mx < (i:Int):=by
    rcases List.mem_cons.mp hmx with z | z
    ·omega
    ·exact(hlb mx z).2
   have mm:=a0f (i:=c/(2*(0+(i:Int))+1)) (n:=1+mx+1) (by omega)
   refine⟨_,_,rfl,rfl,_,_,rfl,rfl,_,_,rfl,rfl,(by show(0:Int) < 1+mx+1;omega),?_⟩
   have hL3:=U3 (o:= .lst ([V.int (-1)]++ls.map V.int)) (U3 (o:= .lst [V.int (-1)]) hL gz) gp
   refine⟨L,_,_,rfl,rfl,hL3,J9 (by rw[List.length_map];omega),ls++[_],_,rfl,((s2.new gz).new gp).put gL,by rw[G1,List.map_append];rfl,by rw[List.length_append,hll];rfl,fun x hx=>?_⟩
   rcases AK.mp hx with z | z
   ·have:=hlb x z;omega
   ·rw[AC.mp z];omega
  ·rintro σ H2 ⟨ls,v4,rfl,s2,hL,hll,hlb⟩
   have hne:ls≠[]:=fun z=>by rw[z]at hll;simp at hll;omega
   refine⟨_,rfl,L,ls,rfl,SqL.of hL,hne,fun mx hmx hmax=>?_⟩
   have hmx0:=hlb mx hmx
   refine⟨_,_,rfl,rfl,_,rfl,(by omega),(by omega),fun Pa gP=>?_⟩
   refine a6R (K:=K) (m:=(1+mx).toNat) gP (by omega) fun pa H3 s3 hP3 hpa hpaN hpaA=>?_
   have hL3:=s3 _ _ hL
   refine⟨_,rfl,L,ls,rfl,SqL.of hL3,hne,fun mx' hmx' hmax'=>?_⟩
   have emx:mx'=mx:=by
    have a1:=hmax mx' hmx'
    have a2:=hmax' mx hmx
    omega
   subst emx
   refine⟨_,_,rfl,rfl,_,rfl,(by omega),(by omega),fun Oa gO=>?_⟩
   refine a6R (K:=K) (m:=(1+mx').toNat) gO (by omega) fun oa H4 s4 hO4 hoa hoaN hoaA=>?_
   have hL4:=s4 _ _ hL3
   have aq:Aq H2 Pa Oa pa oa:=by
    have pA:∀b∈pa,H2 b=none/\H3 b=some (.lst [])/\b≠Pa:=fun b hb=>⟨(hpaA b hb).1,(hpaA b hb).2.2,(hpaA b hb).2.1⟩
    have oA:∀b∈oa,H3 b=none/\b≠Oa:=fun b hb=>⟨(hoaA b hb).1,(hoaA b hb).2.1⟩
    refine⟨hpaN,fun b hb=>?_,fun b hb z=>?_,gP,s3.free gO⟩
    ·rcases hb with z | z
     ·obtain⟨h1,h2,h3⟩:=pA b z
      exact⟨h1,h3,fun e=>by rw[e,gO]at h2;cases h2⟩
     ·obtain⟨h1,h2⟩:=oA b z
      exact⟨s3.free h1,(fun e=>by rw[e,hP3]at h1;cases h1),h2⟩
    ·have h2:=(pA b hb).2.1
     rw[(oA b z).1]at h2
     cases h2
   have g0:Gq ns H2 Pa Oa pa oa (List.replicate pa.length []) 0 0 H4:=by
    refine⟨s3.trans s4,s4 _ _ hP3,hO4,by simp,fun l b Pl h1 h2=>?_,fun b hb=>⟨[],(hoaA b hb).2.2,by simp⟩⟩
    have:Pl=[]:=List.eq_of_mem_replicate (AF h2)
    subst this
    exact⟨[],s4 _ _ (hpaA b (AF h1)).2.2,.nil,by simp⟩
   have hnl4:=g0.sm _ _ (s2 _ _ hnl)
   refine⟨_,rfl,nl,_,rfl,.inl (SqL.of hnl4),_,rfl,(by omega),(by rw[List.length_map];omega),?_⟩
   rw[List.length_map]
   refine M1 (n:=ns.length) (fun i σ H5=>∃(pk:List (List Ro))(v4:Option V),σ=[some (.ref nl),some (.ref bl),some (.int c),some (.ref L),v4,some (.ref Pa),some (.ref Oa),none,none,none,none]/\Gq ns H2 Pa Oa pa oa pk (41*i) (41*i) H5/\Pq ns bs i pk) ⟨_,_,rfl,g0,Pq.zero _⟩ ?_ ?_
   ·rintro i σ H5 hi ⟨pk,v4',rfl,g5,p5⟩
    have s5:=s2.trans g5.sm
    have hL5:=g5.sm _ _ hL
    obtain⟨bvs,hbl,hbp,hbsl,hb40⟩:=hbk.same s5
    have hn:ns[i]?=some ns[i]:=AG hi
    generalize ns[i]=n at hn
    have hrs:bs[i]?=some bs[i]:=AG (by omega)
    obtain⟨bv,hbv,b,rfl,hb,hra⟩:=Paired.get?' hbp hrs
    have hr40:=hb40 _ (AF hrs)
    generalize bs[i]=rs at hrs hb hra hr40
    have e1:(0:Int)+(i:Int)=((i:Nat):Int):=by omega
    have hls:ls[i]?=some ls[i]:=AG (by omega)
    have hly:=hlb _ (AF hls)
    have hlm:=hmax _ (AF hls)
    generalize ls[i]=y at hls hly hlm
    have ay:atI (ls.map V.int) (0+(i:Int))=some (.int y):=by rw[e1];exact G9 (by rw[AN,hls];rfl)
    have an:atI (ns.map V.str) (0+(i:Int))=some (.str n):=by rw[e1];exact G9 (by rw[AN,hn];rfl)
    have ab:atI bvs (0+(i:Int))=some (.ref b):=by rw[e1];exact G9 hbv
    have hy:y.toNat < pa.length:=by omega
    have hpy:pa[y.toNat]?=some pa[y.toNat]:=AG hy
    have apa:atI (pa.map V.ref) y=some (.ref pa[y.toNat]):=by
     have:=G9 (xs:=pa.map V.ref) (j:=y.toNat) (v:= .ref pa[y.toNat]) (by rw[AN,hpy];rfl)
     rw[show((y.toNat:Nat):Int)=y by omega]at this
     exact this
    obtain⟨ob',hob',aoa⟩:=b3f (l:=oa) (n:=oa.length) rfl hly.1 (by omega)
    generalize pa[y.toNat]=pb at hpy apa
    obtain⟨Pl,hpk⟩:∃Pl,pk[y.toNat]?=some Pl:=⟨_,AG (by rw[g5.ln];exact hy)⟩
    obtain⟨vs,hvs,hvp,hvl⟩:=g5.rw _ _ _ hpy hpk
    refine⟨_,rfl,_,rfl,_,rfl,L,_,_,_,rfl,rfl,SqL.of hL5,ay,Pa,_,_,_,rfl,rfl,SqL.of g5.hP,apa,.inl ⟨rfl,_,SqL.of hvs⟩,?_⟩
    refine⟨_,rfl,_,rfl,nl,_,_,_,rfl,rfl,SqL.of (s5 _ _ hnl),an,a0p,fun tp gtp=>?_⟩
    have u1:G8 H5 (upd H5 tp (.tup [.str "part",.str n])):=(G8.refl H5).new gtp
    have htp:upd H5 tp (.tup [.str "part",.str n]) tp=some (.tup [.str "part",.str n]):=G1
    generalize upd H5 tp (.tup [.str "part",.str n])=H6 at u1 htp⊢
    refine⟨a3Y,fun z gz=>?_⟩
    have u2:G8 H6 (upd H6 z (.lst [.ref tp])):=(G8.refl H6).new gz
    have hz:upd H6 z (.lst [.ref tp]) z=some (.lst [.ref tp]):=G1
    generalize upd H6 z (.lst [.ref tp])=H7 at u2 hz⊢
    have u12:=u1.trans u2
    refine⟨_,rfl,_,rfl,bl,_,_,_,rfl,rfl,SqL.of (u12 _ _ hbl),ab,z,b,_,_,rfl,rfl,hz,u12 _ _ hb,(by show 1+_<=sizeLine;rw[List.length_map];omega),fun p gp=>?_⟩
    have u3:G8 H7 (upd H7 p (.lst ([.ref tp]++rs.map fun r=>V.ref r.a))):=(G8.refl H7).new gp
    have hp:upd H7 p (.lst ([.ref tp]++rs.map fun r=>V.ref r.a)) p=some (.lst ([.ref tp]++rs.map fun r=>V.ref r.a)):=G1
    generalize upd H7 p (.lst ([.ref tp]++rs.map fun r=>V.ref r.a))=H8 at u3 hp⊢
    have u13:=u12.trans u3
    have hws:Paired (a6u ns H8) ([V.ref tp]++rs.map fun r=>V.ref r.a) (.part n::rs.map Ro.row):=by
     have:∀l:List Rk,(∀r∈l,a2T ns H8 r)->Paired (a6u ns H8) (l.map fun r=>V.ref r.a) (l.map Ro.row):=by
      intro l
      induction l with
      | nil=>exact fun _=> .nil
      | cons a t ih=>exact fun h=> .cons ⟨rfl,h a AQ⟩ (ih fun r hr=>h r (AO _ hr))
     exact .cons ⟨tp,rfl,u3 _ _ (u2 _ _ htp)⟩ (this rs fun r hr=>(hra r hr).mono u13.tups)
    have hwl:([V.ref tp]++rs.map fun r=>V.ref r.a).length=1+rs.length:=by rw[List.length_append,List.length_map];rfl
    refine⟨pb,p,_,_,rfl,rfl,u13 _ _ hvs,hp,(by rw[hwl];omega),?_⟩
    have g9:=(g5.up u13).putP aq (j':=41*(i+1)) hpy hpk (u13 _ _ hvs) (Paired.mapP hvp fun _ _ z=>z.mono u13.tups) hws (by omega) (by rw[hwl];omega)
    have p9:=p5.more hpk hn hrs
    generalize upd H8 pb _=H9 at g9⊢
    have s9:=s2.trans g9.sm
    have hL9:=g9.sm _ _ hL
    obtain⟨bvs9,hbl9,hbp9,_,_⟩:=hbk.same s9
    have hnl9:=s9 _ _ hnl
    obtain⟨bv9,hbv9,b9,rfl,hb9,_⟩:=Paired.get?' hbp9 hrs
    have ab9:atI bvs9 (0+(i:Int))=some (.ref b9):=by rw[e1];exact G9 hbv9
    obtain⟨ovs,hovs,hovl⟩:=g9.ro _ hob'
    refine⟨_,rfl,_,rfl,_,rfl,L,_,_,_,rfl,rfl,SqL.of hL9,ay,Oa,_,_,_,rfl,rfl,SqL.of g9.hO,aoa,.inl ⟨rfl,_,SqL.of hovs⟩,?_⟩
    refine⟨_,rfl,_,rfl,nl,_,_,_,rfl,rfl,SqL.of hnl9,an,a0p,fun tq gtq=>?_⟩
    have w1:G8 H9 (upd H9 tq (.tup [.str n,.non])):=(G8.refl H9).new gtq
    generalize upd H9 tq (.tup [.str n,.non])=H10 at w1⊢
    refine⟨a3Y,fun z2 gz2=>?_⟩
    have w2:G8 H10 (upd H10 z2 (.lst [.ref tq])):=(G8.refl H10).new gz2
    have hz2:upd H10 z2 (.lst [.ref tq]) z2=some (.lst [.ref tq]):=G1
    generalize upd H10 z2 (.lst [.ref tq])=H11 at w2 hz2⊢
    have w12:=w1.trans w2
    refine⟨_,rfl,_,rfl,bl,_,_,_,rfl,rfl,SqL.of (w12 _ _ hbl9),ab9,b9,_,rfl,.inl (SqL.of (w12 _ _ hb9)),_,rfl,(by omega),(by rw[List.length_map];omega),fun D gD=>?_⟩
    rw[List.length_map]
    refine a3g rs.length (fun j σ H12=>∃(v0:Option V)(us:List V),σ=[v0,some (.ref nl),some (.int (0+(i:Int)))]/\G8 H11 H12/\H12 D=some (.lst us)/\us.length=j) ⟨_,[],rfl,(G8.refl H11).new gD,G1,rfl⟩ ?_ ?_
    ·rintro j σ H12 hj ⟨v0,us,rfl,s12,hD12,hul⟩
     refine⟨by show j < _;omega,?_⟩
     rintro x H13 ⟨rfl,rfl⟩
     refine ntG ?_
     refine⟨_,rfl,_,rfl,nl,_,_,_,rfl,rfl,SqL.of (s12 _ _ (w12 _ _ hnl9)),an,_,rfl,a0p,fun ti gti=>?_⟩
     exact⟨us,U3 hD12 gti,J9 (by omega),_,_,rfl,(s12.new gti).put gD,G1,by rw[List.length_append,hul];rfl⟩
    ·rintro σ H12 ⟨v0,us,rfl,s12,hD12,hul⟩
     refine⟨by show _<=_;omega,?_⟩
     refine⟨z2,D,_,_,rfl,rfl,s12 _ _ hz2,hD12,(by show 1+_<=sizeLine;omega),fun p2 gp2=>?_⟩
     have w3:G8 H12 (upd H12 p2 (.lst ([.ref tq]++us))):=(G8.refl H12).new gp2
     have hp2:upd H12 p2 (.lst ([.ref tq]++us)) p2=some (.lst ([.ref tq]++us)):=G1
     generalize upd H12 p2 (.lst ([.ref tq]++us))=H13 at w3 hp2⊢
     have w13:=(w12.trans s12).trans w3
     have hl2:([V.ref tq]++us).length=1+rs.length:=by rw[List.length_append,hul];rfl
     refine⟨ob',p2,_,_,rfl,rfl,w13 _ _ hovs,hp2,(by rw[hl2];omega),?_⟩
     exact⟨_,_,rfl,(g9.up w13).putO aq (jo':=41*(i+1)) hob' (w13 _ _ hovs) (by omega) (by rw[List.length_append,hl2];omega),p9⟩
   ·rintro σ H5 ⟨pk,v4',rfl,g5,p5⟩
    have s5:=s2.trans g5.sm
    have hL5:=g5.sm _ _ hL
    refine⟨a1G,fun Ld gLd=>?_⟩
    have t1:G8 H5 (upd H5 Ld (.lst [])):=(G8.refl H5).new gLd
    have hLd1:upd H5 Ld (.lst []) Ld=some (.lst []):=G1
    generalize upd H5 Ld (.lst [])=H6 at t1 hLd1⊢
    have s6:=s5.trans t1
    refine⟨_,rfl,_,rfl,_,rfl,nl,bl,c,ns,bs,rfl,s6 _ _ hnl,hbk.same s6,hnd,hn1,hn12,fun rl R H7 t2 grl hrl hRN hR25 hR1 hRA=>?_⟩
    have hLd7:=t2 _ _ hLd1
    have t17:=t1.trans t2
    have hrLd:rl≠Ld:=fun z=>by rw[z,hLd1]at grl;cases grl
    refine⟨rl,rfl,⟨_,SqL.of hrl⟩,?_⟩
    refine a0O (K:=K) (a:=rl) (xs:=R.map V.str) (fun j σ H8=>∃(us:List V)(lds:List (Str×List Int))(v8 v9 v10:Option V),σ=[some (.ref nl),some (.ref bl),some (.int c),some (.ref L),v4',some (.ref Pa),some (.ref Oa),some (.ref Ld),v8,v9,v10]/\But Ld H7 H8/\H8 Ld=some (.lst us)/\Paired (a9H H8) us lds/\lds.length=j/\(∀q∈lds,q.1∈ns/\q.2.length<=12)/\lds.map (·.1)=R.take j) ⟨[],[],_,_,_,rfl,fun _ _ _ h=>h,hLd7,.nil,rfl,by simp,by simp⟩ (fun j σ H8 _⟨_,_,_,_,_,_,B8,_⟩=>SqL.of (B8 _ _ hrLd hrl)) ?_ ?_
    ·rintro j x σ H8 hx ⟨us,lds,v8,v9,v10,rfl,B8,hLd8,hus,hll8,hln8,hR8⟩
     rw[AN]at hx
     obtain⟨rt,hrt,rfl⟩:=AX.mp hx
     have hj:j < R.length:=(AB.mp hrt).1
     have t58:G8 H5 H8:=fun a o h=>B8 a o (fun z=>by rw[z,gLd]at h;cases h) (t17 a o h)
     have s8:=s5.trans t58
     refine⟨_,rfl,_,rfl,_,rfl,a3Y,fun wt gwt=>?_⟩
     have u1:G8 H8 (upd H8 wt (.tup [.str "do"])):=(G8.refl H8).new gwt
     refine⟨nl,bl,wt,rt,ns,["do"],bs,rfl,u1 _ _ (s8 _ _ hnl),hbk.same (s8.trans u1),hnd,hn12,hRN _ (AF hrt),G1,fun w hw=> .inl (AC.mp hw),fun l' L' H9 u2 _ hl' hnd' hN' _=>?_⟩
     have u12:=u1.trans u2
     have hL'12:=a1f L' _ hnd' hN'
     have s9:=s8.trans u12
     have hL9:=u12 _ _ (t58 _ _ hL5)
     refine⟨_,rfl,l',rfl,⟨_,SqL.of hl'⟩,fun D gD=>?_⟩
     refine a1s (K:=K) (a:=l') (xs:=L'.map V.str) (fun i σ H10=>∃(v0:Option V)(zs:List Int),σ=[v0,some (.ref L),some (.ref nl)]/\G8 H9 H10/\H10 D=some (.lst (zs.map V.int))/\zs.length=i) ⟨_,[],rfl,(G8.refl H9).new gD,G1,rfl⟩ (fun i σ H10⟨_,_,_,s10,_⟩=>SqL.of (s10 _ _ hl')) ?_ ?_
     ·rintro i x σ H10 hx ⟨v0,zs,rfl,s10,hD10,hzl⟩
      rw[AN]at hx
      obtain⟨y,hy,rfl⟩:=AX.mp hx
      have hi:i < L'.length:=(AB.mp hy).1
      obtain⟨jn,hjn⟩:=BB (hN' y (AF hy))
      have hjl:jn < ns.length:=(AB.mp hjn).1
      have hls:ls[jn]?=some ls[jn]:=AG (by omega)
      refine ntG ?_
      refine⟨_,rfl,_,rfl,.inl ⟨rfl,_,SqL.of (s10 _ _ (s9 _ _ hnl))⟩,_,rfl,nl,ns,y,jn,rfl,rfl,SqL.of (s10 _ _ (s9 _ _ hnl)),hjn,a8D hnd hjn,L,_,_,_,rfl,rfl,SqL.of (s10 _ _ hL9),G9 (by rw[AN,hls];rfl),?_⟩
      exact⟨_,hD10,J9 (by rw[List.length_map];omega),_,zs++[ls[jn]],rfl,s10.put gD,by rw[G1,List.map_append];rfl,by rw[List.length_append,hzl];rfl⟩
     ·rintro σ H10 ⟨v0,zs,rfl,s10,hD10,hzl⟩
      rw[List.length_map]at hzl
      obtain⟨ms,hpm,hso⟩:=a9E zs
      have hml:=hpm.length_eq
      refine⟨D,zs,ms,rfl,SqL.of hD10,by omega,hpm,hso,fun lm glm=>?_⟩
      have u3:G8 H10 (upd H10 lm (.lst (ms.map V.int))):=(G8.refl H10).new glm
      have hlm:upd H10 lm (.lst (ms.map V.int)) lm=some (.lst (ms.map V.int)):=G1
      generalize upd H10 lm (.lst (ms.map V.int))=H11 at u3 hlm⊢
      have u13:=(u12.trans s10).trans u3
      have hP11:=u13 _ _ (t58 _ _ g5.hP)
      refine⟨_,rfl,.inl ⟨rfl,_,SqL.of (u13 _ _ hLd8)⟩,_,rfl,_,rfl,Pa,_,rfl,.inl (SqL.of hP11),_,rfl,(by omega),(by rw[List.length_map];omega),fun D2 gD2=>?_⟩
      rw[List.length_map]
      refine a3g pa.length (fun i σ H12=>∃(v0:Option V)(xs:List Int),σ=[v0,some (.ref lm)]/\G8 H11 H12/\H12 D2=some (.lst (xs.map V.int))/\xs.length<=i) ⟨_,[],rfl,(G8.refl H11).new gD2,G1,AE _⟩ ?_ ?_
      ·rintro i σ H12 hi ⟨v0',xs,rfl,s12,hD12,hxl⟩
       refine⟨by show i < _;omega,?_⟩
       rintro x H13 ⟨rfl,rfl⟩
       refine⟨_,rfl,_,rfl,lm,_,rfl,.inl (SqL.of (s12 _ _ hlm)),rfl,a6E _,_,rfl,a4n (fun _=>?_) (fun _=>?_)⟩
       ·exact⟨_,rfl,_,hD12,J9 (by rw[List.length_map];omega),_,xs++[0+(i:Int)],rfl,s12.put gD2,by rw[G1,List.map_append];rfl,by rw[List.length_append];simp;omega⟩
       ·exact⟨_,xs,rfl,s12,hD12,by omega⟩
      ·rintro σ H12 ⟨v0',xs,rfl,s12,hD12,hxl⟩
       refine⟨by show _<=_;omega,?_⟩
       refine⟨D2,_,rfl,.inl ⟨SqL.of hD12,fun tx gtx=>⟨by show 2<=sizeLine;decide,fun tp gtp=>?_⟩⟩⟩
       have u4:G8 H12 (upd (upd H12 tx (.tup (xs.map V.int))) tp (.tup [.str rt,.ref tx])):=((G8.refl H12).new gtx).new gtp
       have htx:upd (upd H12 tx (.tup (xs.map V.int))) tp (.tup [.str rt,.ref tx]) tx=some (.tup (xs.map V.int)):=U3 G1 gtp
       have htp:upd (upd H12 tx (.tup (xs.map V.int))) tp (.tup [.str rt,.ref tx]) tp=some (.tup [.str rt,.ref tx]):=G1
       generalize upd (upd H12 tx (.tup (xs.map V.int))) tp (.tup [.str rt,.ref tx])=H13 at u4 htx htp⊢
       have u14:=(u13.trans s12).trans u4
       have hLd13:=u14 _ _ hLd8
       have hul:=AI hus
       have T14:=R7.lst (ys:=us++[.ref tp]) hLd13
       refine⟨Ld,_,_,rfl,rfl,hLd13,J9 (by omega),us++[.ref tp],lds++[(rt,xs)],_,_,_,rfl,(fun a o ha h=>by rw[G7 ha];exact u14 _ _ (B8 a o ha h)),G1,Paired.snoc (Paired.mapP hus fun _ _ z=>z.mono (u14.tups.trans T14)) ⟨tp,tx,rfl,T14 _ _ htp,T14 _ _ htx⟩,by rw[List.length_append,hll8];rfl,fun q hq=>?_,by rw[List.map_append,hR8,I0 hrt];rfl⟩
       rcases AK.mp hq with z | z
       ·exact hln8 q z
       ·rw[AC.mp z]
        exact⟨hRN _ (AF hrt),by show xs.length<=12;omega⟩
    ·rintro σ H8 ⟨us,lds,v8,v9,v10,rfl,B8,hLd8,hus,hll8,hln8,hR8⟩
     rw[List.length_map,AR]at hR8
     rw[List.length_map]at hll8
     have t58:G8 H5 H8:=fun a o h=>B8 a o (fun z=>by rw[z,gLd]at h;cases h) (t17 a o h)
     have g8:=g5.up t58
     refine⟨_,rfl,Pa,rfl,⟨_,SqL.of g8.hP⟩,fun D gD=>?_⟩
     refine a1s (K:=K) (a:=Pa) (xs:=pa.map V.ref) (fun i σ H9=>∃(v0:Option V)(ps:List V),σ=[v0]/\G8 H8 H9/\H9 D=some (.lst ps)/\Paired (a7M ns H9) ps (pk.take i)) ⟨_,[],rfl,(G8.refl H8).new gD,G1,.nil⟩ (fun i σ H9⟨_,_,_,s9,_⟩=>SqL.of (s9 _ _ g8.hP)) ?_ ?_
     ·rintro i x σ H9 hx ⟨v0,ps,rfl,s9,hD9,hps⟩
      rw[AN]at hx
      obtain⟨b,hb,rfl⟩:=AX.mp hx
      have hi:i < pa.length:=(AB.mp hb).1
      obtain⟨Pl,hpk⟩:∃Pl,pk[i]?=some Pl:=⟨_,AG (by rw[g5.ln];exact hi)⟩
      obtain⟨vs,hvs,hvp,_⟩:=g8.rw _ _ _ hb hpk
      refine ntG ?_
      refine⟨_,rfl,b,_,rfl,.inl ⟨SqL.of (s9 _ _ hvs),fun t gt=>?_⟩⟩
      have hpl:=AI hps
      rw[AU]at hpl
      have hD10:=U3 (o:= .tup vs) hD9 gt
      have T10:=R7.lst (ys:=ps++[.ref t]) hD10
      have s10:=s9.new (o:= .tup vs) gt
      have s9t:G8 H9 (upd H9 t (.tup vs)):=(G8.refl H9).new gt
      refine⟨_,hD10,J9 (by omega),_,_,rfl,s10.put gD,G1,?_⟩
      rw[I0 hpk]
      exact Paired.snoc (Paired.mapP hps fun _ _ z=>z.mono (s9t.tups.trans T10)) ⟨t,vs,rfl,T10 _ _ G1,Paired.mapP hvp fun _ _ z=>z.mono (s10.tups.trans T10)⟩
     ·rintro σ H9 ⟨v0,ps,rfl,s9,hD9,hps⟩
      rw[List.length_map,<-g5.ln,AR]at hps
      refine⟨D,_,rfl,.inl ⟨SqL.of hD9,fun pt gpt=>?_⟩⟩
      have x1:G8 H9 (upd H9 pt (.tup ps)):=(G8.refl H9).new gpt
      have hpt:upd H9 pt (.tup ps) pt=some (.tup ps):=G1
      generalize upd H9 pt (.tup ps)=H10 at x1 hpt⊢
      have x12:=s9.trans x1
      have g10:=g8.up x12
      refine⟨_,rfl,Oa,rfl,⟨_,SqL.of g10.hO⟩,fun D2 gD2=>?_⟩
      refine a1s (K:=K) (a:=Oa) (xs:=oa.map V.ref) (fun i σ H11=>∃(v0:Option V)(os:List V),σ=[v0]/\G8 H10 H11/\H11 D2=some (.lst os)/\os.length=i) ⟨_,[],rfl,(G8.refl H10).new gD2,G1,rfl⟩ (fun i σ H11⟨_,_,_,s11,_⟩=>SqL.of (s11 _ _ g10.hO)) ?_ ?_
      ·rintro i x σ H11 hx ⟨v0',os,rfl,s11,hD11,hol⟩
       rw[AN]at hx
       obtain⟨b,hb,rfl⟩:=AX.mp hx
       have hi:i < oa.length:=(AB.mp hb).1
       obtain⟨vs,hvs,_⟩:=g10.ro _ (AF hb)
       refine ntG ?_
       refine⟨_,rfl,b,_,rfl,.inl ⟨SqL.of (s11 _ _ hvs),fun t gt=>?_⟩⟩
       exact⟨_,U3 hD11 gt,J9 (by omega),_,_,rfl,(s11.new gt).put gD2,G1,by rw[List.length_append,hol];rfl⟩
      ·rintro σ H11 ⟨v0',os,rfl,s11,hD11,hol⟩
       refine⟨D2,_,rfl,.inl ⟨SqL.of hD11,fun ot got=>?_⟩⟩
       have x2:G8 H11 (upd H11 ot (.tup os)):=(G8.refl H11).new got
       generalize upd H11 ot (.tup os)=H12 at x2⊢
       have x13:=(x12.trans s11).trans x2
       refine⟨_,rfl,Ld,_,rfl,SqL.of (x13 _ _ hLd8),fun lt ob glt hob=>?_⟩
       have x3:G8 H12 (upd H12 lt (.frz ob (.tup us))):=(G8.refl H12).new glt
       have hlt:upd H12 lt (.frz ob (.tup us)) lt=some (.frz ob (.tup us)):=G1
       generalize upd H12 lt (.frz ob (.tup us))=H13 at x3 hlt⊢
       refine⟨a7Q,fun t gt=>?_⟩
       have x4:G8 H13 (upd H13 t (.tup [.ref pt,.ref ot,.ref lt])):=(G8.refl H13).new gt
       have x14:=(x13.trans x3).trans x4
       have xp:=((s11.trans x2).trans x3).trans x4
       refine q t pk lds _ ((s5.trans t58).trans x14) ⟨⟨pt,ot,lt,ps,us,ob,G1,xp _ _ hpt,Paired.mapP hps fun _ _ z=>z.mono (x1.trans xp).tups,x4 _ _ hlt,hob,Paired.mapP hus fun _ _ z=>z.mono x14.tups⟩,p5.ok (by obtain⟨_,_,_,h,_⟩:=hbk;exact h),by rw[g5.ln];omega,fun Pl hPl=>?_,?_,by omega,hln8,by omega,by rw[hR8];exact hRA⟩
       case refine_2=>exact p5.tl (by obtain⟨_,_,_,h,_⟩:=hbk;exact h) hn12 (by obtain⟨_,_,_,_,h⟩:=hbk;exact h)
       obtain⟨l,hl⟩:=BB hPl
       obtain⟨b,hb⟩:∃b,pa[l]?=some b:=⟨_,AG (by rw[<-g5.ln];exact(AB.mp hl).1)⟩
       obtain⟨vs,_,hvp,hvl⟩:=g5.rw _ _ _ hb hl
       have:=AI hvp
       omega
noncomputable def a8j (H:Hp) (v:V) (x:Str×Nat×Nat×Rk):Prop:=∃t,v= .ref t/\H t=some (.tup [.int (x.2.1:Int),.int (x.2.2.1:Int),.ref x.2.2.2.a])
theorem a8j.mono{H H':Hp}(s:R7 H H'){v:V}{x:Str×Nat×Nat×Rk}(h:a8j H v x):a8j H' v x:=by
 obtain⟨t,h1,h2⟩:=h
 exact⟨t,h1,s _ _ h2⟩
structure Bd(H0:Hp)(d:Addr)(qs:List (Str×Addr))(acc:List (Str×Nat×Nat×Rk))(H:Hp):Prop where
 sm:G8 H0 H
 d0:H0 d=none
 hd:H d=some (.dK (bkv qs))
 nd:(qs.map (·.1)).Nodup
 na:(qs.map (·.2)).Nodup
 fr:∀c∈qs.map (·.2),H0 c=none/\c≠d
 ls:∀n c,(n,c)∈qs->∃vs,H c=some (.lst vs)/\Paired (a8j H) vs (acc.filter fun x=>decide (x.1=n))
 sub:∀x∈acc,x.1∈qs.map (·.1)
theorem Bd.up{H0:Hp}{d:Addr}{qs:List (Str×Addr)}{acc:List (Str×Nat×Nat×Rk)}{H H':Hp}(b:Bd H0 d qs acc H)(s:G8 H H'):Bd H0 d qs acc H':=
 ⟨b.sm.trans s,b.d0,s _ _ b.hd,b.nd,b.na,b.fr,fun n c h=>by
  obtain⟨vs,h1,h2⟩:=b.ls n c h
  exact⟨vs,s _ _ h1,Paired.mapP h2 fun _ _ z=>z.mono s.tups⟩,b.sub⟩
theorem Bd.part{H0:Hp}{d:Addr}{qs:List (Str×Addr)}{acc:List (Str×Nat×Nat×Rk)}{H:Hp}(b:Bd H0 d qs acc H){n:Str}{c:Addr}(hn:n∉qs.map (·.1))(hc:H c=none):Bd H0 d (qs++[(n,c)]) acc (upd (upd H c (.lst [])) d (.dK (W2 (bkv qs) (Sum.inr n) (.ref c)))):=by
 have hcd:c≠d:=fun z=>by rw[z,b.hd]at hc;cases hc
 have hk:(Sum.inr n:Key)∉(bkv qs).map (·.1):=fun z=>by
  obtain⟨q,hq,e⟩:=AV.mp z
  obtain⟨q',hq',e'⟩:=AV.mp hq
  subst e'
  exact hn (AV.mpr ⟨q',hq',Sum.inr.inj e⟩)
 have hcq:c∉qs.map (·.2):=fun z=>by
  obtain⟨⟨n',c'⟩,hq,e⟩:=AV.mp z
  obtain⟨vs,h1,_⟩:=b.ls n' c' hq
  cases(show c'=c from e)
  rw[hc]at h1;cases h1
 have keep:∀a o,a≠d->H a=some o->upd (upd H c (.lst [])) d (.dK (W2 (bkv qs) (Sum.inr n) (.ref c))) a=some o:=fun a o ha h=>by
  rw[G7 ha];exact U3 h hc
 have T:R7 H (upd (upd H c (.lst [])) d (.dK (W2 (bkv qs) (Sum.inr n) (.ref c)))):=fun a xs h=>keep a _ (fun z=>by rw[z,b.hd]at h;cases h) h
 refine⟨fun a o h=>keep a o (fun z=>by rw[z,b.d0]at h;cases h) (b.sm a o h),b.d0,by rw[G1,a3C hk,a8N],?_,?_,fun c' hc'=>?_,fun n' c' h=>?_,fun x hx=>?_⟩
 ·rw[List.map_append]
  refine List.nodup_append.mpr ⟨b.nd,by simp,fun a ha e he z=>?_⟩
  rw[AC.mp he]at z
  exact hn ((show a=n from z)▸ha)
 ·rw[List.map_append]
  refine List.nodup_append.mpr ⟨b.na,by simp,fun a ha e he z=>?_⟩
  rw[AC.mp he]at z
  exact hcq ((show a=c from z)▸ha)
 ·rw[List.map_append]at hc'
  rcases AK.mp hc' with z | z
  ·exact b.fr c' z
  ·rw[AC.mp z];exact⟨b.sm.free hc,hcd⟩
 ·rcases AK.mp h with z | z
  ·obtain⟨vs,h1,h2⟩:=b.ls n' c' z
   exact⟨vs,keep _ _ (b.fr c' (AV.mpr ⟨_,z,rfl⟩)).2 h1,Paired.mapP h2 fun _ _ y=>y.mono T⟩
  ·cases AC.mp z
   refine⟨[],by rw[G7 hcd,G1],?_⟩
   rw[List.filter_eq_nil_iff.mpr fun x hx e=>hn (by have e':x.1=n:=of_decide_eq_true e;rw[<-e'];exact b.sub x hx)]
   exact .nil
 ·rw[List.map_append]
  exact BA _ (b.sub x hx)
theorem Bd.row{H0:Hp}{d:Addr}{qs:List (Str×Addr)}{acc:List (Str×Nat×Nat×Rk)}{H:Hp}(b:Bd H0 d qs acc H){n:Str}{c t:Addr}(hq:(n,c)∈qs){vs:List V}(hc:H c=some (.lst vs))(hvs:Paired (a8j H) vs (acc.filter fun x=>decide (x.1=n))){x:Str×Nat×Nat×Rk}(hx:x.1=n)(ht:a8j H (.ref t) x):Bd H0 d qs (acc++[x]) (upd H c (.lst (vs++[.ref t]))):=by
 obtain⟨f0,fd⟩:=b.fr c (AV.mpr ⟨_,hq,rfl⟩)
 have T:=R7.lst (ys:=vs++[.ref t]) hc
 refine⟨b.sm.put f0,b.d0,by rw[G7 fd.symm];exact b.hd,b.nd,b.na,b.fr,fun n' c' h=>?_,fun y hy=>?_⟩
 ·by_cases e:c'=c
  ·subst e
   have en:n'=n:=by
    obtain⟨i,hi⟩:=BB h
    obtain⟨j,hj⟩:=BB hq
    have:i=j:=(List.getElem?_inj (l:=qs.map (·.2)) (by rw[List.length_map];exact(AB.mp hi).1) b.na).mp (by rw[AN,AN,hi,hj];rfl)
    subst this
    rw[hi]at hj
    exact congrArg Prod.fst (Option.some.inj hj)
   subst en
   refine⟨_,G1,?_⟩
   rw[List.filter_append,List.filter_cons_of_pos (p:=fun y:Str×Nat×Nat×Rk=>decide (y.1=n')) (decide_eq_true hx)]
   exact Paired.snoc (Paired.mapP hvs fun _ _ z=>z.mono T) (ht.mono T)
  ·obtain⟨vs',h1,h2⟩:=b.ls n' c' h
   refine⟨vs',by rw[G7 e];exact h1,?_⟩
   have hne:¬x.1=n':=fun z=>e (by
    have e1:=a2A b.nd h
    have e2:=a2A b.nd hq
    rw[<-z,hx,e2]at e1
    exact(V.ref.inj (Option.some.inj e1)).symm)
   rw[List.filter_append,List.filter_cons_of_neg (by simpa using hne),List.filter_nil,List.append_nil]
   exact Paired.mapP h2 fun _ _ z=>z.mono T
 ·rcases AK.mp hy with z | z
  ·exact b.sub y z
  ·rw[AC.mp z,hx]
   exact AV.mpr ⟨_,hq,rfl⟩
theorem b3Y{pk:List (List Ro)}{i j:Nat}{P:List Ro}{n:Str}(hnd:(pk.flatMap R6).Nodup)(hi:pk[i]?=some P)(hj:P[j]?=some (.part n)):n∉(pk.take i).flatMap R6++R6 (P.take j):=by
 have li:i < pk.length:=(AB.mp hi).1
 have lj:j < P.length:=(AB.mp hj).1
 have e1:pk=pk.take i++P::pk.drop (i+1):=by
  have:=(AB.mp hi).2
  rw[<-this]
  rw[List.getElem_cons_drop,List.take_append_drop]
 have e2:P=P.take j++ .part n::P.drop (j+1):=by
  have:=(AB.mp hj).2
  rw[<-this]
  rw[List.getElem_cons_drop,List.take_append_drop]
 have e3:R6 P=R6 (P.take j)++n::R6 (P.drop (j+1)):=by
  have:=congrArg R6 e2
  rw[a1H]at this
  exact this
 have e:pk.flatMap R6=((pk.take i).flatMap R6++R6 (P.take j))++n::(R6 (P.drop (j+1))++(pk.drop (i+1)).flatMap R6):=by
  have:=congrArg (List.flatMap R6) e1
  rw[List.flatMap_append,List.flatMap_cons,e3]at this
  rw[this]
  simp
 rw[e,List.nodup_append]at hnd
 intro z
 exact hnd.2.2 n z n AQ rfl
theorem b4X{pk:List (List Ro)}{i j:Nat}{P:List Ro}(hi:pk[i]?=some P):((pk.take i).flatMap R6++R6 (P.take j)).length<=(pk.flatMap R6).length:=by
 have e1:pk=pk.take i++P::pk.drop (i+1):=by
  have:=(AB.mp hi).2
  rw[<-this]
  rw[List.getElem_cons_drop,List.take_append_drop]
 have h2:(R6 (P.take j)).length<=(R6 P).length:=((List.take_sublist j P).filterMap _).length_le
 have h3:=congrArg (fun l=>(List.flatMap R6 l).length) e1
 simp only[List.flatMap_append,List.flatMap_cons,List.length_append]at h3
 rw[List.length_append]
 omega
theorem a4S:∀(P:List Ro)(c:Str)(i:Nat),(tag c i P).length<=P.length
 | [],_,_=>AE _
 | .part n::t,_,i=>Nat.le_succ_of_le (a4S t n (i+1))
 | .row r::t,c,i=>Nat.succ_le_succ (a4S t c (i+1))
theorem a8q:∀(A:List (List Ro))(j:Nat),(∀P∈A,P.length<=500)->(Y8 j A).length<=500*A.length
 | [],_,_=>AE _
 | P::t,j,h=>by
  have h1:=a8q t (j+1) fun Q hQ=>h Q (AO _ hQ)
  have h2:=a4S P "" 0
  have h3:=h P AQ
  simp only[Y8,List.length_append,List.length_map,List.length_cons]
  omega
noncomputable def a9O:Sp:=fun vs H Q _=>∃(p:Addr)(us:List V)(ns:List Str)(pk:List (List Ro)),vs=[.ref p]/\H p=some (.tup us)/\Paired (a7M ns H) us pk/\(∀P∈pk,P=[]\/∃n t,P= .part n::t)/\(pk.flatMap R6).Nodup/\pk.length<=12/\(∀P∈pk,P.length<=500)/\(pk.flatMap R6).length<=12/\
 ∀(d:Addr)(qs:List (Str×Addr))(H':Hp),Bd H d qs (Y8 0 pk) H'->qs.map (·.1)=pk.flatMap R6->Q (.ref d) H'
theorem a7t(T:Txt K mg):L2.Cl P w K mg base 1 "blocks_in" ["packs"] a9O:=by
 refine Cl.of T.d_blocks_in F0 (fun vs H Q E h=>?_) (fun _ _ _ _ _ _ us hl=>by obtain⟨a,rfl⟩:=a5b hl;rfl) (fun f cdv A outer s H vs Q E hr h=>?_)
 ·obtain⟨p,us,ns,pk,rfl,_⟩:=h
  rfl
 ·obtain⟨p,us,ns,pk,rfl,hp,hus,hhd,hnd,hpl,hrl,hpt,q⟩:=h
  have hu:=a0s hr
  have hsz:sizeLine=16777216:=sizeLine_eq
  refine⟨_,(G3 (J6 (i:=1) F0.nd rfl (Or.inl rfl) a0z)
   (G3 (Y2 AL rfl (a5S (by rfl) T.n_enumerate (G0 (pv 0) G2)) (a0N rfl (U7 (J8 (i:=2) F0.nd rfl (Or.inl rfl)) (U7 (J8 (i:=3) F0.nd rfl (Or.inl rfl)) M7)))
    (G3 (J6 (i:=4) F0.nd rfl (Or.inl rfl) a3t)
    (G6 (Y2 AL rfl (a5S (by rfl) T.n_enumerate (G0 (pv 3) G2)) (a0N rfl (U7 (J8 (i:=5) F0.nd rfl (Or.inl rfl)) (U7 (J8 (i:=6) F0.nd rfl (Or.inl rfl)) M7)))
     (G6 (R8 (J3 Y5 (J0 J1 (pv 6) G5 (fun _ _=>rfl)) I9 (R4 _))
      (G3 (J6 (i:=4) F0.nd rfl (Or.inl rfl) (J0 J1 (pv 6) G5 (fun _ _=>rfl)))
      (G6 (D9 hu (pv 1) (pv 4) (Z2 G2) rfl))) (G6 (U1 (D0 PySem.F.plainAttrs_list PySem.F.slot_list_append PySem.F.type_list_append W5 (W9 hu (pv 1) (pv 4) (fun _ _=>rfl)) (G0 (R5 (G0 (pv 2) (G0 (pv 5) (G0 (pv 6) G2)))) G2))))))))))
   (G6 (R3 (pv 1))))),?_⟩
  intro d gd
  have b0:Bd H d [] [] (upd H d (.dK [])):=⟨(G8.refl H).new gd,gd,G1,by simp,by simp,by simp,by simp,by simp⟩
  refine⟨_,rfl,p,rfl,⟨_,SqT.of (b0.sm _ _ hp)⟩,?_⟩
  refine a5k (K:=K) (a:=p) (xs:=us) (fun i σ H2=>∃(qs:List (Str×Addr))(v2 v3 v4 v5 v6:Option V),σ=[some (.ref p),some (.ref d),v2,v3,v4,v5,v6]/\Bd H d qs (Y8 0 (pk.take i)) H2/\qs.map (·.1)=(pk.take i).flatMap R6) ⟨[],none,none,none,none,none,rfl,b0,rfl⟩ (fun i σ H2 _⟨_,_,_,_,_,_,_,b,_⟩=>SqT.of (b.sm _ _ hp)) ?_ ?_
  ·rintro i x pp σ H2 hx ⟨qs,v2,v3,v4,v5,v6,rfl,b2,hq2⟩ hpp
   obtain⟨P,hP,u,vs,rfl,hu0,hvs0⟩:=Paired.get? hus hx
   have s3:G8 H2 (upd H2 pp (.tup [.int (i:Int),.ref u])):=(G8.refl H2).new hpp
   have b3:=b2.up s3
   refine⟨pp,_,rfl,SqT.of G1,rfl,_,_,rfl,_,_,rfl,rfl,?_⟩
   generalize upd H2 pp (.tup [.int (i:Int),.ref u])=H3 at s3 b3⊢
   have hPm:=AF hP
   have hPl:=hrl P hPm
   refine⟨_,rfl,u,rfl,⟨_,SqT.of (b3.sm _ _ hu0)⟩,?_⟩
   refine a5k (K:=K) (a:=u) (xs:=vs) (fun j σ H4=>∃(qs:List (Str×Addr))(v4 v5 v6:Option V),σ=[some (.ref p),some (.ref d),some (.int (i:Int)),some (.ref u),v4,v5,v6]/\Bd H d qs (Y8 0 (pk.take i)++(tag "" 0 (P.take j)).map fun x=>(x.1,i,x.2.1,x.2.2)) H4/\qs.map (·.1)=(pk.take i).flatMap R6++R6 (P.take j)/\(j=0\/(v4=some (.str (cur "" (P.take j)))/\cur "" (P.take j)∈qs.map (·.1)))) ⟨qs,_,_,_,rfl,by simpa [tag]using b3,by rw[hq2];simp[R6],.inl rfl⟩ (fun j σ H4 _⟨_,_,_,_,_,b,_⟩=>SqT.of (b.sm _ _ hu0)) ?_ ?_
   ·rintro j y pp2 σ H4 hy ⟨qs4,w4,w5,w6,rfl,b4,hq4,hc4⟩ hpp2
    obtain⟨o,ho,hro0⟩:=Paired.get? hvs0 hy
    have s5:G8 H4 (upd H4 pp2 (.tup [.int (j:Int),y])):=(G8.refl H4).new hpp2
    have b5:=b4.up s5
    refine⟨pp2,_,rfl,SqT.of G1,rfl,_,_,rfl,_,_,rfl,rfl,?_⟩
    generalize upd H4 pp2 (.tup [.int (j:Int),y])=H5 at s5 b5⊢
    have hro:=hro0.mono b5.sm.tups
    have etk:=I0 ho
    have hjP:j < P.length:=(AB.mp ho).1
    have hqle:qs4.length<=12:=by
     have e1:=congrArg List.length hq4
     rw[List.length_map]at e1
     have:=b4X (j:=j) hP
     omega
    cases o with
    | part n=>
     obtain⟨a,rfl,ha⟩:=hro
     have z0:atI [V.str "part",V.str n] 0=some (.str "part"):=G9 (j:=0) rfl
     have z1:atI [V.str "part",V.str n] 1=some (.str n):=G9 (j:=1) rfl
     refine⟨_,rfl,a,_,_,_,rfl,rfl,SqT.of ha,z0,rfl,_,rfl,a0U ?_⟩
     refine⟨_,rfl,a,_,_,_,rfl,rfl,SqT.of ha,z1,?_⟩
     refine⟨a1G,fun c gc=>?_⟩
     have hnn:n∉qs4.map (·.1):=by rw[hq4];exact b3Y hnd hP ho
     have b6:=b5.part (n:=n) (c:=c) hnn gc
     have hd6:upd H5 c (.lst []) d=some (.dK (bkv qs4)):=U3 b5.hd gc
     refine⟨_,rfl,_,rfl,d,_,rfl,a2v.k (k:=Sum.inr n) hd6 (by unfold bkv;rw[List.length_map];omega),?_⟩
     have ec:cur "" (P.take (j+1))=n:=by rw[etk,a1e];rfl
     have et:tag "" 0 (P.take (j+1))=tag "" 0 (P.take j):=by rw[etk,a0d];simp[tag]
     have ep:R6 (P.take (j+1))=R6 (P.take j)++[n]:=by rw[etk,a1H];rfl
     refine⟨qs4++[(n,c)],_,_,_,rfl,by rw[et];exact b6,by rw[ep,List.map_append,hq4,List.append_assoc];rfl,.inr ⟨by rw[ec],by rw[ec,List.map_append];exact AW _ (AC.mpr rfl)⟩⟩
    | row r=>
     obtain⟨rfl,y1,tl,hrt,hkp,hto,_⟩:=hro
     have z0:atI (V.str r.k::y1::tl) 0=some (.str r.k):=G9 (j:=0) rfl
     have hj0:j≠0:=fun z=>by
      subst z
      rcases hhd P hPm with e | ⟨n,t,e⟩
      ·rw[e]at hjP;simp at hjP
      ·rw[e]at ho;simp at ho
     rcases hc4 with z | ⟨rfl,hcm⟩
     ·exact absurd z hj0
     have ec:cur "" (P.take (j+1))=cur "" (P.take j):=by rw[etk,a1e];rfl
     have et:tag "" 0 (P.take (j+1))=tag "" 0 (P.take j)++[(cur "" (P.take j),j,r)]:=by
      rw[etk,a0d]
      simp only[tag]
      rw[AU,Nat.min_eq_left (by omega),Nat.zero_add]
     have ep:R6 (P.take (j+1))=R6 (P.take j):=by rw[etk,a1H];simp[R6]
     generalize cur "" (P.take j)=cn at hcm ec et
     obtain⟨⟨n',c⟩,hqm,en⟩:=AV.mp hcm
     obtain rfl:n'=cn:=en
     obtain⟨ws,hc,hws⟩:=b5.ls _ _ hqm
     have hval:=a2A b5.nd hqm
     refine⟨_,rfl,r.a,_,_,_,rfl,rfl,SqT.of hrt,z0,rfl,_,rfl,W3 hkp ?_⟩
     have hg:=O3.k (k:=Sum.inr n') b5.hd
     rw[hval]at hg
     refine⟨_,rfl,_,rfl,d,_,rfl,hg,.inl ⟨rfl,_,SqL.of hc⟩,_,rfl,_,rfl,_,rfl,a7Q,fun t gt=>?_⟩
     have s6:G8 H5 (upd H5 t (.tup [.int (i:Int),.int (j:Int),.ref r.a])):=(G8.refl H5).new gt
     have b6:=(b5.up s6).row (x:=(n',i,j,r)) hqm (s6 _ _ hc) (Paired.mapP hws fun _ _ z=>z.mono s6.tups) rfl ⟨t,rfl,G1⟩
     refine⟨c,_,_,rfl,rfl,s6 _ _ hc,?_,?_⟩
     ·have h1:=AI hws
      have h2:=BC (fun x:Str×Nat×Nat×Rk=>decide (x.1=n')) (Y8 0 (pk.take i)++(tag "" 0 (P.take j)).map fun x=>(x.1,i,x.2.1,x.2.2))
      have h3:=a8q (pk.take i) 0 fun Q hQ=>hrl Q (List.mem_of_mem_take hQ)
      have h4:=a4S (P.take j) "" 0
      rw[List.length_append,List.length_map]at h2
      rw[AU]at h3 h4
      omega
     refine⟨qs4,_,_,_,rfl,?_,by rw[ep];exact hq4,.inr ⟨by rw[ec],by rw[ec];exact hcm⟩⟩
     rw[et,List.map_append,<-List.append_assoc]
     exact b6
   ·rintro σ H4 ⟨qs4,w4,w5,w6,rfl,b4,hq4,hc4⟩
    have hvl:vs.length=P.length:=AI hvs0
    have li:i < pk.length:=(AB.mp hP).1
    refine⟨qs4,_,_,_,_,_,rfl,?_,?_⟩
    ·rw[I0 hP,a4m,AU,Nat.min_eq_left (by omega),Nat.zero_add]
     rw[hvl,AR]at b4
     exact b4
    ·rw[I0 hP,List.flatMap_append,hq4,hvl,AR]
     simp
  ·rintro σ H2 ⟨qs,v2,v3,v4,v5,v6,rfl,b2,hq2⟩
   have hul:us.length=pk.length:=AI hus
   rw[hul,AR]at b2 hq2
   exact⟨_,rfl,q d qs H2 b2 hq2⟩
theorem b3h(qs:List (Str×Addr)):a3r (bkv qs)=(qs.map (·.1)).map V.str:=by
 unfold bkv a3r
 rw[List.map_map,List.map_map]
 rfl
structure a8l(ns:List Str)(H:Hp)(d:Addr)(qs:List (Str×Addr))(acc:List (Str×Nat×Nat×Rk)):Prop where
 hd:Rd H d (.dK (bkv qs))
 nd:(qs.map (·.1)).Nodup
 ql:qs.length<=12
 al:acc.length<=480
 ls:∀n c,(n,c)∈qs->c≠d/\∃vs,H c=some (.lst vs)/\Paired (a8j H) vs (acc.filter fun x=>decide (x.1=n))
 rk:∀x∈acc,a2T ns H x.2.2.2
theorem a8l.but{ns:List Str}{H H':Hp}{d:Addr}{qs:List (Str×Addr)}{acc:List (Str×Nat×Nat×Rk)}(b:a8l ns H d qs acc)(s:But d H H')(hd:Rd H' d (.dK (bkv qs))):a8l ns H' d qs acc:=by
 have T:R7 H H':=fun a xs h=>s a _ (fun z=>by
  rcases b.hd with e | ⟨o,e⟩
  ·rw[z,e]at h;cases h
  ·rw[z,e]at h;cases h) h
 refine⟨hd,b.nd,b.ql,b.al,fun n c h=>?_,fun x hx=>(b.rk x hx).mono T⟩
 obtain⟨h1,vs,h2,h3⟩:=b.ls n c h
 exact⟨h1,vs,s _ _ h1 h2,Paired.mapP h3 fun _ _ z=>z.mono T⟩
theorem a8l.same{ns:List Str}{H H':Hp}{d:Addr}{qs:List (Str×Addr)}{acc:List (Str×Nat×Nat×Rk)}(b:a8l ns H d qs acc)(s:G8 H H'):a8l ns H' d qs acc:=b.but (fun a o _ h=>s a o h) (Rd.same s b.hd)
noncomputable def a8T:Sp:=fun vs H Q _=>∃(d:Addr)(ns:List Str)(qs:List (Str×Addr))(acc:List (Str×Nat×Nat×Rk)),vs=[.ref d]/\a8l ns H d qs acc/\
 ∀(e:Addr)(q2:List (Str×Addr))(H':Hp),But d H H'->Rd H' d (.dK (bkv qs))->e≠d->H' e=some (.dK (bkv q2))->q2.map (·.1)=qs.map (·.1)->(∀n c,(n,c)∈q2->H' c=some (.lst ((gTo acc n).map V.str)))->Q (.ref e) H'
theorem a6l(T:Txt K mg):L2.Cl P w K mg base 1 "next_parts" ["blocks"] a8T:=by
 refine Cl.of T.d_next_parts a2d (fun vs H Q E h=>?_) (fun _ _ _ _ _ _ us hl=>by obtain⟨a,rfl⟩:=a5b hl;rfl) (fun f cdv A outer s H vs Q E hr h=>?_)
 ·obtain⟨d,ns,qs,acc,rfl,_⟩:=h
  rfl
 ·obtain⟨d,ns,qs,acc,rfl,bd,q⟩:=h
  have hu:=a0s hr
  have hsz:sizeLine=16777216:=sizeLine_eq
  refine⟨_,(G3 (J6 (i:=1) a2d.nd rfl (Or.inl rfl) a0z)
   (G3 (Y2 AL rfl (b1Y (pv 0)) (J8 (i:=2) a2d.nd rfl (Or.inl rfl))
    (G6 (D9 hu (pv 1) (pv 2) (a0I (M:=["place","number","row"]) (ρ:=[none,none,none]) (G4 a0m) ["blocks","onward","part"] ⟨rfl,by decide +kernel,by decide +kernel,by decide +kernel,rfl,by decide +kernel,by decide +kernel⟩ (E2 (W9 hu (pv 0) (pv 2) (fun _ _=>rfl))) (fun _ _ _ _ _ _=>(b4s (K:=K) (n:=3) rfl rfl (U7 (J8 (i:=0) (show(["place","number","row"]:List Str).Nodup by decide +kernel) rfl (Or.inl rfl)) (U7 (J8 (i:=1) (show(["place","number","row"]:List Str).Nodup by decide +kernel) rfl (Or.inl rfl)) (U7 (J8 (i:=2) (show(["place","number","row"]:List Str).Nodup by decide +kernel) rfl (Or.inl rfl)) M7))))) (fun _ _ _ _ _ _=>(a3G (J3 (a5j (K:=K) rfl) (J0 (a9U (K:=K) rfl) (pv 2) G5 (fun _ _=>rfl)) (R5 (G0 I9 (G0 I9 G2))) (by with_unfolding_all rfl)))) (fun _ _ _ _ _ _=>(J0 (a9U (K:=K) rfl) (pv 2) G5 (fun _ _=>rfl)))) rfl)))
   (G6 (R3 (pv 1))))),?_⟩
  intro e ge
  have s1:G8 H (upd H e (.dK [])):=(G8.refl H).new ge
  have he1:upd H e (.dK []) e=some (.dK (bkv [])):=G1
  have hed:e≠d:=fun z=>by
   rcases bd.hd with h | ⟨o,h⟩
   ·rw[z,h]at ge;cases ge
   ·rw[z,h]at ge;cases ge
  generalize upd H e (.dK [])=H1 at s1 he1⊢
  refine⟨_,rfl,d,_,rfl,Rd.same s1 bd.hd,fun o Hf bf hdf hfree=>?_⟩
  have hef:=bf _ _ hed he1
  have bdf:But d H Hf:=fun a u ha h=>bf a u ha (s1 a u h)
  rw[b3h]
  refine b1T (d:=d) (o:=o) (u:= .dK (bkv qs)) (ks:=(qs.map (·.1)).map V.str) (fun i σ H2=>∃(q2:List (Str×Addr))(v2:Option V),σ=[some (.ref d),some (.ref e),v2]/\But d H H2/\H2 d=some (.frz o (.dK (bkv qs)))/\H2 e=some (.dK (bkv q2))/\q2.map (·.1)=(qs.map (·.1)).take i/\∀n c,(n,c)∈q2->c≠e/\c≠d/\H2 c=some (.lst ((gTo acc n).map V.str))) ⟨[],none,rfl,bdf,hdf,hef,by simp,by simp⟩ (fun i σ H2 _⟨_,_,_,_,h,_⟩=>h) ?_ ?_
  ·rintro i k σ H2 hk ⟨q2,v2,rfl,B2,hd2,he2,hq2,hl2⟩
   rw[AN]at hk
   obtain⟨n,hn,rfl⟩:=AX.mp hk
   have hnm:=AF hn
   obtain⟨⟨n',c⟩,hqm,en⟩:=AV.mp hnm
   obtain rfl:n'=n:=en
   have bd2:=bd.but B2 (.inr ⟨o,hd2⟩)
   obtain⟨hcd,vs,hc,hvs⟩:=bd2.ls _ _ hqm
   have hg:=O3.kr (k:=Sum.inr n') bd2.hd
   rw[a2A bd2.nd hqm]at hg
   refine⟨_,rfl,_,rfl,d,_,rfl,hg,c,rfl,⟨_,SqL.of hc⟩,fun D gD=>?_⟩
   have hvl:=AI hvs
   have hfl:=BC (fun x:Str×Nat×Nat×Rk=>decide (x.1=n')) acc
   have hal:=bd.al
   generalize hA:acc.filter (fun x=>decide (x.1=n'))=fa at hvs hvl hfl
   have hrk:∀x∈fa,a2T ns H2 x.2.2.2:=fun x hx=>bd2.rk x (by rw[<-hA]at hx;exact(List.mem_filter.mp hx).1)
   refine a1s (K:=K) (a:=c) (xs:=vs) (fun j σ H3=>∃(v0 v1 v2':Option V),σ=[v0,v1,v2']/\G8 H2 H3/\H3 D=some (.lst (((fa.take j).filterMap fun x=>if a2B x.2.2.2=true then x.2.2.2.t else none).map V.str))) ⟨_,_,_,rfl,(G8.refl H2).new gD,G1⟩ (fun j σ H3⟨_,_,_,_,s3,_⟩=>SqL.of (s3 _ _ hc)) ?_ ?_
   ·rintro j y σ H3 hy ⟨v0,v1,v2',rfl,s3,hD3⟩
    obtain⟨x,hx,t,rfl,ht⟩:=Paired.get? hvs hy
    obtain⟨y1,tl,hrt,hkp,hto,_⟩:=(hrk x (AF hx)).mono s3.tups
    have z0:atI (V.str x.2.2.2.k::y1::tl) 0=some (.str x.2.2.2.k):=G9 (j:=0) rfl
    have z1:atI (V.str x.2.2.2.k::y1::tl) 1=some y1:=G9 (j:=1) rfl
    refine⟨t,_,rfl,SqT.of (s3 _ _ ht),rfl,_,_,rfl,_,_,rfl,_,_,rfl,rfl,?_⟩
    refine⟨_,rfl,x.2.2.2.a,_,_,_,rfl,rfl,SqT.of hrt,z0,a0p,fun w gw=>?_⟩
    have s4:=s3.new (o:= .tup [.str "do",.str "ask"]) gw
    have hD4:=U3 (o:= .tup [.str "do",.str "ask"]) hD3 gw
    have hrt4:=U3 (o:= .tup [.str "do",.str "ask"]) hrt gw
    refine⟨w,(["do","ask"]:List Str).map V.str,rfl,.inr (SqT.of G1),rfl,a1i _,_,rfl,?_⟩
    rw[a1v]
    have hh:decide (x.2.2.2.k∈(["do","ask"]:List Str))=a2B x.2.2.2:=by
     unfold a2B
     by_cases a1:x.2.2.2.k="do"<;>by_cases a2:x.2.2.2.k="ask"<;>simp[a1,a2]
    rw[hh,I0 hx]
    by_cases hb:a2B x.2.2.2=true
    ·rw[hb]
     refine O7 ?_
     have hk':x.2.2.2.k="do" \/x.2.2.2.k="ask":=by
      unfold a2B at hb
      rwa[Bool.or_eq_true,decide_eq_true_eq,decide_eq_true_eq]at hb
     obtain⟨m,hmN,hrt',rfl⟩:=hto hk'
     refine⟨_,rfl,x.2.2.2.a,_,_,_,rfl,rfl,SqT.of hrt4,z1,_,hD4,?_,_,_,_,rfl,s4.put gD,?_⟩
     ·have:=List.length_filterMap_le (fun x:Str×Nat×Nat×Rk=>if a2B x.2.2.2=true then x.2.2.2.t else none) (fa.take j)
      rw[AU]at this
      rw[List.length_map]
      omega
     ·rw[G1,List.filterMap_append,List.map_append]
      simp only[List.filterMap_cons,List.filterMap_nil,if_pos hb,hrt',List.map_cons,List.map_nil]
    ·rw[Bool.eq_false_iff.mpr hb]
     refine Y4 ?_
     refine⟨_,_,_,rfl,s4,?_⟩
     rw[List.filterMap_append]
     simp only[List.filterMap_cons,List.filterMap_nil,if_neg hb,List.append_nil]
     exact hD4
   ·rintro σ H3 ⟨v0,v1,v2',rfl,s3,hD3⟩
    rw[hvl,AR]at hD3
    have hD3':H3 D=some (.lst ((gTo acc n').map V.str)):=by unfold gTo;rw[hA];exact hD3
    have he3:=s3 _ _ he2
    have hDe:D≠e:=fun z=>by rw[z,he2]at gD;cases gD
    have hDd:D≠d:=fun z=>by rw[z,hd2]at gD;cases gD
    have hq2l:q2.length<=12:=by
     have:=congrArg List.length hq2
     rw[List.length_map,AU,List.length_map]at this
     have:=bd.ql
     omega
    have hnn:n'∉q2.map (·.1):=by
     rw[hq2]
     intro z
     obtain⟨a,ha⟩:=BB z
     have hai:a < i:=by
      have:=(AB.mp ha).1
      rw[AU]at this
      omega
     rw[List.getElem?_take_of_lt hai]at ha
     have:=(List.getElem?_inj (i:=a) (j:=i) (AB.mp ha).1 bd.nd).mp (ha.trans hn.symm)
     omega
    have hk:(Sum.inr n':Key)∉(bkv q2).map (·.1):=fun z=>by
     obtain⟨q0,hq0,e0⟩:=AV.mp z
     obtain⟨q',hq',e'⟩:=AV.mp hq0
     subst e'
     exact hnn (AV.mpr ⟨q',hq',Sum.inr.inj e0⟩)
    refine⟨_,rfl,_,rfl,e,_,rfl,a2v.k (k:=Sum.inr n') he3 (by unfold bkv;rw[List.length_map];omega),?_⟩
    refine⟨q2++[(n',D)],_,rfl,(fun a u ha h=>?_),by rw[G7 hed.symm];exact s3 _ _ hd2,by rw[G1,a3C hk,a8N],by rw[List.map_append,hq2,I0 hn];rfl,fun m c' h=>?_⟩
    ·rw[G7 (show a≠e from fun z=>by rw[z,ge]at h;cases h)]
     exact s3 _ _ (B2 a u ha h)
    ·rcases AK.mp h with z | z
     ·obtain⟨a1,a2,a3⟩:=hl2 m c' z
      exact⟨a1,a2,by rw[G7 a1];exact s3 _ _ a3⟩
     ·cases AC.mp z
      exact⟨hDe,hDd,by rw[G7 hDe];exact hD3'⟩
  ·rintro σ H2 ⟨q2,v2,rfl,B2,hd2,he2,hq2,hl2⟩
   rw[List.length_map,AR]at hq2
   exact⟨_,rfl,q e q2 H2 B2 (.inr ⟨o,hd2⟩) hed he2 hq2 fun n c h=>(hl2 n c h).2.2⟩
noncomputable def wfs (d l:Addr) (ah:Bool):List (Str×V):=[("blocks",.ref d),("loads",.ref l),("ahead",.bl ah)]
theorem b3w(d l:Addr)(ah:Bool):U0 "ahead" (.bl ah) (U0 "loads" (.ref l) (U0 "blocks" (.ref d) []))=wfs d l ah:=by kernel_rfl
theorem a6S{d l:Addr}{ah:Bool}:(wfs d l ah).lookup ("blocks":Str)=some (.ref d):=by kernel_rfl
theorem a8J{d l:Addr}{ah:Bool}:(wfs d l ah).lookup ("loads":Str)=some (.ref l):=by kernel_rfl
theorem a8M{d l:Addr}{ah:Bool}:(wfs d l ah).lookup ("ahead":Str)=some (.bl ah):=by kernel_rfl
theorem a7l{d l:Addr}{ah:Bool}:(wfs d l ah).lookup ("rows_of":Str)=none/\(wfs d l ah).lookup ("key_of":Str)=none/\(wfs d l ah).lookup ("loads_of":Str)=none/\(wfs d l ah).lookup ("ahead_of":Str)=none:=⟨by kernel_rfl,by kernel_rfl,by kernel_rfl,by kernel_rfl⟩
noncomputable def a8r (H:Hp) (l:Addr) (lds:List (Str×List Int)):Prop:=∃(ob:Obj)(ws:List V),H l=some (.frz ob (.tup ws))/\ob.dict=none/\Paired (a9H H) ws lds
theorem a8r.keep{H H':Hp}{l:Addr}{lds:List (Str×List Int)}(h:a8r H l lds)(s:∀a o,H a=some o->((∃xs,o= .tup xs)\/∃ob xs,o= .frz ob (.tup xs))->H' a=some o):a8r H' l lds:=by
 obtain⟨ob,ws,h1,h2,h3⟩:=h
 exact⟨ob,ws,s _ _ h1 (.inr ⟨_,_,rfl⟩),h2,Paired.mapP h3 fun _ _ z=>z.mono fun a xs h=>s _ _ h (.inl ⟨_,rfl⟩)⟩
theorem a8r.same{H H':Hp}{l:Addr}{lds:List (Str×List Int)}(h:a8r H l lds)(s:G8 H H'):a8r H' l lds:=h.keep fun a o e _=>s a o e
theorem b0o{H:Hp}{d a:Addr}{kvs:List (Key×V)}{o:HO}(hd:Rd H d (.dK kvs))(h:H a=some o)(ho:(∃xs,o= .tup xs)\/∃ob xs,o= .frz ob (.tup xs)):a≠d:=fun z=>by
 subst z
 rcases hd with h' | ⟨ob,h'⟩<;>rw[h']at h<;>cases h<;>rcases ho with⟨_,e⟩ | ⟨_,_,e⟩<;>cases e
structure Wk(CP:Addr)(ns:List Str)(H:Hp)(w d:Addr)(pk:List (List Ro))(lds:List (Str×List Int))(ah:Bool):Prop where
 ex:∃(dx l:Addr)(qs:List (Str×Addr)),H w=some (.ins CP dx (wfs d l ah))/\a8r H l lds/\a8l ns H d qs (Y8 0 pk)/\qs.map (·.1)=pk.flatMap R6
theorem Wk.same{CP:Addr}{ns:List Str}{H H':Hp}{w d:Addr}{pk:List (List Ro)}{lds:List (Str×List Int)}{ah:Bool}(h:Wk CP ns H w d pk lds ah)(s:G8 H H'):Wk CP ns H' w d pk lds ah:=by
 obtain⟨dx,l,qs,h1,h2,h3,h4⟩:=h.ex
 exact⟨dx,l,qs,s _ _ h1,h2.same s,h3.same s,h4⟩
noncomputable def b5F (H:Hp) (p:Str×V) (q:Str×List Int):Prop:=p.1=q.1/\∃u,p.2= .ref u/\H u=some (.tup (q.2.map V.int))
theorem a5m{K:W.Frag}{H:Hp}:∀{ws:List V}{lds:List (Str×List Int)},Paired (a9H H) ws lds->∃lp:List (Str×V),Paired (fun v(p:Str×V)=>∃t,v= .ref t/\SqT K H t [.str p.1,p.2]) ws lp/\Paired (b5F H) lp lds
 | _,_,.nil=>⟨[],.nil,.nil⟩
 | _,_,.cons h t=>by
  obtain⟨lp,h1,h2⟩:=a5m (K:=K) t
  obtain⟨t',u,e1,e2,e3⟩:=h
  exact⟨(_,.ref u)::lp,.cons ⟨t',e1,SqT.of e2⟩ h1,.cons ⟨rfl,u,rfl,e3⟩ h2⟩
noncomputable def U8 (n:Str) (a:List Int) (lds:List (Str×List Int)):List Int:=lds.foldl (fun a q=>if q.1=n then q.2 else a) a
noncomputable def LdV (H:Hp) (o:Option V) (xs:List Int):Prop:=(o=none/\xs=[])\/∃u,o=some (.ref u)/\H u=some (.tup (xs.map V.int))
theorem a7y{H:Hp}{n:Str}:∀{lp:List (Str×V)}{lds:List (Str×List Int)}{m:List (Key×V)}{a:List Int},Paired (b5F H) lp lds->LdV H (Y3 m (Sum.inr n)) a->LdV H (Y3 (a1c lp m) (Sum.inr n)) (U8 n a lds)
 | _,_,m,a,.nil,h=>h
 | _,_,m,a,.cons (a:=p) (b:=q) h t,h0=>by
  refine a7y (m:=W2 m (Sum.inr p.1) p.2) (a:=if q.1=n then q.2 else a) t ?_
  obtain⟨e1,u,e2,e3⟩:=h
  rw[a2p]
  by_cases e:q.1=n
  ·rw[if_pos e,if_pos (by rw[e1,e])]
   exact .inr ⟨u,by rw[e2],e3⟩
  ·rw[if_neg e,if_neg (fun z=>e (by rw[<-e1];exact(Sum.inr.inj z).symm))]
   exact h0
theorem LdV.same{H H':Hp}(s:R7 H H'){o:Option V}{xs:List Int}(h:LdV H o xs):LdV H' o xs:=by
 rcases h with h | ⟨u,h1,h2⟩
 ·exact .inl h
 ·exact .inr ⟨u,h1,s _ _ h2⟩
theorem LdV.get{H:Hp}{o:Option V}{xs:List Int}(h:LdV H o xs){t:Addr}(ht:H t=some (.tup [])):∃u,o.getD (.ref t)= .ref u/\H u=some (.tup (xs.map V.int)):=by
 rcases h with⟨rfl,rfl⟩ | ⟨u,rfl,h2⟩
 ·exact⟨t,rfl,ht⟩
 ·exact⟨u,rfl,h2⟩
noncomputable def a5n (CP:Addr):Sp:=fun vs H Q _=>∃(w t dx:Addr)(ah:Bool)(ns:List Str)(bs:List (List Rk))(pk:List (List Ro))(lds:List (Str×List Int)),vs=[.ref w,.ref t,.bl ah]/\H w=some (.ins CP dx [])/\a4L ns bs H t pk lds/\ns.Nodup/\ns.length<=12/\
 ∀(d:Addr)(H':Hp),But w H H'->H d=none->Wk CP ns H' w d pk lds ah->Q .non H'
theorem a7n{ns:List Str}{H:Hp}:∀{vs:List V}{Pl:List Ro},Paired (a6u ns H) vs Pl->∀(c:Str)(i:Nat),∀x∈tag c i Pl,a2T ns H x.2.2
 | _,_,.nil,_,_,x,hx=>by simp[tag]at hx
 | _,_,.cons (b:=o) h t,c,i,x,hx=>by
  cases o with
  | part n=>exact a7n t n (i+1) x hx
  | row r=>
   rcases List.mem_cons.mp hx with z | z
   ·rw[z];exact h.2
   ·exact a7n t c (i+1) x z
theorem a9B{ns:List Str}{H:Hp}:∀{us:List V}{pk:List (List Ro)},Paired (a7M ns H) us pk->∀(j:Nat),∀x∈Y8 j pk,a2T ns H x.2.2.2
 | _,_,.nil,_,x,hx=>by simp[Y8]at hx
 | _,_,.cons h t,j,x,hx=>by
  obtain⟨a,vs,_,_,h3⟩:=h
  rcases AK.mp hx with z | z
  ·obtain⟨y,hy,rfl⟩:=AV.mp z
   exact a7n h3 "" 0 y hy
  ·exact a9B t (j+1) x z
theorem a6G{dvs:List V}{ds:List Value}(hds:W0 dvs ds)(hb:∀(D:Addr)(kV doc pm:Value)(an:Option Addr)(cdv ct:Value)(us:List Value),(us++ds).length=3->∃k:Option (Array Value)->Sem (List (Str×Value)),bindArgs (W.fnOf "__init__" "PacksWalk.__init__" (J7 W1) (J2 W1) (G4 W1) (.ref D) kV doc pm an cdv ct) ⟨us,[]⟩=seqItems? (.ref D) >>= k/\k (some #[.bool false])=pure ((["self","bundle","ahead"]:List Str).zip (us++ds)))
  (T:Tc K mg CP CG):a9T P w K mg base 2 "PacksWalk" CP ["self","bundle","ahead"] dvs (a5n CP):=by
 have C_blocks_in:=a7t (P:=P) (w:=w) (base:=base) T.toTxt
 refine a9T.of T.i_PacksWalk T.g_PacksWalk a2J (fun vs H Q E h=>?_) hds hb (fun fa cdv A outer s H vs Q E hr h=>?_)
 ·obtain⟨w,t,dx,ah,ns,bs,pk,lds,rfl,_⟩:=h
  rfl
 ·obtain⟨w,t,dx,ah,ns,bs,pk,lds,rfl,hw,md,hnd,hn12,q⟩:=h
  obtain⟨p,o,l,us,ws,ob,ht,hp,hus,hl,hob,hws⟩:=md.ex
  refine⟨_,(G3 (a0Y (pv 0) (W6 C_blocks_in hr (by rfl) (G0 (J0 J1 (pv 1) G5 (fun _ _=>rfl)) G2)) rfl)
   (G3 (a0Y (pv 0) (J0 J1 (pv 1) G5 (fun _ _=>rfl)) rfl)
   (G6 (a0Y (pv 0) (pv 2) rfl)))),?_⟩
  have hpn:(pk.flatMap R6).Nodup:=md.ok.pt.nodup_iff.mpr hnd
  have hpl:(pk.flatMap R6).length<=12:=by rw[md.ok.pt.length_eq];exact hn12
  refine⟨_,rfl,t,_,_,_,rfl,rfl,SqT.of ht,G9 (j:=0) rfl,p,us,ns,pk,rfl,hp,hus,md.ok.hd,hpn,md.pl,md.rl,hpl,fun d qs H1 b1 hq1=>?_⟩
  have hw1:=b1.sm _ _ hw
  have hdw:d≠w:=fun z=>by rw[<-z,b1.d0]at hw;cases hw
  refine⟨_,rfl,w,CP,dx,_,rfl,hw1,T.c_PacksWalk,T.nP_blocks,(by show 0 < 1000;decide),?_⟩
  have htw:t≠w:=fun z=>by rw[z,hw]at ht;cases ht
  refine⟨_,rfl,t,_,_,_,rfl,rfl,SqT.of (by rw[G7 htw];exact b1.sm _ _ ht),G9 (j:=2) rfl,_,rfl,w,CP,dx,_,rfl,G1,T.c_PacksWalk,T.nP_loads,(by show 1 < 1000;decide),?_⟩
  refine⟨_,rfl,_,rfl,w,CP,dx,_,rfl,G1,T.c_PacksWalk,T.nP_ahead,(by show 2 < 1000;decide),?_⟩
  rw[b3w]
  have e3:upd (upd (upd H1 w (.ins CP dx (U0 "blocks" (.ref d) []))) w (.ins CP dx (U0 "loads" (.ref l) (U0 "blocks" (.ref d) [])))) w (.ins CP dx (wfs d l ah))=upd H1 w (.ins CP dx (wfs d l ah)):=by
   funext a
   by_cases z:a=w
   ·rw[z,G1,G1]
   ·rw[G7 z,G7 z,G7 z,G7 z]
  rw[e3]
  have B1:But w H1 (upd H1 w (.ins CP dx (wfs d l ah))):=fun a u ha e=>by rw[G7 ha];exact e
  have T1:R7 H1 (upd H1 w (.ins CP dx (wfs d l ah))):=fun a xs e=>B1 a _ (fun z=>by rw[z,hw1]at e;cases e) e
  have T0:=b1.sm.tups.trans T1
  refine q d _ (fun a u ha e=>B1 a u ha (b1.sm a u e)) b1.d0 ⟨dx,l,qs,G1,⟨ob,ws,B1 _ _ (fun z=>by rw[z,hw]at hl;cases hl) (b1.sm _ _ hl),hob,Paired.mapP hws fun _ _ z=>z.mono T0⟩,⟨.inl (B1 _ _ hdw b1.hd),b1.nd,?_,md.tl,fun n c h=>?_,fun x hx=>(a9B hus 0 x hx).mono T0⟩,hq1⟩
  ·have:=congrArg List.length hq1
   rw[List.length_map]at this
   omega
  ·obtain⟨f0,fd⟩:=b1.fr c (AV.mpr ⟨_,h,rfl⟩)
   obtain⟨vs,h1,h2⟩:=b1.ls n c h
   exact⟨fd,vs,B1 _ _ (fun z=>by rw[z,hw]at f0;cases f0) h1,Paired.mapP h2 fun _ _ z=>z.mono T1⟩
theorem a5q(T:Tc K mg CP CG):a9T P w K mg base 2 "PacksWalk" CP ["self","bundle","ahead"] [] (a5n CP):=
 a6G .nil (fun D kV doc pm an cdv ct us hl=>by
  rw[List.append_nil]at hl⊢
  match us,hl with
  | [_,_,_],_=>exact⟨_,rfl,rfl⟩) T
theorem a9L(T:Tc K mg CP CG):a9T P w K mg base 2 "PacksWalk" CP ["self","bundle","ahead"] [.bl false] (a5n CP):=
 a6G (ds:=[.bool false]) (.cons rfl .nil) (fun D kV doc pm an cdv ct us hl=>by
  have hl2:us.length=2:=by rw[List.length_append]at hl;exact Nat.succ.inj hl
  match us,hl2 with
  | [_,_],_=>exact⟨_,rfl,rfl⟩) T
noncomputable def b1K (CP:Addr):Sp:=fun vs H Q _=>∃(w d:Addr)(n:Str)(ns:List Str)(pk:List (List Ro))(lds:List (Str×List Int))(ah:Bool),vs=[.ref w,.str n]/\Wk CP ns H w d pk lds ah/\n∈pk.flatMap R6/\
 ∀(t:Addr)(vs:List V)(H':Hp),G8 H H'->H' t=some (.tup vs)->Paired (a8j H') vs ((Y8 0 pk).filter fun x=>decide (x.1=n))->Q (.ref t) H'
theorem a9A(T:Tc K mg CP CG):MCl P w K mg base 1 CP "rows_of" ["self","part"] (b1K CP):=by
 refine MCl.of T.m_rows_of a2O (fun vs H Q E h=>?_) (fun _ _ _ _ _ _ us hl=>by obtain⟨a,b,rfl⟩:=a2F hl;rfl) (fun fa cdv A outer s H vs Q E hr h=>?_)
 ·obtain⟨w,d,n,ns,pk,lds,ah,rfl,_⟩:=h
  rfl
 ·obtain⟨w,d,n,ns,pk,lds,ah,rfl,wk,hn,q⟩:=h
  have hu:=a0s hr
  obtain⟨dx,l,qs,h1,h2,bd,hq⟩:=wk.ex
  rw[<-hq]at hn
  obtain⟨⟨n',c⟩,hqm,en⟩:=AV.mp hn
  obtain rfl:n'=n:=en
  obtain⟨hcd,vs,hc,hvs⟩:=bd.ls _ _ hqm
  have hg:=O3.kr (k:=Sum.inr n') bd.hd
  rw[a2A bd.nd hqm]at hg
  refine⟨_,(G6 (R3 (Y0 W8 (by rfl) T.n_tuple boot_tuple (G0 (W9 hu (Y1 (pv 0) rfl) (pv 1) (fun _ _=>rfl)) G2)))),?_⟩
  refine⟨_,rfl,w,CP,dx,_,_,rfl,h1,T.c_PacksWalk,T.nP_blocks,a6S,_,rfl,d,_,rfl,hg,c,_,rfl,.inl ⟨SqL.of hc,fun t gt=>?_⟩⟩
  have s1:G8 H (upd H t (.tup vs)):=(G8.refl H).new gt
  exact q t vs _ s1 G1 (Paired.mapP hvs fun _ _ z=>z.mono s1.tups)
theorem a3e(T:Tc K mg CP CG):MCl P w K mg base 1 CP "key_of" ["self","part","name"] (fun vs H Q _=>∃(w:Addr)(p n:Str),vs=[.ref w,.str p,.str n]/\Q (.str n) H):=by
 refine MCl.of T.m_key_of a5c (fun vs H Q E h=>?_) (fun _ _ _ _ _ _ us hl=>by obtain⟨a,b,c,rfl⟩:=a6v hl;rfl) (fun fa cdv A outer s H vs Q E hr h=>?_)
 ·obtain⟨w,p,n,rfl,_⟩:=h
  rfl
 ·obtain⟨w,p,n,rfl,q⟩:=h
  refine⟨_,(G6 (R3 (pv 2))),?_⟩
  exact⟨_,rfl,q⟩
noncomputable def b1d (CP:Addr):Sp:=fun vs H Q _=>∃(w d:Addr)(n:Str)(ns:List Str)(pk:List (List Ro))(lds:List (Str×List Int))(ah:Bool),vs=[.ref w,.str n]/\Wk CP ns H w d pk lds ah/\lds.length<=25/\
 ∀(u:Addr)(H':Hp),G8 H H'->H' u=some (.tup ((U8 n [] lds).map V.int))->Q (.ref u) H'
theorem a4K(T:Tc K mg CP CG):MCl P w K mg base 1 CP "loads_of" ["self","part"] (b1d CP):=by
 refine MCl.of T.m_loads_of a2G (fun vs H Q E h=>?_) (fun _ _ _ _ _ _ us hl=>by obtain⟨a,b,rfl⟩:=a2F hl;rfl) (fun fa cdv A outer s H vs Q E hr h=>?_)
 ·obtain⟨w,d,n,ns,pk,lds,ah,rfl,_⟩:=h
  rfl
 ·obtain⟨w,d,n,ns,pk,lds,ah,rfl,wk,hll,q⟩:=h
  have hu:=a0s hr
  obtain⟨dx,l,qs,h1,⟨ob,ws,hl,hob,hws⟩,bd,hq⟩:=wk.ex
  obtain⟨lp,hlp,hlq⟩:=a5m (K:=K) hws
  have e1:=AI hlq
  refine⟨_,(G6 (R3 (b2s hu (Y0 (a9h rfl) (by rfl) T.n_dict boot_dict (G0 (Y1 (pv 0) rfl) G2)) (pv 1) (R5 G2) ⟨rfl,rfl,rfl,rfl⟩))),?_⟩
  refine⟨_,rfl,w,CP,dx,_,_,rfl,h1,T.c_PacksWalk,T.nP_loads,a8J,l,ob,ws,lp,rfl,hl,hob,hlp,(by omega),fun dd gdd=>?_⟩
  have s1:G8 H (upd H dd (.dK (a1c lp []))):=(G8.refl H).new gdd
  have hdd:upd H dd (.dK (a1c lp [])) dd=some (.dK (a1c lp [])):=G1
  generalize upd H dd (.dK (a1c lp []))=H1 at s1 hdd⊢
  refine⟨dd,rfl,.inl ⟨_,.inl hdd⟩,_,rfl,a1G,fun t gt=>?_⟩
  have s2:=s1.new (o:= .tup []) gt
  refine⟨_,O3.k (k:=Sum.inr n) (U3 hdd gt),?_⟩
  have hv:=(a7y (n:=n) (m:=[]) (a:=[]) hlq (.inl ⟨rfl,rfl⟩)).same s2.tups
  obtain⟨u,eu,hu'⟩:=hv.get (t:=t) G1
  rw[eu]
  exact q u _ s2 hu'
noncomputable def Y7 (p:Str->Bool) (lds:List (Str×List Int)):List Int:=lds.flatMap fun q=>if p q.1=true then q.2 else []
theorem a4G(p:Str->Bool)(A:List (Str×List Int))(q:Str×List Int):Y7 p (A++[q])=Y7 p A++(if p q.1=true then q.2 else []):=by
 unfold Y7
 rw[List.flatMap_append]
 simp
theorem a3u{p:Str->Bool}:∀{lds:List (Str×List Int)},(∀q∈lds,q.2.length<=12)->(Y7 p lds).length<=12*lds.length
 | [],_=>AE _
 | q::t,h=>by
  have h1:=a3u (p:=p) (lds:=t) fun x hx=>h x (AO _ hx)
  have h2:=h q AQ
  unfold Y7 at h1⊢
  rw[List.flatMap_cons,List.length_append,List.length_cons]
  have h3:(if p q.1=true then q.2 else []).length<=12:=by split;exact h2;simp
  omega
noncomputable def b0I (CP:Addr):Sp:=fun vs H Q _=>∃(w d:Addr)(root:Str)(ns:List Str)(bs:List (List Rk))(pk:List (List Ro))(lds:List (Str×List Int))(ah:Bool),vs=[.ref w,.str root]/\Wk CP ns H w d pk lds ah/\b0H ns bs pk/\ns.length<=12/\root∈ns/\lds.length<=25/\(∀q∈lds,q.2.length<=12)/\(Y8 0 pk).length<=480/\
 ∀(t:Addr)(xs:List Int)(H':Hp),But d H H'->(∀kvs,Rd H d (.dK kvs)->Rd H' d (.dK kvs))->Wk CP ns H' w d pk lds ah->H' t=some (.tup (xs.map V.int))->(ah=false->xs=[])->(ah=true->∃p:Str->Bool,(∀n,p n=true↔Rch (fun a b=>b∈gTo (Y8 0 pk) a) [root] n)/\xs=Y7 p lds)->Q (.ref t) H'
theorem b4Q{ns:List Str}{H:Hp}{acc:List (Str×Nat×Nat×Rk)}(h:∀x∈acc,a2T ns H x.2.2.2){n m:Str}(hm:m∈gTo acc n):m∈ns:=by
 unfold gTo at hm
 obtain⟨x,hx,e⟩:=List.mem_filterMap.mp hm
 obtain⟨y,tl,_,_,hto,_⟩:=h x (List.mem_filter.mp hx).1
 split at e
 ·rename_i hh
  unfold a2B at hh
  rw[Bool.or_eq_true,decide_eq_true_eq,decide_eq_true_eq]at hh
  obtain⟨m',hm',e',_⟩:=hto hh
  rw[e]at e'
  cases e'
  exact hm'
 ·cases e
theorem b5z{H:Hp}{d:Addr}{a b:List (Key×V)}(h:Rd H d (.dK a))(k:Rd H d (.dK b)):a=b:=by
 rcases h with h | ⟨o,h⟩<;>rcases k with k | ⟨o',k⟩<;>rw[h]at k<;>cases k<;>rfl
theorem a8H(T:Tc K mg CP CG):MCl P w K mg base 2 CP "ahead_of" ["self","root"] (b0I CP):=by
 have C_spread:=b0K (P:=P) (w:=w) (base:=base) T.toTxt
 have C_next_parts:=a6l (P:=P) (w:=w) (base:=base) T.toTxt
 refine MCl.of T.m_ahead_of Z1 (fun vs H Q E h=>?_) (fun _ _ _ _ _ _ us hl=>by obtain⟨a,b,rfl⟩:=a2F hl;rfl) (fun fa cdv A outer s H vs Q E hr h=>?_)
 ·obtain⟨w,d,root,ns,bs,pk,lds,ah,rfl,_⟩:=h
  rfl
 ·obtain⟨w,d,root,ns,bs,pk,lds,ah,rfl,wk,pko,hn12,hroot,hll,hl12,htl,q⟩:=h
  have hu:=a0s hr
  obtain⟨dx,l,qs,h1,lf,bd,hq⟩:=wk.ex
  refine⟨_,(G3 (R8 (a3x (a0D (Y1 (pv 0) rfl)))
    (G6 (R3 (R5 G2))) J5)
   (G3 (J6 (i:=2) Z1.nd rfl (Or.inl rfl) (W6 C_spread hr (by rfl) (G0 (W6 C_next_parts hr (by rfl) (G0 (Y1 (pv 0) rfl) G2)) (G0 (R5 (G0 (pv 1) G2)) G2))))
   (G3 (J6 (i:=3) Z1.nd rfl (Or.inl rfl) (Z2 G2))
   (G3 (Y2 AL rfl (a2w (Y1 (pv 0) rfl)) (a0N rfl (U7 (J8 (i:=4) Z1.nd rfl (Or.inl rfl)) (U7 (J8 (i:=5) Z1.nd rfl (Or.inl rfl)) M7)))
    (G6 (R8 (M4 (a5X hu (pv 4) (pv 2)))
     (G6 (U1 (D0 PySem.F.plainAttrs_list PySem.F.slot_list_extend PySem.F.type_list_extend a9q (pv 3) (G0 (pv 5) G2)))) J5)))
   (G6 (R3 (Y0 W8 (by rfl) T.n_tuple boot_tuple (G0 (pv 3) G2)))))))),?_⟩
  cases ah with
  | false=>
   refine⟨_,rfl,w,CP,dx,_,_,rfl,h1,T.c_PacksWalk,T.nP_ahead,a8M,_,rfl,?_⟩
   refine O7 ?_
   refine⟨a1G,fun t gt=>?_⟩
   have s1:G8 H (upd H t (.tup [])):=(G8.refl H).new gt
   exact q t [] _ (fun a o _ h=>s1 a o h) (fun kvs h=>Rd.same s1 h) (wk.same s1) G1 (fun _=>rfl) (fun z=>by cases z)
  | true=>
   refine⟨_,rfl,w,CP,dx,_,_,rfl,h1,T.c_PacksWalk,T.nP_ahead,a8M,_,rfl,?_⟩
   refine Y4 (a2f ?_)
   refine⟨_,rfl,w,CP,dx,_,_,rfl,h1,T.c_PacksWalk,T.nP_blocks,a6S,d,ns,qs,Y8 0 pk,rfl,bd,fun e q2 H1 B1 hrd hed he hq2 hl2=>?_⟩
   have hwd:w≠d:=fun z=>by
    rcases bd.hd with h | ⟨o,h⟩
    ·rw[<-z,h1]at h;cases h
    ·rw[<-z,h1]at h;cases h
   have hw1:=B1 _ _ hwd h1
   have bd1:=bd.but B1 hrd
   have lf1:a8r H1 l lds:=lf.keep fun a o h ho=>B1 a o (b0o bd.hd h ho) h
   refine⟨_,rfl,a3Y,fun rt grt=>?_⟩
   have s2:G8 H1 (upd H1 rt (.tup [.str root])):=(G8.refl H1).new grt
   have hrt:upd H1 rt (.tup [.str root]) rt=some (.tup [.str root]):=G1
   generalize upd H1 rt (.tup [.str root])=H2 at s2 hrt⊢
   have hN:∀n,n∈qs.map (·.1)↔n∈ns:=fun n=>by rw[hq];exact pko.pt.mem_iff
   have hq2n:(q2.map (·.1)).Nodup:=by rw[hq2];exact bd.nd
   have hql:=bd.ql
   refine⟨e,rt,bkv q2,[root],qs.map (·.1),gTo (Y8 0 pk),rfl,.inl (s2 _ _ he),hrt,fun n hn=>?_,fun n hn=>?_,fun n hn m hm=>?_,fun n hn=>?_,by simp,by rw[List.length_map];omega,fun f lr H3 s3 hf hlr=>?_⟩
   ·rw[<-hq2]at hn
    obtain⟨⟨n',c⟩,hqm,en⟩:=AV.mp hn
    obtain rfl:n'=n:=en
    exact⟨c,a2A hq2n hqm,.inl (s2 _ _ (hl2 _ _ hqm))⟩
   ·rw[AC.mp hn];exact(hN root).mpr hroot
   ·exact(hN m).mpr (b4Q bd.rk hm)
   ·have:=List.length_filterMap_le (fun x:Str×Nat×Nat×Rk=>if a2B x.2.2.2=true then x.2.2.2.t else none) ((Y8 0 pk).filter fun x=>decide (x.1=n))
    have h2:=BC (fun x:Str×Nat×Nat×Rk=>decide (x.1=n)) (Y8 0 pk)
    unfold gTo
    omega
   have s13:=s2.trans s3
   have hw3:=s13 _ _ hw1
   refine⟨a1G,fun F gF=>?_⟩
   have s4:G8 H3 (upd H3 F (.lst [])):=(G8.refl H3).new gF
   have hF4:upd H3 F (.lst []) F=some (.lst (([]:List Int).map V.int)):=G1
   generalize upd H3 F (.lst [])=H4 at s4 hF4⊢
   have hw4:=s4 _ _ hw3
   obtain⟨ob,ws,hl4,hob,hws⟩:=lf1.same (s13.trans s4)
   have hf4:=s4 _ _ hf
   have hfF:f≠F:=fun z=>by rw[z,gF]at hf;cases hf
   have hlF:l≠F:=fun z=>by rw[z,hF4]at hl4;cases hl4
   refine⟨_,rfl,w,CP,dx,_,_,rfl,hw4,T.c_PacksWalk,T.nP_loads,a8J,l,rfl,⟨_,.inl (.inr ⟨ob,hl4⟩)⟩,?_⟩
   have hlq:=AI hws
   refine a1C (K:=K) (a:=l) (xs:=ws) (fun i σ H5=>∃(v4 v5:Option V),σ=[some (.ref w),some (.str root),some (.ref f),some (.ref F),v4,v5]/\But F H4 H5/\H5 F=some (.lst ((Y7 (fun n=>decide (n∈lr)) (lds.take i)).map V.int))) ⟨none,none,rfl,fun _ _ _ h=>h,hF4⟩ (fun i σ H5 _⟨_,_,_,B5,_⟩=> .inl (.inr ⟨ob,B5 _ _ hlF hl4⟩)) ?_ ?_
   ·rintro i x σ H5 hx ⟨v4,v5,rfl,B5,hF5⟩
    obtain⟨⟨n,xs⟩,hld,t,u,rfl,ht,hu'⟩:=Paired.get? hws hx
    dsimp only at ht hu'
    have ht5:=B5 _ _ (fun z=>by rw[z,hF4]at ht;cases ht) ht
    have hu5:=B5 _ _ (fun z=>by rw[z,hF4]at hu';cases hu') hu'
    have hf5:=B5 _ _ hfF hf4
    have hxl:xs.length<=12:=hl12 _ (AF hld)
    have hal:=a3u (p:=fun n=>decide (n∈lr)) (lds:=lds.take i) fun q hq=>hl12 q (List.mem_of_mem_take hq)
    rw[AU]at hal
    refine⟨t,_,rfl,SqT.of ht5,rfl,_,_,rfl,_,_,rfl,rfl,?_⟩
    refine⟨_,rfl,_,rfl,f,_,rfl,O3.k (k:=Sum.inr n) hf5,_,rfl,?_⟩
    rw[a3f]
    rw[I0 hld,a4G]
    by_cases hin:n∈lr
    ·rw[decide_eq_true hin]
     refine O7 ?_
     refine⟨_,rfl,.inl ⟨rfl,_,SqL.of hF5⟩,_,rfl,F,u,_,_,rfl,rfl,hF5,SqT.of hu5,(by rw[List.length_map,List.length_map];exact Nat.le_of_lt (J9 (by omega))),?_⟩
     refine⟨_,_,rfl,fun a o ha h=>by rw[G7 ha];exact B5 a o ha h,?_⟩
     rw[G1,List.map_append]
     simp[hin]
    ·rw[AM hin]
     refine Y4 ?_
     refine⟨_,_,rfl,B5,?_⟩
     simp only[hin,decide_false,Bool.false_eq_true,if_false,List.append_nil]
     exact hF5
   ·rintro σ H5 ⟨v4,v5,rfl,B5,hF5⟩
    rw[hlq,AR]at hF5
    refine⟨_,rfl,F,_,rfl,.inl ⟨SqL.of hF5,fun t gt=>?_⟩⟩
    have s6:G8 H5 (upd H5 t (.tup ((Y7 (fun n=>decide (n∈lr)) lds).map V.int))):=(G8.refl H5).new gt
    have gF1:H1 F=none:=s13.free gF
    have B16:∀a o,H1 a=some o->upd H5 t (.tup ((Y7 (fun n=>decide (n∈lr)) lds).map V.int)) a=some o:=fun a o h=>s6 _ _ (B5 a o (fun z=>by rw[z,gF1]at h;cases h) (s4 _ _ (s13 _ _ h)))
    refine q t _ _ (fun a o ha h=>B16 _ _ (B1 a o ha h)) (fun kvs h=>by rw[b5z h bd.hd];exact Rd.same B16 hrd) ⟨dx,l,qs,B16 _ _ hw1,lf1.same B16,bd1.same B16,hq⟩ G1 (fun z=>by cases z) fun _=>⟨fun n=>decide (n∈lr),fun n=>?_,rfl⟩
    rw[decide_eq_true_eq]
    exact hlr n
noncomputable abbrev Tg:=Str×Nat×Nat×Rk
inductive Td where
 | load (p:Int)
 | ev (k:Str) (v:Int) (p n:Nat)
noncomputable abbrev Fp:=Str×Nat×Nat×Int
noncomputable def WtP (H:Hp) (v:V) (x:Tg):Prop:=∃t wh,v= .ref t/\H t=some (.tup [.str x.1,.ref wh,.ref x.2.2.2.a])/\H wh=some (.tup [.int (x.2.1:Int),.int (x.2.2.1:Int)])
noncomputable def TdP (H:Hp) (v:V):Td->Prop
 | .load p=>∃t,v= .ref t/\H t=some (.tup [.str "load",.int p])
 | .ev k i p n=>∃t,v= .ref t/\H t=some (.tup [.str k,.int i,.int (p:Int),.int (n:Int)])
noncomputable def FtP (H:Hp) (v:V):Option Fp->Prop
 | none=>v= .non
 | some f=>∃t,v= .ref t/\H t=some (.tup [.str f.1,.int (f.2.1:Int),.int (f.2.2.1:Int),.int f.2.2.2])
theorem WtP.mono{H H':Hp}(s:R7 H H'){v:V}{x:Tg}(h:WtP H v x):WtP H' v x:=by
 obtain⟨t,wh,e,h1,h2⟩:=h
 exact⟨t,wh,e,s _ _ h1,s _ _ h2⟩
theorem TdP.mono{H H':Hp}(s:R7 H H'){v:V}{x:Td}(h:TdP H v x):TdP H' v x:=by
 cases x with
 | load p=>obtain⟨t,e,h1⟩:=h;exact⟨t,e,s _ _ h1⟩
 | ev k i p n=>obtain⟨t,e,h1⟩:=h;exact⟨t,e,s _ _ h1⟩
theorem FtP.mono{H H':Hp}(s:R7 H H'){v:V}{x:Option Fp}(h:FtP H v x):FtP H' v x:=by
 cases x with
 | none=>exact h
 | some f=>obtain⟨t,e,h1⟩:=h;exact⟨t,e,s _ _ h1⟩
structure GP where
 tk:Nat
 bg:List Str
 ld:List Int
 gv:List (Key×V)
 wt:List Tg
 tr:List Td
 ft:Option Fp
noncomputable def ldD (l:List Int):List (Key×V):=l.map fun i=>(Sum.inl i,V.bl true)
structure a1A(CP:Addr)(H0:Hp)(g:Addr)(A:GA)(ns:List Str)(d:Addr)(pk:List (List Ro))(lds:List (Str×List Int))(ah:Bool)(nums:List Int):Prop where
 fg:H0 g=none
 fb:H0 A.b=none
 fl:H0 A.l=none
 fv:H0 A.gv=none
 fw:H0 A.wt=none
 ft:H0 A.tr=none
 nm:H0 A.n=some (.tup (nums.map V.int))
 wk:Wk CP ns H0 A.w d pk lds ah
structure GoP(CG:Addr)(H0 H:Hp)(g:Addr)(A:GA)(nums:List Int)(S:GP):Prop where
 ob:∃dx v,H g=some (.ins CG dx (gF A (S.tk:Int) v))/\FtP H v S.ft
 sm:G8 H0 H
 bg:H A.b=some (.dK (D7 S.bg))
 ld:H A.l=some (.dK (ldD S.ld))
 gv:H A.gv=some (.dK S.gv)
 wt:∃vs,H A.wt=some (.lst vs)/\Paired (WtP H) vs S.wt
 tr:∃vs,H A.tr=some (.lst vs)/\Paired (TdP H) vs S.tr
 n1:A.wt≠A.tr
 n2:A.b≠A.l
 n3:A.b≠A.gv
 n4:A.l≠A.gv
 gi:∀k v,Y3 S.gv k=some v->∃i:Int,v= .int i
 tkl:S.tk<=nums.length
section
variable{CG:Addr}{H0 H:Hp}{g:Addr}{A:GA}{nums:List Int}{S:GP}
theorem GoP.apart(h:GoP CG H0 H g A nums S):g≠A.b/\g≠A.l/\g≠A.gv/\g≠A.wt/\g≠A.tr/\A.b≠A.wt/\A.b≠A.tr/\A.l≠A.wt/\A.l≠A.tr/\A.gv≠A.wt/\A.gv≠A.tr:=by
 obtain⟨dx,v,h1,_⟩:=h.ob
 obtain⟨vs,h2,_⟩:=h.wt
 obtain⟨us,h3,_⟩:=h.tr
 have h4:=h.bg
 have h5:=h.ld
 have h6:=h.gv
 exact⟨a0L h1 h4 (by intro z;cases z),a0L h1 h5 (by intro z;cases z),a0L h1 h6 (by intro z;cases z),a0L h1 h2 (by intro z;cases z),a0L h1 h3 (by intro z;cases z),a0L h4 h2 (by intro z;cases z),a0L h4 h3 (by intro z;cases z),a0L h5 h2 (by intro z;cases z),a0L h5 h3 (by intro z;cases z),a0L h6 h2 (by intro z;cases z),a0L h6 h3 (by intro z;cases z)⟩
theorem GoP.same(h:GoP CG H0 H g A nums S){H':Hp}(s:G8 H H'):GoP CG H0 H' g A nums S:=by
 obtain⟨dx,v,h1,h2⟩:=h.ob
 obtain⟨vs,h3,h4⟩:=h.wt
 obtain⟨us,h5,h6⟩:=h.tr
 exact⟨⟨dx,v,s _ _ h1,h2.mono s.tups⟩,h.sm.trans s,s _ _ h.bg,s _ _ h.ld,s _ _ h.gv,⟨vs,s _ _ h3,Paired.mapP h4 fun _ _ z=>z.mono s.tups⟩,⟨us,s _ _ h5,Paired.mapP h6 fun _ _ z=>z.mono s.tups⟩,h.n1,h.n2,h.n3,h.n4,h.gi,h.tkl⟩
theorem a0c{H:Hp}{a:Addr}{o o':HO}(h:H a=some o)(ho:∀xs,o≠ .tup xs):R7 H (upd H a o'):=fun b xs e=>by
 rw[G7 (fun z=>by rw[z,h]at e;exact ho xs (Option.some.inj e))]
 exact e
theorem M9{H0 H:Hp}(s:G8 H0 H){a:Addr}{o:HO}(f:H0 a=none):G8 H0 (upd H a o):=fun b x e=>by
 rw[G7 (fun z=>by rw[z,f]at e;cases e)]
 exact s _ _ e
theorem GoP.putGiven(h:GoP CG H0 H g A nums S)(f:H0 A.gv=none)(x:Str)(i:Int):R7 H (upd H A.gv (.dK (W2 S.gv (Sum.inr x) (.int i))))/\GoP CG H0 (upd H A.gv (.dK (W2 S.gv (Sum.inr x) (.int i)))) g A nums {S with gv:=W2 S.gv (Sum.inr x) (.int i)}:=by
 have T:R7 H (upd H A.gv (.dK (W2 S.gv (Sum.inr x) (.int i)))):=a0c h.gv (fun xs z=>by cases z)
 obtain⟨a1,a2,a3,a4,a5,a7,a8,a10,a11,a12,a13⟩:=h.apart
 obtain⟨dx,v,h1,h2⟩:=h.ob
 obtain⟨vs,h3,h4⟩:=h.wt
 obtain⟨us,h5,h6⟩:=h.tr
 refine⟨T,⟨dx,v,by rw[G7 a3];exact h1,h2.mono T⟩,M9 h.sm f,by rw[G7 h.n3];exact h.bg,by rw[G7 h.n4];exact h.ld,G1,⟨vs,by rw[G7 a12.symm];exact h3,Paired.mapP h4 fun _ _ z=>z.mono T⟩,⟨us,by rw[G7 a13.symm];exact h5,Paired.mapP h6 fun _ _ z=>z.mono T⟩,h.n1,h.n2,h.n3,h.n4,fun k w e=>?_,h.tkl⟩
 have e':Y3 (W2 S.gv (Sum.inr x) (.int i)) k=some w:=e
 rw[a2p]at e'
 split at e'
 ·exact⟨i,(Option.some.inj e').symm⟩
 ·exact h.gi k w e'
theorem GoP.pushTrace(h:GoP CG H0 H g A nums S)(f:H0 A.tr=none){us:List V}{v:V}{x:Td}(hu:H A.tr=some (.lst us))(hv:TdP H v x):R7 H (upd H A.tr (.lst (us++[v])))/\GoP CG H0 (upd H A.tr (.lst (us++[v]))) g A nums {S with tr:=S.tr++[x]}:=by
 have T:R7 H (upd H A.tr (.lst (us++[v]))):=a0c hu (fun xs z=>by cases z)
 obtain⟨a1,a2,a3,a4,a5,a7,a8,a10,a11,a12,a13⟩:=h.apart
 obtain⟨dx,w,h1,h2⟩:=h.ob
 obtain⟨vs,h3,h4⟩:=h.wt
 obtain⟨us',h5,h6⟩:=h.tr
 rw[hu]at h5
 cases h5
 exact⟨T,⟨dx,w,by rw[G7 a5];exact h1,h2.mono T⟩,M9 h.sm f,by rw[G7 a8];exact h.bg,by rw[G7 a11];exact h.ld,by rw[G7 a13];exact h.gv,⟨vs,by rw[G7 h.n1];exact h3,Paired.mapP h4 fun _ _ z=>z.mono T⟩,⟨_,G1,Paired.snoc (Paired.mapP h6 fun _ _ z=>z.mono T) (hv.mono T)⟩,h.n1,h.n2,h.n3,h.n4,h.gi,h.tkl⟩
theorem GoP.setWait(h:GoP CG H0 H g A nums S)(f:H0 A.wt=none){vs:List V}{ws:List Tg}(hv:Paired (WtP H) vs ws):R7 H (upd H A.wt (.lst vs))/\GoP CG H0 (upd H A.wt (.lst vs)) g A nums {S with wt:=ws}:=by
 obtain⟨vs0,h3,h4⟩:=h.wt
 have T:R7 H (upd H A.wt (.lst vs)):=a0c h3 (fun xs z=>by cases z)
 obtain⟨a1,a2,a3,a4,a5,a7,a8,a10,a11,a12,a13⟩:=h.apart
 obtain⟨dx,w,h1,h2⟩:=h.ob
 obtain⟨us,h5,h6⟩:=h.tr
 exact⟨T,⟨dx,w,by rw[G7 a4];exact h1,h2.mono T⟩,M9 h.sm f,by rw[G7 a7];exact h.bg,by rw[G7 a10];exact h.ld,by rw[G7 a12];exact h.gv,⟨vs,G1,Paired.mapP hv fun _ _ z=>z.mono T⟩,⟨us,by rw[G7 h.n1.symm];exact h5,Paired.mapP h6 fun _ _ z=>z.mono T⟩,h.n1,h.n2,h.n3,h.n4,h.gi,h.tkl⟩
theorem GoP.setBegun(h:GoP CG H0 H g A nums S)(f:H0 A.b=none)(l:List Str):R7 H (upd H A.b (.dK (D7 l)))/\GoP CG H0 (upd H A.b (.dK (D7 l))) g A nums {S with bg:=l}:=by
 have T:R7 H (upd H A.b (.dK (D7 l))):=a0c h.bg (fun xs z=>by cases z)
 obtain⟨a1,a2,a3,a4,a5,a7,a8,a10,a11,a12,a13⟩:=h.apart
 obtain⟨dx,w,h1,h2⟩:=h.ob
 obtain⟨vs,h3,h4⟩:=h.wt
 obtain⟨us,h5,h6⟩:=h.tr
 exact⟨T,⟨dx,w,by rw[G7 a1];exact h1,h2.mono T⟩,M9 h.sm f,G1,by rw[G7 h.n2.symm];exact h.ld,by rw[G7 h.n3.symm];exact h.gv,⟨vs,by rw[G7 a7.symm];exact h3,Paired.mapP h4 fun _ _ z=>z.mono T⟩,⟨us,by rw[G7 a8.symm];exact h5,Paired.mapP h6 fun _ _ z=>z.mono T⟩,h.n1,h.n2,h.n3,h.n4,h.gi,h.tkl⟩
theorem GoP.setLoaded(h:GoP CG H0 H g A nums S)(f:H0 A.l=none)(l:List Int):R7 H (upd H A.l (.dK (ldD l)))/\GoP CG H0 (upd H A.l (.dK (ldD l))) g A nums {S with ld:=l}:=by
 have T:R7 H (upd H A.l (.dK (ldD l))):=a0c h.ld (fun xs z=>by cases z)
 obtain⟨a1,a2,a3,a4,a5,a7,a8,a10,a11,a12,a13⟩:=h.apart
 obtain⟨dx,w,h1,h2⟩:=h.ob
 obtain⟨vs,h3,h4⟩:=h.wt
 obtain⟨us,h5,h6⟩:=h.tr
 exact⟨T,⟨dx,w,by rw[G7 a2];exact h1,h2.mono T⟩,M9 h.sm f,by rw[G7 h.n2];exact h.bg,G1,by rw[G7 h.n4.symm];exact h.gv,⟨vs,by rw[G7 a10.symm];exact h3,Paired.mapP h4 fun _ _ z=>z.mono T⟩,⟨us,by rw[G7 a11.symm];exact h5,Paired.mapP h6 fun _ _ z=>z.mono T⟩,h.n1,h.n2,h.n3,h.n4,h.gi,h.tkl⟩
theorem GoP.setSelf(h:GoP CG H0 H g A nums S)(f:H0 g=none){dx:Addr}{tk:Nat}{v:V}{ft:Option Fp}(hv:FtP H v ft)(ht:tk<=nums.length):R7 H (upd H g (.ins CG dx (gF A (tk:Int) v)))/\GoP CG H0 (upd H g (.ins CG dx (gF A (tk:Int) v))) g A nums {S with tk:=tk,ft:=ft}:=by
 obtain⟨dx0,w,h1,h2⟩:=h.ob
 have T:R7 H (upd H g (.ins CG dx (gF A (tk:Int) v))):=a0c h1 (fun xs z=>by cases z)
 obtain⟨a1,a2,a3,a4,a5,a7,a8,a10,a11,a12,a13⟩:=h.apart
 obtain⟨vs,h3,h4⟩:=h.wt
 obtain⟨us,h5,h6⟩:=h.tr
 exact⟨T,⟨dx,v,G1,hv.mono T⟩,M9 h.sm f,by rw[G7 a1.symm];exact h.bg,by rw[G7 a2.symm];exact h.ld,by rw[G7 a3.symm];exact h.gv,⟨vs,by rw[G7 a4.symm];exact h3,Paired.mapP h4 fun _ _ z=>z.mono T⟩,⟨us,by rw[G7 a5.symm];exact h5,Paired.mapP h6 fun _ _ z=>z.mono T⟩,h.n1,h.n2,h.n3,h.n4,h.gi,ht⟩
end
noncomputable def lkP (gv:List (Key×V)) (x:Str):Option V:=Y3 gv (Sum.inr x)
noncomputable def tvP (gv:List (Key×V)):Th->Int
 | .num n=>n
 | .nam x=>ivl (lkP gv x)
noncomputable def M3 (gv:List (Key×V)) (ts:List (Int×Th)):Int:=ts.foldl (fun a t=>a+t.1*tvP gv t.2) 0
theorem a6O(gv:List (Key×V))(ts:List (Int×Th))(t:Int×Th):M3 gv (ts++[t])=M3 gv ts+t.1*tvP gv t.2:=by
 unfold M3
 rw[List.foldl_append]
 rfl
noncomputable def a1E (gv:List (Key×V)):Rw->Bool
 | .say _ (some x)=>(lkP gv x).isSome && decide (ivl (lkP gv x)<=0)
 | .ask _ (some x)=>(lkP gv x).isSome && decide (ivl (lkP gv x)<=0)
 | _=>false
noncomputable def O2 (gv:List (Key×V)) (rw:Rw):Option Int:=((rdR rw).find? fun d=>!(lkP gv d.2).isSome).map (·.1)
noncomputable def D6 (S:GP) (x:Int):GP:=if x∈S.ld then S else{S with ld:=S.ld++[x],tr:=S.tr++[.load x]}
noncomputable def U9 (S:GP) (xs:List Int):GP:=xs.foldl D6 S
noncomputable def B9 (pk:List (List Ro)) (n:Str):List Tg:=(Y8 0 pk).filter fun x=>decide (x.1=n)
noncomputable def a1Y (pk:List (List Ro)) (S:GP) (n:Str):GP:={S with bg:=O4 S.bg n,wt:=S.wt++(B9 pk n).reverse}
noncomputable def a0a (nums:List Int) (S:GP) (p n:Nat):Rw->GP
 | .set o ts=>{S with gv:=W2 S.gv (Sum.inr o) (.int (M3 S.gv ts))}
 | .take o=>{S with tk:=if S.tk=nums.length then S.tk else S.tk+1,gv:=W2 S.gv (Sum.inr o) (.int (nums.getD S.tk 0)),tr:=S.tr++[.ev "take" (nums.getD S.tk 0) p n]}
 | .say ts _=>{S with tr:=S.tr++[.ev "say" (M3 S.gv ts) p n]}
 | .need ts=>if M3 S.gv ts<=0 then{S with ft:=some ("need",p,n,0)}else S
 | _=>S
noncomputable def a1T (pk:List (List Ro)) (lds:List (Str×List Int)) (S:GP) (asks:Bool) (q:Str):GP:=if q∈S.bg then S else a1Y pk (if asks=true then U9 S (U8 q [] lds)else S) q
noncomputable def a3R (pk:List (List Ro)) (lds:List (Str×List Int)) (nums:List Int) (S:GP) (p n:Nat) (rw:Rw):GP:=match toR rw with
 | some q=>a1T pk lds S (decide (kdR rw="ask")) q
 | none=>a0a nums S p n rw
noncomputable def a2I (pk:List (List Ro)) (lds:List (Str×List Int)) (nums:List Int) (S:GP) (x:Tg):GP:=
 if a1E S.gv x.2.2.2.w=true then S else match O2 S.gv x.2.2.2.w with
  | some w=>{S with ft:=some ("early",x.2.1,x.2.2.1,w)}
  | none=>a3R pk lds nums S x.2.1 x.2.2.1 x.2.2.2.w
theorem b2k{d l:Addr}{ah:Bool}:(wfs d l ah).lookup ("go":Str)=none:=by kernel_rfl
noncomputable def b4d (CP CG:Addr):Sp:=fun vs H Q _=>∃(g d:Addr)(A:GA)(ns:List Str)(pk:List (List Ro))(lds:List (Str×List Int))(ah:Bool)(nums:List Int)(H0:Hp)(S:GP)(p:Str)(th:Th),vs=[.ref g,.str p,thV th]/\a1A CP H0 g A ns d pk lds ah nums/\GoP CG H0 H g A nums S/\(∀x,th= .nam x->(lkP S.gv x).isSome=true)/\Q (.int (tvP S.gv th)) H
theorem b2g{S:GP}{x:Str}(h:(lkP S.gv x).isSome=true)(gi:∀k v,Y3 S.gv k=some v->∃i:Int,v= .int i):∃i,lkP S.gv x=some (.int i):=by
 cases e:lkP S.gv x with
 | none=>rw[e]at h;cases h
 | some v=>
  obtain⟨i,rfl⟩:=gi _ _ e
  exact⟨i,rfl⟩
theorem a5g(T:Tc K mg CP CG):MCl P w K mg base 2 CG "thing_value" ["self","part","thing"] (b4d CP CG):=by
 have C_key_of:=a3e (P:=P) (w:=w) (base:=base) T
 refine MCl.of T.m_thing_value a2V (fun vs H Q E h=>?_) (fun _ _ _ _ _ _ us hl=>by obtain⟨a,b,c,rfl⟩:=a6v hl;rfl) (fun fa cdv A outer s H vs Q E hr h=>?_)
 ·obtain⟨g,d,A,ns,pk,lds,ah,nums,H0,S,p,th,rfl,_⟩:=h
  rfl
 ·obtain⟨g,d,A,ns,pk,lds,ah,nums,H0,S,p,th,rfl,hB,hG,hk,q⟩:=h
  have hu:=a0s hr
  obtain⟨dx,v,hg,_⟩:=hG.ob
  obtain⟨dw,l,qs,hw,_⟩:=(hB.wk.same hG.sm).ex
  refine⟨_,(G3 (R8 (a0D (R9 E5 (by rfl) T.n_isinstance PyProof.Rows.boot_isinstance (G0 (pv 2) (G0 (a1k (v:= .ty "str") (by rfl) T.n_str boot_str rfl) G2))))
    (G6 (R3 (W9 hu (Y1 (pv 0) rfl) (a1h C_key_of T.c_PacksWalk hr (Y1 (pv 0) rfl) (G0 (pv 1) (G0 (pv 2) G2))) (fun _ _=>rfl)))) J5)
   (G6 (R3 (pv 2)))),?_⟩
  cases th with
  | num n=>
   refine⟨_,rfl,_,_,_,_,rfl,.int n,a1p _,_,rfl,Y4 ?_⟩
   exact⟨_,rfl,q⟩
  | nam x=>
   obtain⟨i,e3⟩:=b2g (hk x rfl) hG.gi
   refine⟨_,rfl,_,_,_,_,rfl,.str x,a0Q _ _,_,rfl,O7 ?_⟩
   refine⟨_,rfl,g,CG,dx,_,_,rfl,hg,T.c_Going,T.nG_given,a1Z,?_⟩
   refine⟨_,rfl,g,CG,dx,_,_,rfl,hg,T.c_Going,T.nG_walk,a2t,A.w,dw,_,rfl,hw,a7l.2.1,_,rfl,_,rfl,A.w,p,x,rfl,?_⟩
   refine⟨A.gv,.int i,rfl,?_,?_⟩
   ·have hgt:=O3.k (k:=Sum.inr x) hG.gv
    rw[show Y3 S.gv (Sum.inr x)=some (.int i)from e3]at hgt
    exact hgt
   ·have e4:tvP S.gv (.nam x)=i:=by show ivl (lkP S.gv x)=i;rw[e3];rfl
    rw[e4]at q
    exact q
noncomputable def b4n (CP CG:Addr):Sp:=fun vs H Q _=>∃(g t d:Addr)(A:GA)(ns:List Str)(pk:List (List Ro))(lds:List (Str×List Int))(ah:Bool)(nums:List Int)(H0:Hp)(S:GP)(p:Str)(ts:List (Int×Th)),vs=[.ref g,.str p,.ref t]/\a1A CP H0 g A ns d pk lds ah nums/\GoP CG H0 H g A nums S/\D1 H t ts/\(∀d∈ts,d.1=1\/d.1= -1)/\(∀d∈ts,∀x,d.2= .nam x->(lkP S.gv x).isSome=true)/\Q (.int (M3 S.gv ts)) H
theorem a7V(T:Tc K mg CP CG):MCl P w K mg base 3 CG "value_of" ["self","part","terms"] (b4n CP CG):=by
 have C_thing_value:=a5g (P:=P) (w:=w) (base:=base) T
 refine MCl.of T.m_value_of F1 (fun vs H Q E h=>?_) (fun _ _ _ _ _ _ us hl=>by obtain⟨a,b,c,rfl⟩:=a6v hl;rfl) (fun fa cdv A outer s H vs Q E hr h=>?_)
 ·obtain⟨g,t,d,A,ns,pk,lds,ah,nums,H0,S,p,ts,rfl,_⟩:=h
  rfl
 ·obtain⟨g,t,d,A,ns,pk,lds,ah,nums,H0,S,p,ts,rfl,hB,hG,⟨⟨vs,ht,hts⟩,lo,hi⟩,hsg,hk,q⟩:=h
  have hvl:vs.length=ts.length:=AI hts
  obtain⟨dx,v,hg,_⟩:=hG.ob
  refine⟨_,(G3 (J6 (i:=3) F1.nd rfl (Or.inl rfl) G5)
   (G3 (Y2 AL rfl (a2w (pv 2)) (a0N rfl (U7 (J8 (i:=4) F1.nd rfl (Or.inl rfl)) (U7 (J8 (i:=5) F1.nd rfl (Or.inl rfl)) M7)))
    (G6 (b5b (i:=3) F1.nd rfl (Or.inl rfl) (J4 a0R (pv 4) (a1h C_thing_value T.c_Going hr (pv 0) (G0 (pv 1) (G0 (pv 5) G2)))) b4Y)))
   (G6 (R3 (pv 3))))),?_⟩
  refine⟨_,rfl,t,rfl,⟨_,SqT.of ht⟩,a1C (K:=K) (a:=t) (xs:=vs) (fun i σ H2=>∃v4 v5:Option V,σ=[some (.ref g),some (.str p),some (.ref t),some (.int (M3 S.gv (ts.take i))),v4,v5]/\H2=H)
   ⟨none,none,rfl,rfl⟩ (fun i σ H2 _⟨_,_,_,e2⟩=>by rw[e2];exact SqT.of ht) ?_ ?_⟩
  ·rintro i y σ H2 hy ⟨v4,v5,rfl,rfl⟩
   obtain⟨tm,htm,tp,ep,htp,hok⟩:=Paired.get? hts hy
   subst ep
   have hmem:=AF htm
   have h1:=hsg tm hmem
   refine⟨tp,_,rfl,SqT.of htp,rfl,_,_,rfl,_,_,rfl,rfl,?_⟩
   refine⟨_,rfl,_,rfl,_,rfl,g,dx,_,rfl,hg,a5i,_,rfl,_,rfl,g,d,A,ns,pk,lds,ah,nums,H0,S,p,tm.2,rfl,hB,hG,fun x e=>hk tm hmem x e,?_⟩
   refine⟨_,_,rfl,rfl,.inl ⟨by omega,by omega⟩,?_⟩
   refine⟨_,_,rfl,rfl,some (.int tm.1),some (thV tm.2),?_,rfl⟩
   rw[I0 htm,a6O]
   rfl
  ·rintro σ H2 ⟨v4,v5,rfl,rfl⟩
   rw[hvl,AR]
   exact⟨_,rfl,q⟩
noncomputable def b5n (CP CG:Addr):Sp:=fun vs H Q _=>∃(g d:Addr)(A:GA)(ns:List Str)(pk:List (List Ro))(lds:List (Str×List Int))(ah:Bool)(nums:List Int)(H0:Hp)(S:GP)(p x:Str)(i:Int),vs=[.ref g,.str p,.str x,.int i]/\a1A CP H0 g A ns d pk lds ah nums/\GoP CG H0 H g A nums S/\S.gv.length<=1000/\∀H',R7 H H'->GoP CG H0 H' g A nums {S with gv:=W2 S.gv (Sum.inr x) (.int i)}->Q .non H'
theorem b3r(T:Tc K mg CP CG):MCl P w K mg base 2 CG "give" ["self","part","name","value"] (b5n CP CG):=by
 have C_key_of:=a3e (P:=P) (w:=w) (base:=base) T
 refine MCl.of T.m_give a6x (fun vs H Q E h=>?_) (fun _ _ _ _ _ _ us hl=>by obtain⟨a,b,c,d,rfl⟩:=b0O hl;rfl) (fun fa cdv A outer s H vs Q E hr h=>?_)
 ·obtain⟨g,d,A,ns,pk,lds,ah,nums,H0,S,p,x,i,rfl,_⟩:=h
  rfl
 ·obtain⟨g,d,A,ns,pk,lds,ah,nums,H0,S,p,x,i,rfl,hB,hG,hl,q⟩:=h
  have hu:=a0s hr
  obtain⟨dx,v,hg,_⟩:=hG.ob
  obtain⟨dw,l,qs,hw,_⟩:=(hB.wk.same hG.sm).ex
  refine⟨_,(G6 (D9 hu (Y1 (pv 0) rfl) (a1h C_key_of T.c_PacksWalk hr (Y1 (pv 0) rfl) (G0 (pv 1) (G0 (pv 2) G2))) (pv 3) rfl)),?_⟩
  refine⟨_,rfl,_,rfl,g,CG,dx,_,_,rfl,hg,T.c_Going,T.nG_given,a1Z,?_⟩
  refine⟨_,rfl,g,CG,dx,_,_,rfl,hg,T.c_Going,T.nG_walk,a2t,A.w,dw,_,rfl,hw,a7l.2.1,_,rfl,_,rfl,A.w,p,x,rfl,?_⟩
  refine⟨A.gv,_,rfl,a2v.k (k:=Sum.inr x) hG.gv (J9 hl),?_⟩
  obtain⟨f,hG2⟩:=hG.putGiven hB.fv x i
  exact q _ f hG2
noncomputable def b5M (CP CG:Addr):Sp:=fun vs H Q _=>∃(g d:Addr)(A:GA)(ns:List Str)(pk:List (List Ro))(lds:List (Str×List Int))(ah:Bool)(nums:List Int)(H0:Hp)(S:GP),vs=[.ref g]/\a1A CP H0 g A ns d pk lds ah nums/\GoP CG H0 H g A nums S/\∀H',R7 H H'->GoP CG H0 H' g A nums {S with tk:=if S.tk=nums.length then S.tk else S.tk+1}->Q (.int (nums.getD S.tk 0)) H'
theorem a7P(T:Tc K mg CP CG):MCl P w K mg base 1 CG "next_told" ["self"] (b5M CP CG):=by
 refine MCl.of T.m_next_told a3B (fun vs H Q E h=>?_) (fun _ _ _ _ _ _ us hl=>by obtain⟨a,rfl⟩:=a5b hl;rfl) (fun fa cdv A outer s H vs Q E hr h=>?_)
 ·obtain⟨g,d,A,ns,pk,lds,ah,nums,H0,S,rfl,_⟩:=h
  rfl
 ·obtain⟨g,d,A,ns,pk,lds,ah,nums,H0,S,rfl,hB,hG,q⟩:=h
  obtain⟨dx,v,hg,hft⟩:=hG.ob
  have hn:=hG.sm _ _ hB.nm
  have htk:=hG.tkl
  refine⟨_,(G3 (R8 (J3 Y5 (Y1 (pv 0) rfl) (R9 U2 (by rfl) T.n_len PySem.boot_len (G0 (Y1 (pv 0) rfl) G2)) (R4 _))
    (G6 (R3 G5)) J5)
   (G3 (b1h (pv 0) G5 b5j)
   (G6 (R3 (J0 J1 (Y1 (pv 0) rfl) (J4 a7B (Y1 (pv 0) rfl) G5) (fun _ _=>rfl)))))),?_⟩
  refine⟨_,rfl,g,CG,dx,_,_,rfl,hg,T.c_Going,T.nG_taken,a6c,_,rfl,g,CG,dx,_,_,rfl,hg,T.c_Going,T.nG_numbers,a5M,A.n,_,rfl,.inr (SqT.of hn),rfl,_,rfl,b6k (fun c1=>?_) (fun c1=>?_)⟩
  ·have e:S.tk=nums.length:=by rw[List.length_map]at c1;omega
   have h0:nums.getD S.tk 0=0:=by rw[e];simp
   have:=q H (fun _ _ e=>e) (by rw[if_pos e];exact hG)
   rw[h0]at this
   exact this
  ·have e:¬S.tk=nums.length:=by rw[List.length_map]at c1;omega
   have hlt:S.tk < nums.length:=by omega
   refine⟨_,rfl,g,CG,dx,_,_,rfl,hg,T.c_Going,T.nG_taken,a6c,_,_,rfl,rfl,dx,_,hg,a9o,?_⟩
   rw[b1o]
   have ecast:(S.tk:Int)+1=((S.tk+1:Nat):Int):=by omega
   rw[ecast]
   obtain⟨f,hG2⟩:=hG.setSelf hB.fg (dx:=dx) (tk:=S.tk+1) hft (by omega)
   have hg3:upd H g (.ins CG dx (gF A ((S.tk+1:Nat):Int) v)) g=some (.ins CG dx (gF A ((S.tk+1:Nat):Int) v)):=G1
   refine⟨_,rfl,g,CG,dx,_,_,rfl,hg3,T.c_Going,T.nG_numbers,a5M,_,rfl,g,CG,dx,_,_,rfl,hg3,T.c_Going,T.nG_taken,a6c,_,_,rfl,rfl,A.n,_,_,_,rfl,rfl,SqT.of (f _ _ hn),a7o V.int nums 0 (by omega) (by omega),?_⟩
   have et:(((S.tk+1:Nat):Int) - 1).toNat=S.tk:=by omega
   rw[et]
   refine q _ f ?_
   rw[if_neg e]
   exact hG2
noncomputable def a9v:Sp:=fun vs H Q _=>∃(t:Addr)(ts:List (Int×Th))(k:Int),vs=[.ref t,.int k]/\D1 H t ts/\
 ∀(p:Addr)(ws:List V)(H':Hp),G8 H H'->H' p=some (.tup ws)->a1q H' ws (U4 k ts)->Q (.ref p) H'
noncomputable def a9b:Sp:=fun vs H Q _=>∃(t:Addr)(ts:List (Int×Th)),vs=[.ref t]/\D1 H t ts/\
 ∀(p:Addr)(ws:List V)(H':Hp),G8 H H'->H' p=some (.tup ws)->ws.length+1=2*ts.length->Q (.ref p) H'
noncomputable def a8A:Sp:=fun vs H Q _=>∃x:Str,vs=[.str x]/\
 ∀(p:Addr)(ws:List V)(H':Hp),G8 H H'->H' p=some (.tup ws)->ws.length=2->Q (.ref p) H'
noncomputable def a4Y (H:Hp) (r:Addr) (x:Str) (n:Int):Prop:=
 (∃t ts,H r=some (.tup [.str "say",.ref t,.str x])/\D1 H t ts/\n=2*(ts.length:Int)+1)\/(∃part:Str,H r=some (.tup [.str "ask",.str part,.str x])/\n=3)
noncomputable def b1s:Sp:=fun vs H Q _=>∃(r:Addr)(x:Str)(n:Int),vs=[.ref r]/\a4Y H r x n/\
 ∀(p:Addr)(ws:List V)(H':Hp),G8 H H'->H' p=some (.tup ws)->(ws.length:Int)=n+1->Q (.ref p) H'
noncomputable def a8R:Sp:=fun vs H Q _=>∃(r:Addr)(ds:List (Int×Str)),vs=[.ref r]/\
 ((∃(x:Str)(n:Int),a4Y H r x n/\ds=[(n,x)])\/(∃(k:Str)(v:V),H r=some (.tup [.str k,v,.non])/\ds=[]))/\
 ∀(p:Addr)(ws:List V)(H':Hp),G8 H H'->H' p=some (.tup ws)->a1q H' ws ds->Q (.ref p) H'
noncomputable def b6e (H:Hp) (r:Addr) (ds:List (Int×Str)):Prop:=
 (∃(own:Str)(t:Addr)(ts:List (Int×Th)),H r=some (.tup [.str "set",.str own,.ref t])/\D1 H t ts/\ds=U4 3 ts)\/
 (∃(t:Addr)(ts:List (Int×Th)),H r=some (.tup [.str "need",.ref t])/\D1 H t ts/\ds=U4 1 ts)\/
 (∃(t:Addr)(ts:List (Int×Th)),H r=some (.tup [.str "say",.ref t,.non])/\D1 H t ts/\ds=U4 1 ts)\/
 (∃(t:Addr)(ts:List (Int×Th))(x:Str),H r=some (.tup [.str "say",.ref t,.str x])/\D1 H t ts/\ds=(2*(ts.length:Int)+1,x)::U4 1 ts)\/
 (∃part x:Str,H r=some (.tup [.str "ask",.str part,.str x])/\ds=[(3,x)])\/
 (∃part:Str,H r=some (.tup [.str "ask",.str part,.non])/\ds=[])\/
 (∃(k:Str)(more:List V),H r=some (.tup (.str k::more))/\(¬k="set"/\¬k="need"/\¬k="say"/\¬k="ask")/\ds=[])
noncomputable def a8x:Sp:=fun vs H Q _=>∃(r:Addr)(ds:List (Int×Str)),vs=[.ref r]/\b6e H r ds/\
 ∀(p:Addr)(ws:List V)(H':Hp),G8 H H'->H' p=some (.tup ws)->a1q H' ws ds->Q (.ref p) H'
theorem a3X{H:Hp}:∀{ws us:List V}{ds es:List (Int×Str)},a1q H ws ds->a1q H us es->a1q H (ws++us) (ds++es)
 | _,_,_,_,.nil,s=>s
 | _,_,_,_,.cons r t,s=> .cons r (a3X t s)
theorem a7J(T:Txt K mg):L2.Cl P w K mg base 1 "sum_names" ["terms","first"] a9v:=by
 refine Cl.of T.d_sum_names a1I (fun vs H Q E h=>?_) (fun _ _ _ _ _ _ us hl=>by obtain⟨a,b,rfl⟩:=a2F hl;rfl) (fun f cdv A outer s H vs Q E hr h=>?_)
 ·obtain⟨t,ts,k,rfl,_⟩:=h
  rfl
 ·obtain⟨t,ts,k,rfl,⟨⟨vs,ht,hts⟩,lo,hi⟩,q⟩:=h
  have hvl:vs.length=ts.length:=AI hts
  refine⟨_,(G3 (J6 (i:=2) a1I.nd rfl (Or.inl rfl) (Z2 G2))
   (G3 (Y2 AL rfl (a5S (by rfl) T.n_enumerate (G0 (pv 0) G2)) (a0N rfl (U7 (J8 (i:=3) a1I.nd rfl (Or.inl rfl)) (U7 (J8 (i:=4) a1I.nd rfl (Or.inl rfl)) M7)))
    (G6 (R8 (a0D (R9 E5 (by rfl) T.n_isinstance PyProof.Rows.boot_isinstance (G0 (J0 J1 (pv 4) G5 (fun _ _=>rfl)) (G0 (a1k (v:= .ty "str") (by rfl) T.n_str boot_str rfl) G2))))
     (G6 (U1 (D0 PySem.F.plainAttrs_list PySem.F.slot_list_append PySem.F.type_list_append W5 (pv 2) (G0 (R5 (G0 (J4 O6 (pv 1) (J4 a0R G5 (pv 3))) (G0 (J0 J1 (pv 4) G5 (fun _ _=>rfl)) G2))) G2)))) J5)))
   (G6 (R3 (Y0 W8 (by rfl) T.n_tuple boot_tuple (G0 (pv 2) G2)))))),?_⟩
  refine⟨a1G,fun l hl=>?_⟩
  have s1:G8 H (upd H l (.lst [])):=(G8.refl H).new hl
  refine⟨_,rfl,t,rfl,⟨_,SqT.of (s1 _ _ ht)⟩,a5k (K:=K) (a:=t) (xs:=vs) (fun i σ H2=>∃(ws:List V)(v3 v4:Option V),σ=[some (.ref t),some (.int k),some (.ref l),v3,v4]/\G8 H H2/\H2 l=some (.lst ws)/\a1q H2 ws (U4 k (ts.take i))/\ws.length<=i)
   ⟨[],none,none,rfl,s1,G1,.nil,AE _⟩ (fun i σ H2 _⟨_,_,_,_,s2,_⟩=>SqT.of (s2 _ _ ht)) ?_ ?_⟩
  ·rintro i y pe σ H2 hx ⟨ws,v3,v4,rfl,s2,hl2,hn,hwl⟩ hpe
   have hi':i < vs.length:=(AB.mp hx).1
   obtain⟨tm,htm,p,ep,hp,hok⟩:=Paired.get? hts hx
   subst ep
   have s3:=s2.new (o:= .tup [.int i,.ref p]) hpe
   have hl3:=U3 (o:= .tup [.int i,.ref p]) hl2 hpe
   have hn3:a1q (upd H2 pe (.tup [.int i,.ref p])) ws (U4 k (ts.take i)):=hn.mono (R7.new hpe)
   have hp3:=s3 _ _ hp
   refine⟨pe,_,rfl,SqT.of G1,rfl,_,_,rfl,_,_,rfl,rfl,?_⟩
   obtain⟨sg,th⟩:=tm
   cases th with
   | num n=>
    refine⟨_,rfl,p,_,_,_,rfl,rfl,SqT.of hp3,rfl,_,_,_,_,rfl,.int n,a1p _,_,rfl,Y4 ?_⟩
    refine⟨ws,_,_,rfl,s3,hl3,?_,by omega⟩
    rw[I0 htm,D3]
    simpa [L2.U4]using hn3
   | nam x=>
    refine⟨_,rfl,p,_,_,_,rfl,rfl,SqT.of hp3,rfl,_,_,_,_,rfl,.str x,a0Q _ _,_,rfl,O7 ?_⟩
    refine⟨_,rfl,.inl ⟨rfl,_,SqL.of hl3⟩,_,rfl,_,rfl,_,_,rfl,rfl,.inl ⟨by decide,by decide⟩,_,_,rfl,rfl,_,rfl,p,_,_,_,rfl,rfl,SqT.of hp3,rfl,a0p,fun p2 hp2'=>?_⟩
    refine⟨l,_,_,rfl,rfl,U3 hl3 hp2',J9 (by omega),?_⟩
    refine⟨_,_,_,rfl,(s3.new hp2').put hl,G1,?_,by simp;omega⟩
    rw[I0 htm,D3]
    refine Paired.snoc ((hn3.mono (R7.new hp2')).mono (R7.lst (U3 hl3 hp2'))) ⟨p2,rfl,?_⟩
    rw[G7 (R0 hl3 hp2').symm,G1]
    have e:(ts.take i).length=i:=by simp;omega
    show some (HO.tup [V.int (k+2*(i:Int)),V.str x])=some (HO.tup [V.int (k+2*((ts.take i).length:Int)),V.str x])
    rw[e]
  ·rintro σ H2 ⟨ws,v3,v4,rfl,s2,hl2,hn,hwl⟩
   refine⟨_,rfl,l,_,rfl,.inl ⟨SqL.of hl2,fun p hp=>?_⟩⟩
   refine q p ws _ (s2.new hp) G1 ?_
   rw[hvl,AR]at hn
   exact hn.mono (R7.new hp)
theorem a7q(T:Txt K mg):L2.Cl P w K mg base 1 "sum_words" ["terms"] a9b:=by
 refine Cl.of T.d_sum_words a1D (fun vs H Q E h=>?_) (fun _ _ _ _ _ _ us hl=>by obtain⟨a,rfl⟩:=a5b hl;rfl) (fun f cdv A outer s H vs Q E hr h=>?_)
 ·obtain⟨t,ts,rfl,_⟩:=h
  rfl
 ·obtain⟨t,ts,rfl,⟨⟨vs,ht,hts⟩,lo,hi⟩,q⟩:=h
  have hvl:vs.length=ts.length:=AI hts
  refine⟨_,(G3 (J6 (i:=1) a1D.nd rfl (Or.inl rfl) (Z2 G2))
   (G3 (Y2 AL rfl (a2w (pv 0)) (a0N rfl (U7 (J8 (i:=2) a1D.nd rfl (Or.inl rfl)) (U7 (J8 (i:=3) a1D.nd rfl (Or.inl rfl)) M7)))
    (G3 (R8 (a5A (pv 1) (fun _=>rfl))
     (G6 (U1 (D0 PySem.F.plainAttrs_list PySem.F.slot_list_append PySem.F.type_list_append W5 (pv 1) (G0 (b2n (J3 Y5 (pv 2) G5 (R4 _)) I9 I9) G2)))) J5)
    (G6 (U1 (D0 PySem.F.plainAttrs_list PySem.F.slot_list_append PySem.F.type_list_append W5 (pv 1) (G0 (Y0 (a7H.or a7D) (by rfl) T.n_str boot_str (G0 (pv 3) G2)) G2))))))
   (G6 (R3 (Y0 W8 (by rfl) T.n_tuple boot_tuple (G0 (pv 1) G2)))))),?_⟩
  refine⟨a1G,fun l hl=>?_⟩
  have s1:G8 H (upd H l (.lst [])):=(G8.refl H).new hl
  refine⟨_,rfl,t,rfl,⟨_,SqT.of (s1 _ _ ht)⟩,a1C (K:=K) (a:=t) (xs:=vs) (fun i σ H2=>∃(ws:List V)(v2 v3:Option V),σ=[some (.ref t),some (.ref l),v2,v3]/\G8 H H2/\H2 l=some (.lst ws)/\((i=0/\ws=[])\/(1<=i/\ws.length+1=2*i)))
   ⟨[],none,none,rfl,s1,G1,.inl ⟨rfl,rfl⟩⟩ (fun i σ H2 _⟨_,_,_,_,s2,_⟩=>SqT.of (s2 _ _ ht)) ?_ ?_⟩
  ·rintro i y σ H2 hx ⟨ws,v2,v3,rfl,s2,hl2,hw⟩
   have hi':i < vs.length:=(AB.mp hx).1
   obtain⟨tm,htm,p,ep,hp,hok⟩:=Paired.get? hts hx
   subst ep
   have hp2:=s2 _ _ hp
   refine⟨p,_,rfl,SqT.of hp2,rfl,_,_,rfl,_,_,rfl,rfl,?_⟩
   have fin:∀(ws':List V)(H3:Hp)(σ':L2.St),(∃v2 v3:Option V,σ'=[some (.ref t),some (.ref l),v2,some (thV tm.2)])->G8 H H3->H3 l=some (.lst ws')->ws'.length+2=2*(i+1)->ws'.length<=20->
     b4C (tBM K "list" a9X (a9z 1) (b2X (tCB (fun xs H Q=>(∃i,xs=[.int i]/\i.natAbs.log2 < 1920/\Q (.str (toString i)) H)\/∃x,xs=[.str x]/\Q (.str x) H) (b2X (a9z 3) a9r)) a9r))
      {nx:=fun σ H2=>∃(ws:List V)(v2 v3:Option V),σ=[some (.ref t),some (.ref l),v2,v3]/\G8 H H2/\H2 l=some (.lst ws)/\((i+1=0/\ws=[])\/(1<=i+1/\ws.length+1=2*(i+1))),rt:=fun _ _=>False} σ' H3:=by
    rintro ws' H3 σ' ⟨v2,v3,rfl⟩ s3 hl3 e1 e2
    refine⟨_,rfl,.inl ⟨rfl,_,SqL.of hl3⟩,_,rfl,?_⟩
    obtain⟨sg,th⟩:=tm
    cases th with
    | num n=>
     refine .inl ⟨n,rfl,?_,?_⟩
     ·have h1:(0:Int)<=n:=hok.1
      have h2:n < 10 ^ 60:=hok.2
      have h3:n.natAbs < 2 ^ 1920:=by
       have:n.natAbs < 10 ^ 60:=by omega
       exact AY this (by decide)
      by_cases hz:n.natAbs=0
      ·rw[hz];decide
      ·exact(Nat.log2_lt hz).mpr h3
     ·exact⟨l,_,_,rfl,rfl,hl3,J9 (by omega),_,_,_,rfl,s3.put hl,G1,.inr ⟨by omega,by simp;omega⟩⟩
    | nam x=>exact .inr ⟨x,rfl,l,_,_,rfl,rfl,hl3,J9 (by omega),_,_,_,rfl,s3.put hl,G1,.inr ⟨by omega,by simp;omega⟩⟩
   rcases hw with⟨rfl,rfl⟩ | ⟨hi1,hw⟩
   ·refine⟨_,rfl,_,.inl ⟨_,SqL.of hl2,rfl⟩,Y4 ?_⟩
    exact fin [] H2 _ ⟨_,none,rfl⟩ s2 hl2 rfl (by decide)
   ·have hne:ws≠[]:=by rintro rfl;simp at hw;omega
    refine⟨_,rfl,_,.inl ⟨_,SqL.of hl2,rfl⟩,?_⟩
    rw[show(!ws.isEmpty)=true by cases ws with | nil=>exact absurd rfl hne | cons _ _=>rfl]
    refine O7 ?_
    refine⟨_,rfl,.inl ⟨rfl,_,SqL.of hl2⟩,_,rfl,rfl,_,rfl,a4n (fun _=>?_) (fun _=>?_)⟩
    all_goals
     refine⟨l,_,_,rfl,rfl,hl2,J9 (by omega),?_⟩
     refine fin _ _ _ ⟨_,none,rfl⟩ (s2.put hl) G1 ?_ ?_
     ·rw[List.length_append];simp only[List.length_cons,List.length_nil];omega
     ·rw[List.length_append];simp only[List.length_cons,List.length_nil];omega
  ·rintro σ H2 ⟨ws,v2,v3,rfl,s2,hl2,hw⟩
   refine⟨_,rfl,l,_,rfl,.inl ⟨SqL.of hl2,fun p hp=>?_⟩⟩
   refine q p ws _ (s2.new hp) G1 ?_
   rcases hw with⟨e,_⟩ | ⟨_,e⟩
   ·omega
   ·omega
theorem a6k(T:Txt K mg):L2.Cl P w K mg base 1 "when_words" ["when"] a8A:=by
 refine Cl.of T.d_when_words a6h (fun vs H Q E h=>?_) (fun _ _ _ _ _ _ us hl=>by obtain⟨a,rfl⟩:=a5b hl;rfl) (fun f cdv A outer s H vs Q E hr h=>?_)
 ·obtain⟨x,rfl,_⟩:=h
  rfl
 ·obtain⟨x,rfl,q⟩:=h
  refine⟨_,(G3 (R8 (M4 (a3s (pv 0)))
    (G6 (R3 (R5 G2))) J5)
   (G6 (R3 (R5 (G0 I9 (G0 (pv 0) G2)))))),?_⟩
  refine⟨_,rfl,_,rfl,Y4 ?_⟩
  exact⟨_,rfl,a0p,fun p hp=>q p _ _ ((G8.refl H).new hp) G1 rfl⟩
theorem a6o(T:Txt K mg):L2.Cl P w K mg base 1 "pair_words" ["pairs"] (fun _ _ _ _=>False):=
 Cl.of T.d_pair_words a6y (fun _ _ _ _ h=>h.elim) (fun _ _ _ _ _ _ us hl=>by obtain⟨a,rfl⟩:=a5b hl;rfl) (fun _ _ _ _ _ _ _ _ _ _ h=>h.elim)
theorem a8w(T:Txt K mg):L2.Cl P w K mg base 2 "words_of" ["row"] b1s:=by
 have C_pair_words:=a6o (P:=P) (w:=w) (base:=base) T
 have C_sum_words:=a7q (P:=P) (w:=w) (base:=base) T
 have C_when_words:=a6k (P:=P) (w:=w) (base:=base) T
 refine Cl.of T.d_words_of a4H (fun vs H Q E h=>?_) (fun _ _ _ _ _ _ us hl=>by obtain⟨a,rfl⟩:=a5b hl;rfl) (fun f cdv A outer s H vs Q E hr h=>?_)
 ·obtain⟨r,x,n,rfl,_⟩:=h
  rfl
 ·obtain⟨r,x,n,rfl,hrow,q⟩:=h
  refine⟨_,(G3 (J6 (i:=1) a4H.nd rfl (Or.inl rfl) (J0 J1 (pv 0) G5 (fun _ _=>rfl)))
   (G3 (R8 (J3 Y5 (pv 1) I9 (R4 _))
    (G6 (R3 (J4 a0r (R5 (G0 I9 (G0 (J0 J1 (pv 0) G5 (fun _ _=>rfl)) G2))) (W6 C_pair_words hr (by rfl) (G0 (J0 J1 (pv 0) G5 (fun _ _=>rfl)) G2))))) J5)
   (G3 (R8 (J3 Y5 (pv 1) I9 (R4 _))
    (G6 (R3 (R5 (G0 I9 (G0 (J0 J1 (pv 0) G5 (fun _ _=>rfl)) (G0 I9 (G0 (J0 J1 (pv 0) G5 (fun _ _=>rfl)) G2))))))) J5)
   (G3 (R8 (J3 Y5 (pv 1) I9 (R4 _))
    (G6 (R3 (J4 a0r (R5 (G0 I9 (G0 (J0 J1 (pv 0) G5 (fun _ _=>rfl)) (G0 I9 G2)))) (W6 C_sum_words hr (by rfl) (G0 (J0 J1 (pv 0) G5 (fun _ _=>rfl)) G2))))) J5)
   (G3 (R8 (J3 Y5 (pv 1) I9 (R4 _))
    (G6 (R3 (J4 a0r (J4 a0r (R5 (G0 I9 G2)) (W6 C_sum_words hr (by rfl) (G0 (J0 J1 (pv 0) G5 (fun _ _=>rfl)) G2))) (W6 C_when_words hr (by rfl) (G0 (J0 J1 (pv 0) G5 (fun _ _=>rfl)) G2))))) J5)
   (G3 (R8 (J3 Y5 (pv 1) I9 (R4 _))
    (G6 (R3 (J4 a0r (R5 (G0 I9 G2)) (W6 C_sum_words hr (by rfl) (G0 (J0 J1 (pv 0) G5 (fun _ _=>rfl)) G2))))) J5)
   (G3 (R8 (J3 Y5 (pv 1) I9 (R4 _))
    (G6 (R3 (J4 a0r (R5 (G0 I9 (G0 (J0 J1 (pv 0) G5 (fun _ _=>rfl)) G2))) (W6 C_when_words hr (by rfl) (G0 (J0 J1 (pv 0) G5 (fun _ _=>rfl)) G2))))) J5)
   (G6 (R3 (R5 (G0 (pv 1) (G0 (J0 J1 (pv 0) G5 (fun _ _=>rfl)) G2)))))))))))),?_⟩
  rcases hrow with⟨t,ts,hr0,hts,en⟩ | ⟨part,hr0,en⟩
  ·refine⟨_,rfl,r,_,_,_,rfl,rfl,SqT.of hr0,rfl,?_⟩
   refine⟨_,rfl,rfl,_,rfl,W3 (by decide +kernel) ?_⟩
   refine⟨_,rfl,rfl,_,rfl,W3 (by decide +kernel) ?_⟩
   refine⟨_,rfl,rfl,_,rfl,W3 (by decide +kernel) ?_⟩
   refine⟨_,rfl,rfl,_,rfl,a0U ?_⟩
   refine⟨a3Y,fun p1 hp1=>?_⟩
   have s1:G8 H (upd H p1 (.tup [.str "say"])):=(G8.refl H).new hp1
   refine⟨_,rfl,r,_,_,_,rfl,rfl,SqT.of (s1 _ _ hr0),rfl,t,ts,rfl,hts.mono s1.tups,fun p2 ws H2 s2 h2 e2=>?_⟩
   have hw:ws≠[]:=by rintro rfl;have:=hts.lo;simp at e2;omega
   have hz:=hts.hi
   refine⟨p1,p2,_,_,rfl,rfl,SqT.of (s2 _ _ G1),SqT.of h2,(by show 1+ws.length<=sizeLine;exact Nat.le_of_lt (J9 (by omega))),(fun z=>by cases z),(fun _ z=>absurd z hw),fun _ _ p3 hp3=>?_⟩
   have s3:G8 H (upd H2 p3 (.tup ([.str "say"]++ws))):=(s1.trans s2).new hp3
   refine⟨_,rfl,r,_,_,_,rfl,rfl,SqT.of (s3 _ _ hr0),rfl,x,rfl,fun p4 us H4 s4 h4 e4=>?_⟩
   have hu:us≠[]:=by rintro rfl;simp at e4
   refine⟨p3,p4,_,_,rfl,rfl,SqT.of (s4 _ _ G1),SqT.of h4,(by simp only[List.length_append,List.length_cons,List.length_nil];exact Nat.le_of_lt (J9 (by omega))),(fun z=>by cases z),(fun _ z=>absurd z hu),fun _ _ p5 hp5=>?_⟩
   refine q p5 _ _ ((s3.trans s4).new hp5) G1 ?_
   simp only[List.length_append,List.length_cons,List.length_nil]
   omega
  ·refine⟨_,rfl,r,_,_,_,rfl,rfl,SqT.of hr0,rfl,?_⟩
   refine⟨_,rfl,rfl,_,rfl,W3 (by decide +kernel) ?_⟩
   refine⟨_,rfl,rfl,_,rfl,W3 (by decide +kernel) ?_⟩
   refine⟨_,rfl,rfl,_,rfl,W3 (by decide +kernel) ?_⟩
   refine⟨_,rfl,rfl,_,rfl,W3 (by decide +kernel) ?_⟩
   refine⟨_,rfl,rfl,_,rfl,W3 (by decide +kernel) ?_⟩
   refine⟨_,rfl,rfl,_,rfl,a0U ?_⟩
   refine⟨_,rfl,r,_,_,_,rfl,rfl,SqT.of hr0,rfl,a0p,fun p1 hp1=>?_⟩
   have s1:G8 H (upd H p1 (.tup [.str "ask",.str part])):=(G8.refl H).new hp1
   refine⟨_,rfl,r,_,_,_,rfl,rfl,SqT.of (s1 _ _ hr0),rfl,x,rfl,fun p4 us H4 s4 h4 e4=>?_⟩
   have hu:us≠[]:=by rintro rfl;simp at e4
   refine⟨p1,p4,_,_,rfl,rfl,SqT.of (s4 _ _ G1),SqT.of h4,(by simp only[List.length_append,List.length_cons,List.length_nil];exact Nat.le_of_lt (J9 (by omega))),(fun z=>by cases z),(fun _ z=>absurd z hu),fun _ _ p5 hp5=>?_⟩
   refine q p5 _ _ ((s1.trans s4).new hp5) G1 ?_
   simp only[List.length_append,List.length_cons,List.length_nil]
   omega
theorem a4Y.get{H:Hp}{r:Addr}{x:Str}{n:Int}(h:a4Y H r x n):∃(k:Str)(v:V),H r=some (.tup [.str k,v,.str x]):=by
 rcases h with⟨t,ts,h,_⟩ | ⟨part,h,_⟩
 ·exact⟨_,_,h⟩
 ·exact⟨_,_,h⟩
theorem a6n(T:Txt K mg):L2.Cl P w K mg base 3 "when_names" ["row"] a8R:=by
 have C_words_of:=a8w (P:=P) (w:=w) (base:=base) T
 refine Cl.of T.d_when_names a6q (fun vs H Q E h=>?_) (fun _ _ _ _ _ _ us hl=>by obtain⟨a,rfl⟩:=a5b hl;rfl) (fun f cdv A outer s H vs Q E hr h=>?_)
 ·obtain⟨r,ds,rfl,_⟩:=h
  rfl
 ·obtain⟨r,ds,rfl,hrow,q⟩:=h
  refine⟨_,(G3 (R8 (M4 (a3s (J0 J1 (pv 0) G5 (fun _ _=>rfl))))
    (G6 (R3 (R5 G2))) J5)
   (G6 (R3 (R5 (G0 (R5 (G0 (J4 a7B (R9 U2 (by rfl) T.n_len PySem.boot_len (G0 (W6 C_words_of hr (by rfl) (G0 (pv 0) G2)) G2)) G5) (G0 (J0 J1 (pv 0) G5 (fun _ _=>rfl)) G2))) G2))))),?_⟩
  rcases hrow with⟨x,n,hw,rfl⟩ | ⟨k,v,hr0,rfl⟩
  ·obtain⟨k,v,hr0⟩:=hw.get
   refine⟨_,rfl,r,_,_,_,rfl,rfl,SqT.of hr0,rfl,_,rfl,Y4 ?_⟩
   refine⟨_,rfl,r,x,n,rfl,hw,fun p1 ws H1 s1 h1 e1=>?_⟩
   refine⟨p1,ws,rfl,.inr (SqT.of h1),_,_,rfl,rfl,_,rfl,r,_,_,_,rfl,rfl,SqT.of (s1 _ _ hr0),rfl,a0p,fun p2 hp2=>⟨a3Y,fun p3 hp3=>?_⟩⟩
   refine q p3 _ _ ((s1.new hp2).new hp3) G1 (.cons ⟨p2,rfl,?_⟩ .nil)
   rw[U3 G1 hp3]
   have e:(ws.length:Int) - 1=n:=by omega
   show some (HO.tup [V.int ((ws.length:Int) - 1),V.str x])=_
   rw[e]
  ·refine⟨_,rfl,r,_,_,_,rfl,rfl,SqT.of hr0,rfl,_,rfl,O7 ?_⟩
   exact⟨a1G,fun p hp=>q p _ _ ((G8.refl H).new hp) G1 .nil⟩
theorem a6m(T:Txt K mg):L2.Cl P w K mg base 4 "read_names" ["row"] a8x:=by
 have C_sum_names:=a7J (P:=P) (w:=w) (base:=base) T
 have C_when_names:=a6n (P:=P) (w:=w) (base:=base) T
 refine Cl.of T.d_read_names a3l (fun vs H Q E h=>?_) (fun _ _ _ _ _ _ us hl=>by obtain⟨a,rfl⟩:=a5b hl;rfl) (fun f cdv A outer s H vs Q E hr h=>?_)
 ·obtain⟨r,ds,rfl,_⟩:=h
  rfl
 ·obtain⟨r,ds,rfl,hrow,q⟩:=h
  refine⟨_,(G3 (J6 (i:=1) a3l.nd rfl (Or.inl rfl) (J0 J1 (pv 0) G5 (fun _ _=>rfl)))
   (G3 (R8 (J3 Y5 (pv 1) I9 (R4 _))
    (G6 (R3 (W6 C_sum_names hr (by rfl) (G0 (J0 J1 (pv 0) G5 (fun _ _=>rfl)) (G0 G5 G2))))) J5)
   (G3 (R8 (J3 Y5 (pv 1) I9 (R4 _))
    (G6 (R3 (W6 C_sum_names hr (by rfl) (G0 (J0 J1 (pv 0) G5 (fun _ _=>rfl)) (G0 G5 G2))))) J5)
   (G3 (R8 (J3 Y5 (pv 1) I9 (R4 _))
    (G6 (R3 (J4 a0r (W6 C_when_names hr (by rfl) (G0 (pv 0) G2)) (W6 C_sum_names hr (by rfl) (G0 (J0 J1 (pv 0) G5 (fun _ _=>rfl)) (G0 G5 G2)))))) J5)
   (G3 (R8 (J3 Y5 (pv 1) I9 (R4 _))
    (G6 (R3 (W6 C_when_names hr (by rfl) (G0 (pv 0) G2)))) J5)
   (G6 (R3 (R5 G2)))))))),?_⟩
  rcases hrow with⟨own,t,ts,h1,h2,rfl⟩ | ⟨t,ts,h1,h2,rfl⟩ | ⟨t,ts,h1,h2,rfl⟩ | ⟨t,ts,x,h1,h2,rfl⟩ | ⟨part,x,h1,rfl⟩ | ⟨part,h1,rfl⟩ | ⟨k,more,h1,⟨n1,n2,n3,n4⟩,rfl⟩
  ·refine⟨_,rfl,r,_,_,_,rfl,rfl,SqT.of h1,rfl,?_⟩
   refine⟨_,rfl,rfl,_,rfl,a0U ?_⟩
   exact⟨_,rfl,r,_,_,_,rfl,rfl,SqT.of h1,rfl,t,ts,3,rfl,h2,q⟩
  ·refine⟨_,rfl,r,_,_,_,rfl,rfl,SqT.of h1,rfl,?_⟩
   refine⟨_,rfl,rfl,_,rfl,W3 (by decide +kernel) ?_⟩
   refine⟨_,rfl,rfl,_,rfl,a0U ?_⟩
   exact⟨_,rfl,r,_,_,_,rfl,rfl,SqT.of h1,rfl,t,ts,1,rfl,h2,q⟩
  ·refine⟨_,rfl,r,_,_,_,rfl,rfl,SqT.of h1,rfl,?_⟩
   refine⟨_,rfl,rfl,_,rfl,W3 (by decide +kernel) ?_⟩
   refine⟨_,rfl,rfl,_,rfl,W3 (by decide +kernel) ?_⟩
   refine⟨_,rfl,rfl,_,rfl,a0U ?_⟩
   refine⟨_,rfl,r,[],rfl,.inr ⟨_,_,h1,rfl⟩,fun p1 ws H1 s1 g1 m1=>?_⟩
   cases m1
   refine⟨_,rfl,r,_,_,_,rfl,rfl,SqT.of (s1 _ _ h1),rfl,t,ts,1,rfl,h2.mono s1.tups,fun p2 us H2 s2 g2 m2=>?_⟩
   have e2:us.length=(U4 1 ts).length:=AI m2
   have:=a0P ts 1
   have:=h2.hi
   exact⟨p1,p2,_,_,rfl,rfl,SqT.of (s2 _ _ g1),SqT.of g2,(by show 0+us.length<=sizeLine;exact Nat.le_of_lt (J9 (by omega))),(fun _=>q p2 us H2 (s1.trans s2) g2 m2),(fun z=>absurd rfl z),fun z=>absurd rfl z⟩
  ·refine⟨_,rfl,r,_,_,_,rfl,rfl,SqT.of h1,rfl,?_⟩
   refine⟨_,rfl,rfl,_,rfl,W3 (by decide +kernel) ?_⟩
   refine⟨_,rfl,rfl,_,rfl,W3 (by decide +kernel) ?_⟩
   refine⟨_,rfl,rfl,_,rfl,a0U ?_⟩
   refine⟨_,rfl,r,[(2*(ts.length:Int)+1,x)],rfl,.inl ⟨x,_,.inl ⟨t,ts,h1,h2,rfl⟩,rfl⟩,fun p1 ws H1 s1 g1 m1=>?_⟩
   refine⟨_,rfl,r,_,_,_,rfl,rfl,SqT.of (s1 _ _ h1),rfl,t,ts,1,rfl,h2.mono s1.tups,fun p2 us H2 s2 g2 m2=>?_⟩
   have e1:ws.length=1:=AI m1
   have e2:us.length=(U4 1 ts).length:=AI m2
   have:=a0P ts 1
   have:=h2.hi
   have hw:ws≠[]:=by rintro rfl;simp at e1
   refine⟨p1,p2,_,_,rfl,rfl,SqT.of (s2 _ _ g1),SqT.of g2,(by exact Nat.le_of_lt (J9 (by omega))),(fun z=>absurd z hw),fun _ z=>?_,fun _ _ p3 hp3=>?_⟩
   ·subst z
    have e:U4 1 ts=[]:=List.length_eq_zero_iff.mp (by simpa using e2.symm)
    exact q p1 ws H2 (s1.trans s2) (s2 _ _ g1) (by rw[e];exact m1.mono s2.tups)
   ·refine q p3 _ _ ((s1.trans s2).new hp3) G1 ?_
    have m1':a1q (upd H2 p3 (.tup (ws++us))) ws [(2*(ts.length:Int)+1,x)]:=(m1.mono s2.tups).mono (R7.new hp3)
    have m2':a1q (upd H2 p3 (.tup (ws++us))) us (U4 1 ts):=m2.mono (R7.new hp3)
    exact a3X m1' m2'
  ·refine⟨_,rfl,r,_,_,_,rfl,rfl,SqT.of h1,rfl,?_⟩
   refine⟨_,rfl,rfl,_,rfl,W3 (by decide +kernel) ?_⟩
   refine⟨_,rfl,rfl,_,rfl,W3 (by decide +kernel) ?_⟩
   refine⟨_,rfl,rfl,_,rfl,W3 (by decide +kernel) ?_⟩
   refine⟨_,rfl,rfl,_,rfl,a0U ?_⟩
   exact⟨_,rfl,r,[(3,x)],rfl,.inl ⟨x,3,.inr ⟨part,h1,rfl⟩,rfl⟩,q⟩
  ·refine⟨_,rfl,r,_,_,_,rfl,rfl,SqT.of h1,rfl,?_⟩
   refine⟨_,rfl,rfl,_,rfl,W3 (by decide +kernel) ?_⟩
   refine⟨_,rfl,rfl,_,rfl,W3 (by decide +kernel) ?_⟩
   refine⟨_,rfl,rfl,_,rfl,W3 (by decide +kernel) ?_⟩
   refine⟨_,rfl,rfl,_,rfl,a0U ?_⟩
   exact⟨_,rfl,r,[],rfl,.inr ⟨_,_,h1,rfl⟩,q⟩
  ·refine⟨_,rfl,r,_,_,_,rfl,rfl,SqT.of h1,G9 (j:=0) rfl,?_⟩
   refine⟨_,rfl,rfl,_,rfl,W3 n1 ?_⟩
   refine⟨_,rfl,rfl,_,rfl,W3 n2 ?_⟩
   refine⟨_,rfl,rfl,_,rfl,W3 n3 ?_⟩
   refine⟨_,rfl,rfl,_,rfl,W3 n4 ?_⟩
   exact⟨a1G,fun p hp=>q p _ _ ((G8.refl H).new hp) G1 .nil⟩
theorem b5K{H:Hp}{r:Addr}{rw:Rw}(h:a1M H r rw):b6e H r (rdR rw):=by
 cases rw with
 | set o ts=>obtain⟨t,h1,h2⟩:=h;exact .inl ⟨o,t,ts,h1,h2,rfl⟩
 | need ts=>obtain⟨t,h1,h2⟩:=h;exact .inr (.inl ⟨t,ts,h1,h2,rfl⟩)
 | say ts w=>
  obtain⟨t,h1,h2⟩:=h
  cases w with
  | none=>exact .inr (.inr (.inl ⟨t,ts,h1,h2,rfl⟩))
  | some x=>exact .inr (.inr (.inr (.inl ⟨t,ts,x,h1,h2,rfl⟩)))
 | ask p w=>
  cases w with
  | some x=>exact .inr (.inr (.inr (.inr (.inl ⟨p,x,h,rfl⟩))))
  | none=>exact .inr (.inr (.inr (.inr (.inr (.inl ⟨p,h,rfl⟩)))))
 | bring p ps=>obtain⟨t,h1,h2⟩:=h;exact .inr (.inr (.inr (.inr (.inr (.inr ⟨"bring",_,h1,by decide +kernel,rfl⟩)))))
 | give o g=>exact .inr (.inr (.inr (.inr (.inr (.inr ⟨"give",_,h,by decide +kernel,rfl⟩)))))
 | take o=>exact .inr (.inr (.inr (.inr (.inr (.inr ⟨"take",_,h,by decide +kernel,rfl⟩)))))
 | part p=>exact .inr (.inr (.inr (.inr (.inr (.inr ⟨"part",_,h,by decide +kernel,rfl⟩)))))
 | doo p=>exact .inr (.inr (.inr (.inr (.inr (.inr ⟨"do",_,h,by decide +kernel,rfl⟩)))))
theorem a7j{α:Type}{f:α->Bool}:∀{l:List α}{i:Nat}{x:α},(∀y∈l.take i,f y=false)->l[i]?=some x->f x=true->l.find? f=some x
 | [],_,_,_,h,_=>by simp at h
 | a::l,0,x,_,h,hx=>by
  have e:a=x:=by simpa using h
  subst e
  rw[List.find?_cons,hx]
 | a::l,i+1,x,h0,h,hx=>by
  have ha:f a=false:=h0 a (by rw[List.take_succ_cons];exact AQ)
  rw[List.find?_cons,ha]
  exact a7j (i:=i) (fun y hy=>h0 y (by rw[List.take_succ_cons];exact AO _ hy)) (by simpa using h) hx
noncomputable def a6w:Option Int->V
 | some i=> .int i
 | none=> .non
theorem a5w{α β:Type}{F:α->β->Prop}:∀{xs us:List α}{ys vs:List β},Paired F xs ys->Paired F us vs->Paired F (xs++us) (ys++vs)
 | _,_,_,_,.nil,k=>k
 | _,_,_,_,.cons h t,k=> .cons h (a5w t k)
theorem a5U{α β:Type}{F:α->β->Prop}:∀{xs:List α}{ys:List β},Paired F xs ys->Paired F xs.reverse ys.reverse
 | _,_,.nil=> .nil
 | _,_,.cons h t=>by
  rw[List.reverse_cons,List.reverse_cons]
  exact a5w (a5U t) (.cons h .nil)
theorem a9x(x a b:Str):inV (.str x) [.str a,.str b]=decide (x=a\/x=b):=by
 have e:([.str a,.str b]:List V)=([a,b]:List Str).map V.str:=rfl
 rw[e,a1v]
 by_cases h1:x=a
 ·simp[h1]
 ·by_cases h2:x=b
  ·simp[h2]
  ·simp[h1,h2]
noncomputable def b6D (CP CG:Addr):Sp:=fun vs H Q _=>∃(g r d:Addr)(A:GA)(ns:List Str)(pk:List (List Ro))(lds:List (Str×List Int))(ah:Bool)(nums:List Int)(H0:Hp)(S:GP)(p:Str)(rw:Rw),vs=[.ref g,.str p,.ref r]/\a1A CP H0 g A ns d pk lds ah nums/\GoP CG H0 H g A nums S/\a1M H r rw/\∀H',G8 H H'->Q (.bl (a1E S.gv rw)) H'
theorem b1g(T:Tc K mg CP CG):MCl P w K mg base 2 CG "is_off" ["self","part","row"] (b6D CP CG):=by
 have C_key_of:=a3e (P:=P) (w:=w) (base:=base) T
 refine MCl.of T.m_is_off a2E (fun vs H Q E h=>?_) (fun _ _ _ _ _ _ us hl=>by obtain⟨a,b,c,rfl⟩:=a6v hl;rfl) (fun fa cdv A outer s H vs Q E hr h=>?_)
 ·obtain⟨g,r,d,A,ns,pk,lds,ah,nums,H0,S,p,rw,rfl,_⟩:=h
  rfl
 ·obtain⟨g,r,d,A,ns,pk,lds,ah,nums,H0,S,p,rw,rfl,hB,hG,hra,q⟩:=h
  have hu:=a0s hr
  obtain⟨x1,rest,hrt⟩:=hra.kind
  have z0:atI (V.str (Z0 rw)::x1::rest) 0=some (.str (Z0 rw)):=G9 (j:=0) rfl
  refine⟨_,(G3 (R8 (PW.pt (a6C (J3 a1B (J0 J1 (pv 2) G5 (fun _ _=>rfl)) (R5 (G0 I9 (G0 I9 G2))) (by with_unfolding_all rfl)) (a4o (M4 (a3s (J0 J1 (pv 2) G5 (fun _ _=>rfl)))))))
    (G6 (R3 a1P)) J5)
   (G3 (J6 (i:=3) a2E.nd rfl (Or.inl rfl) (a1h C_key_of T.c_PacksWalk hr (Y1 (pv 0) rfl) (G0 (pv 1) (G0 (J0 J1 (pv 2) G5 (fun _ _=>rfl)) G2))))
   (G6 (R3 (a7I (b2f (a5X hu (pv 3) (Y1 (pv 0) rfl))) (a9I (a4O a9V (W9 hu (Y1 (pv 0) rfl) (pv 3) (fun _ _=>rfl)) G5 (R4 _)))))))),?_⟩
  refine⟨_,rfl,r,_,_,_,rfl,rfl,SqT.of hrt,z0,a0p,fun c gc=>?_⟩
  have s1:G8 H (upd H c (.tup [.str "say",.str "ask"])):=(G8.refl H).new gc
  have hc1:upd H c (.tup [.str "say",.str "ask"]) c=some (.tup [.str "say",.str "ask"]):=G1
  generalize upd H c (.tup [.str "say",.str "ask"])=H1 at s1 hc1⊢
  refine⟨c,_,rfl,.inr (SqT.of hc1),rfl,rfl,_,rfl,?_⟩
  rw[if_pos rfl,a9x]
  have hG1:=hG.same s1
  obtain⟨dx,v,hg,_⟩:=hG1.ob
  obtain⟨dw,l,qs,hw,_⟩:=(hB.wk.same hG1.sm).ex
  have hq:=q H1 s1
  cases rw with
  | say ts wh=>
   obtain⟨t,hrt',hts⟩:=hra
   have ed:decide (Z0 (Rw.say ts wh)="say" \/Z0 (Rw.say ts wh)="ask")=true:=decide_eq_true (.inl rfl)
   rw[ed]
   refine Y4 ?_
   cases wh with
   | none=>
    refine⟨_,rfl,r,_,_,_,rfl,rfl,SqT.of (s1 _ _ hrt'),rfl,_,rfl,?_⟩
    exact b1w rfl hq
   | some x=>
    refine⟨_,rfl,r,_,_,_,rfl,rfl,SqT.of (s1 _ _ hrt'),rfl,_,rfl,?_⟩
    refine b2Y (by intro z;cases z) ?_
    refine⟨_,rfl,g,CG,dx,_,_,rfl,hg,T.c_Going,T.nG_walk,a2t,A.w,dw,_,rfl,hw,a7l.2.1,_,rfl,_,rfl,r,_,_,_,rfl,rfl,SqT.of (s1 _ _ hrt'),rfl,A.w,p,x,rfl,?_⟩
    have hgt:=O3.k (k:=Sum.inr x) hG1.gv
    refine⟨_,rfl,_,rfl,g,CG,dx,_,_,rfl,hg,T.c_Going,T.nG_given,a1Z,A.gv,_,rfl,hgt,?_⟩
    have hoff:a1E S.gv (.say ts (some x))=((Y3 S.gv (Sum.inr x)).isSome && decide (ivl (Y3 S.gv (Sum.inr x))<=0)):=rfl
    rw[hoff]at hq
    cases e2:Y3 S.gv (Sum.inr x)with
    | none=>
     rw[e2]at hq hgt
     exact⟨_,rfl,Y4 hq⟩
    | some y=>
     obtain⟨i,rfl⟩:=hG.gi _ _ e2
     rw[e2]at hq hgt
     refine⟨_,rfl,O7 ?_⟩
     exact⟨_,rfl,g,CG,dx,_,_,rfl,hg,T.c_Going,T.nG_given,a1Z,_,rfl,A.gv,_,rfl,hgt,_,_,rfl,rfl,hq⟩
  | ask a wh=>
   have hrt':H r=some (.tup [.str "ask",.str a,a2H wh]):=hra
   have ed:decide (Z0 (Rw.ask a wh)="say" \/Z0 (Rw.ask a wh)="ask")=true:=decide_eq_true (.inr rfl)
   rw[ed]
   refine Y4 ?_
   cases wh with
   | none=>
    refine⟨_,rfl,r,_,_,_,rfl,rfl,SqT.of (s1 _ _ hrt'),rfl,_,rfl,?_⟩
    exact b1w rfl hq
   | some x=>
    refine⟨_,rfl,r,_,_,_,rfl,rfl,SqT.of (s1 _ _ hrt'),rfl,_,rfl,?_⟩
    refine b2Y (by intro z;cases z) ?_
    refine⟨_,rfl,g,CG,dx,_,_,rfl,hg,T.c_Going,T.nG_walk,a2t,A.w,dw,_,rfl,hw,a7l.2.1,_,rfl,_,rfl,r,_,_,_,rfl,rfl,SqT.of (s1 _ _ hrt'),rfl,A.w,p,x,rfl,?_⟩
    have hgt:=O3.k (k:=Sum.inr x) hG1.gv
    refine⟨_,rfl,_,rfl,g,CG,dx,_,_,rfl,hg,T.c_Going,T.nG_given,a1Z,A.gv,_,rfl,hgt,?_⟩
    have hoff:a1E S.gv (.ask a (some x))=((Y3 S.gv (Sum.inr x)).isSome && decide (ivl (Y3 S.gv (Sum.inr x))<=0)):=rfl
    rw[hoff]at hq
    cases e2:Y3 S.gv (Sum.inr x)with
    | none=>
     rw[e2]at hq hgt
     exact⟨_,rfl,Y4 hq⟩
    | some y=>
     obtain⟨i,rfl⟩:=hG.gi _ _ e2
     rw[e2]at hq hgt
     refine⟨_,rfl,O7 ?_⟩
     exact⟨_,rfl,g,CG,dx,_,_,rfl,hg,T.c_Going,T.nG_given,a1Z,_,rfl,A.gv,_,rfl,hgt,_,_,rfl,rfl,hq⟩
  | bring a b=>
   rw[show decide (Z0 (Rw.bring a b)="say" \/Z0 (Rw.bring a b)="ask")=false from(by decide +kernel:decide (("bring":Str)="say" \/("bring":Str)="ask")=false)]
   exact O7 hq
  | give a b=>
   rw[show decide (Z0 (Rw.give a b)="say" \/Z0 (Rw.give a b)="ask")=false from(by decide +kernel:decide (("give":Str)="say" \/("give":Str)="ask")=false)]
   exact O7 hq
  | set a b=>
   rw[show decide (Z0 (Rw.set a b)="say" \/Z0 (Rw.set a b)="ask")=false from(by decide +kernel:decide (("set":Str)="say" \/("set":Str)="ask")=false)]
   exact O7 hq
  | take a=>
   rw[show decide (Z0 (Rw.take a)="say" \/Z0 (Rw.take a)="ask")=false from(by decide +kernel:decide (("take":Str)="say" \/("take":Str)="ask")=false)]
   exact O7 hq
  | need a=>
   rw[show decide (Z0 (Rw.need a)="say" \/Z0 (Rw.need a)="ask")=false from(by decide +kernel:decide (("need":Str)="say" \/("need":Str)="ask")=false)]
   exact O7 hq
  | part a=>
   rw[show decide (Z0 (Rw.part a)="say" \/Z0 (Rw.part a)="ask")=false from(by decide +kernel:decide (("part":Str)="say" \/("part":Str)="ask")=false)]
   exact O7 hq
  | doo a=>
   rw[show decide (Z0 (Rw.doo a)="say" \/Z0 (Rw.doo a)="ask")=false from(by decide +kernel:decide (("do":Str)="say" \/("do":Str)="ask")=false)]
   exact O7 hq
noncomputable def b3W (CP CG:Addr):Sp:=fun vs H Q _=>∃(g r d:Addr)(A:GA)(ns:List Str)(pk:List (List Ro))(lds:List (Str×List Int))(ah:Bool)(nums:List Int)(H0:Hp)(S:GP)(p:Str)(rw:Rw),vs=[.ref g,.str p,.ref r]/\a1A CP H0 g A ns d pk lds ah nums/\GoP CG H0 H g A nums S/\a1M H r rw/\∀H',G8 H H'->Q (a6w (O2 S.gv rw)) H'
theorem a6j(T:Tc K mg CP CG):MCl P w K mg base 5 CG "early_word" ["self","part","row"] (b3W CP CG):=by
 have C_key_of:=a3e (P:=P) (w:=w) (base:=base) T
 have C_read_names:=a6m (P:=P) (w:=w) (base:=base) T.toTxt
 refine MCl.of T.m_early_word a0t (fun vs H Q E h=>?_) (fun _ _ _ _ _ _ us hl=>by obtain⟨a,b,c,rfl⟩:=a6v hl;rfl) (fun fa cdv A outer s H vs Q E hr h=>?_)
 ·obtain⟨g,r,d,A,ns,pk,lds,ah,nums,H0,S,p,rw,rfl,_⟩:=h
  rfl
 ·obtain⟨g,r,d0,A,ns,pk,lds,ah,nums,H0,S,p,rw,rfl,hB,hG,hra,q⟩:=h
  have hu:=a0s hr
  refine⟨_,(G3 (Y2 AL rfl (a2w (W6 C_read_names hr (by rfl) (G0 (pv 2) G2))) (a0N rfl (U7 (J8 (i:=3) a0t.nd rfl (Or.inl rfl)) (U7 (J8 (i:=4) a0t.nd rfl (Or.inl rfl)) M7)))
    (G6 (R8 (M4 (a2h hu (a1h C_key_of T.c_PacksWalk hr (Y1 (pv 0) rfl) (G0 (pv 1) (G0 (pv 4) G2))) (Y1 (pv 0) rfl)))
     (G6 (R3 (pv 3))) J5)))
   (G6 (R3 a3t))),?_⟩
  refine⟨_,rfl,r,rdR rw,rfl,b5K hra,fun t ws H1 s1 ht hnm=>?_⟩
  have hwl:ws.length=(rdR rw).length:=AI hnm
  have hG2:=hG.same s1
  obtain⟨dx,v,hg,_⟩:=hG2.ob
  obtain⟨dw,l,qs,hw,_⟩:=(hB.wk.same hG2.sm).ex
  refine⟨t,rfl,⟨_,SqT.of ht⟩,a1C (K:=K) (a:=t) (xs:=ws) (fun i σ H2=>∃v3 v4:Option V,σ=[some (.ref g),some (.str p),some (.ref r),v3,v4]/\H2=H1/\∀d∈(rdR rw).take i,(!(lkP S.gv d.2).isSome)=false)
   ⟨none,none,rfl,rfl,fun d hd=>by simp at hd⟩ (fun i σ H2 _⟨_,_,_,e2,_⟩=>by rw[e2];exact SqT.of ht) ?_ ?_⟩
  ·rintro i y σ H2 hy ⟨v3,v4,rfl,rfl,hall⟩
   obtain⟨d,hd,tp,ep,htp⟩:=Paired.get? hnm hy
   subst ep
   refine⟨tp,_,rfl,SqT.of htp,rfl,_,_,rfl,_,_,rfl,rfl,?_⟩
   refine⟨_,rfl,g,CG,dx,_,_,rfl,hg,T.c_Going,T.nG_walk,a2t,A.w,dw,_,rfl,hw,a7l.2.1,_,rfl,_,rfl,A.w,p,d.2,rfl,?_⟩
   have hgt:=O3.k (k:=Sum.inr d.2) hG2.gv
   refine⟨_,rfl,g,CG,dx,_,_,rfl,hg,T.c_Going,T.nG_given,a1Z,A.gv,_,rfl,hgt,_,rfl,?_⟩
   cases e2:(Y3 S.gv (Sum.inr d.2)).isSome with
   | true=>
    refine Y4 ?_
    refine⟨_,_,rfl,rfl,fun d' hd'=>?_⟩
    rw[I0 hd]at hd'
    rcases AK.mp hd' with z | z
    ·exact hall d' z
    ·rw[AC.mp z,show(lkP S.gv d.2).isSome=true from e2]
     rfl
   | false=>
    refine O7 ?_
    have he:O2 S.gv rw=some d.1:=by
     unfold O2
     rw[a7j hall hd (by rw[show(lkP S.gv d.2).isSome=false from e2];rfl)]
     rfl
    have:=q H2 s1
    rw[he]at this
    exact⟨_,rfl,this⟩
  ·rintro σ H2 ⟨v3,v4,rfl,rfl,hall⟩
   have he:O2 S.gv rw=none:=by
    unfold O2
    rw[hwl,AR]at hall
    rw[List.find?_eq_none.mpr (fun x hx=>by rw[hall x hx];exact AD)]
    rfl
   have:=q H2 s1
   rw[he]at this
   exact this
theorem b3F(l:List Int)(x:Int):Y3 (ldD l) (Sum.inl x)=if x∈l then some (.bl true)else none:=by
 induction l with
 | nil=>rfl
 | cons a r ih=>
  have e:ldD (a::r)=(Sum.inl a,.bl true)::ldD r:=rfl
  rw[e]
  by_cases h:a=x
  ·subst h
   rw[F7 rfl,if_pos AQ]
  ·rw[F2 (fun z=>h (Sum.inl.inj z)),ih]
   have h':¬x=a:=fun z=>h z.symm
   by_cases hm:x∈r
   ·rw[if_pos hm,if_pos (AO _ hm)]
   ·rw[if_neg hm,if_neg (fun z=>(List.mem_cons.mp z).elim h' hm)]
theorem b3l{l:List Int}{x:Int}(h:x∉l):W2 (ldD l) (Sum.inl x) (.bl true)=ldD (l++[x]):=by
 rw[a3C]
 ·unfold ldD
  rw[List.map_append]
  rfl
 ·intro z
  unfold ldD at z
  rw[List.map_map]at z
  obtain⟨a,ha,e⟩:=AV.mp z
  have:a=x:=Sum.inl.inj e
  rw[<-this]at h
  exact h ha
theorem b4p(l:List Int):(ldD l).length=l.length:=by unfold ldD;rw[List.length_map]
theorem a5l(S:GP)(A:List Int)(x:Int):U9 S (A++[x])=D6 (U9 S A) x:=by unfold U9;rw[List.foldl_append];rfl
theorem a8C(S:GP):∀(xs:List Int)(i:Nat),(U9 S (xs.take i)).ld.length<=S.ld.length+i/\(U9 S (xs.take i)).tr.length<=S.tr.length+i
 | xs,0=>by rw[List.take_zero];exact⟨AE _,AE _⟩
 | xs,i+1=>by
  have ih:=a8C S xs i
  cases e:xs[i]? with
  | none=>
   have:xs.take (i+1)=xs.take i:=by
    rw[List.take_of_length_le (by have:=List.getElem?_eq_none_iff.mp e;omega),List.take_of_length_le (by have:=List.getElem?_eq_none_iff.mp e;omega)]
   rw[this]
   omega
  | some x=>
   rw[I0 e,a5l]
   unfold D6
   split
   ·omega
   ·constructor
    ·show((U9 S (xs.take i)).ld++[x]).length<=_
     rw[List.length_append]
     simp only[List.length_cons,List.length_nil]
     omega
    ·show((U9 S (xs.take i)).tr++[Td.load x]).length<=_
     rw[List.length_append]
     simp only[List.length_cons,List.length_nil]
     omega
noncomputable def b5y (CP CG:Addr):Sp:=fun vs H Q _=>∃(g t d:Addr)(A:GA)(ns:List Str)(pk:List (List Ro))(lds:List (Str×List Int))(ah:Bool)(nums:List Int)(H0:Hp)(S:GP)(xs:List Int),vs=[.ref g,.ref t]/\a1A CP H0 g A ns d pk lds ah nums/\GoP CG H0 H g A nums S/\H t=some (.tup (xs.map V.int))/\S.ld.length+xs.length<=990/\S.tr.length+xs.length<=990/\∀H',R7 H H'->GoP CG H0 H' g A nums (U9 S xs)->Q .non H'
theorem b0s(T:Tc K mg CP CG):MCl P w K mg base 1 CG "load" ["self","packs"] (b5y CP CG):=by
 refine MCl.of T.m_load a3m (fun vs H Q E h=>?_) (fun _ _ _ _ _ _ us hl=>by obtain⟨a,b,rfl⟩:=a2F hl;rfl) (fun fa cdv A outer s H vs Q E hr h=>?_)
 ·obtain⟨g,t,d,A,ns,pk,lds,ah,nums,H0,S,xs,rfl,_⟩:=h
  rfl
 ·obtain⟨g,t,d,A,ns,pk,lds,ah,nums,H0,S,xs,rfl,hB,hG,ht,hll,htl,q⟩:=h
  have hu:=a0s hr
  refine⟨_,(G6 (Y2 AL rfl (a2w (pv 1)) (J8 (i:=2) a3m.nd rfl (Or.inl rfl))
    (G6 (R8 (M4 (a2h hu (pv 2) (Y1 (pv 0) rfl)))
     (G3 (D9 hu (Y1 (pv 0) rfl) (pv 2) a1P rfl)
     (G6 (U1 (D0 PySem.F.plainAttrs_list PySem.F.slot_list_append PySem.F.type_list_append W5 (Y1 (pv 0) rfl) (G0 (R5 (G0 I9 (G0 (pv 2) G2))) G2))))) J5)))),?_⟩
  refine⟨_,rfl,t,rfl,⟨_,SqT.of ht⟩,a1C (K:=K) (a:=t) (xs:=xs.map V.int) (fun i σ H2=>∃v2:Option V,σ=[some (.ref g),some (.ref t),v2]/\R7 H H2/\GoP CG H0 H2 g A nums (U9 S (xs.take i)))
   ⟨none,rfl,fun _ _ e=>e,by rw[List.take_zero];exact hG⟩ (fun i σ H2 _⟨_,_,T2,_⟩=>SqT.of (T2 _ _ ht)) ?_ ?_⟩
  ·rintro i y σ H2 hy ⟨v2,rfl,T2,hG2⟩
   rw[AN]at hy
   obtain⟨x,hx,rfl⟩:=AX.mp hy
   have hi:i < xs.length:=(AB.mp hx).1
   obtain⟨l1,l2⟩:=a8C S xs i
   rw[I0 hx,a5l]
   generalize U9 S (xs.take i)=S2 at hG2 l1 l2⊢
   obtain⟨dx,v,hg,_⟩:=hG2.ob
   have hgt:=O3.k (k:=Sum.inl x) hG2.ld
   refine⟨_,rfl,_,rfl,g,CG,dx,_,_,rfl,hg,T.c_Going,T.nG_loaded,a7a,A.l,_,rfl,hgt,_,rfl,?_⟩
   rw[b3F]
   by_cases hin:x∈S2.ld
   ·rw[if_pos hin]
    refine Y4 ?_
    refine⟨_,rfl,T2,?_⟩
    unfold D6
    rw[if_pos hin]
    exact hG2
   ·rw[if_neg hin]
    refine O7 ?_
    refine⟨_,rfl,g,CG,dx,_,_,rfl,hg,T.c_Going,T.nG_loaded,a7a,_,rfl,A.l,_,rfl,a2v.k (k:=Sum.inl x) hG2.ld (J9 (by rw[b4p];omega)),?_⟩
    rw[b3l hin]
    obtain⟨T3,hG3⟩:=hG2.setLoaded hB.fl (S2.ld++[x])
    generalize upd H2 A.l (.dK (ldD (S2.ld++[x])))=H3 at T3 hG3⊢
    obtain⟨dx3,w3,hg3,_⟩:=hG3.ob
    obtain⟨us,hus,hup⟩:=hG3.tr
    have hul:us.length=S2.tr.length:=AI hup
    refine⟨_,rfl,g,CG,dx3,_,_,rfl,hg3,T.c_Going,T.nG_trace,a3P,.inl ⟨rfl,_,SqL.of hus⟩,_,rfl,a0p,fun t4 gt4=>?_⟩
    have s4:G8 H3 (upd H3 t4 (.tup [.str "load",.int x])):=(G8.refl H3).new gt4
    have ht4:upd H3 t4 (.tup [.str "load",.int x]) t4=some (.tup [.str "load",.int x]):=G1
    generalize upd H3 t4 (.tup [.str "load",.int x])=H4 at s4 ht4⊢
    have hG4:=hG3.same s4
    refine⟨A.tr,_,_,rfl,rfl,s4 _ _ hus,J9 (by omega),?_⟩
    obtain⟨T5,hG5⟩:=hG4.pushTrace hB.ft (v:= .ref t4) (x:= .load x) (s4 _ _ hus) ⟨t4,rfl,ht4⟩
    refine⟨_,rfl,((T2.trans T3).trans s4.tups).trans T5,?_⟩
    unfold D6
    rw[if_neg hin]
    exact hG5
  ·rintro σ H2 ⟨v2,rfl,T2,hG2⟩
   rw[List.length_map,AR]at hG2
   exact q H2 T2 hG2
noncomputable def b3M (CP CG:Addr):Sp:=fun vs H Q _=>∃(g d:Addr)(A:GA)(ns:List Str)(pk:List (List Ro))(lds:List (Str×List Int))(ah:Bool)(nums:List Int)(H0:Hp)(S:GP)(p:Str),vs=[.ref g,.str p]/\a1A CP H0 g A ns d pk lds ah nums/\GoP CG H0 H g A nums S/\p∈pk.flatMap R6/\S.wt.length+(B9 pk p).length<=990/\S.bg.length<=900/\∀H',R7 H H'->GoP CG H0 H' g A nums (a1Y pk S p)->Q .non H'
theorem a8B(T:Tc K mg CP CG):MCl P w K mg base 2 CG "begin" ["self","part"] (b3M CP CG):=by
 have C_rows_of:=a9A (P:=P) (w:=w) (base:=base) T
 refine MCl.of T.m_begin a0M (fun vs H Q E h=>?_) (fun _ _ _ _ _ _ us hl=>by obtain⟨a,b,rfl⟩:=a2F hl;rfl) (fun fa cdv A outer s H vs Q E hr h=>?_)
 ·obtain⟨g,d,A,ns,pk,lds,ah,nums,H0,S,p,rfl,_⟩:=h
  rfl
 ·obtain⟨g,d,A,ns,pk,lds,ah,nums,H0,S,p,rfl,hB,hG,hm,hwl,hbl,q⟩:=h
  have hu:=a0s hr
  obtain⟨dx,v,hg,_⟩:=hG.ob
  refine⟨_,(G3 (D9 hu (Y1 (pv 0) rfl) (pv 1) a1P rfl)
   (G6 (Y2 AL rfl (b5f (by rfl) T.n_reversed (a1h C_rows_of T.c_PacksWalk hr (Y1 (pv 0) rfl) (G0 (pv 1) G2))) (a0N rfl (U7 (J8 (i:=2) a0M.nd rfl (Or.inl rfl)) (U7 (J8 (i:=3) a0M.nd rfl (Or.inl rfl)) (U7 (J8 (i:=4) a0M.nd rfl (Or.inl rfl)) M7))))
    (G6 (U1 (D0 PySem.F.plainAttrs_list PySem.F.slot_list_append PySem.F.type_list_append W5 (Y1 (pv 0) rfl) (G0 (R5 (G0 (pv 1) (G0 (R5 (G0 (pv 2) (G0 (pv 3) G2))) (G0 (pv 4) G2)))) G2))))))),?_⟩
  refine⟨_,rfl,g,CG,dx,_,_,rfl,hg,T.c_Going,T.nG_begun,a8a,_,rfl,A.b,_,rfl,a2v.k (k:=Sum.inr p) hG.bg (J9 (by rw[a2M];omega)),?_⟩
  rw[a4b]
  obtain⟨f1,hG1⟩:=hG.setBegun hB.fb (O4 S.bg p)
  generalize upd H A.b (.dK (D7 (O4 S.bg p)))=H1 at f1 hG1⊢
  obtain⟨dx1,v1,hg1,_⟩:=hG1.ob
  have wk1:=hB.wk.same hG1.sm
  obtain⟨dw,l,qs,hw1,_⟩:=wk1.ex
  refine⟨_,rfl,g,CG,dx1,_,_,rfl,hg1,T.c_Going,T.nG_walk,a2t,A.w,dw,_,rfl,hw1,a7l.1,_,rfl,A.w,d,p,ns,pk,lds,ah,rfl,wk1,hm,fun t vs H2 s2 ht hvs=>?_⟩
  have hrv:=a5U hvs
  have hvl:vs.length=(B9 pk p).length:=AI hvs
  refine⟨t,vs,rfl,SqT.of ht,b3k (K:=K) (a:=t) (xs:=vs) (fun i σ H3=>∃v2 v3 v4:Option V,σ=[some (.ref g),some (.str p),v2,v3,v4]/\R7 H H3/\R7 H2 H3/\GoP CG H0 H3 g A nums {S with bg:=O4 S.bg p,wt:=S.wt++(B9 pk p).reverse.take i})
   ⟨none,none,none,rfl,f1.trans s2.tups,R7.refl H2,by rw[List.take_zero,List.append_nil];exact hG1.same s2⟩ (fun i σ H3 _⟨_,_,_,_,_,T3,_⟩=>SqT.of (T3 _ _ ht)) ?_ ?_⟩
  ·rintro i y σ H3 hy ⟨v2,v3,v4,rfl,f3,T3,hG3⟩
   have hi:i < vs.reverse.length:=(AB.mp hy).1
   rw[List.length_reverse]at hi
   obtain⟨x,hx,tt,ey,htt⟩:=Paired.get? hrv hy
   subst ey
   have hx1:x.1=p:=of_decide_eq_true (List.mem_filter.mp (List.mem_reverse.mp (AF hx))).2
   refine⟨tt,_,rfl,SqT.of (T3 _ _ htt),rfl,_,_,rfl,_,_,rfl,_,_,rfl,rfl,?_⟩
   obtain⟨dx3,w3,hg3,_⟩:=hG3.ob
   obtain⟨us,hus,hup⟩:=hG3.wt
   refine⟨_,rfl,g,CG,dx3,_,_,rfl,hg3,T.c_Going,T.nG_waiting,a3v,.inl ⟨rfl,_,SqL.of hus⟩,_,rfl,_,rfl,_,rfl,a0p,fun wh gwh=>?_⟩
   have s4:G8 H3 (upd H3 wh (.tup [.int (x.2.1:Int),.int (x.2.2.1:Int)])):=(G8.refl H3).new gwh
   have hwh4:upd H3 wh (.tup [.int (x.2.1:Int),.int (x.2.2.1:Int)]) wh=some (.tup [.int (x.2.1:Int),.int (x.2.2.1:Int)]):=G1
   generalize upd H3 wh (.tup [.int (x.2.1:Int),.int (x.2.2.1:Int)])=H4 at s4 hwh4⊢
   refine⟨_,rfl,a7Q,fun t5 gt5=>?_⟩
   have s5:G8 H4 (upd H4 t5 (.tup [.str p,.ref wh,.ref x.2.2.2.a])):=(G8.refl H4).new gt5
   have ht5:upd H4 t5 (.tup [.str p,.ref wh,.ref x.2.2.2.a]) t5=some (.tup [.str p,.ref wh,.ref x.2.2.2.a]):=G1
   generalize upd H4 t5 (.tup [.str p,.ref wh,.ref x.2.2.2.a])=H5 at s5 ht5⊢
   have s35:=s4.trans s5
   have hG5:=hG3.same s35
   have hlen:us.length<=989:=by
    have e1:=AI hup
    have e2:(S.wt++(B9 pk p).reverse.take i).length<=S.wt.length+i:=by
     rw[List.length_append,AU];omega
    have e3:us.length=(S.wt++(B9 pk p).reverse.take i).length:=e1
    omega
   refine⟨A.wt,_,_,rfl,rfl,s35 _ _ hus,J9 (by omega),?_⟩
   have hnew:Paired (WtP H5) (us++[.ref t5]) (S.wt++(B9 pk p).reverse.take (i+1)):=by
    rw[I0 (show(B9 pk p).reverse[i]?=some x from hx),<-List.append_assoc]
    exact Paired.snoc (Paired.mapP hup fun _ _ z=>z.mono s35.tups) ⟨t5,wh,rfl,by rw[hx1];exact ht5,s5 _ _ hwh4⟩
   obtain⟨f6,hG6⟩:=hG5.setWait hB.fw hnew
   exact⟨_,_,_,rfl,(f3.trans s35.tups).trans f6,(T3.trans s35.tups).trans f6,hG6⟩
  ·rintro σ H3 ⟨v2,v3,v4,rfl,f3,T3,hG3⟩
   refine q H3 f3 ?_
   unfold a1Y
   rw[hvl,List.take_of_length_le (by rw[List.length_reverse];exact AE _)]at hG3
   exact hG3
theorem a2u(l:List Str)(x:Str):(Y3 (D7 l) (Sum.inr x)).isSome=decide (x∈l):=by
 rw[a7R]
 by_cases h:x∈l<;>simp[h]
noncomputable def b3m (CP CG:Addr):Sp:=fun vs H Q _=>∃(g d:Addr)(A:GA)(ns:List Str)(pk:List (List Ro))(lds:List (Str×List Int))(ah:Bool)(nums:List Int)(H0:Hp)(S:GP)(kd p:Str),vs=[.ref g,.str kd,.str p]/\a1A CP H0 g A ns d pk lds ah nums/\GoP CG H0 H g A nums S/\p∈pk.flatMap R6/\(p∉S.bg->S.wt.length+(B9 pk p).length<=990)/\S.bg.length<=900/\lds.length<=25/\(p∉S.bg->kd="ask" ->S.ld.length+(U8 p [] lds).length<=990/\S.tr.length+(U8 p [] lds).length<=990)/\∀H',R7 H H'->GoP CG H0 H' g A nums (a1T pk lds S (decide (kd="ask")) p)->Q .non H'
theorem F5(S:GP):∀xs:List Int,(U9 S xs).bg=S.bg/\(U9 S xs).wt=S.wt
 | []=>⟨rfl,rfl⟩
 | x::xs=>by
  have e:U9 S (x::xs)=U9 (D6 S x) xs:=rfl
  have h:=F5 (D6 S x) xs
  rw[e,h.1,h.2]
  unfold D6
  split<;>exact⟨rfl,rfl⟩
theorem b2H(T:Tc K mg CP CG):MCl P w K mg base 3 CG "enter" ["self","kind","part"] (b3m CP CG):=by
 have C_begin:=a8B (P:=P) (w:=w) (base:=base) T
 have C_load:=b0s (P:=P) (w:=w) (base:=base) T
 have C_loads_of:=a4K (P:=P) (w:=w) (base:=base) T
 refine MCl.of T.m_enter a5H (fun vs H Q E h=>?_) (fun _ _ _ _ _ _ us hl=>by obtain⟨a,b,c,rfl⟩:=a6v hl;rfl) (fun fa cdv A outer s H vs Q E hr h=>?_)
 ·obtain⟨g,d,A,ns,pk,lds,ah,nums,H0,S,kd,p,rfl,_⟩:=h
  rfl
 ·obtain⟨g,d,A,ns,pk,lds,ah,nums,H0,S,kd,p,rfl,hB,hG,hm,hwl,hbl,hll,hld,q⟩:=h
  have hu:=a0s hr
  obtain⟨dx,v,hg,_⟩:=hG.ob
  have wk:=hB.wk.same hG.sm
  obtain⟨dw,l,qs,hw,_⟩:=wk.ex
  refine⟨_,(G3 (R8 (M4 (a5X hu (pv 2) (Y1 (pv 0) rfl)))
    (G6 a4Z) J5)
   (G3 (R8 (J3 Y5 (pv 1) I9 (R4 _))
    (G6 (U1 (a1h C_load T.c_Going hr (pv 0) (G0 (a1h C_loads_of T.c_PacksWalk hr (Y1 (pv 0) rfl) (G0 (pv 2) G2)) G2)))) J5)
   (G6 (U1 (a1h C_begin T.c_Going hr (pv 0) (G0 (pv 2) G2)))))),?_⟩
  refine⟨_,rfl,_,rfl,g,CG,dx,_,_,rfl,hg,T.c_Going,T.nG_begun,a8a,A.b,_,rfl,O3.k (k:=Sum.inr p) hG.bg,_,rfl,?_⟩
  rw[a2u]
  unfold a1T at q
  by_cases hin:p∈S.bg
  ·rw[decide_eq_true hin]
   rw[if_pos hin]at q
   exact O7 (q H (fun _ _ e=>e) hG)
  ·rw[AM hin]
   rw[if_neg hin]at q
   refine Y4 ?_
   refine⟨_,rfl,rfl,_,rfl,a4n (fun hk=>?_) (fun hk=>?_)⟩
   ·have hk':kd="ask":=V.str.inj (of_decide_eq_true hk)
    obtain⟨hl1,hl2⟩:=hld hin hk'
    rw[if_pos (decide_eq_true hk')]at q
    refine⟨_,rfl,g,dx,_,rfl,hg,a7A,_,rfl,g,CG,dx,_,_,rfl,hg,T.c_Going,T.nG_walk,a2t,A.w,dw,_,rfl,hw,a7l.2.2.1,_,rfl,A.w,d,p,ns,pk,lds,ah,rfl,wk,hll,fun t H1 s1 ht=>?_⟩
    refine⟨g,t,d,A,ns,pk,lds,ah,nums,H0,S,_,rfl,hB,hG.same s1,ht,hl1,hl2,fun H2 T2 hG2=>?_⟩
    obtain⟨dx2,v2,hg2,_⟩:=hG2.ob
    obtain⟨b1,b2⟩:=F5 S (U8 p [] lds)
    exact⟨_,rfl,g,dx2,_,rfl,hg2,a5V,_,rfl,g,d,A,ns,pk,lds,ah,nums,H0,_,p,rfl,hB,hG2,hm,by rw[b2];exact hwl hin,by rw[b1];exact hbl,fun H3 T3 hG3=>q H3 ((s1.tups.trans T2).trans T3) hG3⟩
   ·have hk':¬kd="ask":=fun z=>hk (decide_eq_true (by rw[z]))
    rw[if_neg (by rw[AM hk'];exact AD)]at q
    exact⟨_,rfl,g,dx,_,rfl,hg,a5V,_,rfl,g,d,A,ns,pk,lds,ah,nums,H0,S,p,rfl,hB,hG,hm,hwl hin,hbl,q⟩
theorem a1X:∀{ts:List (Int×Th)}{k:Int}{d:Int×Th}{x:Str},d∈ts->d.2= .nam x->∃e∈U4 k ts,e.2=x
 | [],_,_,_,h,_=>by cases h
 | (sg,.num n)::r,k,d,x,h,e=>by
  rcases List.mem_cons.mp h with z | z
  ·rw[z]at e;cases e
  ·exact a1X (k:=k+2) z e
 | (sg,.nam y)::r,k,d,x,h,e=>by
  rcases List.mem_cons.mp h with z | z
  ·rw[z]at e
   cases e
   exact⟨(k,y),AQ,rfl⟩
  ·obtain⟨f,hf,ef⟩:=a1X (k:=k+2) z e
   exact⟨f,AO _ hf,ef⟩
theorem b6F{rw:Rw}{d:Int×Th}(h:d∈sgR rw){x:Str}(e:d.2= .nam x):∃f∈rdR rw,f.2=x:=by
 cases rw with
 | set o ts=>exact a1X h e
 | need ts=>exact a1X h e
 | say ts w=>
  cases w with
  | none=>exact a1X h e
  | some y=>
   obtain⟨f,hf,ef⟩:=a1X (k:=1) h e
   exact⟨f,AO _ hf,ef⟩
 | _=>cases h
theorem b6A{rw:Rw}(h:a8b rw):∀d∈sgR rw,d.1=1\/d.1= -1:=by
 cases rw with
 | set o ts=>exact h.2.sg
 | need ts=>exact h.sg
 | say ts w=>exact h.1.sg
 | _=>intro d hd;cases hd
noncomputable def b0m:Rw->Prop
 | .set _ _=>True
 | .take _=>True
 | .say _ _=>True
 | .need _=>True
 | _=>False
noncomputable def b1J (CP CG:Addr):Sp:=fun vs H Q _=>∃(g wh r d:Addr)(A:GA)(ns:List Str)(pk:List (List Ro))(lds:List (Str×List Int))(ah:Bool)(nums:List Int)(H0:Hp)(S:GP)(p:Str)(pl j:Nat)(rw:Rw),vs=[.ref g,.str p,.ref wh,.ref r]/\a1A CP H0 g A ns d pk lds ah nums/\GoP CG H0 H g A nums S/\H wh=some (.tup [.int (pl:Int),.int (j:Int)])/\a1M H r rw/\a8b rw/\b0m rw/\(∀d∈rdR rw,(lkP S.gv d.2).isSome=true)/\S.gv.length<=990/\S.tr.length<=990/\∀H',R7 H H'->GoP CG H0 H' g A nums (a0a nums S pl j rw)->Q .non H'
theorem a9S(T:Tc K mg CP CG):MCl P w K mg base 4 CG "do_work" ["self","part","where","row"] (b1J CP CG):=by
 have C_value_of:=a7V (P:=P) (w:=w) (base:=base) T
 have C_give:=b3r (P:=P) (w:=w) (base:=base) T
 have C_next_told:=a7P (P:=P) (w:=w) (base:=base) T
 refine MCl.of T.m_do_work a1g (fun vs H Q E h=>?_) (fun _ _ _ _ _ _ us hl=>by obtain⟨a,b,c,d,rfl⟩:=b0O hl;rfl) (fun fa cdv A outer s H vs Q E hr h=>?_)
 ·obtain⟨g,wh,r,d,A,ns,pk,lds,ah,nums,H0,S,p,pl,j,rw,rfl,_⟩:=h
  rfl
 ·obtain⟨g,wh,r,d,A,ns,pk,lds,ah,nums,H0,S,p,pl,j,rw,rfl,hB,hG,hwh,hra,hok,hwk,hrd,hgl,htl,q⟩:=h
  obtain⟨dx,v,hg,hft⟩:=hG.ob
  obtain⟨us,hus,hup⟩:=hG.tr
  have hul:us.length<=990:=by rw[AI hup];exact htl
  have hsg:=b6A hok
  have hnm:∀d∈sgR rw,∀x,d.2= .nam x->(lkP S.gv x).isSome=true:=fun d hd x e=>by
   obtain⟨e',he',ee⟩:=b6F hd e
   rw[<-ee]
   exact hrd e' he'
  refine⟨_,(G3 (J6 (i:=4) a1g.nd rfl (Or.inl rfl) (J0 J1 (pv 3) G5 (fun _ _=>rfl)))
   (G6 (R8 (J3 Y5 (pv 4) I9 (R4 _))
    (G6 (U1 (a1h C_give T.c_Going hr (pv 0) (G0 (pv 1) (G0 (J0 J1 (pv 3) G5 (fun _ _=>rfl)) (G0 (a1h C_value_of T.c_Going hr (pv 0) (G0 (pv 1) (G0 (J0 J1 (pv 3) G5 (fun _ _=>rfl)) G2))) G2)))))) (G6 (R8 (J3 Y5 (pv 4) I9 (R4 _))
     (G3 (J6 (i:=5) a1g.nd rfl (Or.inl rfl) (b4E C_next_told T.c_Going hr (pv 0)))
     (G3 (U1 (a1h C_give T.c_Going hr (pv 0) (G0 (pv 1) (G0 (J0 J1 (pv 3) G5 (fun _ _=>rfl)) (G0 (pv 5) G2)))))
     (G6 (U1 (D0 PySem.F.plainAttrs_list PySem.F.slot_list_append PySem.F.type_list_append W5 (Y1 (pv 0) rfl) (G0 (J4 a0r (R5 (G0 I9 (G0 (pv 5) G2))) (pv 2)) G2)))))) (G6 (R8 (J3 Y5 (pv 4) I9 (R4 _))
      (G6 (U1 (D0 PySem.F.plainAttrs_list PySem.F.slot_list_append PySem.F.type_list_append W5 (Y1 (pv 0) rfl) (G0 (J4 a0r (R5 (G0 I9 (G0 (a1h C_value_of T.c_Going hr (pv 0) (G0 (pv 1) (G0 (J0 J1 (pv 3) G5 (fun _ _=>rfl)) G2))) G2))) (pv 2)) G2)))) (G6 (R8 (PW.pt (a0T (J3 Y5 (pv 4) I9 (R4 _)) (M6 (J3 a9V (a1h C_value_of T.c_Going hr (pv 0) (G0 (pv 1) (G0 (J0 J1 (pv 3) G5 (fun _ _=>rfl)) G2))) G5 (R4 _)))))
       (G6 (a0Y (pv 0) (J4 a0r (J4 a0r (R5 (G0 I9 G2)) (pv 2)) (R5 (G0 G5 G2))) rfl)) J5))))))))),?_⟩
  cases rw with
  | set o ts=>
   obtain⟨t,hrt,hts⟩:=hra
   refine⟨_,rfl,r,_,_,_,rfl,rfl,SqT.of hrt,rfl,?_⟩
   refine⟨_,rfl,rfl,_,rfl,a0U ?_⟩
   refine⟨_,rfl,g,dx,_,rfl,hg,b0u,_,rfl,_,rfl,r,_,_,_,rfl,rfl,SqT.of hrt,rfl,?_⟩
   refine⟨_,rfl,g,dx,_,rfl,hg,a3c,_,rfl,_,rfl,r,_,_,_,rfl,rfl,SqT.of hrt,rfl,g,t,d,A,ns,pk,lds,ah,nums,H0,S,p,ts,rfl,hB,hG,hts,hsg,hnm,?_⟩
   exact⟨g,d,A,ns,pk,lds,ah,nums,H0,S,p,o,_,rfl,hB,hG,by omega,fun H2 f2 hG2=>q H2 f2 hG2⟩
  | take o=>
   have hrt:H r=some (.tup [.str "take",.str o]):=hra
   refine⟨_,rfl,r,_,_,_,rfl,rfl,SqT.of hrt,rfl,?_⟩
   refine⟨_,rfl,rfl,_,rfl,W3 (show¬("take":Str)="set" by decide +kernel) ?_⟩
   refine⟨_,rfl,rfl,_,rfl,a0U ?_⟩
   refine⟨_,rfl,g,dx,_,rfl,hg,a7N,g,d,A,ns,pk,lds,ah,nums,H0,S,rfl,hB,hG,fun H1 T1 hG1=>?_⟩
   obtain⟨dx1,v1,hg1,_⟩:=hG1.ob
   refine⟨_,rfl,g,dx1,_,rfl,hg1,b0u,_,rfl,_,rfl,r,_,_,_,rfl,rfl,SqT.of (T1 _ _ hrt),rfl,_,rfl,g,d,A,ns,pk,lds,ah,nums,H0,_,p,o,_,rfl,hB,hG1,by show S.gv.length<=1000;omega,fun H2 f2 hG2=>?_⟩
   have T2:=T1.trans f2
   obtain⟨dx2,v2,hg2,_⟩:=hG2.ob
   obtain⟨us2,hus2,hup2⟩:=hG2.tr
   have hul2:us2.length<=990:=by rw[AI hup2];exact htl
   refine⟨_,rfl,g,CG,dx2,_,_,rfl,hg2,T.c_Going,T.nG_trace,a3P,.inl ⟨rfl,_,SqL.of hus2⟩,_,rfl,a0p,fun t3 gt3=>?_⟩
   have s3:G8 H2 (upd H2 t3 (.tup [.str "take",.int (nums.getD S.tk 0)])):=(G8.refl H2).new gt3
   have ht3:upd H2 t3 (.tup [.str "take",.int (nums.getD S.tk 0)]) t3=some (.tup [.str "take",.int (nums.getD S.tk 0)]):=G1
   generalize upd H2 t3 (.tup [.str "take",.int (nums.getD S.tk 0)])=H3 at s3 ht3⊢
   refine⟨_,rfl,t3,wh,_,_,rfl,rfl,SqT.of ht3,SqT.of (s3 _ _ (T2 _ _ hwh)),(by show 4<=sizeLine;decide),(fun z=>by cases z),(fun _ z=>by cases z),fun _ _ t4 gt4=>?_⟩
   have s4:G8 H2 (upd H3 t4 (.tup ([.str "take",.int (nums.getD S.tk 0)]++[.int (pl:Int),.int (j:Int)]))):=s3.new gt4
   have ht4:upd H3 t4 (.tup ([.str "take",.int (nums.getD S.tk 0)]++[.int (pl:Int),.int (j:Int)])) t4=some (.tup ([.str "take",.int (nums.getD S.tk 0)]++[.int (pl:Int),.int (j:Int)])):=G1
   generalize upd H3 t4 (.tup ([.str "take",.int (nums.getD S.tk 0)]++[.int (pl:Int),.int (j:Int)]))=H4 at s4 ht4⊢
   have hG4:=hG2.same s4
   refine⟨A.tr,_,_,rfl,rfl,s4 _ _ hus2,J9 (by omega),?_⟩
   obtain⟨f5,hG5⟩:=hG4.pushTrace hB.ft (x:= .ev "take" (nums.getD S.tk 0) pl j) (s4 _ _ hus2) ⟨t4,rfl,ht4⟩
   exact q _ ((T2.trans s4.tups).trans f5) hG5
  | say ts wn=>
   obtain⟨t,hrt,hts⟩:=hra
   refine⟨_,rfl,r,_,_,_,rfl,rfl,SqT.of hrt,rfl,?_⟩
   refine⟨_,rfl,rfl,_,rfl,W3 (show¬("say":Str)="set" by decide +kernel) ?_⟩
   refine⟨_,rfl,rfl,_,rfl,W3 (show¬("say":Str)="take" by decide +kernel) ?_⟩
   refine⟨_,rfl,rfl,_,rfl,a0U ?_⟩
   refine⟨_,rfl,g,CG,dx,_,_,rfl,hg,T.c_Going,T.nG_trace,a3P,.inl ⟨rfl,_,SqL.of hus⟩,?_⟩
   refine⟨_,rfl,g,dx,_,rfl,hg,a3c,_,rfl,_,rfl,r,_,_,_,rfl,rfl,SqT.of hrt,rfl,g,t,d,A,ns,pk,lds,ah,nums,H0,S,p,ts,rfl,hB,hG,hts,hsg,hnm,?_⟩
   refine⟨a0p,fun t3 gt3=>?_⟩
   have s3:G8 H (upd H t3 (.tup [.str "say",.int (M3 S.gv ts)])):=(G8.refl H).new gt3
   have ht3:upd H t3 (.tup [.str "say",.int (M3 S.gv ts)]) t3=some (.tup [.str "say",.int (M3 S.gv ts)]):=G1
   generalize upd H t3 (.tup [.str "say",.int (M3 S.gv ts)])=H3 at s3 ht3⊢
   refine⟨_,rfl,t3,wh,_,_,rfl,rfl,SqT.of ht3,SqT.of (s3 _ _ hwh),(by show 4<=sizeLine;decide),(fun z=>by cases z),(fun _ z=>by cases z),fun _ _ t4 gt4=>?_⟩
   have s4:G8 H (upd H3 t4 (.tup ([.str "say",.int (M3 S.gv ts)]++[.int (pl:Int),.int (j:Int)]))):=s3.new gt4
   have ht4:upd H3 t4 (.tup ([.str "say",.int (M3 S.gv ts)]++[.int (pl:Int),.int (j:Int)])) t4=some (.tup ([.str "say",.int (M3 S.gv ts)]++[.int (pl:Int),.int (j:Int)])):=G1
   generalize upd H3 t4 (.tup ([.str "say",.int (M3 S.gv ts)]++[.int (pl:Int),.int (j:Int)]))=H4 at s4 ht4⊢
   have hG4:=hG.same s4
   refine⟨A.tr,_,_,rfl,rfl,s4 _ _ hus,J9 (by omega),?_⟩
   obtain⟨f5,hG5⟩:=hG4.pushTrace hB.ft (x:= .ev "say" (M3 S.gv ts) pl j) (s4 _ _ hus) ⟨t4,rfl,ht4⟩
   exact q _ (s4.tups.trans f5) hG5
  | need ts=>
   obtain⟨t,hrt,hts⟩:=hra
   refine⟨_,rfl,r,_,_,_,rfl,rfl,SqT.of hrt,rfl,?_⟩
   refine⟨_,rfl,rfl,_,rfl,W3 (show¬("need":Str)="set" by decide +kernel) ?_⟩
   refine⟨_,rfl,rfl,_,rfl,W3 (show¬("need":Str)="take" by decide +kernel) ?_⟩
   refine⟨_,rfl,rfl,_,rfl,W3 (show¬("need":Str)="say" by decide +kernel) ?_⟩
   refine⟨_,rfl,rfl,_,rfl,a0U ?_⟩
   refine⟨_,rfl,g,dx,_,rfl,hg,a3c,_,rfl,_,rfl,r,_,_,_,rfl,rfl,SqT.of hrt,rfl,g,t,d,A,ns,pk,lds,ah,nums,H0,S,p,ts,rfl,hB,hG,hts,hsg,hnm,?_⟩
   refine⟨_,_,rfl,rfl,_,rfl,a4n (fun c1=>?_) (fun c1=>?_)⟩
   ·have hle:M3 S.gv ts<=0:=by simpa using c1
    refine⟨a3Y,fun t3 gt3=>?_⟩
    have s3:G8 H (upd H t3 (.tup [.str "need"])):=(G8.refl H).new gt3
    have ht3:upd H t3 (.tup [.str "need"]) t3=some (.tup [.str "need"]):=G1
    generalize upd H t3 (.tup [.str "need"])=H3 at s3 ht3⊢
    refine⟨_,rfl,t3,wh,_,_,rfl,rfl,SqT.of ht3,SqT.of (s3 _ _ hwh),a7Q,(fun z=>by cases z),(fun _ z=>by cases z),fun _ _ t4 gt4=>?_⟩
    have s4:G8 H (upd H3 t4 (.tup ([.str "need"]++[.int (pl:Int),.int (j:Int)]))):=s3.new gt4
    have ht4:upd H3 t4 (.tup ([.str "need"]++[.int (pl:Int),.int (j:Int)])) t4=some (.tup ([.str "need"]++[.int (pl:Int),.int (j:Int)])):=G1
    generalize upd H3 t4 (.tup ([.str "need"]++[.int (pl:Int),.int (j:Int)]))=H4 at s4 ht4⊢
    refine⟨a3Y,fun t5 gt5=>?_⟩
    have s5:G8 H (upd H4 t5 (.tup [.int 0])):=s4.new gt5
    have ht5:upd H4 t5 (.tup [.int 0]) t5=some (.tup [.int 0]):=G1
    have ht45:=U3 (o:= .tup [.int 0]) ht4 gt5
    generalize upd H4 t5 (.tup [.int 0])=H5 at s5 ht5 ht45⊢
    refine⟨t4,t5,_,_,rfl,rfl,SqT.of ht45,SqT.of ht5,(by show 4<=sizeLine;decide),(fun z=>by cases z),(fun _ z=>by cases z),fun _ _ t6 gt6=>?_⟩
    have s6:G8 H (upd H5 t6 (.tup (([.str "need"]++[.int (pl:Int),.int (j:Int)])++[.int 0]))):=s5.new gt6
    have ht6:upd H5 t6 (.tup (([.str "need"]++[.int (pl:Int),.int (j:Int)])++[.int 0])) t6=some (.tup (([.str "need"]++[.int (pl:Int),.int (j:Int)])++[.int 0])):=G1
    generalize upd H5 t6 (.tup (([.str "need"]++[.int (pl:Int),.int (j:Int)])++[.int 0]))=H6 at s6 ht6⊢
    have hG6:=hG.same s6
    refine⟨_,rfl,g,CG,dx,_,rfl,s6 _ _ hg,T.c_Going,T.nG_fault,a9o,?_⟩
    rw[a7c]
    obtain⟨f7,hG7⟩:=hG6.setSelf hB.fg (dx:=dx) (tk:=S.tk) (v:= .ref t6) (ft:=some ("need",pl,j,0)) ⟨t6,rfl,ht6⟩ hG.tkl
    refine q _ (s6.tups.trans f7) ?_
    show GoP CG H0 _ g A nums (if M3 S.gv ts<=0 then{S with ft:=some ("need",pl,j,0)}else S)
    rw[if_pos hle]
    exact hG7
   ·have hle:¬M3 S.gv ts<=0:=by simpa using c1
    refine q H (fun _ _ e=>e) ?_
    show GoP CG H0 _ g A nums (if M3 S.gv ts<=0 then{S with ft:=some ("need",pl,j,0)}else S)
    rw[if_neg hle]
    exact hG
  | _=>exact hwk.elim
theorem b6x{c A B:Prop}[Decidable c](hc:¬c)(h:A):if(!decide c)=true then A else B:=by
 rw[if_pos (by simp[hc])]
 exact h
theorem b6P(k a b c:Str):inV (.str k) [.str a,.str b,.str c]=decide (k=a\/k=b\/k=c):=by
 have:=a1v k [a,b,c]
 simpa using this
theorem a8h{gv:List (Key×V)}{rw:Rw}(h:O2 gv rw=none):∀d∈rdR rw,(lkP gv d.2).isSome=true:=fun d hd=>by
 unfold O2 at h
 rw[Option.map_eq_none_iff,List.find?_eq_none]at h
 have:=h d hd
 cases e:(lkP gv d.2).isSome with
 | true=>rfl
 | false=>rw[e]at this;exact absurd rfl this
noncomputable def b7k (CP CG:Addr):Sp:=fun vs H Q _=>∃(g wh r d:Addr)(A:GA)(ns:List Str)(pk:List (List Ro))(lds:List (Str×List Int))(ah:Bool)(nums:List Int)(H0:Hp)(S:GP)(p:Str)(pl j:Nat)(rk:Rk),vs=[.ref g,.str p,.ref wh,.ref r]/\a1A CP H0 g A ns d pk lds ah nums/\GoP CG H0 H g A nums S/\H wh=some (.tup [.int (pl:Int),.int (j:Int)])/\a1M H r rk.w/\a8b rk.w/\wk6 rk.w=true/\(∀q,toR rk.w=some q->q∈pk.flatMap R6/\(q∉S.bg->S.wt.length+(B9 pk q).length<=990)/\(q∉S.bg->S.ld.length+(U8 q [] lds).length<=990/\S.tr.length+(U8 q [] lds).length<=990))/\S.bg.length<=900/\lds.length<=25/\S.gv.length<=990/\S.tr.length<=990/\∀H',R7 H H'->GoP CG H0 H' g A nums (a2I pk lds nums S (p,pl,j,rk))->Q .non H'
theorem b0R(T:Tc K mg CP CG):MCl P w K mg base 6 CG "do_row" ["self","part","where","row"] (b7k CP CG):=by
 have C_is_off:=b1g (P:=P) (w:=w) (base:=base) T
 have C_early_word:=a6j (P:=P) (w:=w) (base:=base) T
 have C_enter:=b2H (P:=P) (w:=w) (base:=base) T
 have C_do_work:=a9S (P:=P) (w:=w) (base:=base) T
 refine MCl.of T.m_do_row a2D (fun vs H Q E h=>?_) (fun _ _ _ _ _ _ us hl=>by obtain⟨a,b,c,d,rfl⟩:=b0O hl;rfl) (fun fa cdv A outer s H vs Q E0 hr h=>?_)
 ·obtain⟨g,wh,r,d,A,ns,pk,lds,ah,nums,H0,S,p,pl,j,rk,rfl,_⟩:=h
  rfl
 ·obtain⟨g,wh,r,d,A,ns,pk,lds,ah,nums,H0,S,p,pl,j,rk,rfl,hB,hG,hwh,hra,hok,hwk,htg,hbl,hll,hgl,htl,q⟩:=h
  obtain⟨rw,hrw⟩:∃rw,rw=rk.w:=⟨_,rfl⟩
  rw[<-hrw]at hra hok hwk htg
  obtain⟨dx,v,hg,hft⟩:=hG.ob
  obtain⟨x1,rest,hrt⟩:=hra.kind
  have z0:atI (V.str (Z0 rw)::x1::rest) 0=some (.str (Z0 rw)):=G9 (j:=0) rfl
  refine⟨_,(G3 (R8 (a0D (a1h C_is_off T.c_Going hr (pv 0) (G0 (pv 1) (G0 (pv 3) G2))))
    (G6 a4Z) J5)
   (G3 (J6 (i:=4) a2D.nd rfl (Or.inl rfl) (a1h C_early_word T.c_Going hr (pv 0) (G0 (pv 1) (G0 (pv 3) G2))))
   (G6 (R8 (M4 (a7h (pv 4)))
    (G6 (a0Y (pv 0) (J4 a0r (J4 a0r (R5 (G0 I9 G2)) (pv 2)) (R5 (G0 (pv 4) G2))) rfl)) (G6 (R8 (J3 a2i (J0 J1 (pv 3) G5 (fun _ _=>rfl)) (R5 (G0 I9 (G0 I9 (G0 I9 G2)))) (by with_unfolding_all rfl))
     (G6 (U1 (a1h C_enter T.c_Going hr (pv 0) (G0 (J0 J1 (pv 3) G5 (fun _ _=>rfl)) (G0 (J0 J1 (pv 3) G5 (fun _ _=>rfl)) G2))))) (G6 (U1 (a1h C_do_work T.c_Going hr (pv 0) (G0 (pv 1) (G0 (pv 2) (G0 (pv 3) G2)))))))))))),?_⟩
  refine⟨_,rfl,g,dx,_,rfl,hg,b0S,_,rfl,_,rfl,g,r,d,A,ns,pk,lds,ah,nums,H0,S,p,rw,rfl,hB,hG,hra,fun H1 s1=>?_⟩
  have hG1:=hG.same s1
  refine⟨_,rfl,?_⟩
  cases hoff:a1E S.gv rw with
  | true=>
   refine O7 ?_
   refine q H1 s1.tups ?_
   unfold a2I
   rw[if_pos (show a1E S.gv rk.w=true by rw[<-hrw];exact hoff)]
   exact hG1
  | false=>
   refine Y4 ?_
   refine⟨_,rfl,g,dx,_,rfl,s1 _ _ hg,a6i,_,rfl,_,rfl,g,r,d,A,ns,pk,lds,ah,nums,H0,S,p,rw,rfl,hB,hG1,hra.mono s1.tups,fun H2 s2=>?_⟩
   have s02:=s1.trans s2
   have hG2:=hG.same s02
   have hg2:=s02 _ _ hg
   cases he:O2 S.gv rw with
   | some wd=>
    refine⟨_,rfl,_,rfl,b6x (by intro z;cases z) ?_⟩
    refine⟨a3Y,fun t3 gt3=>?_⟩
    have s3:G8 H (upd H2 t3 (.tup [.str "early"])):=s02.new gt3
    have ht3:upd H2 t3 (.tup [.str "early"]) t3=some (.tup [.str "early"]):=G1
    generalize upd H2 t3 (.tup [.str "early"])=H3 at s3 ht3⊢
    refine⟨_,rfl,t3,wh,_,_,rfl,rfl,SqT.of ht3,SqT.of (s3 _ _ hwh),a7Q,(fun z=>by cases z),(fun _ z=>by cases z),fun _ _ t4 gt4=>?_⟩
    have s4:G8 H (upd H3 t4 (.tup ([.str "early"]++[.int (pl:Int),.int (j:Int)]))):=s3.new gt4
    have ht4:upd H3 t4 (.tup ([.str "early"]++[.int (pl:Int),.int (j:Int)])) t4=some (.tup ([.str "early"]++[.int (pl:Int),.int (j:Int)])):=G1
    generalize upd H3 t4 (.tup ([.str "early"]++[.int (pl:Int),.int (j:Int)]))=H4 at s4 ht4⊢
    refine⟨_,rfl,a3Y,fun t5 gt5=>?_⟩
    have s5:G8 H (upd H4 t5 (.tup [a6w (some wd)])):=s4.new gt5
    have ht5:upd H4 t5 (.tup [a6w (some wd)]) t5=some (.tup [a6w (some wd)]):=G1
    have ht45:=U3 (o:= .tup [a6w (some wd)]) ht4 gt5
    generalize upd H4 t5 (.tup [a6w (some wd)])=H5 at s5 ht5 ht45⊢
    refine⟨t4,t5,_,_,rfl,rfl,SqT.of ht45,SqT.of ht5,(by show 4<=sizeLine;decide),(fun z=>by cases z),(fun _ z=>by cases z),fun _ _ t6 gt6=>?_⟩
    have s6:G8 H (upd H5 t6 (.tup (([.str "early"]++[.int (pl:Int),.int (j:Int)])++[a6w (some wd)]))):=s5.new gt6
    have ht6:upd H5 t6 (.tup (([.str "early"]++[.int (pl:Int),.int (j:Int)])++[a6w (some wd)])) t6=some (.tup (([.str "early"]++[.int (pl:Int),.int (j:Int)])++[a6w (some wd)])):=G1
    generalize upd H5 t6 (.tup (([.str "early"]++[.int (pl:Int),.int (j:Int)])++[a6w (some wd)]))=H6 at s6 ht6⊢
    have hG6:=hG.same s6
    refine⟨_,rfl,g,CG,dx,_,rfl,s6 _ _ hg,T.c_Going,T.nG_fault,a9o,?_⟩
    rw[a7c]
    obtain⟨f7,hG7⟩:=hG6.setSelf hB.fg (dx:=dx) (tk:=S.tk) (v:= .ref t6) (ft:=some ("early",pl,j,wd)) ⟨t6,rfl,ht6⟩ hG.tkl
    refine q _ (s6.tups.trans f7) ?_
    have e7:a2I pk lds nums S (p,pl,j,rk)={S with ft:=some ("early",pl,j,wd)}:=by
     unfold a2I
     rw[if_neg (by rw[show a1E S.gv rk.w=false from hrw▸hoff];exact AD),show O2 S.gv rk.w=some wd from hrw▸he]
    rw[e7]
    exact hG7
   | none=>
    refine⟨_,rfl,_,rfl,b4G rfl ?_⟩
    have hrs:a2I pk lds nums S (p,pl,j,rk)=a3R pk lds nums S pl j rk.w:=by
     unfold a2I
     rw[if_neg (by rw[show a1E S.gv rk.w=false from hrw▸hoff];exact AD),show O2 S.gv rk.w=none from hrw▸he]
    refine⟨_,rfl,r,_,_,_,rfl,rfl,SqT.of (s02 _ _ hrt),z0,a7Q,fun t3 gt3=>?_⟩
    have s3:G8 H (upd H2 t3 (.tup [.str "bring",.str "do",.str "ask"])):=s02.new gt3
    have ht3:upd H2 t3 (.tup [.str "bring",.str "do",.str "ask"]) t3=some (.tup [.str "bring",.str "do",.str "ask"]):=G1
    generalize upd H2 t3 (.tup [.str "bring",.str "do",.str "ask"])=H3 at s3 ht3⊢
    refine⟨t3,_,rfl,.inr (SqT.of ht3),rfl,rfl,_,rfl,?_⟩
    rw[if_neg (by decide),b6P]
    have hG3:=hG.same s3
    have hg3:=s3 _ _ hg
    rw[<-hrw]at hrs
    have work:b0m rw->a3R pk lds nums S pl j rw=a0a nums S pl j rw->b1J CP CG [.ref g,.str p,.ref wh,.ref r] H3 Q E0:=fun hw e=>
     ⟨g,wh,r,d,A,ns,pk,lds,ah,nums,H0,S,p,pl,j,rw,rfl,hB,hG3,s3 _ _ hwh,hra.mono s3.tups,hok,hw,a8h he,hgl,htl,fun H4 f4 hG4=>q H4 (s3.tups.trans f4) (by rw[hrs,e];exact hG4)⟩
    clear hrw
    cases rw with
    | ask b wn=>
     have hrt':H r=some (.tup [.str "ask",.str b,a2H wn]):=hra
     obtain⟨m1,m2,m3⟩:=htg b rfl
     rw[decide_eq_true (show Z0 (Rw.ask b wn)="bring" \/Z0 (Rw.ask b wn)="do" \/Z0 (Rw.ask b wn)="ask" from .inr (.inr rfl))]
     refine O7 ?_
     exact⟨_,rfl,g,dx,_,rfl,hg3,a8e,_,rfl,r,_,_,_,rfl,rfl,SqT.of (s3 _ _ hrt'),rfl,_,rfl,r,_,_,_,rfl,rfl,SqT.of (s3 _ _ hrt'),rfl,g,d,A,ns,pk,lds,ah,nums,H0,S,"ask",b,rfl,hB,hG3,m1,m2,hbl,hll,fun z _=>m3 z,fun H4 f4 hG4=>q H4 (s3.tups.trans f4) (by rw[hrs];exact hG4)⟩
    | doo b=>
     have hrt':H r=some (.tup [.str "do",.str b]):=hra
     obtain⟨m1,m2,m3⟩:=htg b rfl
     rw[decide_eq_true (show Z0 (Rw.doo b)="bring" \/Z0 (Rw.doo b)="do" \/Z0 (Rw.doo b)="ask" from .inr (.inl rfl))]
     refine O7 ?_
     exact⟨_,rfl,g,dx,_,rfl,hg3,a8e,_,rfl,r,_,_,_,rfl,rfl,SqT.of (s3 _ _ hrt'),rfl,_,rfl,r,_,_,_,rfl,rfl,SqT.of (s3 _ _ hrt'),rfl,g,d,A,ns,pk,lds,ah,nums,H0,S,"do",b,rfl,hB,hG3,m1,m2,hbl,hll,fun z _=>m3 z,fun H4 f4 hG4=>q H4 (s3.tups.trans f4) (by rw[hrs];exact hG4)⟩
    | part b=>cases hwk
    | bring b ps=>cases hwk
    | give b ps=>cases hwk
    | _=>
     rw[AM (by simp only[Z0];decide +kernel)]
     refine Y4 ?_
     exact⟨_,rfl,g,dx,_,rfl,hg3,a9F,_,rfl,_,rfl,_,rfl,work trivial rfl⟩
noncomputable def a1d (pk:List (List Ro)) (bg:List Str):Nat:=((Y8 0 pk).filter fun x=>decide (x.1∉bg)).length
theorem a4F(bg:List Str){p:Str}(hp:p∉bg):∀l:List Tg,(l.filter fun x=>decide (x.1∉O4 bg p)).length+(l.filter fun x=>decide (x.1=p)).length=(l.filter fun x=>decide (x.1∉bg)).length
 | []=>rfl
 | a::l=>by
  have ih:=a4F bg hp l
  rw[List.filter_cons,List.filter_cons,List.filter_cons]
  by_cases ha:a.1=p
  ·rw[if_neg (by rw[ha,decide_eq_true_iff,E9];exact fun k=>k (.inr rfl)),if_pos (decide_eq_true ha),if_pos (by rw[ha];exact decide_eq_true hp)]
   simp only[List.length_cons]
   omega
  ·rw[if_neg (c:=decide (a.1=p)=true) (by rw[decide_eq_true_iff];exact ha)]
   by_cases hb:a.1∈bg
   ·rw[if_neg (by rw[decide_eq_true_iff,E9];exact fun k=>k (.inl hb)),if_neg (by rw[decide_eq_true_iff];exact fun k=>k hb)]
    exact ih
   ·rw[if_pos (by rw[decide_eq_true_iff,E9];exact fun k=>k.elim hb ha),if_pos (by rw[decide_eq_true_iff];exact hb)]
    simp only[List.length_cons]
    omega
theorem a2a(pk:List (List Ro)){bg:List Str}{p:Str}(hp:p∉bg):a1d pk (O4 bg p)+(B9 pk p).length=a1d pk bg:=a4F bg hp (Y8 0 pk)
noncomputable def muP (pk:List (List Ro)) (S:GP):Nat:=S.wt.length+a1d pk S.bg
structure PkR(pk:List (List Ro))(lds:List (Str×List Int)):Prop where
 pl:(pk.flatMap R6).length<=12
 ld:∀q∈lds,q.2.length<=12
 tg:∀x∈Y8 0 pk,∀q,toR x.2.2.2.w=some q->q∈pk.flatMap R6
structure a3J(pk:List (List Ro))(S:GP):Prop where
 wo:∀x∈S.wt,x∈Y8 0 pk
 gl:S.gv.length+muP pk S<=480
 tl:S.tr.length+muP pk S<=480+S.ld.length
 ll:S.ld.length<=312+12*S.bg.length
 bn:S.bg.Nodup
 bm:∀p∈S.bg,p∈pk.flatMap R6
theorem a0i{n:Str}:∀{lds:List (Str×List Int)}{a:List Int},(∀q∈lds,q.2.length<=12)->a.length<=12->(U8 n a lds).length<=12
 | [],a,_,h=>h
 | q::l,a,hq,h=>by
  have e:U8 n a (q::l)=U8 n (if q.1=n then q.2 else a) l:=rfl
  rw[e]
  refine a0i (fun x hx=>hq x (AO _ hx)) ?_
  split
  ·exact hq q AQ
  ·exact h
theorem Z3:∀(xs:List Int)(S:GP),(U9 S xs).gv=S.gv/\(U9 S xs).ft=S.ft/\(U9 S xs).tr.length+S.ld.length=S.tr.length+(U9 S xs).ld.length/\(U9 S xs).ld.length<=S.ld.length+xs.length
 | [],S=>⟨rfl,rfl,rfl,AE _⟩
 | x::xs,S=>by
  have e:U9 S (x::xs)=U9 (D6 S x) xs:=rfl
  obtain⟨h1,h2,h3,h4⟩:=Z3 xs (D6 S x)
  have k:(D6 S x).gv=S.gv/\(D6 S x).ft=S.ft/\(D6 S x).tr.length+S.ld.length=S.tr.length+(D6 S x).ld.length/\(D6 S x).ld.length<=S.ld.length+1:=by
   unfold D6
   split
   ·exact⟨rfl,rfl,rfl,by omega⟩
   ·refine⟨rfl,rfl,?_,?_⟩
    ·show(S.tr++[Td.load x]).length+S.ld.length=S.tr.length+(S.ld++[x]).length
     rw[List.length_append,List.length_append]
     simp only[List.length_cons,List.length_nil]
     omega
    ·show(S.ld++[x]).length<=S.ld.length+1
     rw[List.length_append]
     exact AE _
  obtain⟨k1,k2,k3,k4⟩:=k
  rw[e]
  refine⟨h1.trans k1,h2.trans k2,by omega,?_⟩
  rw[List.length_cons]
  omega
theorem a6F{pk:List (List Ro)}{lds:List (Str×List Int)}{S:GP}(hP:PkR pk lds)(h:a3J pk S){b:Str}(hb:b∈pk.flatMap R6)(asks:Bool):a3J pk (a1T pk lds S asks b)/\muP pk (a1T pk lds S asks b)=muP pk S:=by
 unfold a1T
 by_cases hin:b∈S.bg
 ·rw[if_pos hin]
  exact⟨h,rfl⟩
 ·rw[if_neg hin]
  obtain⟨S1,e1⟩:∃S1,S1=(if asks=true then U9 S (U8 b [] lds)else S):=⟨_,rfl⟩
  have k:S1.bg=S.bg/\S1.wt=S.wt/\S1.gv=S.gv/\S1.tr.length+S.ld.length=S.tr.length+S1.ld.length/\S1.ld.length<=S.ld.length+12:=by
   rw[e1]
   split
   ·obtain⟨b1,b2⟩:=F5 S (U8 b [] lds)
    obtain⟨h1,_,h3,h4⟩:=Z3 (U8 b [] lds) S
    have:=a0i (n:=b) (a:=[]) hP.ld (AZ _)
    exact⟨b1,b2,h1,h3,by omega⟩
   ·exact⟨rfl,rfl,rfl,rfl,by omega⟩
  rw[<-e1]
  clear e1
  obtain⟨k1,k2,k3,k4,k5⟩:=k
  have hl:=a2a pk hin
  have hadd:O4 S.bg b=S.bg++[b]:=by unfold O4;rw[if_neg hin]
  have hmu:muP pk (a1Y pk S1 b)=muP pk S:=by
   show(S1.wt++(B9 pk b).reverse).length+a1d pk (O4 S1.bg b)=S.wt.length+a1d pk S.bg
   rw[List.length_append,List.length_reverse,k1,k2]
   omega
  refine⟨⟨fun x hx=>?_,?_,?_,?_,?_,?_⟩,hmu⟩
  ·have hx':x∈S1.wt++(B9 pk b).reverse:=hx
   rcases AK.mp hx' with z | z
   ·rw[k2]at z;exact h.wo x z
   ·exact(List.mem_filter.mp (List.mem_reverse.mp z)).1
  ·rw[hmu];show S1.gv.length+_<=_;rw[k3];exact h.gl
  ·rw[hmu];have:=h.tl;show S1.tr.length+_<=480+S1.ld.length;omega
  ·show S1.ld.length<=312+12*(O4 S1.bg b).length
   rw[k1,hadd,List.length_append]
   have:=h.ll
   simp only[List.length_cons,List.length_nil]
   omega
  ·show(O4 S1.bg b).Nodup
   rw[k1,hadd]
   exact List.nodup_append.mpr ⟨h.bn,by simp,fun a ha c hc=>by rw[AC.mp hc];exact fun z=>hin (z▸ha)⟩
  ·show∀q∈O4 S1.bg b,_
   rw[k1,hadd]
   intro q hq
   rcases AK.mp hq with z | z
   ·exact h.bm q z
   ·rw[AC.mp z];exact hb
theorem a2R{κ:Type}[DecidableEq κ](kvs:List (κ×V))(k:κ)(v:V):(W2 kvs k v).length<=kvs.length+1:=by
 unfold W2
 split
 ·rw[List.length_map];omega
 ·rw[List.length_append];exact AE _
theorem b4o{pk:List (List Ro)}{lds:List (Str×List Int)}{nums:List Int}{S:GP}{W:List Tg}{x:Tg}(hP:PkR pk lds)(h:a3J pk S)(hw:S.wt=W++[x]):a3J pk (a2I pk lds nums {S with wt:=W} x)/\muP pk (a2I pk lds nums {S with wt:=W} x) < muP pk S:=by
 have hxm:=h.wo x (by rw[hw];simp)
 have hmu0:muP pk {S with wt:=W}+1=muP pk S:=by
  show W.length+a1d pk S.bg+1=S.wt.length+a1d pk S.bg
  rw[hw,List.length_append]
  simp only[List.length_cons,List.length_nil]
  omega
 have hgl:=h.gl
 have htl:=h.tl
 have h0:a3J pk {S with wt:=W}:=⟨fun y hy=>h.wo y (by rw[hw];exact BA _ hy),by show S.gv.length+muP pk {S with wt:=W}<=480;omega,by show S.tr.length+muP pk {S with wt:=W}<=480+S.ld.length;omega,h.ll,h.bn,h.bm⟩
 have keep:a3J pk {S with wt:=W}/\muP pk {S with wt:=W} < muP pk S:=⟨h0,by omega⟩
 unfold a2I
 split
 ·exact keep
 split
 ·exact⟨⟨h0.wo,h0.gl,h0.tl,h0.ll,h0.bn,h0.bm⟩,keep.2⟩
 unfold a3R
 split
 ·rename_i q hq
  obtain⟨k1,k2⟩:=a6F hP h0 (hP.tg x hxm q hq) (decide (kdR x.2.2.2.w="ask"))
  exact⟨k1,by omega⟩
 ·cases x.2.2.2.w with
  | set o ts=>
   refine⟨⟨h0.wo,?_,h0.tl,h0.ll,h0.bn,h0.bm⟩,keep.2⟩
   have:=a2R S.gv (Sum.inr o) (.int (M3 S.gv ts))
   show(W2 S.gv (Sum.inr o) (.int (M3 S.gv ts))).length+muP pk {S with wt:=W}<=480
   omega
  | take o=>
   refine⟨⟨h0.wo,?_,?_,h0.ll,h0.bn,h0.bm⟩,keep.2⟩
   ·have:=a2R S.gv (Sum.inr o) (.int (nums.getD S.tk 0))
    show(W2 S.gv (Sum.inr o) (.int (nums.getD S.tk 0))).length+muP pk {S with wt:=W}<=480
    omega
   ·show(S.tr++[_]).length+muP pk {S with wt:=W}<=480+S.ld.length
    rw[List.length_append]
    simp only[List.length_cons,List.length_nil]
    omega
  | say ts wn=>
   refine⟨⟨h0.wo,h0.gl,?_,h0.ll,h0.bn,h0.bm⟩,keep.2⟩
   show(S.tr++[_]).length+muP pk {S with wt:=W}<=480+S.ld.length
   rw[List.length_append]
   simp only[List.length_cons,List.length_nil]
   omega
  | need ts=>
   simp only[a0a]
   split
   ·exact⟨⟨h0.wo,h0.gl,h0.tl,h0.ll,h0.bn,h0.bm⟩,keep.2⟩
   ·exact keep
  | _=>exact keep
inductive O5 (pk:List (List Ro)) (lds:List (Str×List Int)) (nums:List Int):GP->GP->Prop where
 | refl (S:GP):O5 pk lds nums S S
 | step {S S':GP} {W:List Tg} {x:Tg}:S.ft=none->S.wt=W++[x]->O5 pk lds nums (a2I pk lds nums {S with wt:=W} x) S'->O5 pk lds nums S S'
theorem O5.trans{pk:List (List Ro)}{lds:List (Str×List Int)}{nums:List Int}{S S1 S2:GP}(h:O5 pk lds nums S S1)(k:O5 pk lds nums S1 S2):O5 pk lds nums S S2:=by
 induction h with
 | refl _=>exact k
 | step a b _ ih=>exact .step a b (ih k)
theorem O5.snoc{pk:List (List Ro)}{lds:List (Str×List Int)}{nums:List Int}{S S1:GP}{W:List Tg}{x:Tg}(h:O5 pk lds nums S S1)(a:S1.ft=none)(b:S1.wt=W++[x]):O5 pk lds nums S (a2I pk lds nums {S1 with wt:=W} x):=h.trans (.step a b (.refl _))
noncomputable def b5J (pk:List (List Ro)) (A:GA) (H:Hp):Nat:=(match H A.wt with | some (.lst vs)=>vs.length | _=>0)+(match H A.b with | some (.dK kvs)=>((Y8 0 pk).filter fun(x:Tg)=>!(Y3 kvs (Sum.inr x.1)).isSome).length | _=>0)
theorem a9Z{CG:Addr}{H0 H:Hp}{g:Addr}{A:GA}{nums:List Int}{S:GP}(pk:List (List Ro))(h:GoP CG H0 H g A nums S):b5J pk A H=muP pk S:=by
 obtain⟨vs,h1,h2⟩:=h.wt
 have hf:(Y8 0 pk).filter (fun(x:Tg)=>!(Y3 (D7 S.bg) (Sum.inr x.1)).isSome)=(Y8 0 pk).filter (fun x=>decide (x.1∉S.bg)):=List.filter_congr fun x _=>by
  rw[a2u]
  by_cases hx:x.1∈S.bg
  ·simp[hx]
  ·simp[hx]
 unfold b5J muP a1d
 rw[h1,h.bg]
 show vs.length+((Y8 0 pk).filter (fun(x:Tg)=>!(Y3 (D7 S.bg) (Sum.inr x.1)).isSome)).length=_
 rw[hf,AI h2]
theorem a4z{α β:Type}{F:α->β->Prop}:∀{us:List α}{y:α}{ws:List β},Paired F (us++[y]) ws->∃W x,ws=W++[x]/\Paired F us W/\F y x
 | [],y,_,.cons h .nil=>⟨[],_,rfl,.nil,h⟩
 | a::us,y,_,.cons h t=>by
  obtain⟨W,x,e,h1,h2⟩:=a4z (us:=us) t
  exact⟨_::W,x,by rw[e];rfl,.cons h h1,h2⟩
theorem b3n{α:Type}{l:List α}(h:l≠[]):(!l.isEmpty)=true:=by cases l with | nil=>exact absurd rfl h | cons _ _=>rfl
noncomputable def b4U (CP CG:Addr):Sp:=fun vs H Q _=>∃(g d:Addr)(A:GA)(ns:List Str)(pk:List (List Ro))(lds:List (Str×List Int))(ah:Bool)(nums:List Int)(H0:Hp)(S:GP),vs=[.ref g]/\a1A CP H0 g A ns d pk lds ah nums/\GoP CG H0 H g A nums S/\PkR pk lds/\lds.length<=25/\a3J pk S/\∀(S':GP)(H':Hp),R7 H H'->GoP CG H0 H' g A nums S'->O5 pk lds nums S S'->(S'.wt=[]\/S'.ft≠none)->Q .non H'
theorem b2h(T:Tc K mg CP CG):MCl P w K mg base 7 CG "go_on" ["self"] (b4U CP CG):=by
 have C_do_row:=b0R (P:=P) (w:=w) (base:=base) T
 refine MCl.of T.m_go_on a2N (fun vs H Q E h=>?_) (fun _ _ _ _ _ _ us hl=>by obtain⟨a,rfl⟩:=a5b hl;rfl) (fun fa cdv A outer s H vs Q E hr h=>?_)
 ·obtain⟨g,d,A,ns,pk,lds,ah,nums,H0,S,rfl,_⟩:=h
  rfl
 ·obtain⟨g,d,A,ns,pk,lds,ah,nums,H0,S,rfl,hB,hG,hP,hll,hO,q⟩:=h
  refine⟨_,(G6 (a5e AL (PW.pt (a0T (a5A (Y1 (pv 0) rfl) (fun _=>rfl)) (M6 (M4 (a3s (Y1 (pv 0) rfl))))))
    (G3 (J6 (i:=1) a2N.nd rfl (Or.inl rfl) (b2U PySem.F.plainAttrs_list PySem.F.slot_list_pop PySem.F.type_list_pop b1E (Y1 (pv 0) rfl)))
    (G6 (U1 (a1h C_do_row T.c_Going hr (pv 0) (G0 (J0 J1 (pv 1) G5 (fun _ _=>rfl)) (G0 (J0 J1 (pv 1) G5 (fun _ _=>rfl)) (G0 (J0 J1 (pv 1) G5 (fun _ _=>rfl)) G2))))))))),?_⟩
  refine a5B (fun σ H2=>∃(v1:Option V)(S2:GP),σ=[some (.ref g),v1]/\R7 H H2/\GoP CG H0 H2 g A nums S2/\a3J pk S2/\O5 pk lds nums S S2) (fun _ H2=>b5J pk A H2) ⟨none,S,rfl,fun _ _ e=>e,hG,hO,.refl S⟩ ?_ ?_
  ·rintro σ H2 ⟨v1,S2,rfl,f2,hG2,hO2,hst⟩
   obtain⟨dx,v,hg,hft⟩:=hG2.ob
   obtain⟨vs,hvs,hvp⟩:=hG2.wt
   refine⟨_,rfl,g,CG,dx,_,_,rfl,hg,T.c_Going,T.nG_waiting,a3v,_,.inl ⟨_,SqL.of hvs,rfl⟩,?_⟩
   cases hL:vs.getLast? with
   | none=>
    have hve:vs=[]:=List.getLast?_eq_none_iff.mp hL
    subst hve
    have hw0:S2.wt=[]:=List.length_eq_zero_iff.mp (by have:=AI hvp;simpa using this.symm)
    refine Y4 ?_
    show if false=true then _ else _
    refine Y4 ?_
    exact q S2 H2 f2 hG2 hst (.inl hw0)
   | some y=>
    obtain⟨us,hus⟩:=List.getLast?_eq_some_iff.mp hL
    have hne:vs≠[]:=by rw[hus];simp
    rw[b3n hne]
    refine O7 ?_
    refine⟨_,rfl,g,CG,dx,_,_,rfl,hg,T.c_Going,T.nG_fault,a8V,_,rfl,?_⟩
    cases hf:S2.ft with
    | some ff=>
     rw[hf]at hft
     obtain⟨tf,ev,_⟩:=hft
     subst ev
     refine b2Y (by intro z;cases z) ?_
     exact q S2 H2 f2 hG2 hst (.inr (by rw[hf];intro z;cases z))
    | none=>
     rw[hf]at hft
     have ev:v= .non:=hft
     subst ev
     refine b1w rfl ?_
     have hlast:vs[vs.length - 1]?=some y:=by rw[<-List.getLast?_eq_getElem?,hL]
     have hdl:vs.dropLast=us:=by rw[hus,List.dropLast_concat]
     obtain⟨W,⟨p,pl,j,rk⟩,hW,hWp,hy⟩:∃W x,S2.wt=W++[x]/\Paired (WtP H2) us W/\WtP H2 y x:=a4z (by rw[<-hus];exact hvp)
     obtain⟨t,wh,ey,ht,hwh⟩:=hy
     subst ey
     refine⟨_,rfl,g,CG,dx,_,_,rfl,hg,T.c_Going,T.nG_waiting,a3v,.inl ⟨rfl,_,SqL.of hvs⟩,A.wt,_,_,rfl,rfl,hvs,hlast,?_⟩
     rw[hdl]
     obtain⟨f3,hG3⟩:=hG2.setWait hB.fw hWp
     have hmu:=a9Z pk hG2
     generalize upd H2 A.wt (.lst us)=H3 at f3 hG3⊢
     obtain⟨dx3,v3,hg3,_⟩:=hG3.ob
     have hxm:=hO2.wo (p,pl,j,rk) (by rw[hW];simp)
     obtain⟨_,_,_,_,_,hbd,_⟩:=(hB.wk.same hG3.sm).ex
     obtain⟨_,_,_,_,_,hrow,hrok,hwk,_⟩:=hbd.rk _ hxm
     have hrk:=b4o (nums:=nums) hP hO2 hW
     have hlt:W.length+1=S2.wt.length:=by rw[hW,List.length_append];rfl
     have hgl:=hO2.gl
     have htl:=hO2.tl
     have hld:=hO2.ll
     have hbl:S2.bg.length<=12:=Nat.le_trans (a3j S2.bg (pk.flatMap R6) hO2.bn hO2.bm) hP.pl
     unfold muP at hgl htl
     refine⟨_,rfl,g,dx3,_,rfl,hg3,b1f,_,rfl,t,_,_,_,rfl,rfl,SqT.of (f3 _ _ ht),rfl,_,rfl,t,_,_,_,rfl,rfl,SqT.of (f3 _ _ ht),rfl,_,rfl,t,_,_,_,rfl,rfl,SqT.of (f3 _ _ ht),rfl,?_⟩
     refine⟨g,wh,rk.a,d,A,ns,pk,lds,ah,nums,H0,_,p,pl,j,rk,rfl,hB,hG3,f3 _ _ hwh,hrow,hrok,hwk,fun b hb=>?_,by show S2.bg.length<=900;omega,hll,by show S2.gv.length<=990;omega,by show S2.tr.length<=990;omega,fun H4 f4 hG4=>?_⟩
     ·have h12:=a0i (n:=b) (a:=[]) hP.ld (AZ _)
      refine⟨hP.tg _ hxm b hb,fun hb'=>?_,fun hb'=>?_⟩
      ·have:=a2a pk (bg:=S2.bg) (p:=b) hb'
       show W.length+_<=990
       omega
      ·show S2.ld.length+_<=990/\S2.tr.length+_<=990
       omega
     ·refine⟨⟨_,_,rfl,(f2.trans f3).trans f4,hG4,hrk.1,hst.snoc hf hW⟩,?_⟩
      rw[a9Z pk hG4,hmu]
      exact hrk.2
  ·rintro σ H2 Q1 Q2 hQ ⟨v,e,a,C,dx,fs,v',ex,h1,c1,n1,l1,b,hb,hq⟩
   refine⟨v,e,a,C,dx,fs,v',ex,h1,c1,n1,l1,b,hb,?_⟩
   cases b with
   | false=>exact Y4 (hQ _ _ (by simpa using hq))
   | true=>
    have hq':=hq
    rw[if_pos rfl]at hq'
    obtain⟨v,e,a,C,dx,fs,v',ex,h1,c1,n1,l1,b,hb,hq2⟩:=hq'
    exact O7 ⟨v,e,a,C,dx,fs,v',ex,h1,c1,n1,l1,b,hb,hQ _ _ hq2⟩
noncomputable def KpG (g:Addr) (H H':Hp):Prop:=∀a o,H a=some o->a≠g->H' a=some o
theorem KpG.refl(g:Addr)(H:Hp):KpG g H H:=fun _ _ e _=>e
theorem KpG.self{g:Addr}{H H':Hp}{o:HO}(k:KpG g H H'):KpG g H (upd H' g o):=fun a u e h=>by rw[G7 h];exact k a u e h
theorem KpG.new{g:Addr}{H H':Hp}{b:Addr}{o:HO}(k:KpG g H H')(hb:H' b=none):KpG g H (upd H' b o):=fun a u e h=>U3 (k a u e h) hb
theorem a0C(f:Str)(v:V):∀(fs:List (Str×V))(n:Nat),fs.length<=n->(U0 f v fs).length<=n+1
 | [],n,h=>by show 1<=n+1;omega
 | (g,x)::r,n,h=>by
  have h':r.length+1<=n:=h
  show(if g=f then(g,v)::r else(g,x)::U0 f v r).length<=n+1
  split
  ·show r.length+1<=n+1;omega
  ·have:=a0C f v r (n - 1) (by omega)
   show(U0 f v r).length+1<=n+1
   omega
theorem a3a{m n:Nat}(h:m<=n)(hn:n < 1000):m < 1000:=Nat.lt_of_le_of_lt h hn
theorem b6f(A:GA):U0 "fault" .non (U0 "trace" (.ref A.tr) (U0 "waiting" (.ref A.wt) (U0 "given" (.ref A.gv) (U0 "loaded" (.ref A.l) (U0 "begun" (.ref A.b) (U0 "taken" (.int 0) (U0 "numbers" (.ref A.n) (U0 "walk" (.ref A.w) []))))))))=gF A 0 .non:=by kernel_rfl
noncomputable def b2y (CG:Addr):Sp:=fun vs H Q _=>∃(g w n dx:Addr),vs=[.ref g,.ref w,.ref n]/\H g=some (.ins CG dx [])/\∀(A:GA)(H':Hp),A.w=w->A.n=n->KpG g H H'->(H A.b=none/\H A.l=none/\H A.gv=none/\H A.wt=none/\H A.tr=none)->(H' g=some (.ins CG dx (gF A 0 .non))/\H' A.b=some (.dK [])/\H' A.l=some (.dK [])/\H' A.gv=some (.dK [])/\H' A.wt=some (.lst [])/\H' A.tr=some (.lst []))->(A.wt≠A.tr/\A.b≠A.l/\A.b≠A.gv/\A.l≠A.gv)->Q .non H'
theorem b1r(T:Tc K mg CP CG):ICl P w K mg base 1 "Going" CG ["self","walk","numbers"] (b2y CG):=by
 refine ICl.of T.i_Going T.g_Going a3Q (fun vs H Q E h=>?_) (fun _ _ _ _ _ _ us hl=>by obtain⟨a,b,c,rfl⟩:=a6v hl;rfl) (fun fa cdv A outer s H vs Q E hr h=>?_)
 ·obtain⟨g,w,n,dx,rfl,_⟩:=h
  rfl
 ·obtain⟨g,w,n,dx,rfl,hg,q⟩:=h
  refine⟨_,(G3 (a0Y (pv 0) (pv 1) rfl)
   (G3 (a0Y (pv 0) (pv 2) rfl)
   (G3 (a0Y (pv 0) G5 rfl)
   (G3 (a0Y (pv 0) a0z rfl)
   (G3 (a0Y (pv 0) a0z rfl)
   (G3 (a0Y (pv 0) a0z rfl)
   (G3 (a0Y (pv 0) (Z2 G2) rfl)
   (G3 (a0Y (pv 0) (Z2 G2) rfl)
   (G6 (a0Y (pv 0) a3t rfl)))))))))),?_⟩
  refine⟨_,rfl,_,rfl,g,CG,dx,_,rfl,hg,T.c_Going,T.nG_walk,(by show 0 < 1000;decide),?_⟩
  refine⟨_,rfl,_,rfl,g,CG,dx,_,rfl,G1,T.c_Going,T.nG_numbers,a3a (a0C _ _ _ 0 (AE _)) (by decide),?_⟩
  refine⟨_,rfl,g,CG,dx,_,rfl,G1,T.c_Going,T.nG_taken,a3a (a0C _ _ _ 1 (a0C _ _ _ 0 (AE _))) (by decide),?_⟩
  have k3:KpG g H (upd (upd (upd H g (.ins CG dx (U0 "walk" (.ref w) []))) g (.ins CG dx (U0 "numbers" (.ref n) (U0 "walk" (.ref w) [])))) g (.ins CG dx (U0 "taken" (.int 0) (U0 "numbers" (.ref n) (U0 "walk" (.ref w) []))))):=((KpG.refl g H).self.self).self
  have g3:upd (upd (upd H g (.ins CG dx (U0 "walk" (.ref w) []))) g (.ins CG dx (U0 "numbers" (.ref n) (U0 "walk" (.ref w) [])))) g (.ins CG dx (U0 "taken" (.int 0) (U0 "numbers" (.ref n) (U0 "walk" (.ref w) [])))) g=some (.ins CG dx (U0 "taken" (.int 0) (U0 "numbers" (.ref n) (U0 "walk" (.ref w) [])))):=G1
  generalize upd (upd (upd H g (.ins CG dx (U0 "walk" (.ref w) []))) g (.ins CG dx (U0 "numbers" (.ref n) (U0 "walk" (.ref w) [])))) g (.ins CG dx (U0 "taken" (.int 0) (U0 "numbers" (.ref n) (U0 "walk" (.ref w) []))))=H3 at k3 g3⊢
  have l3:(U0 "taken" (.int 0) (U0 "numbers" (.ref n) (U0 "walk" (.ref w) []))).length<=3:=a0C _ _ _ 2 (a0C _ _ _ 1 (a0C _ _ _ 0 (AE _)))
  have fr:∀{H':Hp}{b:Addr},KpG g H H'->H' g≠none->H' b=none->H b=none:=fun{H' b}k hg' hb=>by
   cases e:H b with
   | none=>rfl
   | some o=>
    by_cases z:b=g
    ·subst z;exact absurd hb hg'
    ·rw[k b o e z]at hb;cases hb
  intro b gb
  have nb:g≠b:=R0 g3 gb
  have fb:=fr k3 (by rw[g3];intro z;cases z) gb
  refine⟨_,rfl,g,CG,dx,_,rfl,by rw[G7 nb];exact g3,T.c_Going,T.nG_begun,a3a l3 (by decide),?_⟩
  generalize hf3:U0 "taken" (.int 0) (U0 "numbers" (.ref n) (U0 "walk" (.ref w) []))=f3 at l3 g3⊢
  have l4:=a0C "begun" (.ref b) _ 3 l3
  have k4:=((k3.new (o:= .dK []) gb).self (o:= .ins CG dx (U0 "begun" (.ref b) f3)))
  have g4:=G1 (H:=upd H3 b (.dK [])) (a:=g) (o:= .ins CG dx (U0 "begun" (.ref b) f3))
  have b4:upd (upd H3 b (.dK [])) g (.ins CG dx (U0 "begun" (.ref b) f3)) b=some (.dK []):=by rw[G7 nb.symm,G1]
  generalize upd (upd H3 b (.dK [])) g (.ins CG dx (U0 "begun" (.ref b) f3))=H4 at k4 g4 b4⊢
  generalize hf4:U0 "begun" (.ref b) f3=f4 at l4 g4⊢
  intro l gl
  have nl:g≠l:=R0 g4 gl
  have fl:=fr k4 (by rw[g4];intro z;cases z) gl
  refine⟨_,rfl,g,CG,dx,_,rfl,by rw[G7 nl];exact g4,T.c_Going,T.nG_loaded,a3a l4 (by decide),?_⟩
  have l5:=a0C "loaded" (.ref l) _ 4 l4
  have nbl:b≠l:=R0 b4 gl
  have k5:=((k4.new (o:= .dK []) gl).self (o:= .ins CG dx (U0 "loaded" (.ref l) f4)))
  have g5:=G1 (H:=upd H4 l (.dK [])) (a:=g) (o:= .ins CG dx (U0 "loaded" (.ref l) f4))
  have b5:upd (upd H4 l (.dK [])) g (.ins CG dx (U0 "loaded" (.ref l) f4)) b=some (.dK []):=by rw[G7 nb.symm,G7 nbl];exact b4
  have c5:upd (upd H4 l (.dK [])) g (.ins CG dx (U0 "loaded" (.ref l) f4)) l=some (.dK []):=by rw[G7 nl.symm,G1]
  generalize upd (upd H4 l (.dK [])) g (.ins CG dx (U0 "loaded" (.ref l) f4))=H5 at k5 g5 b5 c5⊢
  generalize hf5:U0 "loaded" (.ref l) f4=f5 at l5 g5⊢
  intro v gv
  have nv:g≠v:=R0 g5 gv
  have fv:=fr k5 (by rw[g5];intro z;cases z) gv
  refine⟨_,rfl,g,CG,dx,_,rfl,by rw[G7 nv];exact g5,T.c_Going,T.nG_given,a3a l5 (by decide),?_⟩
  have l6:=a0C "given" (.ref v) _ 5 l5
  have nbv:b≠v:=R0 b5 gv
  have nlv:l≠v:=R0 c5 gv
  have k6:=((k5.new (o:= .dK []) gv).self (o:= .ins CG dx (U0 "given" (.ref v) f5)))
  have g6:=G1 (H:=upd H5 v (.dK [])) (a:=g) (o:= .ins CG dx (U0 "given" (.ref v) f5))
  have b6:upd (upd H5 v (.dK [])) g (.ins CG dx (U0 "given" (.ref v) f5)) b=some (.dK []):=by rw[G7 nb.symm,G7 nbv];exact b5
  have c6:upd (upd H5 v (.dK [])) g (.ins CG dx (U0 "given" (.ref v) f5)) l=some (.dK []):=by rw[G7 nl.symm,G7 nlv];exact c5
  have v6:upd (upd H5 v (.dK [])) g (.ins CG dx (U0 "given" (.ref v) f5)) v=some (.dK []):=by rw[G7 nv.symm,G1]
  generalize upd (upd H5 v (.dK [])) g (.ins CG dx (U0 "given" (.ref v) f5))=H6 at k6 g6 b6 c6 v6⊢
  generalize hf6:U0 "given" (.ref v) f5=f6 at l6 g6⊢
  refine⟨a1G,fun wt gw=>?_⟩
  have nw:g≠wt:=R0 g6 gw
  have fw:=fr k6 (by rw[g6];intro z;cases z) gw
  refine⟨_,rfl,g,CG,dx,_,rfl,by rw[G7 nw];exact g6,T.c_Going,T.nG_waiting,a3a l6 (by decide),?_⟩
  have l7:=a0C "waiting" (.ref wt) _ 6 l6
  have nbw:b≠wt:=R0 b6 gw
  have nlw:l≠wt:=R0 c6 gw
  have nvw:v≠wt:=R0 v6 gw
  have k7:=((k6.new (o:= .lst []) gw).self (o:= .ins CG dx (U0 "waiting" (.ref wt) f6)))
  have g7:=G1 (H:=upd H6 wt (.lst [])) (a:=g) (o:= .ins CG dx (U0 "waiting" (.ref wt) f6))
  have b7:upd (upd H6 wt (.lst [])) g (.ins CG dx (U0 "waiting" (.ref wt) f6)) b=some (.dK []):=by rw[G7 nb.symm,G7 nbw];exact b6
  have c7:upd (upd H6 wt (.lst [])) g (.ins CG dx (U0 "waiting" (.ref wt) f6)) l=some (.dK []):=by rw[G7 nl.symm,G7 nlw];exact c6
  have v7:upd (upd H6 wt (.lst [])) g (.ins CG dx (U0 "waiting" (.ref wt) f6)) v=some (.dK []):=by rw[G7 nv.symm,G7 nvw];exact v6
  have w7:upd (upd H6 wt (.lst [])) g (.ins CG dx (U0 "waiting" (.ref wt) f6)) wt=some (.lst []):=by rw[G7 nw.symm,G1]
  generalize upd (upd H6 wt (.lst [])) g (.ins CG dx (U0 "waiting" (.ref wt) f6))=H7 at k7 g7 b7 c7 v7 w7⊢
  generalize hf7:U0 "waiting" (.ref wt) f6=f7 at l7 g7⊢
  refine⟨a1G,fun tr gt=>?_⟩
  have nt':g≠tr:=R0 g7 gt
  have ft:=fr k7 (by rw[g7];intro z;cases z) gt
  refine⟨_,rfl,g,CG,dx,_,rfl,by rw[G7 nt'];exact g7,T.c_Going,T.nG_trace,a3a l7 (by decide),?_⟩
  have l8:=a0C "trace" (.ref tr) _ 7 l7
  refine⟨_,rfl,g,CG,dx,_,rfl,G1,T.c_Going,T.nG_fault,a3a l8 (by decide),?_⟩
  have nbt:b≠tr:=R0 b7 gt
  have nlt:l≠tr:=R0 c7 gt
  have nvt:v≠tr:=R0 v7 gt
  have nwt:wt≠tr:=R0 w7 gt
  have hfin:U0 "fault" .non (U0 "trace" (.ref tr) f7)=gF ⟨w,n,b,l,v,wt,tr⟩ 0 .non:=by
   rw[<-hf7,<-hf6,<-hf5,<-hf4,<-hf3]
   exact b6f ⟨w,n,b,l,v,wt,tr⟩
  have k9:=((k7.new (o:= .lst []) gt).self (o:= .ins CG dx (U0 "trace" (.ref tr) f7))).self (o:= .ins CG dx (U0 "fault" .non (U0 "trace" (.ref tr) f7)))
  have g9:=G1 (H:=upd (upd H7 tr (.lst [])) g (.ins CG dx (U0 "trace" (.ref tr) f7))) (a:=g) (o:= .ins CG dx (U0 "fault" .non (U0 "trace" (.ref tr) f7)))
  have at9:∀{a:Addr}{o:HO},a≠g->a≠tr->H7 a=some o->upd (upd (upd H7 tr (.lst [])) g (.ins CG dx (U0 "trace" (.ref tr) f7))) g (.ins CG dx (U0 "fault" .non (U0 "trace" (.ref tr) f7))) a=some o:=fun{a o}h1 h2 e=>by rw[G7 h1,G7 h1,G7 h2];exact e
  have b9:=at9 nb.symm nbt b7
  have c9:=at9 nl.symm nlt c7
  have v9:=at9 nv.symm nvt v7
  have w9:=at9 nw.symm nwt w7
  have t9:upd (upd (upd H7 tr (.lst [])) g (.ins CG dx (U0 "trace" (.ref tr) f7))) g (.ins CG dx (U0 "fault" .non (U0 "trace" (.ref tr) f7))) tr=some (.lst []):=by rw[G7 nt'.symm,G7 nt'.symm,G1]
  generalize upd (upd (upd H7 tr (.lst [])) g (.ins CG dx (U0 "trace" (.ref tr) f7))) g (.ins CG dx (U0 "fault" .non (U0 "trace" (.ref tr) f7)))=H9 at k9 g9 b9 c9 v9 w9 t9⊢
  rw[hfin]at g9
  exact q ⟨w,n,b,l,v,wt,tr⟩ H9 rfl rfl k9 ⟨fb,fl,fv,fw,ft⟩ ⟨g9,b9,c9,v9,w9,t9⟩ ⟨nwt,nbl,nbv,nlv⟩
noncomputable def s0P:GP:=⟨0,[],[],[],[],[],none⟩
noncomputable def b7q (CP CG:Addr):Sp:=fun vs H Q _=>∃(w n d:Addr)(ns:List Str)(bs:List (List Rk))(pk:List (List Ro))(lds:List (Str×List Int))(ah:Bool)(nums:List Int)(root:Str),vs=[.ref w,.str root,.ref n]/\Wk CP ns H w d pk lds ah/\H n=some (.tup (nums.map V.int))/\b0H ns bs pk/\PkR pk lds/\ns.length<=12/\root∈ns/\root∈pk.flatMap R6/\lds.length<=25/\(Y8 0 pk).length<=480/\
 ∀(p t:Addr)(vs:List V)(v:V)(xs:List Int)(S':GP)(H':Hp),But d H H'->Wk CP ns H' w d pk lds ah->H' p=some (.tup [.ref t,v])->H' t=some (.tup vs)->Paired (TdP H') vs S'.tr->FtP H' v S'.ft->(ah=false->xs=[])->(ah=true->∃p:Str->Bool,(∀n,p n=true↔Rch (fun a b=>b∈gTo (Y8 0 pk) a) [root] n)/\xs=Y7 p lds)->O5 pk lds nums (a1Y pk (U9 (U9 s0P (U8 root [] lds)) xs) root) S'->(S'.wt=[]\/S'.ft≠none)->Q (.ref p) H'
theorem a1A.rebase{CP CG:Addr}{H0 H H':Hp}{g:Addr}{A:GA}{ns:List Str}{d:Addr}{pk:List (List Ro)}{lds:List (Str×List Int)}{ah:Bool}{nums:List Int}{S:GP}(hB:a1A CP H0 g A ns d pk lds ah nums)(hG:GoP CG H0 H g A nums S)(b:But d H H')(r:∀kvs,Rd H d (.dK kvs)->Rd H' d (.dK kvs)):∃H1,But d H0 H1/\a1A CP H1 g A ns d pk lds ah nums/\GoP CG H1 H' g A nums S:=by
 obtain⟨dw,l,qs,hw,hlf,hbd,hqs⟩:=hB.wk.ex
 have r1:=r _ (Rd.same hG.sm hbd.hd)
 obtain⟨o,ho,hro⟩:∃o,H' d=some o/\∀X:Hp,X d=some o->Rd X d (.dK (bkv qs)):=by
  rcases r1 with h | ⟨ob,h⟩
  ·exact⟨_,h,fun X e=> .inl e⟩
  ·exact⟨_,h,fun X e=> .inr ⟨ob,e⟩⟩
 have hd0:∀{a:Addr},H0 a=none->a≠d:=fun{a}h z=>by
  rcases hbd.hd with e | ⟨ob,e⟩<;>rw[<-z,h]at e<;>cases e
 have b0:But d H0 (upd H0 d o):=fun a x ha e=>by rw[G7 ha];exact e
 have T:R7 H H':=fun a xs e=>b a _ (fun z=>by
  rcases Rd.same hG.sm hbd.hd with k | ⟨ob,k⟩<;>rw[<-z,e]at k<;>cases k) e
 have nd:∀{a:Addr}{x:HO},H a=some x->H0 a=none->H' a=some x:=fun{a x}e h=>b a x (hd0 h) e
 refine⟨upd H0 d o,b0,⟨by rw[G7 (hd0 hB.fg)];exact hB.fg,by rw[G7 (hd0 hB.fb)];exact hB.fb,by rw[G7 (hd0 hB.fl)];exact hB.fl,by rw[G7 (hd0 hB.fv)];exact hB.fv,by rw[G7 (hd0 hB.fw)];exact hB.fw,by rw[G7 (hd0 hB.ft)];exact hB.ft,b0 _ _ (b0o hbd.hd hB.nm (.inl ⟨_,rfl⟩)) hB.nm,⟨dw,l,qs,b0 _ _ (fun z=>by rcases hbd.hd with k | ⟨ob,k⟩<;>rw[<-z,hw]at k<;>cases k) hw,hlf.keep fun a x e hx=>b0 a x (b0o hbd.hd e hx) e,hbd.but b0 (hro _ G1),hqs⟩⟩,?_⟩
 obtain⟨dx,v,h1,h2⟩:=hG.ob
 obtain⟨vs,h3,h4⟩:=hG.wt
 obtain⟨us,h5,h6⟩:=hG.tr
 refine⟨⟨dx,v,nd h1 hB.fg,h2.mono T⟩,fun a x e=>?_,nd hG.bg hB.fb,nd hG.ld hB.fl,nd hG.gv hB.fv,⟨vs,nd h3 hB.fw,Paired.mapP h4 fun _ _ z=>z.mono T⟩,⟨us,nd h5 hB.ft,Paired.mapP h6 fun _ _ z=>z.mono T⟩,hG.n1,hG.n2,hG.n3,hG.n4,hG.gi,hG.tkl⟩
 by_cases ha:a=d
 ·rw[ha,G1]at e
  rw[ha,ho]
  exact e
 ·rw[G7 ha]at e
  exact b a x ha (hG.sm a x e)
theorem a7K(pk:List (List Ro))(bg:List Str):a1d pk bg<=(Y8 0 pk).length:=BC _ _
theorem a4k{p:Str->Bool}{lds:List (Str×List Int)}(h:∀q∈lds,q.2.length<=12)(hl:lds.length<=25):(Y7 p lds).length<=300:=by
 have:=a3u (p:=p) h
 omega
theorem b4I(T:Tc K mg CP CG):MCl P w K mg base 8 CP "go" ["self","root","numbers"] (b7q CP CG):=by
 have C_Going:=b1r (P:=P) (w:=w) (base:=base) T
 have C_load:=b0s (P:=P) (w:=w) (base:=base) T
 have C_loads_of:=a4K (P:=P) (w:=w) (base:=base) T
 have C_ahead_of:=a8H (P:=P) (w:=w) (base:=base) T
 have C_begin:=a8B (P:=P) (w:=w) (base:=base) T
 have C_go_on:=b2h (P:=P) (w:=w) (base:=base) T
 refine MCl.of T.m_go a5f (fun vs H Q E h=>?_) (fun _ _ _ _ _ _ us hl=>by obtain⟨a,b,c,rfl⟩:=a6v hl;rfl) (fun fa cdv A outer s H vs Q E hr h=>?_)
 ·obtain⟨w,n,d,ns,bs,pk,lds,ah,nums,root,rfl,_⟩:=h
  rfl
 ·obtain⟨w,n,d,ns,bs,pk,lds,ah,nums,root,rfl,hw,hn,pko,hP,hn12,hroot,hrp,hll,htl,q⟩:=h
  refine⟨_,(G3 (J6 (i:=3) a5f.nd rfl (Or.inl rfl) (b6J C_Going hr (by rfl) (G0 (pv 0) (G0 (pv 2) G2))))
   (G3 (U1 (a1h C_load T.c_Going hr (pv 3) (G0 (a1h C_loads_of T.c_PacksWalk hr (pv 0) (G0 (pv 1) G2)) G2)))
   (G3 (U1 (a1h C_load T.c_Going hr (pv 3) (G0 (a1h C_ahead_of T.c_PacksWalk hr (pv 0) (G0 (pv 1) G2)) G2)))
   (G3 (U1 (a1h C_begin T.c_Going hr (pv 3) (G0 (pv 1) G2)))
   (G3 (U1 (b4E C_go_on T.c_Going hr (pv 3)))
   (G6 (R3 (R5 (G0 (Y0 W8 (by rfl) T.n_tuple boot_tuple (G0 (Y1 (pv 3) rfl) G2)) (G0 (Y1 (pv 3) rfl) G2)))))))))),?_⟩
  refine⟨_,rfl,_,rfl,fun g dx ng ndx ne=>?_⟩
  have sA:G8 H (upd (upd H dx (.own g)) g (.ins CG dx [])):=fun b o e=>by
   rw[G7 (R0 e ng),G7 (R0 e ndx)]
   exact e
  have hgA:upd (upd H dx (.own g)) g (.ins CG dx []) g=some (.ins CG dx []):=G1
  generalize upd (upd H dx (.own g)) g (.ins CG dx [])=HA at sA hgA⊢
  refine⟨g,w,n,dx,rfl,hgA,fun A H1 ew en kA fA hA nA=>⟨rfl,?_⟩⟩
  obtain⟨fb,fl,fv,fw,ft⟩:=fA
  obtain⟨g1,b1,c1,v1,w1,t1⟩:=hA
  obtain⟨n1,n2,n3,n4⟩:=nA
  have s1:G8 H H1:=fun b o e=>kA b o (sA b o e) (R0 e ng)
  have hB:a1A CP H g A ns d pk lds ah nums:=⟨ng,sA.free fb,sA.free fl,sA.free fv,sA.free fw,sA.free ft,by rw[en];exact hn,by rw[ew];exact hw⟩
  have hG1:GoP CG H H1 g A nums s0P:=⟨⟨dx,.non,g1,rfl⟩,s1,b1,c1,v1,⟨[],w1,.nil⟩,⟨[],t1,.nil⟩,n1,n2,n3,n4,fun k x e=>by simp[Y3,s0P]at e,AZ _⟩
  have wk1:=hw.same s1
  obtain⟨dw,l,qs,hw1,_⟩:=wk1.ex
  have h12:=a0i (n:=root) (a:=[]) hP.ld (AZ _)
  refine⟨_,rfl,g,dx,_,rfl,g1,a7A,_,rfl,w,dw,_,rfl,hw1,a7l.2.2.1,_,rfl,w,d,root,ns,pk,lds,ah,rfl,wk1,hll,fun t2 H2 s2 ht2=>?_⟩
  refine⟨g,t2,d,A,ns,pk,lds,ah,nums,H,s0P,_,rfl,hB,hG1.same s2,ht2,by show 0+_<=990;omega,by show 0+_<=990;omega,fun H3 T3 hG3=>?_⟩
  have wk3:=hw.same hG3.sm
  obtain⟨dw3,l3,qs3,hw3,_⟩:=wk3.ex
  obtain⟨dx3,v3,hg3,_⟩:=hG3.ob
  refine⟨_,rfl,g,dx3,_,rfl,hg3,a7A,_,rfl,w,dw3,_,rfl,hw3,a7l.2.2.2,_,rfl,w,d,root,ns,bs,pk,lds,ah,rfl,wk3,pko,hn12,hroot,hll,hP.ld,htl,fun t4 xs H4 b4 r4 wk4 ht4 hx0 hx1=>?_⟩
  obtain⟨HB,bB,hB4,hG4⟩:=hB.rebase hG3 b4 r4
  have hx300:xs.length<=300:=by
   cases ah with
   | false=>rw[hx0 rfl];exact AZ _
   | true=>
    obtain⟨p,_,e⟩:=hx1 rfl
    rw[e]
    exact a4k hP.ld hll
  obtain⟨i1,i2,i3,i4⟩:=Z3 (U8 root [] lds) s0P
  obtain⟨j1,j2⟩:=F5 s0P (U8 root [] lds)
  obtain⟨S2,eS2⟩:∃S2,S2=U9 s0P (U8 root [] lds):=⟨_,rfl⟩
  rw[<-eS2]at hG4 i1 i2 i3 i4 j1 j2 q
  have i3':S2.tr.length+0=0+S2.ld.length:=i3
  have i4':S2.ld.length<=0+(U8 root [] lds).length:=i4
  obtain⟨dx4,v4,hg4,_⟩:=hG4.ob
  refine⟨g,t4,d,A,ns,pk,lds,ah,nums,HB,S2,xs,rfl,hB4,hG4,ht4,by omega,by omega,fun H5 T5 hG5=>?_⟩
  obtain⟨k1,k2,k3,k4⟩:=Z3 xs S2
  obtain⟨m1,m2⟩:=F5 S2 xs
  obtain⟨S3,eS3⟩:∃S3,S3=U9 S2 xs:=⟨_,rfl⟩
  rw[<-eS3]at hG5 k1 k2 k3 k4 m1 m2
  have e1:S3.bg=[]:=m1.trans j1
  have e2:S3.wt=[]:=m2.trans j2
  have e3:S3.gv=[]:=k1.trans i1
  have hl:=a2a pk (bg:=[]) (p:=root) (by simp)
  have hle:=a7K pk []
  obtain⟨dx5,v5,hg5,_⟩:=hG5.ob
  refine⟨_,rfl,g,dx5,_,rfl,hg5,a5V,_,rfl,g,d,A,ns,pk,lds,ah,nums,HB,S3,root,rfl,hB4,hG5,hrp,by rw[e2];show 0+_<=990;omega,by rw[e1];exact AZ _,fun H6 T6 hG6=>?_⟩
  have hO3:a3J pk S3:=⟨fun x hx=>(by rw[e2]at hx;cases hx),by unfold muP;rw[e1,e2,e3];show 0+(0+_)<=480;omega,by unfold muP;rw[e1,e2];show _+(0+_)<=_;omega,by omega,by rw[e1];exact List.nodup_nil,fun p hp=>(by rw[e1]at hp;cases hp)⟩
  have eE:a1T pk lds S3 false root=a1Y pk S3 root:=by
   unfold a1T
   rw[if_neg (by rw[e1];exact List.not_mem_nil),if_neg AD]
  have hO6:=(a6F hP hO3 hrp false).1
  rw[eE]at hO6
  obtain⟨dx6,v6,hg6,_⟩:=hG6.ob
  refine⟨_,rfl,g,dx6,_,rfl,hg6,b2R,g,d,A,ns,pk,lds,ah,nums,HB,_,rfl,hB4,hG6,hP,hll,hO6,fun S' H7 T7 hG7 hst hend=>?_⟩
  obtain⟨dx7,v7,hg7,hft7⟩:=hG7.ob
  obtain⟨us,hus,hup⟩:=hG7.tr
  refine⟨_,rfl,g,CG,dx7,_,_,rfl,hg7,T.c_Going,T.nG_trace,a3P,A.tr,_,rfl,.inl ⟨SqL.of hus,fun t gt=>?_⟩⟩
  have s8:G8 H7 (upd H7 t (.tup us)):=(G8.refl H7).new gt
  have ht8:upd H7 t (.tup us) t=some (.tup us):=G1
  generalize upd H7 t (.tup us)=H8 at s8 ht8⊢
  refine⟨_,rfl,g,CG,dx7,_,_,rfl,s8 _ _ hg7,T.c_Going,T.nG_fault,a8V,a0p,fun p gp=>?_⟩
  have s9:G8 H7 (upd H8 p (.tup [.ref t,v7])):=s8.new gp
  have wk9:=hB4.wk.same (hG7.sm.trans s9)
  rw[ew]at wk9
  rw[eS3]at hst
  exact q p t us v7 xs S' _ (fun a o ha e=>(hG7.sm.trans s9) a o (bB a o ha e)) wk9 G1 (U3 ht8 gp) (Paired.mapP hup fun _ _ z=>z.mono s9.tups) (hft7.mono s9.tups) hx0 hx1 hst hend
theorem a7X{bg:List Str}{p:Str}(hp:p∉bg):O4 bg p=bg++[p]:=by unfold O4;rw[if_neg hp]
noncomputable def a0F (ps:List Str) (bg:List Str):Nat:=(ps.filter fun x=>decide (x∉bg)).length
theorem a3A{ps:List Str}{bg bg':List Str}(h:∀x∈bg,x∈bg'):a0F ps bg'<=a0F ps bg:=by
 unfold a0F
 induction ps with
 | nil=>exact AE _
 | cons a l ih=>
  rw[List.filter_cons,List.filter_cons]
  by_cases h1:a∈bg
  ·rw[if_neg (by simp[h _ h1]),if_neg (by simp[h1])];exact ih
  ·rw[if_pos (c:=decide (a∉bg)=true) (by simp[h1])]
   split
   ·simp only[List.length_cons];omega
   ·simp only[List.length_cons];omega
theorem a1m{ps:List Str}{bg:List Str}{p:Str}(h:p∈ps)(hp:p∉bg):a0F ps (O4 bg p)+1<=a0F ps bg:=by
 rw[a7X hp]
 have sub:∀l:List Str,a0F l (bg++[p])<=a0F l bg:=fun l=>a3A fun x hx=>BA _ hx
 unfold a0F at sub⊢
 induction ps with
 | nil=>simp at h
 | cons a l ih=>
  rw[List.filter_cons,List.filter_cons]
  by_cases ha:a=p
  ·rw[if_neg (by simp[ha]),if_pos (by rw[ha];simp[hp])]
   have:=sub l
   simp only[List.length_cons];omega
  ·have hl:p∈l:=by
    rcases List.mem_cons.mp h with z | z
    ·exact absurd z.symm ha
    ·exact z
   have ih':=ih hl
   by_cases h1:a∈bg
   ·rw[if_neg (by simp[h1]),if_neg (by simp[h1])];exact ih'
   ·rw[if_pos (by simp[h1,ha]),if_pos (by simp[h1])]
    simp only[List.length_cons];omega
theorem a7e(ps:List Str)(bg:List Str):a0F ps bg<=ps.length:=BC _ _
noncomputable def a2c (lds:List (Str×List Int)) (S:GP) (asks:Bool) (q:Str):GP:=if asks=true then U9 S (U8 q [] lds)else S
noncomputable def a0b (rw:Rw):Bool:=decide (kdR rw="ask")
noncomputable def E7 (lds:List (Str×List Int)) (nums:List Int) (go:Str->GP->GP) (S:GP) (x:Tg):GP:=
 if S.ft≠none then S else if a1E S.gv x.2.2.2.w=true then S else match O2 S.gv x.2.2.2.w with
  | some w=>{S with ft:=some ("early",x.2.1,x.2.2.1,w)}
  | none=>match toR x.2.2.2.w with
   | some q=>if q∈S.bg then S else go q (a2c lds S (a0b x.2.2.2.w) q)
   | none=>a0a nums S x.2.1 x.2.2.1 x.2.2.2.w
noncomputable def a0u (pk:List (List Ro)) (lds:List (Str×List Int)) (nums:List Int):Nat->Str->GP->GP
 | 0,_,S=>S
 | d+1,p,S=>(B9 pk p).foldl (E7 lds nums (a0u pk lds nums d)) {S with bg:=O4 S.bg p}
section
variable{pk:List (List Ro)}{lds:List (Str×List Int)}{nums:List Int}{go:Str->GP->GP}{S:GP}{x:Tg}
theorem a2g(h:S.ft≠none):E7 lds nums go S x=S:=by unfold E7;rw[if_pos h]
theorem a3T(h:S.ft≠none):∀xs:List Tg,xs.foldl (E7 lds nums go) S=S
 | []=>rfl
 | x::xs=>by rw[List.foldl_cons,a2g h];exact a3T h xs
theorem a1J(h:S.ft=none)(ho:a1E S.gv x.2.2.2.w=true):E7 lds nums go S x=S:=by unfold E7;rw[if_neg (by simp[h]),if_pos ho]
theorem a0E{w:Int}(h:S.ft=none)(ho:a1E S.gv x.2.2.2.w=false)(he:O2 S.gv x.2.2.2.w=some w):E7 lds nums go S x={S with ft:=some ("early",x.2.1,x.2.2.1,w)}:=by unfold E7;rw[if_neg (by simp[h]),if_neg (by simp[ho]),he]
theorem a1j{q:Str}(h:S.ft=none)(ho:a1E S.gv x.2.2.2.w=false)(he:O2 S.gv x.2.2.2.w=none)(hq:toR x.2.2.2.w=some q):E7 lds nums go S x=if q∈S.bg then S else go q (a2c lds S (a0b x.2.2.2.w) q):=by unfold E7;rw[if_neg (by simp[h]),if_neg (by simp[ho]),he,hq]
theorem D8(h:S.ft=none)(ho:a1E S.gv x.2.2.2.w=false)(he:O2 S.gv x.2.2.2.w=none)(hq:toR x.2.2.2.w=none):E7 lds nums go S x=a0a nums S x.2.1 x.2.2.1 x.2.2.2.w:=by unfold E7;rw[if_neg (by simp[h]),if_neg (by simp[ho]),he,hq]
theorem b1H(ho:a1E S.gv x.2.2.2.w=true):a2I pk lds nums S x=S:=by unfold a2I;rw[if_pos ho]
theorem a9n{w:Int}(ho:a1E S.gv x.2.2.2.w=false)(he:O2 S.gv x.2.2.2.w=some w):a2I pk lds nums S x={S with ft:=some ("early",x.2.1,x.2.2.1,w)}:=by unfold a2I;rw[if_neg (by simp[ho]),he]
theorem b0B(ho:a1E S.gv x.2.2.2.w=false)(he:O2 S.gv x.2.2.2.w=none):a2I pk lds nums S x=a3R pk lds nums S x.2.1 x.2.2.1 x.2.2.2.w:=by unfold a2I;rw[if_neg (by simp[ho]),he]
theorem b2J{q:Str}{p n:Nat}{rw:Rw}(hq:toR rw=some q):a3R pk lds nums S p n rw=a1T pk lds S (a0b rw) q:=by unfold a3R;rw[hq];rfl
theorem b0Y{p n:Nat}{rw:Rw}(hq:toR rw=none):a3R pk lds nums S p n rw=a0a nums S p n rw:=by unfold a3R;rw[hq]
theorem a7Z(W:List Tg)(p n:Nat)(rw:Rw):a0a nums {S with wt:=W} p n rw={a0a nums S p n rw with wt:=W}:=by
 cases rw with
 | need ts=>simp only[a0a];split<;>rfl
 | _=>rfl
theorem a8P(p n:Nat)(rw:Rw):(a0a nums S p n rw).bg=S.bg:=by
 cases rw with
 | need ts=>simp only[a0a];split<;>rfl
 | _=>rfl
theorem b1P(W:List Tg)(S:GP)(i:Int):D6 {S with wt:=W} i={D6 S i with wt:=W}:=by
 unfold D6
 by_cases h:i∈S.ld
 ·rw[if_pos h,if_pos h]
 ·rw[if_neg h,if_neg h]
theorem a8K(W:List Tg):∀(xs:List Int)(S:GP),U9 {S with wt:=W} xs={U9 S xs with wt:=W}
 | [],S=>rfl
 | i::xs,S=>by
  show U9 (D6 {S with wt:=W} i) xs={U9 (D6 S i) xs with wt:=W}
  rw[b1P,a8K W xs]
theorem b0r(W:List Tg)(b:Bool)(q:Str):a2c lds {S with wt:=W} b q={a2c lds S b q with wt:=W}:=by
 unfold a2c
 cases b with
 | true=>rw[if_pos rfl,if_pos rfl,a8K]
 | false=>rfl
theorem a3U(b:Bool)(q:Str):(a2c lds S b q).bg=S.bg:=by
 unfold a2c
 cases b with
 | true=>exact(F5 S _).1
 | false=>rfl
theorem b3Z(b:Bool)(q:Str):(a2c lds S b q).ft=S.ft:=by
 unfold a2c
 cases b with
 | true=>exact(Z3 _ S).2.1
 | false=>rfl
theorem b3d(hgo:∀q S W,go q {S with wt:=W}={go q S with wt:=W})(W:List Tg):E7 lds nums go {S with wt:=W} x={E7 lds nums go S x with wt:=W}:=by
 by_cases h:S.ft=none
 ·cases ho:a1E S.gv x.2.2.2.w with
  | true=>rw[a1J (S:={S with wt:=W}) h ho,a1J h ho]
  | false=>
   cases he:O2 S.gv x.2.2.2.w with
   | some w=>rw[a0E (S:={S with wt:=W}) h ho he,a0E h ho he]
   | none=>
    cases hq:toR x.2.2.2.w with
    | some q=>
     rw[a1j (S:={S with wt:=W}) h ho he hq,a1j h ho he hq]
     by_cases hb:q∈S.bg
     ·rw[if_pos hb,if_pos hb]
     ·rw[if_neg hb,if_neg hb,b0r,hgo]
    | none=>rw[D8 (S:={S with wt:=W}) h ho he hq,D8 h ho he hq,a7Z]
 ·rw[a2g (S:={S with wt:=W}) h,a2g h]
theorem a1R(hgo:∀q S W,go q {S with wt:=W}={go q S with wt:=W})(W:List Tg):∀(xs:List Tg)(S:GP),xs.foldl (E7 lds nums go) {S with wt:=W}={xs.foldl (E7 lds nums go) S with wt:=W}
 | [],S=>rfl
 | x::xs,S=>by rw[List.foldl_cons,List.foldl_cons,b3d hgo,a1R hgo W xs]
theorem b2e(hgo:∀q S,∀y∈S.bg,y∈(go q S).bg):∀y∈S.bg,y∈(E7 lds nums go S x).bg:=by
 intro y hy
 by_cases h:S.ft=none
 ·cases ho:a1E S.gv x.2.2.2.w with
  | true=>rw[a1J h ho];exact hy
  | false=>
   cases he:O2 S.gv x.2.2.2.w with
   | some w=>rw[a0E h ho he];exact hy
   | none=>
    cases hq:toR x.2.2.2.w with
    | some q=>
     rw[a1j h ho he hq]
     split
     ·exact hy
     ·exact hgo q _ y (by rw[a3U];exact hy)
    | none=>rw[D8 h ho he hq,a8P];exact hy
 ·rw[a2g h];exact hy
theorem a5v(hgo:∀q S,∀y∈S.bg,y∈(go q S).bg):∀(xs:List Tg)(S:GP),∀y∈S.bg,y∈(xs.foldl (E7 lds nums go) S).bg
 | [],S,y,hy=>hy
 | x::xs,S,y,hy=>by rw[List.foldl_cons];exact a5v hgo xs _ y (b2e hgo y hy)
end
theorem a7i(pk:List (List Ro))(lds:List (Str×List Int))(nums:List Int):∀(d:Nat)(q:Str)(S:GP)(W:List Tg),a0u pk lds nums d q {S with wt:=W}={a0u pk lds nums d q S with wt:=W}
 | 0,_,_,_=>rfl
 | d+1,q,S,W=>a1R (a7i pk lds nums d) W (B9 pk q) {S with bg:=O4 S.bg q}
theorem a7G(pk:List (List Ro))(lds:List (Str×List Int))(nums:List Int):∀(d:Nat)(q:Str)(S:GP),∀y∈S.bg,y∈(a0u pk lds nums d q S).bg
 | 0,_,_,_,h=>h
 | d+1,q,S,y,h=>a5v (a7G pk lds nums d) (B9 pk q) {S with bg:=O4 S.bg q} y ((E9 _ _ _).mpr (.inl h))
noncomputable def b0Q (pk:List (List Ro)) (lds:List (Str×List Int)) (nums:List Int) (W:List Tg) (R S':GP):Prop:=(R.ft=none/\O5 pk lds nums {R with wt:=W} S')\/(R.ft≠none/\S'.tr=R.tr/\S'.ft=R.ft)
theorem b0Q.wt{pk:List (List Ro)}{lds:List (Str×List Int)}{nums:List Int}{W V:List Tg}{R S':GP}(h:b0Q pk lds nums W {R with wt:=V} S'):b0Q pk lds nums W R S':=h
theorem a4B{pk:List (List Ro)}{lds:List (Str×List Int)}{nums:List Int}{S S':GP}(h:O5 pk lds nums S S')(hf:S.ft≠none):S'=S:=by
 cases h with
 | refl=>rfl
 | step a b c=>exact absurd a hf
theorem a8f{pk:List (List Ro)}{lds:List (Str×List Int)}{nums:List Int}{S S':GP}{W:List Tg}{x:Tg}(h:O5 pk lds nums S S')(hend:S'.wt=[]\/S'.ft≠none)(hf:S.ft=none)(hw:S.wt=W++[x]):O5 pk lds nums (a2I pk lds nums {S with wt:=W} x) S':=by
 cases h with
 | refl=>
  rcases hend with z | z
  ·rw[hw]at z;simp at z
  ·exact absurd hf z
 | step a b c=>
  rw[hw]at b
  have e:=List.append_inj' b rfl
  have e1:=e.1
  have e2:x=_:=(List.cons.inj e.2).1
  subst e1
  subst e2
  exact c
theorem a2k{pk:List (List Ro)}{lds:List (Str×List Int)}{nums:List Int}{d:Nat}
  (ih:∀(q:Str)(S S':GP),q∈pk.flatMap R6->q∉S.bg->S.ft=none->a0F (pk.flatMap R6) S.bg<=d->O5 pk lds nums (a1Y pk S q) S'->(S'.wt=[]\/S'.ft≠none)->b0Q pk lds nums S.wt (a0u pk lds nums d q S) S'):
  ∀(xs:List Tg)(S S':GP)(W:List Tg),(∀x∈xs,∀q,toR x.2.2.2.w=some q->q∈pk.flatMap R6)->S.ft=none->S.wt=W++xs.reverse->a0F (pk.flatMap R6) S.bg<=d->O5 pk lds nums S S'->(S'.wt=[]\/S'.ft≠none)->b0Q pk lds nums W (xs.foldl (E7 lds nums (a0u pk lds nums d)) S) S'
 | [],S,S',W,_,hf,hw,_,hst,_=>by
  have e:{S with wt:=W}=S:=by
   have:S.wt=W:=by rw[hw];simp
   rw[<-this]
  exact .inl ⟨hf,by rw[List.foldl_nil,e];exact hst⟩
 | x::xs,S,S',W,hx,hf,hw,hd,hst,hend=>by
  have hw':S.wt=(W++xs.reverse)++[x]:=by rw[hw,List.reverse_cons,List.append_assoc]
  have hnx:=a8f hst hend hf hw'
  have hxs:∀y∈xs,∀q,toR y.2.2.2.w=some q->q∈pk.flatMap R6:=fun y h=>hx y (by simp[h])
  rw[List.foldl_cons]
  have wtg:=a7i pk lds nums d
  cases ho:a1E S.gv x.2.2.2.w with
  | true=>
   rw[b1H (S:={S with wt:=W++xs.reverse}) ho]at hnx
   rw[a1J hf ho]
   have:=a2k ih xs {S with wt:=W++xs.reverse} S' W hxs hf rfl hd hnx hend
   rw[a1R wtg]at this
   exact this.wt
  | false=>
   cases he:O2 S.gv x.2.2.2.w with
   | some w=>
    rw[a9n (S:={S with wt:=W++xs.reverse}) ho he]at hnx
    rw[a0E hf ho he,a3T (by simp)]
    have e:=a4B hnx (by simp)
    exact .inr ⟨by simp,by rw[e],by rw[e]⟩
   | none=>
    rw[b0B (S:={S with wt:=W++xs.reverse}) ho he]at hnx
    cases hq:toR x.2.2.2.w with
    | some q=>
     rw[b2J hq]at hnx
     have hqn:=hx x (by simp) q hq
     rw[a1j hf ho he hq]
     have hnx':O5 pk lds nums (a1T pk lds {S with wt:=W++xs.reverse} (a0b x.2.2.2.w) q) S':=hnx
     unfold a1T at hnx'
     by_cases hb:q∈S.bg
     ·rw[if_pos hb]at hnx'⊢
      have:=a2k ih xs {S with wt:=W++xs.reverse} S' W hxs hf rfl hd hnx' hend
      rw[a1R wtg]at this
      exact this.wt
     ·rw[if_neg hb]at hnx'⊢
      have hnx2:O5 pk lds nums (a1Y pk (a2c lds {S with wt:=W++xs.reverse} (a0b x.2.2.2.w) q) q) S':=hnx'
      rw[b0r]at hnx2
      have h1:=ih q {a2c lds S (a0b x.2.2.2.w) q with wt:=W++xs.reverse} S' hqn (by show q∉(a2c lds S (a0b x.2.2.2.w) q).bg;rw[a3U];exact hb) (by show(a2c lds S (a0b x.2.2.2.w) q).ft=none;rw[b3Z];exact hf) (by show a0F _ (a2c lds S (a0b x.2.2.2.w) q).bg<=d;rw[a3U];exact hd) hnx2 hend
      rw[wtg]at h1
      rcases h1 with⟨k1,k2⟩ | ⟨k1,k2,k3⟩
      ·have hm:a0F (pk.flatMap R6) (a0u pk lds nums d q (a2c lds S (a0b x.2.2.2.w) q)).bg<=d:=Nat.le_trans (a3A (a7G pk lds nums d q (a2c lds S (a0b x.2.2.2.w) q))) (by rw[a3U];exact hd)
       have:=a2k ih xs {a0u pk lds nums d q (a2c lds S (a0b x.2.2.2.w) q)with wt:=W++xs.reverse} S' W hxs k1 rfl hm k2 hend
       rw[a1R wtg]at this
       exact this.wt
      ·have k1':(a0u pk lds nums d q (a2c lds S (a0b x.2.2.2.w) q)).ft≠none:=k1
       rw[a3T k1']
       exact .inr ⟨k1',k2,k3⟩
    | none=>
     rw[b0Y hq]at hnx
     have hnx':O5 pk lds nums (a0a nums {S with wt:=W++xs.reverse} x.2.1 x.2.2.1 x.2.2.2.w) S':=hnx
     rw[a7Z]at hnx'
     rw[D8 hf ho he hq]
     by_cases hw2:(a0a nums S x.2.1 x.2.2.1 x.2.2.2.w).ft=none
     ·have hm:a0F (pk.flatMap R6) (a0a nums S x.2.1 x.2.2.1 x.2.2.2.w).bg<=d:=by rw[a8P];exact hd
      have:=a2k ih xs {a0a nums S x.2.1 x.2.2.1 x.2.2.2.w with wt:=W++xs.reverse} S' W hxs hw2 rfl hm hnx' hend
      rw[a1R wtg]at this
      exact this.wt
     ·have e:=a4B hnx' hw2
      rw[a3T hw2]
      exact .inr ⟨hw2,by rw[e],by rw[e]⟩
theorem a5P{pk:List (List Ro)}{lds:List (Str×List Int)}{nums:List Int}(hP:PkR pk lds):∀(d:Nat)(q:Str)(S S':GP),q∈pk.flatMap R6->q∉S.bg->S.ft=none->a0F (pk.flatMap R6) S.bg<=d->O5 pk lds nums (a1Y pk S q) S'->(S'.wt=[]\/S'.ft≠none)->b0Q pk lds nums S.wt (a0u pk lds nums d q S) S'
 | 0,q,S,S',hq,hn,_,hd,_,_=>by
  have:=a1m hq hn
  omega
 | d+1,q,S,S',hq,hn,hf,hd,hst,hend=>by
  have hl:=a1m hq hn
  have:=a2k (a5P hP d) (B9 pk q) {{S with bg:=O4 S.bg q}with wt:=S.wt++(B9 pk q).reverse} S' S.wt (fun x hx=>hP.tg x (List.mem_filter.mp hx).1) hf rfl (by show a0F (pk.flatMap R6) (O4 S.bg q)<=d;omega) hst hend
  rw[a1R (a7i pk lds nums d)]at this
  exact this.wt
theorem b6M{pk:List (List Ro)}{lds:List (Str×List Int)}{nums:List Int}(hP:PkR pk lds){root:Str}(hr:root∈pk.flatMap R6){S0 S':GP}(h1:S0.bg=[])(h2:S0.wt=[])(h3:S0.ft=none)(hst:O5 pk lds nums (a1Y pk S0 root) S')(hend:S'.wt=[]\/S'.ft≠none):S'.tr=(a0u pk lds nums 12 root S0).tr/\S'.ft=(a0u pk lds nums 12 root S0).ft:=by
 rcases a5P hP 12 root S0 S' hr (by rw[h1];simp) h3 (Nat.le_trans (a7e _ _) hP.pl) hst hend with⟨k1,k2⟩ | ⟨_,k2,k3⟩
 ·have e:S'={a0u pk lds nums 12 root S0 with wt:=S0.wt}:=by
   cases k2 with
   | refl=>rfl
   | step a b c=>rw[h2]at b;simp at b
  rw[e]
  exact⟨rfl,rfl⟩
 ·exact⟨k2,k3⟩
noncomputable def szW (pk:List (List Ro)) (S:GP):Nat:=S.tr.length+S.gv.length+S.bg.length+14*a1d pk S.bg
theorem b3D(pk:List (List Ro))(nums:List Int)(S:GP)(p n:Nat)(rw:Rw):szW pk (a0a nums S p n rw)<=szW pk S+14:=by
 cases rw with
 | set o ts=>
  have:=a2R S.gv (Sum.inr o) (.int (M3 S.gv ts))
  show S.tr.length+(W2 S.gv (Sum.inr o) (.int (M3 S.gv ts))).length+S.bg.length+14*a1d pk S.bg<=S.tr.length+S.gv.length+S.bg.length+14*a1d pk S.bg+14
  omega
 | take o=>
  have:=a2R S.gv (Sum.inr o) (.int (nums.getD S.tk 0))
  show(S.tr++[_]).length+(W2 S.gv (Sum.inr o) (.int (nums.getD S.tk 0))).length+S.bg.length+14*a1d pk S.bg<=S.tr.length+S.gv.length+S.bg.length+14*a1d pk S.bg+14
  rw[List.length_append,List.length_singleton]
  omega
 | say ts w=>
  show(S.tr++[_]).length+S.gv.length+S.bg.length+14*a1d pk S.bg<=S.tr.length+S.gv.length+S.bg.length+14*a1d pk S.bg+14
  rw[List.length_append,List.length_singleton]
  omega
 | need ts=>
  simp only[a0a]
  split
  ·show szW pk S<=_;omega
  ·omega
 | _=>show szW pk S<=_;omega
theorem a8y(pk:List (List Ro))(xs:List Int)(S:GP):szW pk (U9 S xs)<=szW pk S+xs.length:=by
 obtain⟨h1,_,h3,h4⟩:=Z3 xs S
 obtain⟨b1,_⟩:=F5 S xs
 unfold szW
 rw[h1,b1]
 omega
theorem b2F{pk:List (List Ro)}{lds:List (Str×List Int)}{nums:List Int}{go:Str->GP->GP}(hP:PkR pk lds)(hgo:∀q S,q∉S.bg->szW pk (go q S)<=szW pk S+1)(x:Tg)(S:GP):szW pk (E7 lds nums go S x)<=szW pk S+14:=by
 by_cases h:S.ft=none
 ·cases ho:a1E S.gv x.2.2.2.w with
  | true=>rw[a1J h ho];omega
  | false=>
   cases he:O2 S.gv x.2.2.2.w with
   | some w=>rw[a0E h ho he];show szW pk S<=_;omega
   | none=>
    cases hq:toR x.2.2.2.w with
    | some q=>
     rw[a1j h ho he hq]
     by_cases hb:q∈S.bg
     ·rw[if_pos hb];omega
     ·rw[if_neg hb]
      have h1:=hgo q (a2c lds S (a0b x.2.2.2.w) q) (by rw[a3U];exact hb)
      have h2:szW pk (a2c lds S (a0b x.2.2.2.w) q)<=szW pk S+12:=by
       unfold a2c
       split
       ·have:=a8y pk (U8 q [] lds) S
        have:=a0i (n:=q) (a:=[]) hP.ld (AZ _)
        omega
       ·omega
      omega
    | none=>rw[D8 h ho he hq];exact b3D _ _ _ _ _ _
 ·rw[a2g h];omega
theorem a5G{pk:List (List Ro)}{lds:List (Str×List Int)}{nums:List Int}{go:Str->GP->GP}(hP:PkR pk lds)(hgo:∀q S,q∉S.bg->szW pk (go q S)<=szW pk S+1):∀(xs:List Tg)(S:GP),szW pk (xs.foldl (E7 lds nums go) S)<=szW pk S+14*xs.length
 | [],S=>by simp
 | x::xs,S=>by
  rw[List.foldl_cons,List.length_cons]
  have h1:=a5G (nums:=nums) hP hgo xs (E7 lds nums go S x)
  have h2:=b2F (nums:=nums) hP hgo x S
  omega
theorem a8F(pk:List (List Ro)){S:GP}{p:Str}(hp:p∉S.bg):szW pk {S with bg:=O4 S.bg p}+14*(B9 pk p).length=szW pk S+1:=by
 have h:=a2a pk hp
 have e:(O4 S.bg p).length=S.bg.length+1:=by rw[a7X hp,List.length_append];rfl
 show S.tr.length+S.gv.length+(O4 S.bg p).length+14*a1d pk (O4 S.bg p)+14*(B9 pk p).length=S.tr.length+S.gv.length+S.bg.length+14*a1d pk S.bg+1
 omega
theorem a4P{pk:List (List Ro)}{lds:List (Str×List Int)}{nums:List Int}(hP:PkR pk lds):∀(d:Nat)(p:Str)(S:GP),p∉S.bg->szW pk (a0u pk lds nums d p S)<=szW pk S+1
 | 0,p,S,_=>by show szW pk S<=_;omega
 | d+1,p,S,hp=>by
  have h1:=a5G (nums:=nums) hP (a4P (nums:=nums) hP d) (B9 pk p) {S with bg:=O4 S.bg p}
  have h2:=a8F pk hp
  show szW pk ((B9 pk p).foldl (E7 lds nums (a0u pk lds nums d)) {S with bg:=O4 S.bg p})<=_
  omega
structure LA where
 pk:Addr
 ld:Addr
 kn:Addr
 bg:Addr
 tr:Addr
 nu:Addr
noncomputable def lF (A:LA) (f:V):List (Key×V):=[(Sum.inr "packs",.ref A.pk),(Sum.inr "loads",.ref A.ld),(Sum.inr "known",.ref A.kn),(Sum.inr "begun",.ref A.bg),(Sum.inr "trace",.ref A.tr),(Sum.inr "fault",f),(Sum.inr "numbers",.ref A.nu)]
section
variable{A:LA}{f:V}
theorem b2N:Y3 (lF A f) (Sum.inr "packs")=some (.ref A.pk):=by kernel_rfl
theorem b2a:Y3 (lF A f) (Sum.inr "loads")=some (.ref A.ld):=by kernel_rfl
theorem b3b:Y3 (lF A f) (Sum.inr "known")=some (.ref A.kn):=by kernel_rfl
theorem b1V:Y3 (lF A f) (Sum.inr "begun")=some (.ref A.bg):=by kernel_rfl
theorem b2G:Y3 (lF A f) (Sum.inr "trace")=some (.ref A.tr):=by kernel_rfl
theorem b2O:Y3 (lF A f) (Sum.inr "fault")=some f:=by kernel_rfl
theorem a9j:Y3 (lF A f) (Sum.inr "numbers")=some (.ref A.nu):=by kernel_rfl
theorem b2E(g:V):W2 (lF A f) (Sum.inr "fault") g=lF A g:=by kernel_rfl
end
structure Bas(H0:Hp)(s:Addr)(A:LA)(ns:List Str)(pk:List (List Ro))(lds:List (Str×List Int)):Prop where
 fs:H0 s=none
 fk:H0 A.kn=none
 fb:H0 A.bg=none
 ft:H0 A.tr=none
 fn:H0 A.nu=none
 pk:∃us,H0 A.pk=some (.tup us)/\Paired (a7M ns H0) us pk
 ld:∃kv,H0 A.ld=some (.dK kv)/\∀q∈lds.map (·.1),∃u,Y3 kv (Sum.inr q)=some (.ref u)/\H0 u=some (.tup ((U8 q [] lds).map V.int))
structure LS(H0 H:Hp)(s:Addr)(A:LA)(nums:List Int)(S:GP):Prop where
 st:∃v,H s=some (.dK (lF A v))/\FtP H v S.ft
 sm:G8 H0 H
 kn:H A.kn=some (.dK S.gv)
 bg:H A.bg=some (.dK (D7 S.bg))
 tr:∃vs,H A.tr=some (.lst vs)/\Paired (TdP H) vs S.tr
 nu:H A.nu=some (.lst ((nums.drop S.tk).map V.int))
 n1:A.tr≠A.nu
 n2:s≠A.kn
 n3:s≠A.bg
 n4:A.kn≠A.bg
 gi:∀k v,Y3 S.gv k=some v->∃i:Int,v= .int i
 tkl:S.tk<=nums.length
 tl:∀p,Td.load p∈S.tr↔p∈S.ld
section
variable{H0 H:Hp}{s:Addr}{A:LA}{nums:List Int}{S:GP}
theorem LS.apart(h:LS H0 H s A nums S):s≠A.tr/\s≠A.nu/\A.kn≠A.tr/\A.kn≠A.nu/\A.bg≠A.tr/\A.bg≠A.nu:=by
 obtain⟨v,h1,_⟩:=h.st
 obtain⟨us,h3,_⟩:=h.tr
 have h4:=h.bg
 have h5:=h.kn
 have h6:=h.nu
 exact⟨a0L h1 h3 (by intro z;cases z),a0L h1 h6 (by intro z;cases z),a0L h5 h3 (by intro z;cases z),a0L h5 h6 (by intro z;cases z),a0L h4 h3 (by intro z;cases z),a0L h4 h6 (by intro z;cases z)⟩
theorem LS.same(h:LS H0 H s A nums S){H':Hp}(e:G8 H H'):LS H0 H' s A nums S:=by
 obtain⟨v,h1,h2⟩:=h.st
 obtain⟨us,h5,h6⟩:=h.tr
 exact⟨⟨v,e _ _ h1,h2.mono e.tups⟩,h.sm.trans e,e _ _ h.kn,e _ _ h.bg,⟨us,e _ _ h5,Paired.mapP h6 fun _ _ z=>z.mono e.tups⟩,e _ _ h.nu,h.n1,h.n2,h.n3,h.n4,h.gi,h.tkl,h.tl⟩
theorem LS.known(h:LS H0 H s A nums S)(f:H0 A.kn=none)(x:Str)(i:Int):R7 H (upd H A.kn (.dK (W2 S.gv (Sum.inr x) (.int i))))/\LS H0 (upd H A.kn (.dK (W2 S.gv (Sum.inr x) (.int i)))) s A nums {S with gv:=W2 S.gv (Sum.inr x) (.int i)}:=by
 have T:R7 H (upd H A.kn (.dK (W2 S.gv (Sum.inr x) (.int i)))):=a0c h.kn (fun xs z=>by cases z)
 obtain⟨a1,a2,a3,a4,a5,a6⟩:=h.apart
 obtain⟨v,h1,h2⟩:=h.st
 obtain⟨us,h5,h6⟩:=h.tr
 refine⟨T,⟨v,by rw[G7 h.n2];exact h1,h2.mono T⟩,M9 h.sm f,G1,by rw[G7 h.n4.symm];exact h.bg,⟨us,by rw[G7 a3.symm];exact h5,Paired.mapP h6 fun _ _ z=>z.mono T⟩,by rw[G7 a4.symm];exact h.nu,h.n1,h.n2,h.n3,h.n4,fun k w e=>?_,h.tkl,h.tl⟩
 have e':Y3 (W2 S.gv (Sum.inr x) (.int i)) k=some w:=e
 rw[a2p]at e'
 split at e'
 ·exact⟨i,(Option.some.inj e').symm⟩
 ·exact h.gi k w e'
theorem LS.push(h:LS H0 H s A nums S)(f:H0 A.tr=none){us:List V}{v:V}{x:Td}{ld:List Int}(hu:H A.tr=some (.lst us))(hv:TdP H v x)(hl:∀p,(Td.load p∈S.tr++[x])↔p∈ld):R7 H (upd H A.tr (.lst (us++[v])))/\LS H0 (upd H A.tr (.lst (us++[v]))) s A nums {S with tr:=S.tr++[x],ld:=ld}:=by
 have T:R7 H (upd H A.tr (.lst (us++[v]))):=a0c hu (fun xs z=>by cases z)
 obtain⟨a1,a2,a3,a4,a5,a6⟩:=h.apart
 obtain⟨w,h1,h2⟩:=h.st
 obtain⟨us',h5,h6⟩:=h.tr
 rw[hu]at h5
 cases h5
 exact⟨T,⟨w,by rw[G7 a1];exact h1,h2.mono T⟩,M9 h.sm f,by rw[G7 a3];exact h.kn,by rw[G7 a5];exact h.bg,⟨_,G1,Paired.snoc (Paired.mapP h6 fun _ _ z=>z.mono T) (hv.mono T)⟩,by rw[G7 h.n1.symm];exact h.nu,h.n1,h.n2,h.n3,h.n4,h.gi,h.tkl,hl⟩
theorem LS.pushEv(h:LS H0 H s A nums S)(f:H0 A.tr=none){us:List V}{v:V}{k:Str}{i:Int}{p n:Nat}(hu:H A.tr=some (.lst us))(hv:TdP H v (.ev k i p n)):R7 H (upd H A.tr (.lst (us++[v])))/\LS H0 (upd H A.tr (.lst (us++[v]))) s A nums {S with tr:=S.tr++[.ev k i p n]}:=
 h.push f hu hv fun q=>by rw[AK,AC];exact⟨fun z=>z.elim (h.tl q).mp (fun e=>by cases e),fun z=> .inl ((h.tl q).mpr z)⟩
theorem LS.begun(h:LS H0 H s A nums S)(f:H0 A.bg=none)(l:List Str):R7 H (upd H A.bg (.dK (D7 l)))/\LS H0 (upd H A.bg (.dK (D7 l))) s A nums {S with bg:=l}:=by
 have T:R7 H (upd H A.bg (.dK (D7 l))):=a0c h.bg (fun xs z=>by cases z)
 obtain⟨a1,a2,a3,a4,a5,a6⟩:=h.apart
 obtain⟨w,h1,h2⟩:=h.st
 obtain⟨us,h5,h6⟩:=h.tr
 exact⟨T,⟨w,by rw[G7 h.n3];exact h1,h2.mono T⟩,M9 h.sm f,by rw[G7 h.n4];exact h.kn,G1,⟨us,by rw[G7 a5.symm];exact h5,Paired.mapP h6 fun _ _ z=>z.mono T⟩,by rw[G7 a6.symm];exact h.nu,h.n1,h.n2,h.n3,h.n4,h.gi,h.tkl,h.tl⟩
theorem LS.fault(h:LS H0 H s A nums S)(f:H0 s=none){v:V}{ft:Option Fp}(hv:FtP H v ft):R7 H (upd H s (.dK (lF A v)))/\LS H0 (upd H s (.dK (lF A v))) s A nums {S with ft:=ft}:=by
 obtain⟨w,h1,h2⟩:=h.st
 have T:R7 H (upd H s (.dK (lF A v))):=a0c h1 (fun xs z=>by cases z)
 obtain⟨a1,a2,a3,a4,a5,a6⟩:=h.apart
 obtain⟨us,h5,h6⟩:=h.tr
 exact⟨T,⟨v,G1,hv.mono T⟩,M9 h.sm f,by rw[G7 h.n2.symm];exact h.kn,by rw[G7 h.n3.symm];exact h.bg,⟨us,by rw[G7 a1.symm];exact h5,Paired.mapP h6 fun _ _ z=>z.mono T⟩,by rw[G7 a2.symm];exact h.nu,h.n1,h.n2,h.n3,h.n4,h.gi,h.tkl,h.tl⟩
theorem LS.told(h:LS H0 H s A nums S)(f:H0 A.nu=none){k:Nat}(hk:k<=nums.length):R7 H (upd H A.nu (.lst ((nums.drop k).map V.int)))/\LS H0 (upd H A.nu (.lst ((nums.drop k).map V.int))) s A nums {S with tk:=k}:=by
 have T:R7 H (upd H A.nu (.lst ((nums.drop k).map V.int))):=a0c h.nu (fun xs z=>by cases z)
 obtain⟨a1,a2,a3,a4,a5,a6⟩:=h.apart
 obtain⟨w,h1,h2⟩:=h.st
 obtain⟨us,h5,h6⟩:=h.tr
 exact⟨T,⟨w,by rw[G7 a2];exact h1,h2.mono T⟩,M9 h.sm f,by rw[G7 a4];exact h.kn,by rw[G7 a6];exact h.bg,⟨us,by rw[G7 h.n1];exact h5,Paired.mapP h6 fun _ _ z=>z.mono T⟩,G1,h.n1,h.n2,h.n3,h.n4,h.gi,hk,h.tl⟩
theorem LS.get(h:LS H0 H s A nums S):∃v,FtP H v S.ft/\H s=some (.dK (lF A v))/\O3 H s (.str "packs") (some (.ref A.pk))/\O3 H s (.str "loads") (some (.ref A.ld))/\O3 H s (.str "known") (some (.ref A.kn))/\O3 H s (.str "begun") (some (.ref A.bg))/\O3 H s (.str "trace") (some (.ref A.tr))/\O3 H s (.str "fault") (some v)/\O3 H s (.str "numbers") (some (.ref A.nu)):=by
 obtain⟨v,h1,h2⟩:=h.st
 refine⟨v,h2,h1,?_,?_,?_,?_,?_,?_,?_⟩
 ·have:=O3.k (k:=Sum.inr "packs") h1;rw[b2N]at this;exact this
 ·have:=O3.k (k:=Sum.inr "loads") h1;rw[b2a]at this;exact this
 ·have:=O3.k (k:=Sum.inr "known") h1;rw[b3b]at this;exact this
 ·have:=O3.k (k:=Sum.inr "begun") h1;rw[b1V]at this;exact this
 ·have:=O3.k (k:=Sum.inr "trace") h1;rw[b2G]at this;exact this
 ·have:=O3.k (k:=Sum.inr "fault") h1;rw[b2O]at this;exact this
 ·have:=O3.k (k:=Sum.inr "numbers") h1;rw[a9j]at this;exact this
end
noncomputable def b4D:Rw->Bool
 | .set _ _=>true
 | _=>false
noncomputable def a9k:Rw->Bool
 | .need _=>true
 | _=>false
noncomputable def a2W:Rw->Bool
 | .say _ _=>true
 | _=>false
noncomputable def a2x:Rw->Bool
 | .ask _ _=>true
 | _=>false
theorem b6g(rw:Rw):decide (V.str (Z0 rw)=V.str "set")=b4D rw:=by cases rw<;>kernel_rfl
theorem b5u(rw:Rw):decide (V.str (Z0 rw)=V.str "need")=a9k rw:=by cases rw<;>kernel_rfl
theorem b2B(rw:Rw):decide (V.str (Z0 rw)=V.str "say")=a2W rw:=by cases rw<;>kernel_rfl
theorem b4z(rw:Rw):decide (V.str (Z0 rw)=V.str "ask")=a2x rw:=by cases rw<;>kernel_rfl
theorem a8S{t u:TT}{σ:L2.St}{H:Hp}{a b:Bool}(ht:∀Q:Bool->Hp->Prop,Q a H->t σ H Q)(hu:∀Q:Bool->Hp->Prop,Q b H->u σ H Q):∀Q:Bool->Hp->Prop,Q (a || b) H->tOr t u σ H Q:=fun Q h=>by
 refine ht _ ?_
 cases a with
 | true=>exact O7 h
 | false=>exact Y4 (hu _ h)
noncomputable def TX (H:Hp) (t:Addr) (ts:List (Int×Th)):Prop:=∃vs,H t=some (.tup vs)/\a6L H vs ts
noncomputable def a3K:Rw->Int
 | .set _ _=>3
 | _=>1
noncomputable def b6T:Rw->List (Int×Th)
 | .set _ ts=>ts
 | _=> []
noncomputable def whR:Rw->List (Int×Str)
 | .say ts (some x)=> [(2*(ts.length:Int)+1,x)]
 | .ask _ (some x)=> [(3,x)]
 | _=> []
noncomputable def whS:Rw->List (Int×Str)
 | .say ts (some x)=> [(2*(ts.length:Int)+1,x)]
 | _=> []
theorem b2o(rw:Rw):rdR rw=whR rw++U4 (a3K rw) (sgR rw):=by
 cases rw with
 | say ts w=>cases w<;>rfl
 | ask p w=>cases w<;>rfl
 | _=>rfl
noncomputable def b3z:Sp:=fun vs H Q _=>∃(r:Addr)(rw:Rw),vs=[.ref r]/\a1M H r rw/\a8b rw/\∀(l:Addr)(ws:List V)(H':Hp),G8 H H'->H' l=some (.lst ws)->a1q H' ws (rdR rw)->Q (.ref l) H'
theorem b1Q(T:Txt K mg):L2.Cl P w K mg base 1 "_law_reads" ["_law_row_here"] b3z:=by
 refine Cl.of T.d_law_reads F3 (fun vs H Q E h=>?_) (fun _ _ _ _ _ _ us hl=>by obtain⟨a,rfl⟩:=a5b hl;rfl) (fun f cdv A outer s H vs Q E hr h=>?_)
 ·obtain⟨r,rw,rfl,_⟩:=h
  rfl
 ·obtain⟨r,rw',rfl,hra,hok,q⟩:=h
  have hu:=a0s hr
  have hsz:sizeLine=16777216:=sizeLine_eq
  refine⟨_,(G3 (J6 (i:=1) F3.nd rfl (Or.inl rfl) (R5 G2))
   (G3 (J6 (i:=2) F3.nd rfl (Or.inl rfl) G5)
   (G3 (J6 (i:=3) F3.nd rfl (Or.inl rfl) (Z2 G2))
   (G3 (R8 (J3 Y5 (J0 J1 (pv 0) G5 (fun _ _=>rfl)) I9 (R4 _))
    (G3 (J6 (i:=1) F3.nd rfl (Or.inl rfl) (J0 J1 (pv 0) G5 (fun _ _=>rfl)))
    (G6 (J6 (i:=2) F3.nd rfl (Or.inl rfl) G5))) J5)
   (G3 (R8 (PW.pt (a6C (J3 Y5 (J0 J1 (pv 0) G5 (fun _ _=>rfl)) I9 (R4 _)) (a4o (J3 Y5 (J0 J1 (pv 0) G5 (fun _ _=>rfl)) I9 (R4 _)))))
    (G6 (J6 (i:=1) F3.nd rfl (Or.inl rfl) (J0 J1 (pv 0) G5 (fun _ _=>rfl)))) J5)
   (G3 (R8 (PW.pt (a0T (J3 Y5 (J0 J1 (pv 0) G5 (fun _ _=>rfl)) I9 (R4 _)) (M6 (M4 (a7h (J0 J1 (pv 0) G5 (fun _ _=>rfl)))))))
    (G6 (U1 (D0 PySem.F.plainAttrs_list PySem.F.slot_list_append PySem.F.type_list_append W5 (pv 3) (G0 (R5 (G0 (J4 O6 (J4 a0R (R9 U2 (by rfl) T.n_len PySem.boot_len (G0 (pv 1) G2)) G5) G5) (G0 (J0 J1 (pv 0) G5 (fun _ _=>rfl)) G2))) G2)))) J5)
   (G3 (R8 (PW.pt (a0T (J3 Y5 (J0 J1 (pv 0) G5 (fun _ _=>rfl)) I9 (R4 _)) (M6 (M4 (a7h (J0 J1 (pv 0) G5 (fun _ _=>rfl)))))))
    (G6 (U1 (D0 PySem.F.plainAttrs_list PySem.F.slot_list_append PySem.F.type_list_append W5 (pv 3) (G0 (R5 (G0 G5 (G0 (J0 J1 (pv 0) G5 (fun _ _=>rfl)) G2))) G2)))) J5)
   (G3 (Y2 AL rfl (Z4 (by rfl) T.n_range (G0 (R9 U2 (by rfl) T.n_len PySem.boot_len (G0 (pv 1) G2)) G2)) (J8 (i:=4) F3.nd rfl (Or.inl rfl))
    (G6 (R8 (a0D (R9 E5 (by rfl) T.n_isinstance PyProof.Rows.boot_isinstance (G0 (J0 J1 (J0 J1 (pv 1) (pv 4) (fun _ _=>rfl)) G5 (fun _ _=>rfl)) (G0 (a1k (v:= .ty "str") (by rfl) T.n_str boot_str rfl) G2))))
     (G6 (U1 (D0 PySem.F.plainAttrs_list PySem.F.slot_list_append PySem.F.type_list_append W5 (pv 3) (G0 (R5 (G0 (J4 O6 (pv 2) (J4 a0R G5 (pv 4))) (G0 (J0 J1 (J0 J1 (pv 1) (pv 4) (fun _ _=>rfl)) G5 (fun _ _=>rfl)) G2))) G2)))) J5)))
   (G6 (R3 (pv 3))))))))))),?_⟩
  refine⟨a1G,fun e0 ge0=>?_⟩
  have s1:G8 H (upd H e0 (.tup [])):=(G8.refl H).new ge0
  have he1:upd H e0 (.tup []) e0=some (.tup []):=G1
  generalize upd H e0 (.tup [])=H1 at s1 he1⊢
  refine⟨a1G,fun F gF=>?_⟩
  have s2:G8 H1 (upd H1 F (.lst [])):=(G8.refl H1).new gF
  have hF2:upd H1 F (.lst []) F=some (.lst []):=G1
  have he2:=s2 _ _ he1
  generalize upd H1 F (.lst [])=H2 at s2 hF2 he2⊢
  have s02:=s1.trans s2
  have gF0:H F=none:=s1.free gF
  have hra2:=hra.mono s02.tups
  obtain⟨x1,rest,hrt⟩:=hra2.kind
  have z0:atI (V.str (Z0 rw')::x1::rest) 0=some (.str (Z0 rw')):=G9 (j:=0) rfl
  refine a6t ?_
  refine a0o (fun b H3=>H3=H2/\b=b4D rw') (fun σ' H3=>∃t,σ'=[some (.ref r),some (.ref t),some (.int (a3K rw')),some (.ref F),none]/\H3=H2/\TX H2 t (b6T rw')) ?_ ?_ ?_ ?_
  ·refine fun Q' h=>⟨_,rfl,r,_,_,_,rfl,rfl,SqT.of hrt,z0,rfl,_,rfl,h _ _ ⟨rfl,?_⟩⟩
   exact b6g rw'
  ·rintro H3 ⟨rfl,hb⟩ D' hJ
   cases rw' with
   | set o ts=>
    obtain⟨t,h1,⟨vs,h2,h3⟩,_⟩:=hra2
    refine⟨_,rfl,r,_,_,_,rfl,rfl,SqT.of h1,G9 (j:=2) rfl,?_⟩
    exact hJ _ _ ⟨t,rfl,rfl,vs,h2,h3⟩
   | _=>cases hb
  ·rintro H3 ⟨rfl,hb⟩
   cases rw' with
   | set o ts=>cases hb
   | _=>exact⟨e0,rfl,rfl,[],he2,.nil⟩
  rintro σ' H3 ⟨t1,rfl,rfl,ht1⟩
  refine a0o (fun b H4=>H4=H3/\b=(a9k rw' || a2W rw')) (fun σ' H4=>∃t,σ'=[some (.ref r),some (.ref t),some (.int (a3K rw')),some (.ref F),none]/\H4=H3/\TX H3 t (sgR rw')) ?_ ?_ ?_ ?_
  ·intro Q' h
   refine a8S (a:=a9k rw') (b:=a2W rw') (fun Q'' h'=>?_) (fun Q'' h'=>?_) _ (h _ _ ⟨rfl,rfl⟩)
   ·refine⟨_,rfl,r,_,_,_,rfl,rfl,SqT.of hrt,z0,rfl,_,rfl,?_⟩
    rw[b5u]
    exact h'
   ·refine⟨_,rfl,r,_,_,_,rfl,rfl,SqT.of hrt,z0,rfl,_,rfl,?_⟩
    rw[b2B]
    exact h'
  ·rintro H4 ⟨rfl,hb⟩ D' hJ
   cases rw' with
   | need ts=>
    obtain⟨t,h1,⟨vs,h2,h3⟩,_⟩:=hra2
    refine⟨_,rfl,r,_,_,_,rfl,rfl,SqT.of h1,G9 (j:=1) rfl,?_⟩
    exact hJ _ _ ⟨t,rfl,rfl,vs,h2,h3⟩
   | say ts w=>
    obtain⟨t,h1,⟨vs,h2,h3⟩,_⟩:=hra2
    refine⟨_,rfl,r,_,_,_,rfl,rfl,SqT.of h1,G9 (j:=1) rfl,?_⟩
    exact hJ _ _ ⟨t,rfl,rfl,vs,h2,h3⟩
   | _=>cases hb
  ·rintro H4 ⟨rfl,hb⟩
   cases rw' with
   | need ts=>cases hb
   | say ts w=>cases hb
   | _=>exact⟨t1,rfl,rfl,ht1⟩
  rintro σ' H4 ⟨t2,rfl,rfl,ht2⟩
  obtain⟨vs2,hv2,hts2⟩:=ht2
  have hl2:vs2.length=(sgR rw').length:=AI hts2
  refine a0o (fun b H5=>H5=H4/\b=(a2W rw' && decide (whS rw'≠[]))) (fun σ' H5=>∃ws,σ'=[some (.ref r),some (.ref t2),some (.int (a3K rw')),some (.ref F),none]/\G8 H H5/\R7 H4 H5/\H5 F=some (.lst ws)/\a1q H5 ws (whS rw')) ?_ ?_ ?_ ?_
  ·intro Q' h
   refine a4y (fun b H5=>H5=H4/\b=a2W rw') (fun b H5=>H5=H4/\b=(a2W rw' && decide (whS rw'≠[]))) (fun Q'' h'=>?_) (fun H5 e Q'' h'=>?_) (fun H5 e=>?_) Q' h
   ·refine⟨_,rfl,r,_,_,_,rfl,rfl,SqT.of hrt,z0,rfl,_,rfl,h' _ _ ⟨rfl,?_⟩⟩
    exact b2B rw'
   ·obtain⟨rfl,hb⟩:=e
    cases rw' with
    | say ts w=>
     obtain⟨t,h1,_⟩:=hra2
     refine⟨_,rfl,r,_,_,_,rfl,rfl,SqT.of h1,G9 (j:=2) rfl,_,rfl,h' _ _ ⟨rfl,?_⟩⟩
     cases w<;>simp[a2W,whS,a2H]
    | _=>cases hb
   ·obtain⟨rfl,hb⟩:=e
    exact⟨rfl,by rw[<-hb];rfl⟩
  ·rintro H5 ⟨rfl,hb⟩ D' hJ
   cases rw' with
   | say ts w=>
    cases w with
    | none=>simp[a2W,whS]at hb
    | some x=>
     obtain⟨t,h1,_⟩:=hra2
     have hts6:ts.length<=6:=hok.1.hi
     have e2:vs2.length=ts.length:=hl2
     refine⟨_,rfl,.inl ⟨rfl,_,SqL.of hF2⟩,?_⟩
     refine⟨_,rfl,t2,_,rfl,.inr (SqT.of hv2),_,_,rfl,rfl,.inr ⟨by decide,by decide⟩,_,_,rfl,rfl,_,rfl,r,_,_,_,rfl,rfl,SqT.of h1,G9 (j:=2) rfl,a0p,fun p gp=>?_⟩
     have s6:=(G8.refl H5).new (o:= .tup [.int ((vs2.length:Int)*2+1),.str x]) gp
     have hp6:upd H5 p (.tup [.int ((vs2.length:Int)*2+1),.str x]) p=some (.tup [.int ((vs2.length:Int)*2+1),.str x]):=G1
     have hlen0:(0:Nat) < sizeLine:=by omega
     have hF6:=s6 _ _ hF2
     have T7:=R7.lst (ys:=[]++[V.ref p]) hF6
     refine⟨F,_,_,rfl,rfl,hF6,hlen0,?_⟩
     refine hJ _ _ ⟨_,rfl,(s02.trans s6).put gF0,s6.tups.trans T7,G1,.cons ⟨p,rfl,?_⟩ .nil⟩
     have h7:=T7 _ _ hp6
     refine h7.trans ?_
     rw[e2,show(ts.length:Int)*2+1=2*(ts.length:Int)+1 by omega]
   | _=>cases hb
  ·rintro H5 ⟨rfl,hb⟩
   refine⟨[],rfl,s02,R7.refl _,hF2,?_⟩
   cases rw' with
   | say ts w=>
    cases w with
    | none=>exact .nil
    | some x=>simp[a2W,whS]at hb
   | _=>exact .nil
  rintro σ' H5 ⟨ws5,rfl,s5,T5,hF5,hn5⟩
  have hra5:=hra.mono s5.tups
  obtain⟨x5,rest5,hrt5⟩:=hra5.kind
  have z5:atI (V.str (Z0 rw')::x5::rest5) 0=some (.str (Z0 rw')):=G9 (j:=0) rfl
  have hw5:ws5.length<=1:=by
   have e:=AI hn5
   have:(whS rw').length<=1:=by
    cases rw' with
    | say ts w=>cases w<;>simp[whS]
    | _=>exact AZ _
   omega
  refine a0o (fun b H6=>H6=H5/\b=(a2x rw' && decide (whR rw'≠[]))) (fun σ' H6=>∃ws,σ'=[some (.ref r),some (.ref t2),some (.int (a3K rw')),some (.ref F),none]/\G8 H H6/\R7 H4 H6/\H6 F=some (.lst ws)/\a1q H6 ws (whR rw')) ?_ ?_ ?_ ?_
  ·intro Q' h
   refine a4y (fun b H6=>H6=H5/\b=a2x rw') (fun b H6=>H6=H5/\b=(a2x rw' && decide (whR rw'≠[]))) (fun Q'' h'=>?_) (fun H6 e Q'' h'=>?_) (fun H6 e=>?_) Q' h
   ·refine⟨_,rfl,r,_,_,_,rfl,rfl,SqT.of hrt5,z5,rfl,_,rfl,h' _ _ ⟨rfl,?_⟩⟩
    exact b4z rw'
   ·obtain⟨rfl,hb⟩:=e
    cases rw' with
    | ask p w=>
     have h1:H6 r=some (.tup [.str "ask",.str p,a2H w]):=hra5
     refine⟨_,rfl,r,_,_,_,rfl,rfl,SqT.of h1,G9 (j:=2) rfl,_,rfl,h' _ _ ⟨rfl,?_⟩⟩
     cases w<;>simp[a2x,whR,a2H]
    | _=>cases hb
   ·obtain⟨rfl,hb⟩:=e
    exact⟨rfl,by rw[<-hb];rfl⟩
  ·rintro H6 ⟨rfl,hb⟩ D' hJ
   cases rw' with
   | ask p w=>
    cases w with
    | none=>simp[a2x,whR]at hb
    | some x=>
     have h1:H6 r=some (.tup [.str "ask",.str p,a2H (some x)]):=hra5
     cases hn5
     refine⟨_,rfl,.inl ⟨rfl,_,SqL.of hF5⟩,?_⟩
     refine⟨_,rfl,r,_,_,_,rfl,rfl,SqT.of h1,G9 (j:=2) rfl,a0p,fun p' gp=>?_⟩
     have s6:=(G8.refl H6).new (o:= .tup [.int 3,.str x]) gp
     have hp6:upd H6 p' (.tup [.int 3,.str x]) p'=some (.tup [.int 3,.str x]):=G1
     have hlen0:(0:Nat) < sizeLine:=by omega
     have hF6:=s6 _ _ hF5
     have T7:=R7.lst (ys:=[]++[V.ref p']) hF6
     refine⟨F,_,_,rfl,rfl,hF6,hlen0,?_⟩
     exact hJ _ _ ⟨_,rfl,(s5.trans s6).put gF0,(T5.trans s6.tups).trans T7,G1,.cons ⟨p',rfl,T7 _ _ hp6⟩ .nil⟩
   | _=>cases hb
  ·rintro H6 ⟨rfl,hb⟩
   refine⟨ws5,rfl,s5,T5,hF5,?_⟩
   cases rw' with
   | say ts w=>cases w<;>exact hn5
   | ask p w=>
    cases w with
    | none=>exact hn5
    | some x=>simp[a2x,whR]at hb
   | _=>exact hn5
  rintro σ' H6 ⟨ws6,rfl,s6,T6,hF6,hn6⟩
  have hv6:=T6 _ _ hv2
  have hts6:=hts2.mono T6
  have hlen6:vs2.length<=6:=by
   rw[hl2]
   cases rw' with
   | set o ts=>exact hok.2.hi
   | need ts=>exact hok.hi
   | say ts w=>exact hok.1.hi
   | _=>exact AZ _
  have hw6:ws6.length<=1:=by
   have e:=AI hn6
   have:(whR rw').length<=1:=by
    cases rw' with
    | say ts w=>cases w<;>simp[whR]
    | ask p w=>cases w<;>simp[whR]
    | _=>exact AZ _
   omega
  refine⟨_,rfl,t2,_,rfl,.inr (SqT.of hv6),_,rfl,(by omega),(by omega),?_⟩
  refine M1 (n:=vs2.length) (fun i σ H7=>∃(ws:List V)(v4:Option V),σ=[some (.ref r),some (.ref t2),some (.int (a3K rw')),some (.ref F),v4]/\G8 H H7/\R7 H6 H7/\H7 F=some (.lst ws)/\a1q H7 ws (whR rw'++U4 (a3K rw') ((sgR rw').take i))/\ws.length<=1+i) ⟨ws6,none,rfl,s6,R7.refl _,hF6,by simpa [L2.U4]using hn6,by omega⟩ ?_ ?_
  ·rintro i σ H7 hi ⟨ws,v4,rfl,s7,T7,hF7,hn7,hw7⟩
   have e1:(0:Int)+(i:Int)=((i:Nat):Int):=by omega
   obtain⟨tm,htm,tp,ep,htp,hth⟩:=Paired.get? (hts6.mono T7) (AG hi)
   have at1:atI vs2 (0+(i:Int))=some (.ref tp):=by rw[e1];exact G9 (by rw[AG hi,ep])
   have hv7:=T7 _ _ hv6
   have htl:((sgR rw').take i).length=i:=by rw[AU];omega
   cases eth:tm.2 with
   | num n=>
    rw[eth]at htp
    refine⟨_,rfl,_,rfl,t2,_,_,_,rfl,rfl,SqT.of hv7,at1,tp,_,_,_,rfl,rfl,SqT.of htp,G9 (j:=1) rfl,_,_,_,_,rfl,.int n,a1p _,_,rfl,Y4 ?_⟩
    refine⟨ws,_,rfl,s7,T7,hF7,?_,by omega⟩
    rw[I0 htm,D3]
    have:U4 (a3K rw'+2*((sgR rw').take i).length) [tm]=[]:=by
     obtain⟨sg,th⟩:=tm
     cases(show th=Th.num n from eth)
     rfl
    rw[this,List.append_nil]
    exact hn7
   | nam x=>
    rw[eth]at htp
    refine⟨_,rfl,_,rfl,t2,_,_,_,rfl,rfl,SqT.of hv7,at1,tp,_,_,_,rfl,rfl,SqT.of htp,G9 (j:=1) rfl,_,_,_,_,rfl,.str x,a0Q _ _,_,rfl,O7 ?_⟩
    refine⟨_,rfl,.inl ⟨rfl,_,SqL.of hF7⟩,?_⟩
    refine⟨_,rfl,_,rfl,_,_,rfl,rfl,.inl ⟨by decide,by decide⟩,_,_,rfl,rfl,_,rfl,_,rfl,t2,_,_,_,rfl,rfl,SqT.of hv7,at1,tp,_,_,_,rfl,rfl,SqT.of htp,G9 (j:=1) rfl,a0p,fun p gp=>?_⟩
    have s8:=(G8.refl H7).new (o:= .tup [.int (a3K rw'+2*(0+(i:Int))),.str x]) gp
    have hp8:upd H7 p (.tup [.int (a3K rw'+2*(0+(i:Int))),.str x]) p=some (.tup [.int (a3K rw'+2*(0+(i:Int))),.str x]):=G1
    have hF8:=s8 _ _ hF7
    have T9:=R7.lst (ys:=ws++[V.ref p]) hF8
    refine⟨F,_,_,rfl,rfl,hF8,J9 (by omega),ws++[.ref p],_,rfl,(s7.trans s8).put gF0,(T7.trans s8.tups).trans T9,G1,?_,by rw[List.length_append];simp;omega⟩
    rw[I0 htm,D3]
    have:U4 (a3K rw'+2*((sgR rw').take i).length) [tm]=[(a3K rw'+2*(0+(i:Int)),x)]:=by
     obtain⟨sg,th⟩:=tm
     cases(show th=Th.nam x from eth)
     rw[htl,e1]
     rfl
    rw[this,<-List.append_assoc]
    exact Paired.snoc ((hn7.mono s8.tups).mono T9) ⟨p,rfl,T9 _ _ hp8⟩
  ·rintro σ H7 ⟨ws,v4,rfl,s7,T7,hF7,hn7,hw7⟩
   rw[hl2,AR,<-b2o]at hn7
   exact⟨_,rfl,q F ws H7 s7 hF7 hn7⟩
noncomputable def b2b:Sp:=fun vs H Q _=>∃(t kn:Addr)(ts:List (Int×Th))(gv:List (Key×V)),vs=[.ref t,.ref kn]/\H kn=some (.dK gv)/\D1 H t ts/\(∀d∈ts,d.1=1\/d.1= -1)/\(∀d∈ts,∀x,d.2= .nam x->∃i:Int,lkP gv x=some (.int i))/\Q (.int (M3 gv ts)) H
theorem b1q(T:Txt K mg):L2.Cl P w K mg base 1 "_law_value" ["_law_terms","_law_known"] b2b:=by
 refine Cl.of T.d_law_value a0n (fun vs H Q E h=>?_) (fun _ _ _ _ _ _ us hl=>by obtain⟨a,b,rfl⟩:=a2F hl;rfl) (fun f cdv A outer s H vs Q E hr h=>?_)
 ·obtain⟨t,kn,ts,gv,rfl,_⟩:=h
  rfl
 ·obtain⟨t,kn,ts,gv,rfl,hkn,⟨⟨vs,ht,hts⟩,lo,hi⟩,hsg,hk,q⟩:=h
  have hu:=a0s hr
  have hvl:vs.length=ts.length:=AI hts
  refine⟨_,(G3 (J6 (i:=2) a0n.nd rfl (Or.inl rfl) G5)
   (G3 (Y2 AL rfl (a2w (pv 0)) (a0N rfl (U7 (J8 (i:=3) a0n.nd rfl (Or.inl rfl)) (U7 (J8 (i:=4) a0n.nd rfl (Or.inl rfl)) M7)))
    (G6 (R8 (a0D (R9 E5 (by rfl) T.n_isinstance PyProof.Rows.boot_isinstance (G0 (pv 4) (G0 (a1k (v:= .ty "str") (by rfl) T.n_str boot_str rfl) G2))))
     (G6 (J6 (i:=2) a0n.nd rfl (Or.inl rfl) (J4 O6 (pv 2) (J4 a0R (pv 3) (W9 hu (pv 1) (pv 4) (fun _ _=>rfl)))))) (G6 (J6 (i:=2) a0n.nd rfl (Or.inl rfl) (J4 O6 (pv 2) (J4 a0R (pv 3) (pv 4))))))))
   (G6 (R3 (pv 2))))),?_⟩
  refine⟨_,rfl,t,rfl,⟨_,SqT.of ht⟩,a1C (K:=K) (a:=t) (xs:=vs) (fun i σ H2=>∃v3 v4:Option V,σ=[some (.ref t),some (.ref kn),some (.int (M3 gv (ts.take i))),v3,v4]/\H2=H)
   ⟨none,none,rfl,rfl⟩ (fun i σ H2 _⟨_,_,_,e2⟩=>by rw[e2];exact SqT.of ht) ?_ ?_⟩
  ·rintro i y σ H2 hy ⟨v3,v4,rfl,rfl⟩
   obtain⟨tm,htm,tp,ep,htp,hok⟩:=Paired.get? hts hy
   subst ep
   have hmem:=AF htm
   have h1:=hsg tm hmem
   have hs1:=a6O gv (ts.take i) tm
   refine⟨tp,_,rfl,SqT.of htp,rfl,_,_,rfl,_,_,rfl,rfl,?_⟩
   cases eth:tm.2 with
   | num n=>
    rw[eth]at hs1
    refine⟨_,rfl,_,_,_,_,rfl,.int n,a1p _,_,rfl,Y4 ?_⟩
    refine⟨_,rfl,_,rfl,_,rfl,_,_,rfl,rfl,.inl ⟨by omega,by omega⟩,_,_,rfl,rfl,?_⟩
    refine⟨some (.int tm.1),some (.int n),?_,rfl⟩
    rw[I0 htm,hs1]
    rfl
   | nam x=>
    rw[eth]at hs1
    obtain⟨j,ej⟩:=hk tm hmem x eth
    have hg:=O3.k (k:=Sum.inr x) hkn
    rw[show Y3 gv (Sum.inr x)=some (.int j)from ej]at hg
    have etv:tvP gv (.nam x)=j:=by show ivl (lkP gv x)=j;rw[ej];rfl
    rw[etv]at hs1
    refine⟨_,rfl,_,_,_,_,rfl,.str x,a0Q _ _,_,rfl,O7 ?_⟩
    refine⟨_,rfl,_,rfl,_,rfl,_,rfl,kn,_,rfl,hg,_,_,rfl,rfl,.inl ⟨by omega,by omega⟩,_,_,rfl,rfl,?_⟩
    refine⟨some (.int tm.1),some (.str x),?_,rfl⟩
    rw[I0 htm,hs1]
    rfl
  ·rintro σ H2 ⟨v3,v4,rfl,rfl⟩
   rw[hvl,AR]
   exact⟨_,rfl,q⟩
noncomputable def tdL:Td->List V
 | .load p=> [.str "load",.int p]
 | .ev k i p n=> [.str k,.int i,.int (p:Int),.int (n:Int)]
theorem b5a{H:Hp}{v:V}{x:Td}(h:TdP H v x):TSI H v (tdL x):=by
 cases x with
 | load p=>obtain⟨t,e,h1⟩:=h;exact⟨t,e,h1,rfl⟩
 | ev k i p n=>obtain⟨t,e,h1⟩:=h;exact⟨t,e,h1,rfl⟩
theorem b0k{H:Hp}:∀{vs:List V}{xs:List Td},Paired (TdP H) vs xs->Paired (TSI H) vs (xs.map tdL)
 | _,_,.nil=> .nil
 | _,_,.cons h t=> .cons (b5a h) (b0k t)
theorem b4g{p:Int}{xs:List Td}:tdL (.load p)∈xs.map tdL↔Td.load p∈xs:=by
 rw[AV]
 constructor
 ·rintro⟨y,hy,e⟩
  cases y with
  | load q=>
   have e':=(List.cons.inj (List.cons.inj e).2).1
   rw[<-V.int.inj e']
   exact hy
  | ev k i a b=>
   have:=congrArg List.length e
   cases this
 ·intro h
  exact⟨_,h,rfl⟩
noncomputable def b4v:Sp:=fun vs H Q _=>∃(s n:Addr)(A:LA)(ns:List Str)(pk:List (List Ro))(lds:List (Str×List Int))(nums:List Int)(H0:Hp)(S:GP)(xs:List Int),vs=[.ref s,.ref n]/\Bas H0 s A ns pk lds/\LS H0 H s A nums S/\H n=some (.tup (xs.map V.int))/\S.tr.length+xs.length<=1000000/\∀H',R7 H H'->LS H0 H' s A nums (U9 S xs)->Q .non H'
theorem a7Y(T:Txt K mg):L2.Cl P w K mg base 1 "_law_load" ["_law_state","_law_numbers"] b4v:=by
 refine Cl.of T.d_law_load a4A (fun vs H Q E h=>?_) (fun _ _ _ _ _ _ us hl=>by obtain⟨a,b,rfl⟩:=a2F hl;rfl) (fun f cdv A0 outer s0 H vs Q E hr h=>?_)
 ·obtain⟨s,n,A,ns,pk,lds,nums,H0,S,xs,rfl,_⟩:=h
  rfl
 ·obtain⟨s,n,A,ns,pk,lds,nums,H0,S,xs,rfl,hB,hS,hn,hle,q⟩:=h
  have hu:=a0s hr
  have hsz:sizeLine=16777216:=sizeLine_eq
  refine⟨_,(G6 (Y2 AL rfl (a2w (pv 1)) (J8 (i:=2) a4A.nd rfl (Or.inl rfl))
    (G6 (R8 (J3 (b0J (K:=K) rfl hu) (R5 (G0 I9 (G0 (pv 2) G2))) (W9 hu (pv 0) I9 (fun _ _=>rfl)) (by with_unfolding_all rfl))
     (G6 (U1 (D0 PySem.F.plainAttrs_list PySem.F.slot_list_append PySem.F.type_list_append W5 (W9 hu (pv 0) I9 (fun _ _=>rfl)) (G0 (R5 (G0 I9 (G0 (pv 2) G2))) G2)))) J5)))),?_⟩
  refine⟨_,rfl,n,rfl,⟨_,SqT.of hn⟩,a1C (K:=K) (a:=n) (xs:=xs.map V.int) (fun i σ H2=>∃v2:Option V,σ=[some (.ref s),some (.ref n),v2]/\R7 H H2/\LS H0 H2 s A nums (U9 S (xs.take i)))
   ⟨none,rfl,R7.refl _,hS⟩ (fun i σ H2 _⟨_,_,T2,_⟩=>SqT.of (T2 _ _ hn)) ?_ ?_⟩
  ·rintro i y σ H2 hy ⟨v2,rfl,T2,hS2⟩
   rw[AN]at hy
   obtain⟨x,hx,rfl⟩:=AX.mp hy
   have hi:i < xs.length:=(AB.mp hx).1
   have e1:U9 S (xs.take (i+1))=D6 (U9 S (xs.take i)) x:=by
    unfold U9
    rw[I0 hx,List.foldl_append]
    rfl
   have hlen:(U9 S (xs.take i)).tr.length<=1000000:=by
    obtain⟨_,_,h3,h4⟩:=Z3 (xs.take i) S
    rw[AU]at h4
    omega
   rw[e1]
   generalize U9 S (xs.take i)=S2 at hS2 hlen⊢
   refine⟨_,rfl,a0p,fun t gt=>?_⟩
   have s3:G8 H2 (upd H2 t (.tup [.str "load",.int x])):=(G8.refl H2).new gt
   have ht3:upd H2 t (.tup [.str "load",.int x]) t=some (.tup [.str "load",.int x]):=G1
   generalize upd H2 t (.tup [.str "load",.int x])=H3 at s3 ht3⊢
   have hS3:=hS2.same s3
   obtain⟨v,_,_,_,_,_,_,g5,_,_⟩:=hS3.get
   obtain⟨us,hus,hup⟩:=hS3.tr
   refine⟨_,rfl,s,_,rfl,g5,t,A.tr,us,_,_,rfl,rfl,ht3,rfl,SqL.of hus,b0k hup,_,rfl,?_⟩
   rw[if_pos rfl]
   have emem:decide ([V.str "load",V.int x]∈S2.tr.map tdL)=decide (x∈S2.ld):=by
    refine decide_eq_decide.mpr ?_
    exact b4g.trans (hS3.tl x)
   rw[emem]
   by_cases hx2:x∈S2.ld
   ·rw[decide_eq_true hx2]
    refine Y4 ?_
    have e2:D6 S2 x=S2:=by unfold D6;rw[if_pos hx2]
    rw[e2]
    exact⟨_,rfl,T2.trans s3.tups,hS3⟩
   ·rw[AM hx2]
    refine O7 ?_
    have e2:D6 S2 x={S2 with ld:=S2.ld++[x],tr:=S2.tr++[.load x]}:=by unfold D6;rw[if_neg hx2]
    rw[e2]
    refine⟨_,rfl,s,_,rfl,g5,.inl ⟨rfl,_,SqL.of hus⟩,_,rfl,a0p,fun t2 gt2=>?_⟩
    have s4:G8 H3 (upd H3 t2 (.tup [.str "load",.int x])):=(G8.refl H3).new gt2
    have ht4:upd H3 t2 (.tup [.str "load",.int x]) t2=some (.tup [.str "load",.int x]):=G1
    generalize upd H3 t2 (.tup [.str "load",.int x])=H4 at s4 ht4⊢
    have hul:=AI hup
    obtain⟨T5,hS5⟩:=(hS3.same s4).push hB.ft (x:= .load x) (ld:=S2.ld++[x]) (s4 _ _ hus) ⟨t2,rfl,ht4⟩ (fun p=>by
     rw[AK,AK,AC,AC,hS3.tl p]
     exact⟨fun z=>z.imp id (fun e=>by cases e;rfl),fun z=>z.imp id (fun e=>by rw[e])⟩)
    exact⟨A.tr,_,_,rfl,rfl,s4 _ _ hus,by omega,_,rfl,(T2.trans (s3.trans s4).tups).trans T5,hS5⟩
  ·rintro σ H2 ⟨v2,rfl,T2,hS2⟩
   rw[List.length_map,AR]at hS2
   exact q H2 T2 hS2
theorem a9i{κ:Type}[DecidableEq κ](kvs:List (κ×V))(k:κ)(a b:V):W2 (W2 kvs k a) k b=W2 kvs k b:=by
 have h1:((W2 kvs k a).any fun kv=>decide (kv.1=k))=true:=by
  unfold W2
  split
  ·rename_i h
   rw[List.any_eq_true]at h⊢
   obtain⟨kv,hkv,e⟩:=h
   exact⟨_,AV.mpr ⟨kv,hkv,rfl⟩,by rw[if_pos (of_decide_eq_true e)];exact e⟩
  ·rw[List.any_eq_true]
   exact⟨(k,a),AW _ (AC.mpr rfl),decide_eq_true rfl⟩
 have e0:∀l:List (κ×V),(l.any fun kv=>decide (kv.1=k))=true->W2 l k b=l.map (fun kv=>if kv.1=k then(kv.1,b)else kv):=fun l h=>by
  unfold W2
  rw[if_pos h]
 have e1:=e0 _ h1
 rw[e1]
 unfold W2
 split
 ·rw[List.map_map]
  refine List.map_congr_left fun kv _=>?_
  show(if(if kv.1=k then(kv.1,a)else kv).1=k then((if kv.1=k then(kv.1,a)else kv).1,b)else(if kv.1=k then(kv.1,a)else kv))=_
  by_cases h:kv.1=k
  ·simp[h]
  ·simp[h]
 ·rename_i h
  rw[List.map_append]
  have:kvs.map (fun kv=>if kv.1=k then(kv.1,b)else kv)=kvs:=by
   conv=>rhs;rw[<-List.map_id kvs]
   refine List.map_congr_left fun kv hkv=>?_
   rw[if_neg]
   ·rfl
   ·intro e
    exact h (List.any_eq_true.mpr ⟨kv,hkv,decide_eq_true e⟩)
  rw[this]
  show kvs++[if k=k then(k,b)else(k,a)]=_
  rw[if_pos rfl]
theorem a7b{t:TT}{A B:TS}{D:a1F}{r:VK}{b k:L2.St->Hp->Prop}{σ:L2.St}{H:Hp}(h:a9y t A B D σ H):a8k ⟨a9y t A B D,r,b,k⟩ σ H:=h
theorem b6X{X R:TS}{D:a1F}{r:VK}{b k:L2.St->Hp->Prop}{σ:L2.St}{H:Hp}(h:a7g X R D σ H):a1F.nx ⟨a7g X R D,r,b,k⟩ σ H:=h
noncomputable def a1V:Rw->Option Str
 | .say _ w=>w
 | .ask _ w=>w
 | _=>none
theorem a4p(gv:List (Key×V))(rw:Rw):a1E gv rw=match a1V rw with | some x=>(lkP gv x).isSome && decide (ivl (lkP gv x)<=0) | none=>false:=by
 cases rw with
 | say ts w=>cases w<;>rfl
 | ask p w=>cases w<;>rfl
 | _=>rfl
theorem b0g{rw:Rw}{x:Str}(h:a1V rw=some x):∃k tl,rdR rw=(k,x)::tl:=by
 cases rw with
 | say ts w=>cases(show w=some x from h);exact⟨_,_,rfl⟩
 | ask p w=>cases(show w=some x from h);exact⟨_,_,rfl⟩
 | _=>cases h
theorem b2P{gv:List (Key×V)}{rw:Rw}{x:Str}(h:a1V rw=some x)(h1:(lkP gv x).isSome=true)(h2:ivl (lkP gv x)<=0):a1E gv rw=true:=by
 rw[a4p,h]
 show((lkP gv x).isSome && decide (ivl (lkP gv x)<=0))=true
 rw[h1,decide_eq_true h2]
 rfl
noncomputable def b0e (gv:List (Key×V)) (rw:Rw) (i:Nat):Prop:=∀d∈(rdR rw).take i,(lkP gv d.2).isSome=true/\(a1V rw=some d.2->¬ivl (lkP gv d.2)<=0)
theorem b0V{gv:List (Key×V)}{rw:Rw}{i:Nat}{d:Int×Str}(hall:b0e gv rw i)(hd:(rdR rw)[i]?=some d)(hn:(lkP gv d.2).isSome=false):a1E gv rw=false/\O2 gv rw=some d.1:=by
 constructor
 ·rw[a4p]
  cases hw:a1V rw with
  | none=>rfl
  | some x=>
   obtain⟨k,tl,e⟩:=b0g hw
   show((lkP gv x).isSome && decide (ivl (lkP gv x)<=0))=false
   cases i with
   | zero=>
    rw[e]at hd
    cases hd
    rw[hn]
    rfl
   | succ i=>
    have:=(hall (k,x) (by rw[e,List.take_succ_cons];exact AQ)).2 hw
    rw[AM this,Bool.and_false]
 ·unfold O2
  rw[a7j (fun y hy=>by rw[(hall y hy).1];rfl) hd (by rw[hn];rfl)]
  rfl
theorem b4j{gv:List (Key×V)}{rw:Rw}{i:Nat}(hi:(rdR rw).length<=i)(hall:b0e gv rw i):a1E gv rw=false/\O2 gv rw=none/\∀d∈rdR rw,(lkP gv d.2).isSome=true:=by
 unfold b0e at hall
 rw[List.take_of_length_le hi]at hall
 refine⟨?_,?_,fun d hd=>(hall d hd).1⟩
 ·rw[a4p]
  cases hw:a1V rw with
  | none=>rfl
  | some x=>
   obtain⟨k,tl,e⟩:=b0g hw
   show((lkP gv x).isSome && decide (ivl (lkP gv x)<=0))=false
   have:=(hall (k,x) (by rw[e];exact AQ)).2 hw
   rw[AM this,Bool.and_false]
 ·unfold O2
  rw[List.find?_eq_none.mpr (fun x hx=>by rw[(hall x hx).1];exact AD)]
  rfl
theorem a6P(b:Str)(wh:Option Str):a0b (.ask b wh)=true:=decide_eq_true rfl
theorem a6W(b:Str):a0b (.doo b)=false:=AM (show¬("do":Str)="ask" by decide +kernel)
structure b3A(pk:List (List Ro))(lds:List (Str×List Int)):Prop where
 pr:PkR pk lds
 ne:∀n∈pk.flatMap R6,n≠ ""
 ak:∀x∈Y8 0 pk,∀q,toR x.2.2.2.w=some q->a0b x.2.2.2.w=true->q∈lds.map (·.1)
 pl:pk.length<=12
 rl:∀P∈pk,P.length<=500
noncomputable def a9G:Nat->Sp
 | 0=>fun _ _ _ _=>False
 | d+1=>fun vs H Q _=>∃(s:Addr)(A:LA)(ns:List Str)(pk:List (List Ro))(lds:List (Str×List Int))(nums:List Int)(H0:Hp)(S:GP)(p:Str),vs=[.ref s,.str p]/\Bas H0 s A ns pk lds/\LS H0 H s A nums S/\b3A pk lds/\S.ft=none/\p∈pk.flatMap R6/\p∉S.bg/\a0F (pk.flatMap R6) S.bg<=d+1/\szW pk S<=10000/\∀H',R7 H H'->LS H0 H' s A nums (a0u pk lds nums (d+1) p S)->Q .non H'
noncomputable def b4h (d:Nat):Sp:=fun vs H Q _=>∃(s r:Addr)(A:LA)(ns:List Str)(pk:List (List Ro))(lds:List (Str×List Int))(nums:List Int)(H0:Hp)(S:GP)(x:Tg),vs=[.ref s,.int (x.2.1:Int),.int (x.2.2.1:Int),.ref r]/\Bas H0 s A ns pk lds/\LS H0 H s A nums S/\b3A pk lds/\S.ft=none/\x∈Y8 0 pk/\a1M H r x.2.2.2.w/\a8b x.2.2.2.w/\wk6 x.2.2.2.w=true/\a0F (pk.flatMap R6) S.bg<=d/\szW pk S+13<=10000/\∀H',R7 H H'->LS H0 H' s A nums (E7 lds nums (a0u pk lds nums d) S x)->Q .non H'
theorem b2S(x:Str)(w:Option Str):b4W (.str x) (a2H w)=true:=by cases w<;>rfl
theorem a8s{gv:List (Key×V)}(gi:∀k v,Y3 gv k=some v->∃i:Int,v= .int i){x:Str}(h:(lkP gv x).isSome=true):∃i:Int,lkP gv x=some (.int i):=by
 cases e:lkP gv x with
 | none=>rw[e]at h;cases h
 | some v=>
  obtain⟨i,rfl⟩:=gi _ _ e
  exact⟨i,rfl⟩
theorem b2L(T:Txt K mg)(d:Nat)(C_law_begin:L2.Cl P w K mg base (2*d+1) "_law_begin" ["_law_state","_law_part"] (a9G d)):L2.Cl P w K mg base (2*d+2) "_law_done" ["_law_state","_law_pack","_law_number","_law_row_here"] (b4h d):=by
 have C_law_reads:=b1Q (P:=P) (w:=w) (base:=base) T
 have C_law_value:=b1q (P:=P) (w:=w) (base:=base) T
 have C_law_load:=a7Y (P:=P) (w:=w) (base:=base) T
 refine Cl.of T.d_law_done a0H (fun vs H Q E h=>?_) (fun _ _ _ _ _ _ us hl=>by obtain⟨a,b,c,d,rfl⟩:=b0O hl;rfl) (fun f cdv A0 outer s0 H vs Q E hr h=>?_)
 ·obtain⟨s,r,A,ns,pk,lds,nums,H0,S,x,rfl,_⟩:=h
  rfl
 ·obtain⟨s,r,A,ns,pk,lds,nums,H0,S,⟨pn,i0,j0,rk⟩,rfl,hB,hS,hE,hft,hxm,hra,hok,hwk,hlq,hsz,q⟩:=h
  have hu:=a0s hr
  have hu0:=Nat.lt_of_succ_lt hu
  have hsl:sizeLine=16777216:=sizeLine_eq
  have hsw:S.tr.length+S.gv.length+S.bg.length<=9987:=by unfold szW at hsz;omega
  have hTG:=hE.pr.tg _ hxm
  have hAK:=hE.ak _ hxm
  replace hra:a1M H r rk.w:=hra
  replace hok:a8b rk.w:=hok
  replace hwk:wk6 rk.w=true:=hwk
  replace hTG:∀q,toR rk.w=some q->q∈pk.flatMap R6:=hTG
  replace hAK:∀q,toR rk.w=some q->a0b rk.w=true->q∈lds.map (·.1):=hAK
  obtain⟨v0,_,hs0,g1,g2,g3,g4,g5,g6,g7⟩:=hS.get
  obtain⟨x1,rest,hrt⟩:=hra.kind
  have z0:atI (V.str (Z0 rk.w)::x1::rest) 0=some (.str (Z0 rk.w)):=G9 (j:=0) rfl
  refine⟨_,(@G3 _ _ _ _ _ (@J6 _ _ (4) _ _ _ _ a0H.nd rfl (Or.inl rfl) (@W9 _ _ _ _ _ _ hu (@pv _ 0 _ _ (by rfl) (by first | exact Or.inl rfl | exact Or.inr (Or.inl rfl) | exact Or.inr (Or.inr rfl)) (by decide) (by decide)) (@I9 _ _ _ _) (fun _ _=>rfl)) (by rfl) (by first | exact .inl rfl | exact .inr rfl | assumption)) (@G3 _ _ _ _ _ (@J6 _ _ (5) _ _ _ _ a0H.nd rfl (Or.inl rfl) (@a3t _ _ _) (by rfl) (by first | exact .inl rfl | exact .inr rfl | assumption)) (@G3 _ _ _ _ _ (@R8 _ _ _ _ _ _ _ _ (PW.pt (@a6C _ _ _ _ _ _ _ (@J3 _ _ _ _ _ _ _ _ (@Y5 _) (@J0 _ _ _ _ _ _ _ (@J1 _) (@pv _ 3 _ _ (by rfl) (by first | exact Or.inl rfl | exact Or.inr (Or.inl rfl) | exact Or.inr (Or.inr rfl)) (by decide) (by decide)) (@G5 _ _ _ _) (fun _ _=>rfl)) (@I9 _ _ _ _) (R4 _)) (@a4o _ _ _ _ (@J3 _ _ _ _ _ _ _ _ (@Y5 _) (@J0 _ _ _ _ _ _ _ (@J1 _) (@pv _ 3 _ _ (by rfl) (by first | exact Or.inl rfl | exact Or.inr (Or.inl rfl) | exact Or.inr (Or.inr rfl)) (by decide) (by decide)) (@G5 _ _ _ _) (fun _ _=>rfl)) (@I9 _ _ _ _) (R4 _))))) (@G6 _ _ _ (@J6 _ _ (5) _ _ _ _ a0H.nd rfl (Or.inl rfl) (@J0 _ _ _ _ _ _ _ (@J1 _) (@pv _ 3 _ _ (by rfl) (by first | exact Or.inl rfl | exact Or.inr (Or.inl rfl) | exact Or.inr (Or.inr rfl)) (by decide) (by decide)) (@G5 _ _ _ _) (fun _ _=>rfl)) (by rfl) (by first | exact .inl rfl | exact .inr rfl | assumption))) (@J5 _)) (@G3 _ _ _ _ _ (@Y2 _ _ _ _ _ _ _ _ AL rfl (@E2 _ _ _ _ (@W6 _ _ _ _ _ _ _ _ _ _ _ C_law_reads hr (by rfl) (@G0 _ _ _ _ _ (@pv _ 3 _ _ (by rfl) (by first | exact Or.inl rfl | exact Or.inr (Or.inl rfl) | exact Or.inr (Or.inr rfl)) (by decide) (by decide)) (@G2 _) (by rfl)) (Nat.le_add_left _ _) (by decide) (by rfl) (by rfl))) (@a0N _ _ _ _ _ _ rfl (@U7 _ _ _ _ _ (@J8 _ _ (6) _ a0H.nd rfl (Or.inl rfl) (by first | exact .inl rfl | exact .inr rfl | assumption)) (@U7 _ _ _ _ _ (@J8 _ _ (7) _ a0H.nd rfl (Or.inl rfl) (by first | exact .inl rfl | exact .inr rfl | assumption)) (@M7 _) (by rfl)) (by rfl)) (by rfl) (by rfl)) (@G3 _ _ _ _ _ (@R8 _ _ _ _ _ _ _ _ (@M4 _ _ _ _ _ _ (@a2h _ _ _ _ _ hu (@pv _ 7 _ _ (by rfl) (by first | exact Or.inl rfl | exact Or.inr (Or.inl rfl) | exact Or.inr (Or.inr rfl)) (by decide) (by decide)) (@pv _ 4 _ _ (by rfl) (by first | exact Or.inl rfl | exact Or.inr (Or.inl rfl) | exact Or.inr (Or.inr rfl)) (by decide) (by decide))) (by first | exact a3M _ (by decide) (by decide) | rfl)) (@G3 _ _ _ _ _ (@D9 _ _ _ _ _ _ _ _ _ hu (@pv _ 0 _ _ (by rfl) (by first | exact Or.inl rfl | exact Or.inr (Or.inl rfl) | exact Or.inr (Or.inr rfl)) (by decide) (by decide)) (@I9 _ _ _ _) (@R5 _ _ _ _ _ (@G0 _ _ _ _ _ (@I9 _ _ _ _) (@G0 _ _ _ _ _ (@pv _ 1 _ _ (by rfl) (by first | exact Or.inl rfl | exact Or.inr (Or.inl rfl) | exact Or.inr (Or.inr rfl)) (by decide) (by decide)) (@G0 _ _ _ _ _ (@pv _ 2 _ _ (by rfl) (by first | exact Or.inl rfl | exact Or.inr (Or.inl rfl) | exact Or.inr (Or.inr rfl)) (by decide) (by decide)) (@G0 _ _ _ _ _ (@pv _ 6 _ _ (by rfl) (by first | exact Or.inl rfl | exact Or.inr (Or.inl rfl) | exact Or.inr (Or.inr rfl)) (by decide) (by decide)) (@G2 _) (by rfl)) (by rfl)) (by rfl)) (by rfl))) rfl) (@G6 _ _ _ (@a4Z _ _))) (@J5 _)) (@G6 _ _ _ (@R8 _ _ _ _ _ _ _ _ (PW.pt (@a0T _ _ _ _ _ _ _ (@J3 _ _ _ _ _ _ _ _ (@Y5 _) (@pv _ 7 _ _ (by rfl) (by first | exact Or.inl rfl | exact Or.inr (Or.inl rfl) | exact Or.inr (Or.inr rfl)) (by decide) (by decide)) (@pv _ 5 _ _ (by rfl) (by first | exact Or.inl rfl | exact Or.inr (Or.inl rfl) | exact Or.inr (Or.inr rfl)) (by decide) (by decide)) (R4 _)) (@M6 _ _ _ _ (@J3 _ _ _ _ _ _ _ _ (@a9V _) (@W9 _ _ _ _ _ _ hu (@pv _ 4 _ _ (by rfl) (by first | exact Or.inl rfl | exact Or.inr (Or.inl rfl) | exact Or.inr (Or.inr rfl)) (by decide) (by decide)) (@pv _ 7 _ _ (by rfl) (by first | exact Or.inl rfl | exact Or.inr (Or.inl rfl) | exact Or.inr (Or.inr rfl)) (by decide) (by decide)) (fun _ _=>rfl)) (@G5 _ _ _ _) (R4 _))))) (@G6 _ _ _ (@a4Z _ _)) (@J5 _)))) (by intro _;rfl)) (@G3 _ _ _ _ _ (@R8 _ _ _ _ _ _ _ _ (@J3 _ _ _ _ _ _ _ _ (@Y5 _) (@J0 _ _ _ _ _ _ _ (@J1 _) (@pv _ 3 _ _ (by rfl) (by first | exact Or.inl rfl | exact Or.inr (Or.inl rfl) | exact Or.inr (Or.inr rfl)) (by decide) (by decide)) (@G5 _ _ _ _) (fun _ _=>rfl)) (@I9 _ _ _ _) (R4 _)) (@G6 _ _ _ (@D9 _ _ _ _ _ _ _ _ _ hu (@pv _ 4 _ _ (by rfl) (by first | exact Or.inl rfl | exact Or.inr (Or.inl rfl) | exact Or.inr (Or.inr rfl)) (by decide) (by decide)) (@J0 _ _ _ _ _ _ _ (@J1 _) (@pv _ 3 _ _ (by rfl) (by first | exact Or.inl rfl | exact Or.inr (Or.inl rfl) | exact Or.inr (Or.inr rfl)) (by decide) (by decide)) (@G5 _ _ _ _) (fun _ _=>rfl)) (@W6 _ _ _ _ _ _ _ _ _ _ _ C_law_value hr (by rfl) (@G0 _ _ _ _ _ (@J0 _ _ _ _ _ _ _ (@J1 _) (@pv _ 3 _ _ (by rfl) (by first | exact Or.inl rfl | exact Or.inr (Or.inl rfl) | exact Or.inr (Or.inr rfl)) (by decide) (by decide)) (@G5 _ _ _ _) (fun _ _=>rfl)) (@G0 _ _ _ _ _ (@pv _ 4 _ _ (by rfl) (by first | exact Or.inl rfl | exact Or.inr (Or.inl rfl) | exact Or.inr (Or.inr rfl)) (by decide) (by decide)) (@G2 _) (by rfl)) (by rfl)) (Nat.le_add_left _ _) (by decide) (by rfl) (by rfl)) rfl)) (@J5 _)) (@G3 _ _ _ _ _ (@R8 _ _ _ _ _ _ _ _ (@J3 _ _ _ _ _ _ _ _ (@Y5 _) (@J0 _ _ _ _ _ _ _ (@J1 _) (@pv _ 3 _ _ (by rfl) (by first | exact Or.inl rfl | exact Or.inr (Or.inl rfl) | exact Or.inr (Or.inr rfl)) (by decide) (by decide)) (@G5 _ _ _ _) (fun _ _=>rfl)) (@I9 _ _ _ _) (R4 _)) (@G3 _ _ _ _ _ (@D9 _ _ _ _ _ _ _ _ _ hu (@pv _ 4 _ _ (by rfl) (by first | exact Or.inl rfl | exact Or.inr (Or.inl rfl) | exact Or.inr (Or.inr rfl)) (by decide) (by decide)) (@J0 _ _ _ _ _ _ _ (@J1 _) (@pv _ 3 _ _ (by rfl) (by first | exact Or.inl rfl | exact Or.inr (Or.inl rfl) | exact Or.inr (Or.inr rfl)) (by decide) (by decide)) (@G5 _ _ _ _) (fun _ _=>rfl)) (@G5 _ _ _ _) rfl) (@G3 _ _ _ _ _ (@R8 _ _ _ _ _ _ _ _ (@J3 _ _ _ _ _ _ _ _ (@a3w _ hu0) (@W9 _ _ _ _ _ _ hu (@pv _ 0 _ _ (by rfl) (by first | exact Or.inl rfl | exact Or.inr (Or.inl rfl) | exact Or.inr (Or.inr rfl)) (by decide) (by decide)) (@I9 _ _ _ _) (fun _ _=>rfl)) (@Z2 _ _ _ _ (@G2 _)) (R4 _)) (@G6 _ _ _ (@D9 _ _ _ _ _ _ _ _ _ hu (@pv _ 4 _ _ (by rfl) (by first | exact Or.inl rfl | exact Or.inr (Or.inl rfl) | exact Or.inr (Or.inr rfl)) (by decide) (by decide)) (@J0 _ _ _ _ _ _ _ (@J1 _) (@pv _ 3 _ _ (by rfl) (by first | exact Or.inl rfl | exact Or.inr (Or.inl rfl) | exact Or.inr (Or.inr rfl)) (by decide) (by decide)) (@G5 _ _ _ _) (fun _ _=>rfl)) (@D0 _ _ _ _ _ _ _ _ _ _ _ _ PySem.F.plainAttrs_list PySem.F.slot_list_pop PySem.F.type_list_pop (@b2r _) (@W9 _ _ _ _ _ _ hu (@pv _ 0 _ _ (by rfl) (by first | exact Or.inl rfl | exact Or.inr (Or.inl rfl) | exact Or.inr (Or.inr rfl)) (by decide) (by decide)) (@I9 _ _ _ _) (fun _ _=>rfl)) (@G0 _ _ _ _ _ (@G5 _ _ _ _) (@G2 _) (by rfl)) (by rfl) (by rfl) (by rfl) (by rfl) (by rfl)) rfl)) (@J5 _)) (@G6 _ _ _ (@U1 _ _ _ _ (@D0 _ _ _ _ _ _ _ _ _ _ _ _ PySem.F.plainAttrs_list PySem.F.slot_list_append PySem.F.type_list_append (@W5 _) (@W9 _ _ _ _ _ _ hu (@pv _ 0 _ _ (by rfl) (by first | exact Or.inl rfl | exact Or.inr (Or.inl rfl) | exact Or.inr (Or.inr rfl)) (by decide) (by decide)) (@I9 _ _ _ _) (fun _ _=>rfl)) (@G0 _ _ _ _ _ (@R5 _ _ _ _ _ (@G0 _ _ _ _ _ (@I9 _ _ _ _) (@G0 _ _ _ _ _ (@W9 _ _ _ _ _ _ hu (@pv _ 4 _ _ (by rfl) (by first | exact Or.inl rfl | exact Or.inr (Or.inl rfl) | exact Or.inr (Or.inr rfl)) (by decide) (by decide)) (@J0 _ _ _ _ _ _ _ (@J1 _) (@pv _ 3 _ _ (by rfl) (by first | exact Or.inl rfl | exact Or.inr (Or.inl rfl) | exact Or.inr (Or.inr rfl)) (by decide) (by decide)) (@G5 _ _ _ _) (fun _ _=>rfl)) (fun _ _=>rfl)) (@G0 _ _ _ _ _ (@pv _ 1 _ _ (by rfl) (by first | exact Or.inl rfl | exact Or.inr (Or.inl rfl) | exact Or.inr (Or.inr rfl)) (by decide) (by decide)) (@G0 _ _ _ _ _ (@pv _ 2 _ _ (by rfl) (by first | exact Or.inl rfl | exact Or.inr (Or.inl rfl) | exact Or.inr (Or.inr rfl)) (by decide) (by decide)) (@G2 _) (by rfl)) (by rfl)) (by rfl)) (by rfl))) (@G2 _) (by rfl)) (by rfl) (by rfl) (by rfl) (by rfl) (by rfl)) (by rfl))))) (@J5 _)) (@G3 _ _ _ _ _ (@R8 _ _ _ _ _ _ _ _ (@J3 _ _ _ _ _ _ _ _ (@Y5 _) (@J0 _ _ _ _ _ _ _ (@J1 _) (@pv _ 3 _ _ (by rfl) (by first | exact Or.inl rfl | exact Or.inr (Or.inl rfl) | exact Or.inr (Or.inr rfl)) (by decide) (by decide)) (@G5 _ _ _ _) (fun _ _=>rfl)) (@I9 _ _ _ _) (R4 _)) (@G6 _ _ _ (@U1 _ _ _ _ (@D0 _ _ _ _ _ _ _ _ _ _ _ _ PySem.F.plainAttrs_list PySem.F.slot_list_append PySem.F.type_list_append (@W5 _) (@W9 _ _ _ _ _ _ hu (@pv _ 0 _ _ (by rfl) (by first | exact Or.inl rfl | exact Or.inr (Or.inl rfl) | exact Or.inr (Or.inr rfl)) (by decide) (by decide)) (@I9 _ _ _ _) (fun _ _=>rfl)) (@G0 _ _ _ _ _ (@R5 _ _ _ _ _ (@G0 _ _ _ _ _ (@I9 _ _ _ _) (@G0 _ _ _ _ _ (@W6 _ _ _ _ _ _ _ _ _ _ _ C_law_value hr (by rfl) (@G0 _ _ _ _ _ (@J0 _ _ _ _ _ _ _ (@J1 _) (@pv _ 3 _ _ (by rfl) (by first | exact Or.inl rfl | exact Or.inr (Or.inl rfl) | exact Or.inr (Or.inr rfl)) (by decide) (by decide)) (@G5 _ _ _ _) (fun _ _=>rfl)) (@G0 _ _ _ _ _ (@pv _ 4 _ _ (by rfl) (by first | exact Or.inl rfl | exact Or.inr (Or.inl rfl) | exact Or.inr (Or.inr rfl)) (by decide) (by decide)) (@G2 _) (by rfl)) (by rfl)) (Nat.le_add_left _ _) (by decide) (by rfl) (by rfl)) (@G0 _ _ _ _ _ (@pv _ 1 _ _ (by rfl) (by first | exact Or.inl rfl | exact Or.inr (Or.inl rfl) | exact Or.inr (Or.inr rfl)) (by decide) (by decide)) (@G0 _ _ _ _ _ (@pv _ 2 _ _ (by rfl) (by first | exact Or.inl rfl | exact Or.inr (Or.inl rfl) | exact Or.inr (Or.inr rfl)) (by decide) (by decide)) (@G2 _) (by rfl)) (by rfl)) (by rfl)) (by rfl))) (@G2 _) (by rfl)) (by rfl) (by rfl) (by rfl) (by rfl) (by rfl)) (by rfl))) (@J5 _)) (@G3 _ _ _ _ _ (@R8 _ _ _ _ _ _ _ _ (PW.pt (@a0T _ _ _ _ _ _ _ (@J3 _ _ _ _ _ _ _ _ (@Y5 _) (@J0 _ _ _ _ _ _ _ (@J1 _) (@pv _ 3 _ _ (by rfl) (by first | exact Or.inl rfl | exact Or.inr (Or.inl rfl) | exact Or.inr (Or.inr rfl)) (by decide) (by decide)) (@G5 _ _ _ _) (fun _ _=>rfl)) (@I9 _ _ _ _) (R4 _)) (@M6 _ _ _ _ (@J3 _ _ _ _ _ _ _ _ (@a9V _) (@W6 _ _ _ _ _ _ _ _ _ _ _ C_law_value hr (by rfl) (@G0 _ _ _ _ _ (@J0 _ _ _ _ _ _ _ (@J1 _) (@pv _ 3 _ _ (by rfl) (by first | exact Or.inl rfl | exact Or.inr (Or.inl rfl) | exact Or.inr (Or.inr rfl)) (by decide) (by decide)) (@G5 _ _ _ _) (fun _ _=>rfl)) (@G0 _ _ _ _ _ (@pv _ 4 _ _ (by rfl) (by first | exact Or.inl rfl | exact Or.inr (Or.inl rfl) | exact Or.inr (Or.inr rfl)) (by decide) (by decide)) (@G2 _) (by rfl)) (by rfl)) (Nat.le_add_left _ _) (by decide) (by rfl) (by rfl)) (@G5 _ _ _ _) (R4 _))))) (@G6 _ _ _ (@D9 _ _ _ _ _ _ _ _ _ hu (@pv _ 0 _ _ (by rfl) (by first | exact Or.inl rfl | exact Or.inr (Or.inl rfl) | exact Or.inr (Or.inr rfl)) (by decide) (by decide)) (@I9 _ _ _ _) (@R5 _ _ _ _ _ (@G0 _ _ _ _ _ (@I9 _ _ _ _) (@G0 _ _ _ _ _ (@pv _ 1 _ _ (by rfl) (by first | exact Or.inl rfl | exact Or.inr (Or.inl rfl) | exact Or.inr (Or.inr rfl)) (by decide) (by decide)) (@G0 _ _ _ _ _ (@pv _ 2 _ _ (by rfl) (by first | exact Or.inl rfl | exact Or.inr (Or.inl rfl) | exact Or.inr (Or.inr rfl)) (by decide) (by decide)) (@G0 _ _ _ _ _ (@G5 _ _ _ _) (@G2 _) (by rfl)) (by rfl)) (by rfl)) (by rfl))) rfl)) (@J5 _)) (@G6 _ _ _ (@R8 _ _ _ _ _ _ _ _ (PW.pt (@a0T _ _ _ _ _ _ _ (@J3 _ _ _ _ _ _ _ _ (@a2i _) (@J0 _ _ _ _ _ _ _ (@J1 _) (@pv _ 3 _ _ (by rfl) (by first | exact Or.inl rfl | exact Or.inr (Or.inl rfl) | exact Or.inr (Or.inr rfl)) (by decide) (by decide)) (@G5 _ _ _ _) (fun _ _=>rfl)) (@R5 _ _ _ _ _ (@G0 _ _ _ _ _ (@I9 _ _ _ _) (@G0 _ _ _ _ _ (@I9 _ _ _ _) (@G2 _) (by rfl)) (by rfl))) (by with_unfolding_all rfl)) (@M6 _ _ _ _ (@M4 _ _ _ _ _ _ (@a2h _ _ _ _ _ hu (@J0 _ _ _ _ _ _ _ (@J1 _) (@pv _ 3 _ _ (by rfl) (by first | exact Or.inl rfl | exact Or.inr (Or.inl rfl) | exact Or.inr (Or.inr rfl)) (by decide) (by decide)) (@G5 _ _ _ _) (fun _ _=>rfl)) (@W9 _ _ _ _ _ _ hu (@pv _ 0 _ _ (by rfl) (by first | exact Or.inl rfl | exact Or.inr (Or.inl rfl) | exact Or.inr (Or.inr rfl)) (by decide) (by decide)) (@I9 _ _ _ _) (fun _ _=>rfl))) (by first | exact a3M _ (by decide) (by decide) | rfl))))) (@G3 _ _ _ _ _ (@R8 _ _ _ _ _ _ _ _ (@J3 _ _ _ _ _ _ _ _ (@Y5 _) (@J0 _ _ _ _ _ _ _ (@J1 _) (@pv _ 3 _ _ (by rfl) (by first | exact Or.inl rfl | exact Or.inr (Or.inl rfl) | exact Or.inr (Or.inr rfl)) (by decide) (by decide)) (@G5 _ _ _ _) (fun _ _=>rfl)) (@I9 _ _ _ _) (R4 _)) (@G6 _ _ _ (@U1 _ _ _ _ (@W6 _ _ _ _ _ _ _ _ _ _ _ C_law_load hr (by rfl) (@G0 _ _ _ _ _ (@pv _ 0 _ _ (by rfl) (by first | exact Or.inl rfl | exact Or.inr (Or.inl rfl) | exact Or.inr (Or.inr rfl)) (by decide) (by decide)) (@G0 _ _ _ _ _ (@W9 _ _ _ _ _ _ hu (@W9 _ _ _ _ _ _ hu (@pv _ 0 _ _ (by rfl) (by first | exact Or.inl rfl | exact Or.inr (Or.inl rfl) | exact Or.inr (Or.inr rfl)) (by decide) (by decide)) (@I9 _ _ _ _) (fun _ _=>rfl)) (@J0 _ _ _ _ _ _ _ (@J1 _) (@pv _ 3 _ _ (by rfl) (by first | exact Or.inl rfl | exact Or.inr (Or.inl rfl) | exact Or.inr (Or.inr rfl)) (by decide) (by decide)) (@G5 _ _ _ _) (fun _ _=>rfl)) (fun _ _=>rfl)) (@G2 _) (by rfl)) (by rfl)) (Nat.le_add_left _ _) (by decide) (by rfl) (by rfl)) (by rfl))) (@J5 _)) (@G6 _ _ _ (@U1 _ _ _ _ (@W6 _ _ _ _ _ _ _ _ _ _ _ C_law_begin hr (by rfl) (@G0 _ _ _ _ _ (@pv _ 0 _ _ (by rfl) (by first | exact Or.inl rfl | exact Or.inr (Or.inl rfl) | exact Or.inr (Or.inr rfl)) (by decide) (by decide)) (@G0 _ _ _ _ _ (@J0 _ _ _ _ _ _ _ (@J1 _) (@pv _ 3 _ _ (by rfl) (by first | exact Or.inl rfl | exact Or.inr (Or.inl rfl) | exact Or.inr (Or.inr rfl)) (by decide) (by decide)) (@G5 _ _ _ _) (fun _ _=>rfl)) (@G2 _) (by rfl)) (by rfl)) (AE _) (by decide) (by rfl) (by rfl)) (by rfl)))) (@J5 _))))))))))),?_⟩
  refine⟨_,rfl,s,_,rfl,g3,?_⟩
  refine a6t ?_
  refine a6t ?_
  refine a0o (fun b H1=>H1=H/\b=(a2W rk.w || a2x rk.w)) (fun σ' H1=>σ'=[some (.ref s),some (.int (i0:Int)),some (.int (j0:Int)),some (.ref r),some (.ref A.kn),some (a2H (a1V rk.w)),none,none]/\H1=H) ?_ ?_ ?_ ?_
  ·intro Q' h
   refine a8S (a:=a2W rk.w) (b:=a2x rk.w) (fun Q'' h'=>?_) (fun Q'' h'=>?_) _ (h _ _ ⟨rfl,rfl⟩)
   ·refine⟨_,rfl,r,_,_,_,rfl,rfl,SqT.of hrt,z0,rfl,_,rfl,?_⟩
    rw[b2B]
    exact h'
   ·refine⟨_,rfl,r,_,_,_,rfl,rfl,SqT.of hrt,z0,rfl,_,rfl,?_⟩
    rw[b4z]
    exact h'
  ·rintro H1 ⟨rfl,hb⟩ D' hJ
   cases ew:rk.w with
   | say ts w=>
    rw[ew]at hra hJ
    obtain⟨t,h1,_⟩:=hra
    exact⟨_,rfl,r,_,_,_,rfl,rfl,SqT.of h1,G9 (j:=2) rfl,hJ _ _ ⟨rfl,rfl⟩⟩
   | ask p w=>
    rw[ew]at hra hJ
    have h1:H1 r=some (.tup [.str "ask",.str p,a2H w]):=hra
    exact⟨_,rfl,r,_,_,_,rfl,rfl,SqT.of h1,G9 (j:=2) rfl,hJ _ _ ⟨rfl,rfl⟩⟩
   | _=>rw[ew]at hb;cases hb
  ·rintro H1 ⟨rfl,hb⟩
   refine⟨?_,rfl⟩
   cases ew:rk.w with
   | say ts w=>rw[ew]at hb;cases hb
   | ask p w=>rw[ew]at hb;cases hb
   | _=>rfl
  rintro σ' H1 ⟨rfl,rfl⟩
  refine⟨_,rfl,r,rk.w,rfl,hra,hok,fun l ws H2 s2 hl hn=>?_⟩
  have hS2:=hS.same s2
  have hwl:ws.length=(rdR rk.w).length:=AI hn
  refine⟨l,rfl,⟨_,SqL.of hl⟩,?_⟩
  refine a0O (K:=K) (a:=l) (xs:=ws) (fun i σ H3=>∃v6 v7:Option V,σ=[some (.ref s),some (.int (i0:Int)),some (.int (j0:Int)),some (.ref r),some (.ref A.kn),some (a2H (a1V rk.w)),v6,v7]/\H3=H2/\b0e S.gv rk.w i) ⟨none,none,rfl,rfl,fun d hd=>by simp at hd⟩ (fun i σ H3 _⟨_,_,_,e,_⟩=>by rw[e];exact SqL.of hl) ?_ ?_
  ·rintro i y σ H3 hy ⟨v6,v7,rfl,rfl,hall⟩
   obtain⟨d',hd,tp,ep,htp⟩:=Paired.get? hn hy
   subst ep
   refine⟨tp,_,rfl,SqT.of htp,rfl,_,_,rfl,_,_,rfl,rfl,?_⟩
   have hgt:=O3.k (k:=Sum.inr d'.2) hS2.kn
   refine⟨_,rfl,_,rfl,A.kn,_,rfl,hgt,_,rfl,?_⟩
   cases e2:(Y3 S.gv (Sum.inr d'.2)).isSome with
   | false=>
    refine O7 ?_
    obtain⟨ho,he⟩:=b0V hall hd e2
    refine⟨_,rfl,_,rfl,_,rfl,(by show 4<=sizeLine;decide),fun t gt=>?_⟩
    have s4:G8 H3 (upd H3 t (.tup [.str "early",.int (i0:Int),.int (j0:Int),.int d'.1])):=(G8.refl H3).new gt
    have ht4:upd H3 t (.tup [.str "early",.int (i0:Int),.int (j0:Int),.int d'.1]) t=some (.tup [.str "early",.int (i0:Int),.int (j0:Int),.int d'.1]):=G1
    generalize upd H3 t (.tup [.str "early",.int (i0:Int),.int (j0:Int),.int d'.1])=H4 at s4 ht4⊢
    have hS4:=hS2.same s4
    obtain⟨v4,hs4,_⟩:=hS4.st
    refine⟨_,rfl,s,_,rfl,a2v.k (k:=Sum.inr "fault") hs4 (by show 7 < sizeLine;omega),?_⟩
    rw[b2E]
    obtain⟨T5,hS5⟩:=hS4.fault hB.fs (v:= .ref t) (ft:=some ("early",i0,j0,d'.1)) ⟨t,rfl,ht4⟩
    refine q _ ((s2.trans s4).tups.trans T5) ?_
    rw[a0E (x:=(pn,i0,j0,rk)) hft ho he]
    exact hS5
   | true=>
    refine Y4 (b6i ?_)
    have e3:(lkP S.gv d'.2).isSome=true:=e2
    obtain⟨iv,eiv⟩:=a8s hS.gi e3
    have ei:ivl (lkP S.gv d'.2)=iv:=by rw[eiv];rfl
    refine a7v (fun b H4=>H4=H3/\b=(decide (a1V rk.w=some d'.2) && decide (iv<=0))) ?_ ?_ ?_
    ·intro Q' h
     refine a4i (a:=decide (a1V rk.w=some d'.2)) (b:=decide (iv<=0)) (fun Q'' h'=>?_) (fun Q'' h'=>?_) _ (h _ _ ⟨rfl,rfl⟩)
     ·refine⟨_,rfl,_,rfl,b2S _ _,_,rfl,?_⟩
      have:decide (V.str d'.2=a2H (a1V rk.w))=decide (a1V rk.w=some d'.2):=by
       refine decide_eq_decide.mpr ?_
       cases a1V rk.w with
       | none=>exact⟨(fun z=>by cases z),(fun z=>by cases z)⟩
       | some x=>exact⟨fun z=>by rw[V.str.inj z],fun z=>by rw[Option.some.inj z];rfl⟩
      rw[this]
      exact h'
     ·have hg2:=hgt
      rw[show Y3 S.gv (Sum.inr d'.2)=some (.int iv)from eiv]at hg2
      exact⟨_,rfl,_,rfl,A.kn,_,rfl,hg2,_,_,rfl,rfl,_,rfl,h'⟩
    ·rintro H4 ⟨rfl,hb⟩
     rw[eq_comm,Bool.and_eq_true,decide_eq_true_eq,decide_eq_true_eq]at hb
     refine q _ s2.tups ?_
     rw[a1J (x:=(pn,i0,j0,rk)) hft (b2P hb.1 e3 (by rw[ei];exact hb.2))]
     exact hS2
    ·rintro H4 ⟨rfl,hb⟩
     refine⟨_,_,rfl,rfl,fun d2 hd2=>?_⟩
     rw[I0 hd]at hd2
     rcases AK.mp hd2 with z | z
     ·exact hall d2 z
     ·rw[AC.mp z]
      refine⟨e3,fun hw hle=>?_⟩
      rw[ei]at hle
      rw[decide_eq_true hw,decide_eq_true hle]at hb
      cases hb
  rintro σ H3 ⟨v6,v7,rfl,rfl,hall⟩
  obtain⟨ho,he,hknown⟩:=b4j (by omega) hall
  have hra2:=hra.mono s2.tups
  obtain⟨v2,_,hs2,f1,f2,f3,f4,f5,f6,f7⟩:=hS2.get
  obtain⟨us,hus,hup⟩:=hS2.tr
  have hul:=AI hup
  have hnm:∀d∈sgR rk.w,∀x,d.2= .nam x->∃i:Int,lkP S.gv x=some (.int i):=fun d hd x ex=>by
   obtain⟨e,he1,he2⟩:=a1X (k:=a3K rk.w) hd ex
   have:=hknown e (by rw[b2o];exact AW _ he1)
   rw[he2]at this
   exact a8s hS.gi this
  cases ew:rk.w with
  | bring a b=>rw[ew]at hwk;cases hwk
  | give a b=>rw[ew]at hwk;cases hwk
  | part a=>rw[ew]at hwk;cases hwk
  | set o ts=>
   have hq:=D8 (lds:=lds) (nums:=nums) (go:=a0u pk lds nums d) (x:=(pn,i0,j0,rk)) hft ho he (by show toR rk.w=none;rw[ew];rfl)
   rw[hq,show(((pn,i0,j0,rk):Tg)).2.2.2.w= .set o ts from ew]at q
   rw[ew]at hra2 hok hnm
   obtain⟨t,h1,hts⟩:=hra2
   refine⟨_,rfl,r,_,_,_,rfl,rfl,SqT.of h1,G9 (j:=0) rfl,rfl,_,rfl,a0U ?_⟩
   refine⟨_,rfl,r,_,_,_,rfl,rfl,SqT.of h1,G9 (j:=2) rfl,_,rfl,t,A.kn,ts,S.gv,rfl,hS2.kn,hts,hok.2.sg,hnm,?_⟩
   refine⟨_,rfl,_,rfl,r,_,_,_,rfl,rfl,SqT.of h1,G9 (j:=1) rfl,A.kn,_,rfl,a2v.k (k:=Sum.inr o) hS2.kn (by omega),?_⟩
   obtain⟨T4,hS4⟩:=hS2.known hB.fk o (M3 S.gv ts)
   generalize upd H3 A.kn (.dK (W2 S.gv (Sum.inr o) (.int (M3 S.gv ts))))=H4 at T4 hS4⊢
   have h4:=T4 _ _ h1
   refine⟨_,rfl,r,_,_,_,rfl,rfl,SqT.of h4,G9 (j:=0) rfl,rfl,_,rfl,W3 (by decide +kernel) (a2f ?_)⟩
   refine⟨_,rfl,r,_,_,_,rfl,rfl,SqT.of h4,G9 (j:=0) rfl,rfl,_,rfl,W3 (by decide +kernel) (a2f ?_)⟩
   refine⟨_,rfl,r,_,_,_,rfl,rfl,SqT.of h4,G9 (j:=0) rfl,rfl,_,rfl,W3 (by decide +kernel) (Y4 (a7b ?_))⟩
   refine⟨_,rfl,r,_,_,_,rfl,rfl,SqT.of h4,G9 (j:=0) rfl,a0p,fun c gc=>⟨c,_,rfl,.inr (SqT.of G1),rfl,rfl,_,rfl,?_⟩⟩
   have s5:G8 H4 (upd H4 c (.tup [.str "ask",.str "do"])):=(G8.refl H4).new gc
   rw[if_neg AD,a9x,AM (by decide +kernel)]
   refine Y4 (Y4 ?_)
   exact q _ ((s2.tups.trans T4).trans s5.tups) (hS4.same s5)
  | take o=>
   have hq:=D8 (lds:=lds) (nums:=nums) (go:=a0u pk lds nums d) (x:=(pn,i0,j0,rk)) hft ho he (by show toR rk.w=none;rw[ew];rfl)
   rw[hq,show(((pn,i0,j0,rk):Tg)).2.2.2.w= .take o from ew]at q
   rw[ew]at hra2
   have h1:H3 r=some (.tup [.str "take",.str o]):=hra2
   refine⟨_,rfl,r,_,_,_,rfl,rfl,SqT.of h1,G9 (j:=0) rfl,rfl,_,rfl,W3 (by decide +kernel) (a2f ?_)⟩
   refine⟨_,rfl,r,_,_,_,rfl,rfl,SqT.of h1,G9 (j:=0) rfl,rfl,_,rfl,a0U ?_⟩
   refine⟨_,rfl,_,rfl,r,_,_,_,rfl,rfl,SqT.of h1,G9 (j:=1) rfl,A.kn,_,rfl,a2v.k (k:=Sum.inr o) hS2.kn (by omega),?_⟩
   obtain⟨T4,hS4⟩:=hS2.known hB.fk o 0
   generalize upd H3 A.kn (.dK (W2 S.gv (Sum.inr o) (.int 0)))=H4 at T4 hS4⊢
   have h4:=T4 _ _ h1
   refine b6X ?_
   refine a0o (fun b H5=>G8 H4 H5/\b= !((nums.drop S.tk).map V.int).isEmpty) (fun σ' H5=>σ'=[some (.ref s),some (.int (i0:Int)),some (.int (j0:Int)),some (.ref r),some (.ref A.kn),some (a2H (a1V (Rw.take o))),v6,v7]/\R7 H4 H5/\LS H0 H5 s A nums {S with tk:=if S.tk=nums.length then S.tk else S.tk+1,gv:=W2 S.gv (Sum.inr o) (.int (nums.getD S.tk 0))}) ?_ ?_ ?_ ?_
   ·intro Q' h
    obtain⟨_,_,_,_,_,_,_,_,_,f7'⟩:=hS4.get
    refine⟨_,rfl,s,_,rfl,f7',a1G,fun z gz=>⟨A.nu,z,_,rfl,rfl,SqL.of (U3 hS4.nu gz),SqL.of G1,_,rfl,h _ _ ⟨(G8.refl H4).new gz,rfl⟩⟩⟩
   ·rintro H5 ⟨s5,hb⟩ D' hJ
    have hS5:=hS4.same s5
    obtain⟨_,_,_,_,_,_,_,_,_,f7'⟩:=hS5.get
    have hne:¬S.tk=nums.length:=fun z=>by rw[z,List.drop_length]at hb;cases hb
    have htk:=hS.tkl
    have hlt:S.tk < nums.length:=by omega
    have ed:nums.drop S.tk=nums[S.tk]::nums.drop (S.tk+1):=List.drop_eq_getElem_cons hlt
    have eg:nums.getD S.tk 0=nums[S.tk]:=by rw[List.getD_eq_getElem?_getD,AG hlt];rfl
    have hnu5:H5 A.nu=some (.lst ((nums.drop S.tk).map V.int)):=hS5.nu
    rw[ed,List.map_cons]at hnu5
    refine⟨_,rfl,s,_,rfl,f7',.inl ⟨rfl,_,SqL.of hnu5⟩,A.nu,_,0,0,_,rfl,rfl,hnu5,by decide,by decide,?_,rfl,?_⟩
    ·simp[seqIndex?]
    obtain⟨T6,hS6⟩:=hS5.told hB.fn (k:=S.tk+1) (by omega)
    rw[show(V.int nums[S.tk]::(nums.drop (S.tk+1)).map V.int).eraseIdx 0=(nums.drop (S.tk+1)).map V.int from rfl]
    generalize upd H5 A.nu (.lst ((nums.drop (S.tk+1)).map V.int))=H6 at T6 hS6⊢
    have h6:=T6 _ _ (s5.tups _ _ h4)
    have hpl:=a2R S.gv (Sum.inr o) (.int 0)
    refine⟨_,rfl,_,rfl,r,_,_,_,rfl,rfl,SqT.of h6,G9 (j:=1) rfl,A.kn,_,rfl,a2v.k (k:=Sum.inr o) hS6.kn (by show(W2 S.gv (Sum.inr o) (.int 0)).length < sizeLine;omega),?_⟩
    obtain⟨T7,hS7⟩:=hS6.known hB.fk o nums[S.tk]
    refine hJ _ _ ⟨rfl,(s5.tups.trans T6).trans T7,?_⟩
    have e7:W2 (W2 S.gv (Sum.inr o) (.int 0)) (Sum.inr o) (.int nums[S.tk])=W2 S.gv (Sum.inr o) (.int nums[S.tk]):=a9i _ _ _ _
    rw[if_neg hne,eg]
    have hS8:LS H0 (upd H6 A.kn (.dK (W2 (W2 S.gv (Sum.inr o) (.int 0)) (Sum.inr o) (.int nums[S.tk])))) s A nums {S with tk:=S.tk+1,gv:=W2 (W2 S.gv (Sum.inr o) (.int 0)) (Sum.inr o) (.int nums[S.tk])}:=hS7
    rw[e7]at hS8
    show LS H0 (upd H6 A.kn (.dK (W2 (W2 S.gv (Sum.inr o) (.int 0)) (Sum.inr o) (.int nums[S.tk])))) s A nums _
    rw[e7]
    exact hS8
   ·rintro H5 ⟨s5,hb⟩
    have hne:S.tk=nums.length:=by
     have htk:=hS.tkl
     by_cases z:S.tk=nums.length
     ·exact z
     ·have hlt:S.tk < nums.length:=by omega
      rw[List.drop_eq_getElem_cons hlt]at hb
      cases hb
    refine⟨rfl,s5.tups,?_⟩
    have eg:nums.getD S.tk 0=0:=by rw[hne];simp
    rw[if_pos hne,eg]
    exact hS4.same s5
   rintro σ' H5 ⟨rfl,T5,hS5⟩
   obtain⟨_,_,_,_,_,_,_,g5',_,_⟩:=hS5.get
   obtain⟨us5,hus5,hup5⟩:=hS5.tr
   have hul5:us5.length=S.tr.length:=AI hup5
   have h5:=T5 _ _ h4
   have hgo:O3 H5 A.kn (.str o) (some (.int (nums.getD S.tk 0))):=by
    have:=O3.k (k:=Sum.inr o) hS5.kn
    rw[a2p,if_pos rfl]at this
    exact this
   refine⟨_,rfl,s,_,rfl,g5',.inl ⟨rfl,_,SqL.of hus5⟩,_,rfl,_,rfl,r,_,_,_,rfl,rfl,SqT.of h5,G9 (j:=1) rfl,A.kn,_,rfl,hgo,_,rfl,_,rfl,(by show 4<=sizeLine;decide),fun t gt=>?_⟩
   have s6:G8 H5 (upd H5 t (.tup [.str "take",.int (nums.getD S.tk 0),.int (i0:Int),.int (j0:Int)])):=(G8.refl H5).new gt
   have ht6:upd H5 t (.tup [.str "take",.int (nums.getD S.tk 0),.int (i0:Int),.int (j0:Int)]) t=some (.tup [.str "take",.int (nums.getD S.tk 0),.int (i0:Int),.int (j0:Int)]):=G1
   generalize upd H5 t (.tup [.str "take",.int (nums.getD S.tk 0),.int (i0:Int),.int (j0:Int)])=H6 at s6 ht6⊢
   obtain⟨T7,hS7⟩:=(hS5.same s6).pushEv hB.ft (v:= .ref t) (k:="take") (i:=nums.getD S.tk 0) (p:=i0) (n:=j0) (s6 _ _ hus5) ⟨t,rfl,ht6⟩
   refine⟨A.tr,_,_,rfl,rfl,s6 _ _ hus5,by omega,?_⟩
   generalize upd H6 A.tr (.lst (us5++[.ref t]))=H7 at T7 hS7⊢
   have h7:=T7 _ _ (s6 _ _ h5)
   refine⟨_,rfl,r,_,_,_,rfl,rfl,SqT.of h7,G9 (j:=0) rfl,rfl,_,rfl,W3 (by decide +kernel) (a2f ?_)⟩
   refine⟨_,rfl,r,_,_,_,rfl,rfl,SqT.of h7,G9 (j:=0) rfl,rfl,_,rfl,W3 (by decide +kernel) (Y4 (a7b ?_))⟩
   refine⟨_,rfl,r,_,_,_,rfl,rfl,SqT.of h7,G9 (j:=0) rfl,a0p,fun c gc=>⟨c,_,rfl,.inr (SqT.of G1),rfl,rfl,_,rfl,?_⟩⟩
   have s8:G8 H7 (upd H7 c (.tup [.str "ask",.str "do"])):=(G8.refl H7).new gc
   rw[if_neg AD,a9x,AM (by decide +kernel)]
   refine Y4 (Y4 ?_)
   exact q _ (((((s2.tups.trans T4).trans T5).trans s6.tups).trans T7).trans s8.tups) (hS7.same s8)
  | say ts wh=>
   have hq:=D8 (lds:=lds) (nums:=nums) (go:=a0u pk lds nums d) (x:=(pn,i0,j0,rk)) hft ho he (by show toR rk.w=none;rw[ew];rfl)
   rw[hq,show(((pn,i0,j0,rk):Tg)).2.2.2.w= .say ts wh from ew]at q
   rw[ew]at hra2 hok hnm
   obtain⟨t,h1,hts⟩:=hra2
   refine⟨_,rfl,r,_,_,_,rfl,rfl,SqT.of h1,G9 (j:=0) rfl,rfl,_,rfl,W3 (by decide +kernel) (a2f ?_)⟩
   refine⟨_,rfl,r,_,_,_,rfl,rfl,SqT.of h1,G9 (j:=0) rfl,rfl,_,rfl,W3 (by decide +kernel) (a2f ?_)⟩
   refine⟨_,rfl,r,_,_,_,rfl,rfl,SqT.of h1,G9 (j:=0) rfl,rfl,_,rfl,a0U ?_⟩
   refine⟨_,rfl,s,_,rfl,f5,.inl ⟨rfl,_,SqL.of hus⟩,_,rfl,r,_,_,_,rfl,rfl,SqT.of h1,G9 (j:=1) rfl,_,rfl,t,A.kn,ts,S.gv,rfl,hS2.kn,hts,hok.1.sg,hnm,_,rfl,_,rfl,(by show 4<=sizeLine;decide),fun tt gt=>?_⟩
   have s6:G8 H3 (upd H3 tt (.tup [.str "say",.int (M3 S.gv ts),.int (i0:Int),.int (j0:Int)])):=(G8.refl H3).new gt
   have ht6:upd H3 tt (.tup [.str "say",.int (M3 S.gv ts),.int (i0:Int),.int (j0:Int)]) tt=some (.tup [.str "say",.int (M3 S.gv ts),.int (i0:Int),.int (j0:Int)]):=G1
   generalize upd H3 tt (.tup [.str "say",.int (M3 S.gv ts),.int (i0:Int),.int (j0:Int)])=H6 at s6 ht6⊢
   obtain⟨T7,hS7⟩:=(hS2.same s6).pushEv hB.ft (v:= .ref tt) (k:="say") (i:=M3 S.gv ts) (p:=i0) (n:=j0) (s6 _ _ hus) ⟨tt,rfl,ht6⟩
   refine⟨A.tr,_,_,rfl,rfl,s6 _ _ hus,by omega,?_⟩
   generalize upd H6 A.tr (.lst (us++[.ref tt]))=H7 at T7 hS7⊢
   have h7:=T7 _ _ (s6 _ _ h1)
   refine⟨_,rfl,r,_,_,_,rfl,rfl,SqT.of h7,G9 (j:=0) rfl,rfl,_,rfl,W3 (by decide +kernel) (Y4 (a7b ?_))⟩
   refine⟨_,rfl,r,_,_,_,rfl,rfl,SqT.of h7,G9 (j:=0) rfl,a0p,fun c gc=>⟨c,_,rfl,.inr (SqT.of G1),rfl,rfl,_,rfl,?_⟩⟩
   have s8:G8 H7 (upd H7 c (.tup [.str "ask",.str "do"])):=(G8.refl H7).new gc
   rw[if_neg AD,a9x,AM (by decide +kernel)]
   refine Y4 (Y4 ?_)
   exact q _ (((s2.trans s6).tups.trans T7).trans s8.tups) (hS7.same s8)
  | need ts=>
   have hq:=D8 (lds:=lds) (nums:=nums) (go:=a0u pk lds nums d) (x:=(pn,i0,j0,rk)) hft ho he (by show toR rk.w=none;rw[ew];rfl)
   rw[hq,show(((pn,i0,j0,rk):Tg)).2.2.2.w= .need ts from ew]at q
   rw[ew]at hra2 hok hnm
   obtain⟨t,h1,hts⟩:=hra2
   refine⟨_,rfl,r,_,_,_,rfl,rfl,SqT.of h1,G9 (j:=0) rfl,rfl,_,rfl,W3 (by decide +kernel) (a2f ?_)⟩
   refine⟨_,rfl,r,_,_,_,rfl,rfl,SqT.of h1,G9 (j:=0) rfl,rfl,_,rfl,W3 (by decide +kernel) (a2f ?_)⟩
   refine⟨_,rfl,r,_,_,_,rfl,rfl,SqT.of h1,G9 (j:=0) rfl,rfl,_,rfl,W3 (by decide +kernel) (a2f ?_)⟩
   refine a0o (fun b H5=>H5=H3/\b=decide (M3 S.gv ts<=0)) (fun σ' H5=>σ'=[some (.ref s),some (.int (i0:Int)),some (.int (j0:Int)),some (.ref r),some (.ref A.kn),some (a2H (a1V (Rw.need ts))),v6,v7]/\R7 H3 H5/\LS H0 H5 s A nums (a0a nums S i0 j0 (.need ts))) ?_ ?_ ?_ ?_
   ·intro Q' h
    refine⟨_,rfl,r,_,_,_,rfl,rfl,SqT.of h1,G9 (j:=0) rfl,rfl,_,rfl,a0U ?_⟩
    exact⟨_,rfl,r,_,_,_,rfl,rfl,SqT.of h1,G9 (j:=1) rfl,_,rfl,t,A.kn,ts,S.gv,rfl,hS2.kn,hts,hok.sg,hnm,_,_,rfl,rfl,_,rfl,h _ _ ⟨rfl,rfl⟩⟩
   ·rintro H5 ⟨rfl,hb⟩ D' hJ
    have hle:M3 S.gv ts<=0:=of_decide_eq_true hb.symm
    refine⟨_,rfl,_,rfl,(by show 4<=sizeLine;decide),fun tt gt=>?_⟩
    have s6:G8 H5 (upd H5 tt (.tup [.str "need",.int (i0:Int),.int (j0:Int),.int 0])):=(G8.refl H5).new gt
    have ht6:upd H5 tt (.tup [.str "need",.int (i0:Int),.int (j0:Int),.int 0]) tt=some (.tup [.str "need",.int (i0:Int),.int (j0:Int),.int 0]):=G1
    generalize upd H5 tt (.tup [.str "need",.int (i0:Int),.int (j0:Int),.int 0])=H6 at s6 ht6⊢
    have hS6:=hS2.same s6
    obtain⟨v6',hs6,_⟩:=hS6.st
    refine⟨_,rfl,s,_,rfl,a2v.k (k:=Sum.inr "fault") hs6 (by show 7 < sizeLine;omega),?_⟩
    rw[b2E]
    obtain⟨T7,hS7⟩:=hS6.fault hB.fs (v:= .ref tt) (ft:=some ("need",i0,j0,0)) ⟨tt,rfl,ht6⟩
    refine hJ _ _ ⟨rfl,s6.tups.trans T7,?_⟩
    have e8:a0a nums S i0 j0 (.need ts)={S with ft:=some ("need",i0,j0,0)}:=by simp only[a0a];rw[if_pos hle]
    rw[e8]
    exact hS7
   ·rintro H5 ⟨rfl,hb⟩
    have hle:¬M3 S.gv ts<=0:=fun z=>by rw[decide_eq_true z]at hb;cases hb
    refine⟨rfl,R7.refl _,?_⟩
    have e8:a0a nums S i0 j0 (.need ts)=S:=by simp only[a0a];rw[if_neg hle]
    rw[e8]
    exact hS2
   rintro σ' H5 ⟨rfl,T5,hS5⟩
   have h5:=T5 _ _ h1
   refine⟨_,rfl,r,_,_,_,rfl,rfl,SqT.of h5,G9 (j:=0) rfl,a0p,fun c gc=>⟨c,_,rfl,.inr (SqT.of G1),rfl,rfl,_,rfl,?_⟩⟩
   have s8:G8 H5 (upd H5 c (.tup [.str "ask",.str "do"])):=(G8.refl H5).new gc
   rw[if_neg AD,a9x,AM (by decide +kernel)]
   refine Y4 (Y4 ?_)
   exact q _ ((s2.tups.trans T5).trans s8.tups) (hS5.same s8)
  | ask b wh=>
   have hq:=a1j (lds:=lds) (nums:=nums) (go:=a0u pk lds nums d) (x:=(pn,i0,j0,rk)) (q:=b) hft ho he (by show toR rk.w=some b;rw[ew];rfl)
   rw[hq,show a0b (((pn,i0,j0,rk):Tg)).2.2.2.w=true from(by show a0b rk.w=true;rw[ew];exact a6P _ _)]at q
   have hbp:=hTG b (by rw[ew];rfl)
   have hbl:=hAK b (by rw[ew];rfl) (by rw[ew];exact a6P _ _)
   rw[ew]at hra2
   have h1:H3 r=some (.tup [.str "ask",.str b,a2H wh]):=hra2
   refine⟨_,rfl,r,_,_,_,rfl,rfl,SqT.of h1,G9 (j:=0) rfl,rfl,_,rfl,W3 (by decide +kernel) (a2f ?_)⟩
   refine⟨_,rfl,r,_,_,_,rfl,rfl,SqT.of h1,G9 (j:=0) rfl,rfl,_,rfl,W3 (by decide +kernel) (a2f ?_)⟩
   refine⟨_,rfl,r,_,_,_,rfl,rfl,SqT.of h1,G9 (j:=0) rfl,rfl,_,rfl,W3 (by decide +kernel) (a2f ?_)⟩
   refine⟨_,rfl,r,_,_,_,rfl,rfl,SqT.of h1,G9 (j:=0) rfl,rfl,_,rfl,W3 (by decide +kernel) (Y4 (a7b ?_))⟩
   refine⟨_,rfl,r,_,_,_,rfl,rfl,SqT.of h1,G9 (j:=0) rfl,a0p,fun c gc=>⟨c,_,rfl,.inr (SqT.of G1),rfl,rfl,_,rfl,?_⟩⟩
   have s5:G8 H3 (upd H3 c (.tup [.str "ask",.str "do"])):=(G8.refl H3).new gc
   rw[if_neg AD,a9x,decide_eq_true (by decide +kernel)]
   generalize upd H3 c (.tup [.str "ask",.str "do"])=H5 at s5⊢
   have hS5:=hS2.same s5
   have h5:=s5 _ _ h1
   obtain⟨_,_,_,_,k2,_,k4,_,_,_⟩:=hS5.get
   refine O7 ?_
   refine⟨_,rfl,r,_,_,_,rfl,rfl,SqT.of h5,G9 (j:=1) rfl,_,rfl,s,_,rfl,k4,A.bg,_,rfl,O3.k (k:=Sum.inr b) hS5.bg,_,rfl,?_⟩
   rw[a2u]
   by_cases hb:b∈S.bg
   ·rw[decide_eq_true hb]
    refine Y4 ?_
    rw[if_pos hb]at q
    exact q _ (s2.trans s5).tups hS5
   ·rw[AM hb]
    refine O7 ?_
    rw[if_neg hb]at q
    refine⟨_,rfl,r,_,_,_,rfl,rfl,SqT.of h5,G9 (j:=0) rfl,rfl,_,rfl,a0U ?_⟩
    obtain⟨kv,hkv,hkl⟩:=hB.ld
    obtain⟨u,eu,hu0'⟩:=hkl b hbl
    have hgl:=O3.k (k:=Sum.inr b) (hS5.sm _ _ hkv)
    rw[eu]at hgl
    have h12:=a0i (n:=b) (a:=[]) hE.pr.ld (AZ _)
    refine⟨_,rfl,_,rfl,s,_,rfl,k2,_,rfl,r,_,_,_,rfl,rfl,SqT.of h5,G9 (j:=1) rfl,A.ld,_,rfl,hgl,s,u,A,ns,pk,lds,nums,H0,S,_,rfl,hB,hS5,hS5.sm _ _ hu0',by omega,fun H6 T6 hS6=>?_⟩
    have h6:=T6 _ _ h5
    have hszl:=a8y pk (U8 b [] lds) S
    have hbg6:=(F5 S (U8 b [] lds)).1
    cases d with
    | zero=>
     have:=a1m hbp hb
     omega
    | succ d=>
     refine⟨_,rfl,_,rfl,r,_,_,_,rfl,rfl,SqT.of h6,G9 (j:=1) rfl,s,A,ns,pk,lds,nums,H0,_,b,rfl,hB,hS6,hE,((Z3 (U8 b [] lds) S).2.1).trans hft,hbp,by rw[hbg6];exact hb,by rw[hbg6];exact hlq,by omega,fun H7 T7 hS7=>?_⟩
     exact q _ (((s2.trans s5).tups.trans T6).trans T7) hS7
  | doo b=>
   have hq:=a1j (lds:=lds) (nums:=nums) (go:=a0u pk lds nums d) (x:=(pn,i0,j0,rk)) (q:=b) hft ho he (by show toR rk.w=some b;rw[ew];rfl)
   rw[hq,show a0b (((pn,i0,j0,rk):Tg)).2.2.2.w=false from(by show a0b rk.w=false;rw[ew];exact a6W _)]at q
   have hbp:=hTG b (by rw[ew];rfl)
   rw[ew]at hra2
   have h1:H3 r=some (.tup [.str "do",.str b]):=hra2
   refine⟨_,rfl,r,_,_,_,rfl,rfl,SqT.of h1,G9 (j:=0) rfl,rfl,_,rfl,W3 (by decide +kernel) (a2f ?_)⟩
   refine⟨_,rfl,r,_,_,_,rfl,rfl,SqT.of h1,G9 (j:=0) rfl,rfl,_,rfl,W3 (by decide +kernel) (a2f ?_)⟩
   refine⟨_,rfl,r,_,_,_,rfl,rfl,SqT.of h1,G9 (j:=0) rfl,rfl,_,rfl,W3 (by decide +kernel) (a2f ?_)⟩
   refine⟨_,rfl,r,_,_,_,rfl,rfl,SqT.of h1,G9 (j:=0) rfl,rfl,_,rfl,W3 (by decide +kernel) (Y4 (a7b ?_))⟩
   refine⟨_,rfl,r,_,_,_,rfl,rfl,SqT.of h1,G9 (j:=0) rfl,a0p,fun c gc=>⟨c,_,rfl,.inr (SqT.of G1),rfl,rfl,_,rfl,?_⟩⟩
   have s5:G8 H3 (upd H3 c (.tup [.str "ask",.str "do"])):=(G8.refl H3).new gc
   rw[if_neg AD,a9x,decide_eq_true (by decide +kernel)]
   generalize upd H3 c (.tup [.str "ask",.str "do"])=H5 at s5⊢
   have hS5:=hS2.same s5
   have h5:=s5 _ _ h1
   obtain⟨_,_,_,_,k2,_,k4,_,_,_⟩:=hS5.get
   refine O7 ?_
   refine⟨_,rfl,r,_,_,_,rfl,rfl,SqT.of h5,G9 (j:=1) rfl,_,rfl,s,_,rfl,k4,A.bg,_,rfl,O3.k (k:=Sum.inr b) hS5.bg,_,rfl,?_⟩
   rw[a2u]
   by_cases hb:b∈S.bg
   ·rw[decide_eq_true hb]
    refine Y4 ?_
    rw[if_pos hb]at q
    exact q _ (s2.trans s5).tups hS5
   ·rw[AM hb]
    refine O7 ?_
    rw[if_neg hb]at q
    refine⟨_,rfl,r,_,_,_,rfl,rfl,SqT.of h5,G9 (j:=0) rfl,rfl,_,rfl,W3 (by decide +kernel) ?_⟩
    cases d with
    | zero=>
     have:=a1m hbp hb
     omega
    | succ d=>
     refine⟨_,rfl,_,rfl,r,_,_,_,rfl,rfl,SqT.of h5,G9 (j:=1) rfl,s,A,ns,pk,lds,nums,H0,S,b,rfl,hB,hS5,hE,hft,hbp,hb,hlq,by omega,fun H7 T7 hS7=>?_⟩
     exact q _ ((s2.trans s5).tups.trans T7) hS7
theorem Cl.absurdK{P:Program}{w:World}{K:W.Frag}{mg:Str->Option Value}{base:Heap}{x:Str}{st:Stmt}{ps:List Str}(k:Nat)(T:Y9 K mg x st)
  (hb:∀(kV doc pm:Value)(an:Option Addr)(cdv ct:Value)(us:List Value),us.length=ps.length->bindArgs (W.fnOf x x (J7 st) (J2 st) (G4 st) .none kV doc pm an cdv ct) ⟨us,[]⟩=pure (ps.zip us)):L2.Cl P w K mg base k x ps (fun _ _ _ _=>False):=by
 obtain⟨f,fd,F,m⟩:=T
 exact⟨f,fd,⟨fun _ _ _ _ h=>h.elim,fun _ _ _ _ _ _ _ _ _ _ _ _ _ h=>h.elim⟩,m,F.kp,F.binds hb⟩
theorem a8t:∀(A B:List (List Ro))(j:Nat),Y8 j (A++B)=Y8 j A++Y8 (j+A.length) B
 | [],B,j=>by simp[Y8]
 | P::t,B,j=>by
  simp only[List.cons_append,Y8,List.length_cons]
  rw[a8t t B (j+1),List.append_assoc,show j+1+t.length=j+(t.length+1)by omega]
noncomputable def a2l (pk:List (List Ro)) (P:List Ro) (i j:Nat):List Tg:=Y8 0 (pk.take i)++(tag "" 0 (P.take j)).map fun x=>(x.1,i,x.2.1,x.2.2)
theorem a9d{pk:List (List Ro)}{i:Nat}{P:List Ro}(hi:pk[i]?=some P)(j:Nat):∃R,Y8 0 pk=a2l pk P i j++R:=by
 have li:i < pk.length:=(AB.mp hi).1
 have e1:pk=pk.take i++P::pk.drop (i+1):=by
  have:=(AB.mp hi).2
  rw[<-this]
  rw[List.getElem_cons_drop,List.take_append_drop]
 have e2:P=P.take j++P.drop j:=(List.take_append_drop j P).symm
 have e3:=congrArg (Y8 0) e1
 rw[a8t]at e3
 have e4:Y8 (0+(pk.take i).length) (P::pk.drop (i+1))=(tag "" 0 P).map (fun x=>(x.1,i,x.2.1,x.2.2))++Y8 (i+1) (pk.drop (i+1)):=by
  rw[AU,Nat.min_eq_left (by omega),Nat.zero_add]
  rfl
 have e5:tag "" 0 P=tag "" 0 (P.take j)++tag (cur "" (P.take j)) (0+(P.take j).length) (P.drop j):=by
  conv=>lhs;rw[e2]
  exact a0d _ _ _ _
 rw[e4,e5,List.map_append]at e3
 refine⟨(tag (cur "" (P.take j)) (0+(P.take j).length) (P.drop j)).map (fun x=>(x.1,i,x.2.1,x.2.2))++Y8 (i+1) (pk.drop (i+1)),e3.trans ?_⟩
 unfold a2l
 simp only[List.append_assoc]
theorem b1M{pk:List (List Ro)}{i j:Nat}{P:List Ro}{n:Str}(hj:P[j]?=some (.part n)):a2l pk P i (j+1)=a2l pk P i j/\cur "" (P.take (j+1))=n:=by
 have etk:=I0 hj
 refine⟨?_,by rw[etk,a1e];rfl⟩
 unfold a2l
 rw[etk,a0d]
 simp[tag]
theorem b4q{pk:List (List Ro)}{i j:Nat}{P:List Ro}{r:Rk}(hj:P[j]?=some (.row r)):a2l pk P i (j+1)=a2l pk P i j++[(cur "" (P.take j),i,j,r)]/\cur "" (P.take (j+1))=cur "" (P.take j):=by
 have etk:=I0 hj
 have hl:j < P.length:=(AB.mp hj).1
 refine⟨?_,by rw[etk,a1e];rfl⟩
 unfold a2l
 rw[etk,a0d]
 simp only[tag]
 rw[List.map_append,AU,Nat.min_eq_left (by omega),Nat.zero_add,List.append_assoc]
 rfl
theorem b3P{pk:List (List Ro)}{i:Nat}{P:List Ro}(hi:pk[i]?=some P){j:Nat}(hj:P.length<=j):a2l pk P i j=Y8 0 (pk.take (i+1)):=by
 have li:i < pk.length:=(AB.mp hi).1
 unfold a2l
 rw[I0 hi,a4m,AU,Nat.min_eq_left (by omega),Nat.zero_add,List.take_of_length_le hj]
theorem b6q{ns:List Str}{H:Hp}{us:List V}{pk:List (List Ro)}(h:Paired (a7M ns H) us pk){x:Tg}(hx:x∈Y8 0 pk):a2T ns H x.2.2.2:=a9B h 0 x hx
theorem a4V(a b:Str):decide (V.str a=V.str b)=decide (a=b):=decide_eq_decide.mpr ⟨fun z=>V.str.inj z,fun z=>by rw[z]⟩
theorem b3p(T:Txt K mg):∀d:Nat,L2.Cl P w K mg base (2*d+1) "_law_begin" ["_law_state","_law_part"] (a9G d):=by
 intro d
 induction d with
 | zero=>exact Cl.absurdK _ T.d_law_begin (fun _ _ _ _ _ _ us hl=>by obtain⟨a,b,rfl⟩:=a2F hl;rfl)
 | succ d ih=>
 have C_law_done:=b2L (P:=P) (w:=w) (base:=base) T d ih
 show L2.Cl P w K mg base (2*d+2+1) "_law_begin" ["_law_state","_law_part"] (a9G (d+1))
 refine Cl.of T.d_law_begin a0q (fun vs H Q E h=>?_) (fun _ _ _ _ _ _ us hl=>by obtain⟨a,b,rfl⟩:=a2F hl;rfl) (fun f cdv A0 outer s0 H vs Q E hr h=>?_)
 ·obtain⟨s,A,ns,pk,lds,nums,H0,S,p,rfl,_⟩:=h
  rfl
 ·obtain⟨s,A,ns,pk,lds,nums,H0,S,p,rfl,hB,hS,hE,hft,hp,hpb,hlq,hsz,q⟩:=h
  have hu:=a0s hr
  have hu0:=Nat.lt_of_succ_lt hu
  have hsl:sizeLine=16777216:=sizeLine_eq
  have hp0:=hE.ne p hp
  have hbs:=a8F pk hpb
  have hlb:=a1m hp hpb
  obtain⟨v0,_,hs0,g1,g2,g3,g4,g5,g6,g7⟩:=hS.get
  refine⟨_,(G3 (D9 hu (W9 hu (pv 0) I9 (fun _ _=>rfl)) (pv 1) a1P rfl)
   (G6 (Y2 AL rfl (Z4 (by rfl) T.n_range (G0 (R9 U2 (by rfl) T.n_len PySem.boot_len (G0 (W9 hu (pv 0) I9 (fun _ _=>rfl)) G2)) G2)) (J8 (i:=2) a0q.nd rfl (Or.inl rfl))
    (G3 (J6 (i:=3) a0q.nd rfl (Or.inl rfl) a1P)
    (G6 (Y2 AL rfl (Z4 (by rfl) T.n_range (G0 (R9 U2 (by rfl) T.n_len PySem.boot_len (G0 (J0 J1 (W9 hu (pv 0) I9 (fun _ _=>rfl)) (pv 2) (fun _ _=>rfl)) G2)) G2)) (J8 (i:=4) a0q.nd rfl (Or.inl rfl))
     (G3 (J6 (i:=5) a0q.nd rfl (Or.inl rfl) (J0 J1 (J0 J1 (W9 hu (pv 0) I9 (fun _ _=>rfl)) (pv 2) (fun _ _=>rfl)) (pv 4) (fun _ _=>rfl)))
     (G6 (R8 (J3 Y5 (J0 J1 (pv 5) G5 (fun _ _=>rfl)) I9 (R4 _))
      (G6 (J6 (i:=3) a0q.nd rfl (Or.inl rfl) (a4O Y5 (J0 J1 (pv 5) G5 (fun _ _=>rfl)) (pv 1) (R4 _)))) (G6 (R8 (PW.pt (a0T (a0D (pv 3)) (M6 (M4 (a3s (W9 hu (pv 0) I9 (fun _ _=>rfl)))))))
       (G6 (U1 (W6 C_law_done hr (by rfl) (G0 (pv 0) (G0 (pv 2) (G0 (pv 4) (G0 (pv 5) G2)))) (AE _)))) J5))))))))))),?_⟩
  refine⟨_,rfl,s,_,rfl,g4,_,rfl,A.bg,_,rfl,a2v.k (k:=Sum.inr p) hS.bg (by rw[a2M];unfold szW at hsz;omega),?_⟩
  rw[a4b]
  obtain⟨T1,hS1⟩:=hS.begun hB.fb (O4 S.bg p)
  have hq:∀H',R7 H H'->LS H0 H' s A nums ((B9 pk p).foldl (E7 lds nums (a0u pk lds nums d)) {S with bg:=O4 S.bg p})->Q .non H':=q
  clear q
  generalize upd H A.bg (.dK (D7 (O4 S.bg p)))=H1 at T1 hS1⊢
  have hft1:({S with bg:=O4 S.bg p}:GP).ft=none:=hft
  have hlq1:a0F (pk.flatMap R6) ({S with bg:=O4 S.bg p}:GP).bg<=d:=by show a0F (pk.flatMap R6) (O4 S.bg p)<=d;omega
  generalize ({S with bg:=O4 S.bg p}:GP)=S1 at hbs hS1 hq hft1 hlq1
  obtain⟨us,hpk0,hus⟩:=hB.pk
  have hul:us.length=pk.length:=AI hus
  have hpl:=hE.pl
  obtain⟨v1,_,hs1,k1,_⟩:=hS1.get
  have gosz:=a4P (nums:=nums) hE.pr d
  have gobg:=a7G pk lds nums d
  refine⟨_,rfl,s,_,rfl,k1,A.pk,_,rfl,.inr (SqT.of (hS1.sm _ _ hpk0)),_,rfl,(by omega),(by omega),?_⟩
  refine M1 (n:=us.length) (fun i σ H2=>∃v2 v3 v4 v5:Option V,σ=[some (.ref s),some (.str p),v2,v3,v4,v5]/\R7 H1 H2/\LS H0 H2 s A nums (((Y8 0 (pk.take i)).filter fun x=>decide (x.1=p)).foldl (E7 lds nums (a0u pk lds nums d)) S1)) ⟨none,none,none,none,rfl,R7.refl _,hS1⟩ ?_ ?_
  ·rintro i σ H2 hi ⟨v2,v3,v4,v5,rfl,T2,hS2⟩
   have e1:(0:Int)+(i:Int)=((i:Nat):Int):=by omega
   obtain⟨P,hP,a,vs,ea,ha0,hvs0⟩:=Paired.get? hus (AG hi)
   have hPl:=hE.rl P (AF hP)
   have hvl:vs.length=P.length:=AI hvs0
   have ai:atI us (0+(i:Int))=some (.ref a):=by rw[e1];exact G9 (by rw[AG hi,ea])
   obtain⟨_,_,_,k2,_⟩:=hS2.get
   refine⟨_,rfl,s,_,rfl,k2,_,rfl,A.pk,_,_,_,rfl,rfl,SqT.of (hS2.sm _ _ hpk0),ai,a,_,rfl,.inr (SqT.of (hS2.sm _ _ ha0)),_,rfl,(by omega),(by omega),?_⟩
   refine M1 (n:=vs.length) (fun j σ H3=>∃v4 v5:Option V,σ=[some (.ref s),some (.str p),some (.int (0+(i:Int))),some (.bl (decide (cur "" (P.take j)=p))),v4,v5]/\R7 H1 H3/\LS H0 H3 s A nums (((a2l pk P i j).filter fun x=>decide (x.1=p)).foldl (E7 lds nums (a0u pk lds nums d)) S1)) ⟨v4,v5,?_,T2,?_⟩ ?_ ?_
   ·have:decide (cur "" (P.take 0)=p)=false:=AM fun z=>hp0 z.symm
    rw[this]
    rfl
   ·have:a2l pk P i 0=Y8 0 (pk.take i):=by unfold a2l;simp[tag]
    rw[this]
    exact hS2
   ·rintro j σ H3 hj ⟨v4,v5,rfl,T3,hS3⟩
    have e2:(0:Int)+(j:Int)=((j:Nat):Int):=by omega
    obtain⟨o,ho,hro⟩:=Paired.get? hvs0 (AG hj)
    have aj:atI vs (0+(j:Int))=some vs[j]:=by rw[e2];exact G9 (AG hj)
    obtain⟨v3',hf3,_,k3,_,_,_,_,kf3,_⟩:=hS3.get
    refine⟨_,rfl,s,_,rfl,k3,_,rfl,A.pk,_,_,_,rfl,rfl,SqT.of (hS3.sm _ _ hpk0),ai,_,rfl,a,_,_,_,rfl,rfl,SqT.of (hS3.sm _ _ ha0),aj,?_⟩
    generalize vs[j]=y at hro
    cases o with
    | part n=>
     obtain⟨b,rfl,hb⟩:=hro
     have hb3:=hS3.sm _ _ hb
     obtain⟨c1,c2⟩:=b1M (pk:=pk) (i:=i) ho
     refine⟨_,rfl,b,_,_,_,rfl,rfl,SqT.of hb3,G9 (j:=0) rfl,rfl,_,rfl,a0U ?_⟩
     refine⟨_,rfl,b,_,_,_,rfl,rfl,SqT.of hb3,G9 (j:=1) rfl,_,rfl,rfl,?_⟩
     refine⟨some (.int (0+(j:Int))),some (.ref b),?_,T3,?_⟩
     ·rw[c2,a4V]
      rfl
     ·rw[c1]
      exact hS3
    | row r=>
     obtain⟨rfl,y1,tl,hrt0,hkp,hto,hrow0,hrok,hwk,_⟩:=hro
     obtain⟨c1,c2⟩:=b4q (pk:=pk) (i:=i) ho
     have hrt3:=hS3.sm _ _ hrt0
     refine⟨_,rfl,r.a,_,_,_,rfl,rfl,SqT.of hrt3,G9 (j:=0) rfl,rfl,_,rfl,W3 hkp ?_⟩
     obtain⟨R,hR⟩:=a9d hP (j+1)
     rw[c1]at hR
     have hxm:(cur "" (P.take j),i,j,r)∈Y8 0 pk:=by rw[hR];simp
     generalize hcx:cur "" (P.take j)=cx at c1 c2 hR hxm⊢
     have hGS:((a2l pk P i (j+1)).filter fun x=>decide (x.1=p)).foldl (E7 lds nums (a0u pk lds nums d)) S1=if cx=p then E7 lds nums (a0u pk lds nums d) (((a2l pk P i j).filter fun x=>decide (x.1=p)).foldl (E7 lds nums (a0u pk lds nums d)) S1) (cx,i,j,r)else((a2l pk P i j).filter fun x=>decide (x.1=p)).foldl (E7 lds nums (a0u pk lds nums d)) S1:=by
      rw[c1,List.filter_append]
      by_cases z:cx=p
      ·rw[if_pos z,List.filter_cons_of_pos (by simpa using z),List.foldl_append]
       rfl
      ·rw[if_neg z,List.filter_cons_of_neg (by simpa using z),List.filter_nil,List.append_nil]
     have hszj:=a5G (nums:=nums) hE.pr gosz ((a2l pk P i j).filter fun x=>decide (x.1=p)) S1
     have hbgj:=a5v (lds:=lds) (nums:=nums) gobg ((a2l pk P i j).filter fun x=>decide (x.1=p)) S1
     have hlen:cx=p->((a2l pk P i j).filter fun x=>decide (x.1=p)).length+1<=(B9 pk p).length:=fun z=>by
      unfold B9
      rw[hR,List.filter_append,List.filter_append,List.filter_cons_of_pos (p:=fun x:Tg=>decide (x.1=p)) (by simpa using z)]
      simp only[List.length_append,List.length_cons]
      omega
     generalize ((a2l pk P i j).filter fun x=>decide (x.1=p)).foldl (E7 lds nums (a0u pk lds nums d)) S1=Sj at hS3 hGS hszj hbgj hf3
     refine a7v (fun b H4=>H4=H3/\b=(decide (cx=p) && decide (v3'= .non))) ?_ ?_ ?_
     ·intro Q' h
      refine a4i (a:=decide (cx=p)) (b:=decide (v3'= .non)) (fun Q'' h'=>?_) (fun Q'' h'=>?_) _ (h _ _ ⟨rfl,rfl⟩)
      ·exact⟨_,rfl,_,rfl,h'⟩
      ·exact⟨_,rfl,s,_,rfl,kf3,_,rfl,h'⟩
     ·rintro H4 ⟨rfl,hb⟩
      rw[eq_comm,Bool.and_eq_true,decide_eq_true_eq,decide_eq_true_eq]at hb
      obtain⟨rfl,hvn⟩:=hb
      have hftj:Sj.ft=none:=by
       cases e:Sj.ft with
       | none=>rfl
       | some ff=>
        rw[e]at hf3
        obtain⟨t,et,_⟩:=hf3
        rw[et]at hvn
        cases hvn
      refine⟨_,rfl,_,rfl,_,rfl,_,rfl,s,r.a,A,ns,pk,lds,nums,H0,Sj,(cx,i,j,r),(by rw[Int.zero_add,Int.zero_add];rfl),hB,hS3,hE,hftj,hxm,hrow0.mono hS3.sm.tups,hrok,hwk,Nat.le_trans (a3A hbgj) hlq1,?_,fun H5 T5 hS5=>?_⟩
      ·have:=hlen rfl
       omega
      ·refine⟨some (.int (0+(j:Int))),some (.ref r.a),?_,T3.trans T5,?_⟩
       ·rw[c2]
        rfl
       ·rw[hGS,if_pos rfl]
        exact hS5
     ·rintro H4 ⟨rfl,hb⟩
      refine⟨some (.int (0+(j:Int))),some (.ref r.a),?_,T3,?_⟩
      ·rw[c2]
       rfl
      ·rw[hGS]
       split
       ·rename_i z
        have hne:Sj.ft≠none:=fun e=>by
         rw[e]at hf3
         rw[decide_eq_true z,decide_eq_true (show v3'= .non from hf3)]at hb
         cases hb
        rw[a2g hne]
        exact hS3
       ·exact hS3
   ·rintro σ H3 ⟨v4,v5,rfl,T3,hS3⟩
    rw[b3P hP (by omega)]at hS3
    exact⟨_,_,_,_,rfl,T3,hS3⟩
  ·rintro σ H2 ⟨v2,v3,v4,v5,rfl,T2,hS2⟩
   rw[hul,AR]at hS2
   exact hq H2 (T1.trans T2) hS2
theorem a1z{H:Hp}{d a:Addr}{kvs:List (Key×V)}{o:HO}(hd:Rd H d (.dK kvs))(h:H a=some o)(h1:∀k,o≠ .dK k)(h2:∀ob k,o≠ .frz ob (.dK k)):a≠d:=fun z=>by
 subst z
 rcases hd with h' | ⟨ob,h'⟩<;>rw[h']at h<;>cases h
 ·exact h1 _ rfl
 ·exact h2 _ _ rfl
theorem a4L.but{ns:List Str}{bs:List (List Rk)}{H H':Hp}{t d:Addr}{pk:List (List Ro)}{lds:List (Str×List Int)}{kvs:List (Key×V)}(m:a4L ns bs H t pk lds)(hd:Rd H d (.dK kvs))(s:But d H H'):a4L ns bs H' t pk lds:=by
 obtain⟨p,o,l,us,ws,ob,h1,h2,h3,h4,h5,h6⟩:=m.ex
 have T:R7 H H':=fun a xs h=>s a _ (a1z hd h (fun _ z=>by cases z) (fun _ _ z=>by cases z)) h
 exact⟨⟨p,o,l,us,ws,ob,T _ _ h1,T _ _ h2,Paired.mapP h3 fun _ _ z=>z.mono T,s _ _ (a1z hd h4 (fun _ z=>by cases z) (fun _ _ z=>by cases z)) h4,h5,Paired.mapP h6 fun _ _ z=>z.mono T⟩,m.ok,m.pl,m.rl,m.tl,m.ll,m.ln,m.l1,m.ak⟩
theorem a4L.same{ns:List Str}{bs:List (List Rk)}{H H':Hp}{t:Addr}{pk:List (List Ro)}{lds:List (Str×List Int)}(m:a4L ns bs H t pk lds)(s:G8 H H'):a4L ns bs H' t pk lds:=by
 obtain⟨p,o,l,us,ws,ob,h1,h2,h3,h4,h5,h6⟩:=m.ex
 exact⟨⟨p,o,l,us,ws,ob,s _ _ h1,s _ _ h2,Paired.mapP h3 fun _ _ z=>z.mono s.tups,s _ _ h4,h5,Paired.mapP h6 fun _ _ z=>z.mono s.tups⟩,m.ok,m.pl,m.rl,m.tl,m.ll,m.ln,m.l1,m.ak⟩
theorem a2C.but{ns:List Str}{H H':Hp}{bl d:Addr}{bs:List (List Rk)}{kvs:List (Key×V)}(h:a2C ns H bl bs)(hd:Rd H d (.dK kvs))(s:But d H H'):a2C ns H' bl bs:=by
 obtain⟨vs,h1,h2,h3⟩:=h
 have T:R7 H H':=fun a xs h=>s a _ (a1z hd h (fun _ z=>by cases z) (fun _ _ z=>by cases z)) h
 have L:∀a xs,H a=some (.lst xs)->H' a=some (.lst xs):=fun a xs h=>s a _ (a1z hd h (fun _ z=>by cases z) (fun _ _ z=>by cases z)) h
 refine⟨vs,L _ _ h1,Paired.mapP h2 fun _ _ z=>?_,h3⟩
 obtain⟨b,e1,e2,e3⟩:=z
 exact⟨b,e1,L _ _ e2,fun r hr=>(e3 r hr).mono T⟩
theorem Wk.rd{CP:Addr}{ns:List Str}{H:Hp}{w d:Addr}{pk:List (List Ro)}{lds:List (Str×List Int)}{ah:Bool}(h:Wk CP ns H w d pk lds ah):∃kvs,Rd H d (.dK kvs):=by
 obtain⟨dx,l,qs,h1,h2,h3,h4⟩:=h.ex
 exact⟨_,h3.hd⟩
theorem Wk.other{CP:Addr}{ns:List Str}{H H':Hp}{w d e:Addr}{pk:List (List Ro)}{lds:List (Str×List Int)}{ah:Bool}{kvs:List (Key×V)}(h:Wk CP ns H w d pk lds ah)(he:Rd H e (.dK kvs))(hne:d≠e)(s:But e H H'):Wk CP ns H' w d pk lds ah:=by
 obtain⟨dx,l,qs,h1,h2,h3,h4⟩:=h.ex
 have T:R7 H H':=fun a xs h=>s a _ (a1z he h (fun _ z=>by cases z) (fun _ _ z=>by cases z)) h
 have L:∀a xs,H a=some (.lst xs)->H' a=some (.lst xs):=fun a xs h=>s a _ (a1z he h (fun _ z=>by cases z) (fun _ _ z=>by cases z)) h
 have hd':Rd H' d (.dK (bkv qs)):=by
  rcases h3.hd with z | ⟨o,z⟩
  ·exact .inl (s _ _ hne z)
  ·exact .inr ⟨o,s _ _ hne z⟩
 refine⟨dx,l,qs,s _ _ (a1z he h1 (fun _ z=>by cases z) (fun _ _ z=>by cases z)) h1,h2.keep fun a o h ho=>s a o (b0o he h ho) h,⟨hd',h3.nd,h3.ql,h3.al,fun n c hc=>?_,fun x hx=>(h3.rk x hx).mono T⟩,h4⟩
 obtain⟨e1,vs,e2,e3⟩:=h3.ls n c hc
 exact⟨e1,vs,L _ _ e2,Paired.mapP e3 fun _ _ z=>z.mono T⟩
theorem Rch.congr{E F:Str->Str->Prop}{S:List Str}(h:∀a b,E a b->F a b){n:Str}(r:Rch E S n):Rch F S n:=by
 induction r with
 | base h=>exact .base h
 | step _ e ih=>exact .step ih (h _ _ e)
theorem a8z(sc:List Int)(i j:Nat):∃cs:List Int,a5Z (sc.map V.int) (some (i:Int)) (some (j:Int))=cs.map V.int/\cs.length<=j - i:=by
 refine⟨(sc.drop (min i sc.length)).take (min j sc.length - min i sc.length),?_,?_⟩
 ·unfold a5Z
  rw[HT.a7O,HT.a7O,List.length_map,List.map_take,List.map_drop]
 ·rw[AU,List.length_drop]
  omega
theorem a4e{CP:Addr}{H1 H':Hp}{x dx:Addr}(gx:H1 x=none)(gdx:H1 dx=none)(B:But x (upd (upd H1 dx (.own x)) x (.ins CP dx [])) H'):G8 H1 H':=fun a o h=>by
 have h1:a≠x:=fun z=>by rw[z,gx]at h;cases h
 have h2:a≠dx:=fun z=>by rw[z,gdx]at h;cases h
 exact B a o h1 (by rw[G7 h1,G7 h2];exact h)
theorem a6H{CP:Addr}{H1:Hp}{x dx d:Addr}(gx:H1 x=none)(gdx:H1 dx=none)(h:upd (upd H1 dx (.own x)) x (.ins CP dx []) d=none):H1 d=none:=by
 cases e:H1 d with
 | none=>rfl
 | some o=>
  have h1:d≠x:=fun z=>by rw[z,gx]at e;cases e
  have h2:d≠dx:=fun z=>by rw[z,gdx]at e;cases e
  rw[G7 h1,G7 h2,e]at h
  cases h
theorem b6m{CP:Addr}{ns:List Str}{H:Hp}{w d e:Addr}{pk:List (List Ro)}{lds:List (Str×List Int)}{ah:Bool}(h:Wk CP ns H w d pk lds ah)(he:H e=none):d≠e:=fun z=>by
 obtain⟨k,hr⟩:=h.rd
 rcases hr with z' | ⟨o,z'⟩<;>rw[z,he]at z'<;>cases z'
theorem a6B{k:Key}:∀(lp:List (Str×V))(m:List (Key×V)),(Y3 m k).isSome=true->(Y3 (a1c lp m) k).isSome=true
 | [],_,h=>h
 | p::t,m,h=>by
  refine a6B t (W2 m (Sum.inr p.1) p.2) ?_
  rw[a2p]
  split
  ·rfl
  ·exact h
theorem a7T{n:Str}:∀(lp:List (Str×V))(m:List (Key×V)),n∈lp.map (·.1)->(Y3 (a1c lp m) (Sum.inr n)).isSome=true
 | [],_,h=>by simp at h
 | p::t,m,h=>by
  rw[List.map_cons]at h
  rcases List.mem_cons.mp h with z | z
  ·refine a6B t (W2 m (Sum.inr p.1) p.2) ?_
   rw[a2p,if_pos (by rw[z])]
   rfl
  ·exact a7T t _ z
theorem a8c{H:Hp}:∀{lp:List (Str×V)}{lds:List (Str×List Int)},Paired (b5F H) lp lds->lp.map (·.1)=lds.map (·.1)
 | _,_,.nil=>rfl
 | _,_,.cons h t=>by
  rw[List.map_cons,List.map_cons,a8c t,h.1]
theorem b3X{x:Str}(h:Z9 x):x≠ "":=fun z=>by
 rw[z]at h
 exact absurd h (by decide +kernel)
theorem b5t{ns:List Str}{bs:List (List Rk)}{H:Hp}{t:Addr}{pk:List (List Ro)}{lds:List (Str×List Int)}(md:a4L ns bs H t pk lds)(hn12:ns.length<=12)(hne:∀x∈ns,Z9 x):b3A pk lds:=by
 obtain⟨p,o,l,us,ws,ob,h1,h2,h3,h4,h5,h6⟩:=md.ex
 have hRk:∀x∈Y8 0 pk,a2T ns H x.2.2.2:=fun x hx=>b6q h3 hx
 refine⟨⟨by rw[md.ok.pt.length_eq];exact hn12,fun q hq=>(md.ln q hq).2,fun x hx q hq=>?_⟩,fun n hn=>b3X (hne n (md.ok.pt.mem_iff.mp hn)),fun x hx q hq ha=>?_,md.pl,md.rl⟩
 ·obtain⟨_,_,_,_,_,_,_,_,_,hto⟩:=hRk x hx
  exact md.ok.pt.mem_iff.mpr (hto q hq)
 ·obtain⟨y,tl,hr,_,hto,hrow,_,_,hk,_⟩:=hRk x hx
  have hall:(x.1,x.2.2.2)∈a6s ns bs:=md.ok.pr.mem_iff.mp (by rw[<-a3N pk 0];exact AV.mpr ⟨x,hx,rfl⟩)
  obtain⟨j,rs,_,hrs,hm⟩:=a5o.mp hall
  have ek:x.2.2.2.k="ask":=by rw[hk];exact of_decide_eq_true ha
  obtain⟨m,_,et,ey⟩:=hto (.inr ek)
  refine md.ak rs (AF hrs) _ hm ek q ?_
  cases ew:x.2.2.2.w with
  | ask b wh=>
   rw[ew]at hrow hq
   have hrow':H x.2.2.2.a=some (.tup [.str "ask",.str b,a2H wh]):=hrow
   rw[hrow']at hr
   have e2:=HO.tup.inj (Option.some.inj hr)
   have e3:=(List.cons.inj (List.cons.inj e2).2).1
   rw[ey]at e3
   have hqb:b=q:=Option.some.inj hq
   rw[et,<-V.str.inj e3,hqb]
  | doo b=>rw[ew,a6W]at ha;cases ha
  | _=>rw[ew]at hq;cases hq
noncomputable def a4u (pk:List (List Ro)) (lds:List (Str×List Int)) (nums:List Int) (root:Str) (F:List Str):GP:=a0u pk lds nums 12 root (U9 (U9 s0P (U8 root [] lds)) (Y7 (fun n=>decide (n∈F)) lds))
theorem b0D(a b c d e:Addr):a4t [] [((Sum.inr "packs":Key),V.ref a),(Sum.inr "loads",.ref b),(Sum.inr "known",.ref c),(Sum.inr "begun",.ref d),(Sum.inr "trace",.ref e),(Sum.inr "fault",.non)]=[((Sum.inr "packs":Key),V.ref a),(Sum.inr "loads",.ref b),(Sum.inr "known",.ref c),(Sum.inr "begun",.ref d),(Sum.inr "trace",.ref e),(Sum.inr "fault",.non)]:=by kernel_rfl
theorem b4i(a b c d e f:Addr):W2 [((Sum.inr "packs":Key),V.ref a),(Sum.inr "loads",.ref b),(Sum.inr "known",.ref c),(Sum.inr "begun",.ref d),(Sum.inr "trace",.ref e),(Sum.inr "fault",.non)] (Sum.inr "numbers") (.ref f)=lF ⟨a,b,c,d,e,f⟩ .non:=by kernel_rfl
noncomputable def b4l:Sp:=fun vs H Q _=>∃(t n fA:Addr)(ns:List Str)(bs:List (List Rk))(pk:List (List Ro))(lds:List (Str×List Int))(nums:List Int)(root:Str)(F:List Str),vs=[.ref t,.str root,.ref n,.ref fA]/\a4L ns bs H t pk lds/\H n=some (.tup (nums.map V.int))/\(H fA=some (.lst (F.map V.str))\/H fA=some (.tup (F.map V.str)))/\b3A pk lds/\root∈lds.map (·.1)/\root∈pk.flatMap R6/\nums.length<=100/\
 ∀(p tt:Addr)(vs:List V)(v:V)(H':Hp),G8 H H'->H' p=some (.tup [.ref tt,v])->H' tt=some (.tup vs)->Paired (TdP H') vs (a4u pk lds nums root F).tr->FtP H' v (a4u pk lds nums root F).ft->vs.length<=20000->Q (.ref p) H'
theorem b1X(T:Txt K mg):L2.Cl P w K mg base 26 "_law_told" ["_law_made_here","_law_root","_law_numbers","_law_first"] b4l:=by
 have C_law_load:=a7Y (P:=P) (w:=w) (base:=base) T
 have C_law_begin:=b3p (P:=P) (w:=w) (base:=base) T 12
 refine Cl.of T.d_law_told a0g (fun vs H Q E h=>?_) (fun _ _ _ _ _ _ us hl=>by obtain⟨a,b,c,d,rfl⟩:=b0O hl;rfl) (fun f cdv A0 outer s0 H vs Q E hr h=>?_)
 ·obtain⟨t,n,fA,ns,bs,pk,lds,nums,root,F,rfl,_⟩:=h
  rfl
 ·obtain⟨t,n,fA,ns,bs,pk,lds,nums,root,F,rfl,md,hn,hF,hE,hrl,hrp,hnl,q⟩:=h
  have hu:=a0s hr
  have hu0:=Nat.lt_of_succ_lt hu
  have hsl:sizeLine=16777216:=sizeLine_eq
  obtain⟨pa,oa,l,us,ws,ob,ht,hp,hus,hl,hob,hws⟩:=md.ex
  obtain⟨lp,hlp,hlq⟩:=a5m (K:=K) hws
  have hll:=md.ll
  have el:=AI hlq
  have ewl:=AI hlp
  refine⟨_,(@G3 _ _ _ _ _ (@J6 _ _ (4) _ _ _ _ a0g.nd rfl (Or.inl rfl) (@a0z _ _) (by rfl) (by first | exact .inl rfl | exact .inr rfl | assumption)) (@G3 _ _ _ _ _ (@Y2 _ _ _ _ _ _ _ _ AL rfl (@a2w _ _ _ _ (@J0 _ _ _ _ _ _ _ (@J1 _) (@pv _ 0 _ _ (by rfl) (by first | exact Or.inl rfl | exact Or.inr (Or.inl rfl) | exact Or.inr (Or.inr rfl)) (by decide) (by decide)) (@G5 _ _ _ _) (fun _ _=>rfl))) (@a0N _ _ _ _ _ _ rfl (@U7 _ _ _ _ _ (@J8 _ _ (5) _ a0g.nd rfl (Or.inl rfl) (by first | exact .inl rfl | exact .inr rfl | assumption)) (@U7 _ _ _ _ _ (@J8 _ _ (6) _ a0g.nd rfl (Or.inl rfl) (by first | exact .inl rfl | exact .inr rfl | assumption)) (@M7 _) (by rfl)) (by rfl)) (by rfl) (by rfl)) (@G6 _ _ _ (@D9 _ _ _ _ _ _ _ _ _ hu (@pv _ 4 _ _ (by rfl) (by first | exact Or.inl rfl | exact Or.inr (Or.inl rfl) | exact Or.inr (Or.inr rfl)) (by decide) (by decide)) (@pv _ 5 _ _ (by rfl) (by first | exact Or.inl rfl | exact Or.inr (Or.inl rfl) | exact Or.inr (Or.inr rfl)) (by decide) (by decide)) (@pv _ 6 _ _ (by rfl) (by first | exact Or.inl rfl | exact Or.inr (Or.inl rfl) | exact Or.inr (Or.inr rfl)) (by decide) (by decide)) rfl)) (by intro _;rfl)) (@G3 _ _ _ _ _ (@J6 _ _ (7) _ _ _ _ a0g.nd rfl (Or.inl rfl) (@b4k _ _ _ _ _ (@a2q _ _ _ _ _ _ _ _ _ (@I9 _ _ _ _) (@J0 _ _ _ _ _ _ _ (@J1 _) (@pv _ 0 _ _ (by rfl) (by first | exact Or.inl rfl | exact Or.inr (Or.inl rfl) | exact Or.inr (Or.inr rfl)) (by decide) (by decide)) (@G5 _ _ _ _) (fun _ _=>rfl)) (@a2q _ _ _ _ _ _ _ _ _ (@I9 _ _ _ _) (@pv _ 4 _ _ (by rfl) (by first | exact Or.inl rfl | exact Or.inr (Or.inl rfl) | exact Or.inr (Or.inr rfl)) (by decide) (by decide)) (@a2q _ _ _ _ _ _ _ _ _ (@I9 _ _ _ _) (@a0z _ _) (@a2q _ _ _ _ _ _ _ _ _ (@I9 _ _ _ _) (@a0z _ _) (@a2q _ _ _ _ _ _ _ _ _ (@I9 _ _ _ _) (@Z2 _ _ _ _ (@G2 _)) (@a2q _ _ _ _ _ _ _ _ _ (@I9 _ _ _ _) (@a3t _ _ _) (@b4u _ _))))))) rfl rfl (List.cons_ne_nil _ _) (by show 6<=15;decide)) (by rfl) (by first | exact .inl rfl | exact .inr rfl | assumption)) (@G3 _ _ _ _ _ (@D9 _ _ _ _ _ _ _ _ _ hu (@pv _ 7 _ _ (by rfl) (by first | exact Or.inl rfl | exact Or.inr (Or.inl rfl) | exact Or.inr (Or.inr rfl)) (by decide) (by decide)) (@I9 _ _ _ _) (@Y0 _ _ _ _ _ _ _ _ _ (@a2z _) (by rfl) T.n_list boot_list (@G0 _ _ _ _ _ (@pv _ 2 _ _ (by rfl) (by first | exact Or.inl rfl | exact Or.inr (Or.inl rfl) | exact Or.inr (Or.inr rfl)) (by decide) (by decide)) (@G2 _) (by rfl)) (by decide) (by decide) (by rfl) (by rfl)) rfl) (@G3 _ _ _ _ _ (@U1 _ _ _ _ (@W6 _ _ _ _ _ _ _ _ _ _ _ C_law_load hr (by rfl) (@G0 _ _ _ _ _ (@pv _ 7 _ _ (by rfl) (by first | exact Or.inl rfl | exact Or.inr (Or.inl rfl) | exact Or.inr (Or.inr rfl)) (by decide) (by decide)) (@G0 _ _ _ _ _ (@W9 _ _ _ _ _ _ hu (@pv _ 4 _ _ (by rfl) (by first | exact Or.inl rfl | exact Or.inr (Or.inl rfl) | exact Or.inr (Or.inr rfl)) (by decide) (by decide)) (@pv _ 1 _ _ (by rfl) (by first | exact Or.inl rfl | exact Or.inr (Or.inl rfl) | exact Or.inr (Or.inr rfl)) (by decide) (by decide)) (fun _ _=>rfl)) (@G2 _) (by rfl)) (by rfl)) (by decide) (by decide) (by rfl) (by rfl)) (by rfl)) (@G3 _ _ _ _ _ (@Y2 _ _ _ _ _ _ _ _ AL rfl (@a2w _ _ _ _ (@J0 _ _ _ _ _ _ _ (@J1 _) (@pv _ 0 _ _ (by rfl) (by first | exact Or.inl rfl | exact Or.inr (Or.inl rfl) | exact Or.inr (Or.inr rfl)) (by decide) (by decide)) (@G5 _ _ _ _) (fun _ _=>rfl))) (@a0N _ _ _ _ _ _ rfl (@U7 _ _ _ _ _ (@J8 _ _ (5) _ a0g.nd rfl (Or.inl rfl) (by first | exact .inl rfl | exact .inr rfl | assumption)) (@U7 _ _ _ _ _ (@J8 _ _ (6) _ a0g.nd rfl (Or.inl rfl) (by first | exact .inl rfl | exact .inr rfl | assumption)) (@M7 _) (by rfl)) (by rfl)) (by rfl) (by rfl)) (@G6 _ _ _ (@R8 _ _ _ _ _ _ _ _ (@J3 _ _ _ _ _ _ _ _ (@a2i _) (@pv _ 5 _ _ (by rfl) (by first | exact Or.inl rfl | exact Or.inr (Or.inl rfl) | exact Or.inr (Or.inr rfl)) (by decide) (by decide)) (@pv _ 3 _ _ (by rfl) (by first | exact Or.inl rfl | exact Or.inr (Or.inl rfl) | exact Or.inr (Or.inr rfl)) (by decide) (by decide)) (by with_unfolding_all rfl)) (@G6 _ _ _ (@U1 _ _ _ _ (@W6 _ _ _ _ _ _ _ _ _ _ _ C_law_load hr (by rfl) (@G0 _ _ _ _ _ (@pv _ 7 _ _ (by rfl) (by first | exact Or.inl rfl | exact Or.inr (Or.inl rfl) | exact Or.inr (Or.inr rfl)) (by decide) (by decide)) (@G0 _ _ _ _ _ (@pv _ 6 _ _ (by rfl) (by first | exact Or.inl rfl | exact Or.inr (Or.inl rfl) | exact Or.inr (Or.inr rfl)) (by decide) (by decide)) (@G2 _) (by rfl)) (by rfl)) (by decide) (by decide) (by rfl) (by rfl)) (by rfl))) (@J5 _))) (by intro _;rfl)) (@G3 _ _ _ _ _ (@U1 _ _ _ _ (@W6 _ _ _ _ _ _ _ _ _ _ _ C_law_begin hr (by rfl) (@G0 _ _ _ _ _ (@pv _ 7 _ _ (by rfl) (by first | exact Or.inl rfl | exact Or.inr (Or.inl rfl) | exact Or.inr (Or.inr rfl)) (by decide) (by decide)) (@G0 _ _ _ _ _ (@pv _ 1 _ _ (by rfl) (by first | exact Or.inl rfl | exact Or.inr (Or.inl rfl) | exact Or.inr (Or.inr rfl)) (by decide) (by decide)) (@G2 _) (by rfl)) (by rfl)) (by decide) (by decide) (by rfl) (by rfl)) (by rfl)) (@G6 _ _ _ (@R3 _ _ _ _ (@R5 _ _ _ _ _ (@G0 _ _ _ _ _ (@Y0 _ _ _ _ _ _ _ _ _ (@W8 _) (by rfl) T.n_tuple boot_tuple (@G0 _ _ _ _ _ (@W9 _ _ _ _ _ _ hu (@pv _ 7 _ _ (by rfl) (by first | exact Or.inl rfl | exact Or.inr (Or.inl rfl) | exact Or.inr (Or.inr rfl)) (by decide) (by decide)) (@I9 _ _ _ _) (fun _ _=>rfl)) (@G2 _) (by rfl)) (by decide) (by decide) (by rfl) (by rfl)) (@G0 _ _ _ _ _ (@W9 _ _ _ _ _ _ hu (@pv _ 7 _ _ (by rfl) (by first | exact Or.inl rfl | exact Or.inr (Or.inl rfl) | exact Or.inr (Or.inr rfl)) (by decide) (by decide)) (@I9 _ _ _ _) (fun _ _=>rfl)) (@G2 _) (by rfl)) (by rfl)))))))))))),?_⟩
  intro dw gdw
  have s1:G8 H (upd H dw (.dK [])):=(G8.refl H).new gdw
  have hdw1:upd H dw (.dK []) dw=some (.dK (a1c (lp.take 0) [])):=G1
  generalize upd H dw (.dK [])=H1 at s1 hdw1⊢
  have hat2:atI [V.ref pa,V.ref oa,V.ref l] 2=some (.ref l):=G9 (j:=2) rfl
  refine⟨_,rfl,t,_,_,_,rfl,rfl,SqT.of (s1 _ _ ht),hat2,l,rfl,⟨_,.inl (.inr ⟨ob,s1 _ _ hl⟩)⟩,?_⟩
  refine a1C (K:=K) (a:=l) (xs:=ws) (fun i σ H2=>∃v5 v6:Option V,σ=[some (.ref t),some (.str root),some (.ref n),some (.ref fA),some (.ref dw),v5,v6,none]/\G8 H H2/\H2 dw=some (.dK (a1c (lp.take i) []))) ⟨none,none,rfl,s1,hdw1⟩ (fun i σ H2 _⟨_,_,_,s2,_⟩=> .inl (.inr ⟨ob,s2 _ _ hl⟩)) ?_ ?_
  ·rintro i x σ H2 hx ⟨v5,v6,rfl,s2,hdw2⟩
   obtain⟨⟨nm,v⟩,hpi,t',rfl,ht'⟩:=Paired.get? hlp hx
   have hi:i < ws.length:=(AB.mp hx).1
   obtain⟨⟨n',xs⟩,hld,t2,u,e2,h2,h3⟩:=Paired.get? hws hx
   cases e2
   have ht2:SqT K H2 t' [.str nm,v]:=by
    rcases ht' with z | z
    ·rcases z with z | ⟨o,z⟩
     ·exact SqT.of (s2 _ _ z)
     ·rw[h2]at z;cases z
    ·exact .inr z
   refine⟨t',_,rfl,ht2,rfl,_,_,rfl,_,_,rfl,rfl,?_⟩
   have hfl:=a6I (lp.take i) []
   rw[AU]at hfl
   refine⟨_,rfl,_,rfl,_,rfl,dw,_,rfl,a2v.k (k:=Sum.inr nm) hdw2 (by simp only[List.length_nil]at hfl;omega),?_⟩
   exact⟨_,_,rfl,s2.put gdw,by rw[G1,I0 hpi,a9J]⟩
  rintro σ H2 ⟨v5,v6,rfl,s2,hdw2⟩
  rw[ewl,AR]at hdw2
  have hlk:∀q∈lds.map (·.1),∃u,Y3 (a1c lp []) (Sum.inr q)=some (.ref u)/\H2 u=some (.tup ((U8 q [] lds).map V.int)):=fun q hq=>by
   have h1:=(a7y (n:=q) (m:=[]) (a:=[]) hlq (.inl ⟨rfl,rfl⟩)).same s2.tups
   have h2:=a7T lp [] (by rw[a8c hlq];exact hq)
   rcases h1 with⟨z,_⟩ | ⟨u,z,zu⟩
   ·rw[z]at h2;cases h2
   ·exact⟨u,z,zu⟩
  intro s gs
  have sA:G8 H2 (upd H2 s (.dK [])):=(G8.refl H2).new gs
  have hsA:upd H2 s (.dK []) s=some (.dK []):=G1
  generalize upd H2 s (.dK [])=HA at sA hsA⊢
  refine⟨_,rfl,t,_,_,_,rfl,rfl,SqT.of (sA _ _ (s2 _ _ ht)),G9 (j:=0) rfl,_,rfl,fun kn gkn=>?_⟩
  have sB:G8 HA (upd HA kn (.dK [])):=(G8.refl HA).new gkn
  have hknB:upd HA kn (.dK []) kn=some (.dK []):=G1
  have hsB:=sB _ _ hsA
  have nsk:s≠kn:=R0 hsA gkn
  generalize upd HA kn (.dK [])=HB at sB hknB hsB⊢
  intro bg gbg
  have sC:G8 HB (upd HB bg (.dK [])):=(G8.refl HB).new gbg
  have hbgC:upd HB bg (.dK []) bg=some (.dK []):=G1
  have hsC:=sC _ _ hsB
  have hknC:=sC _ _ hknB
  have nsb:s≠bg:=R0 hsB gbg
  have nkb:kn≠bg:=R0 hknB gbg
  generalize upd HB bg (.dK [])=HC at sC hbgC hsC hknC⊢
  refine⟨a1G,fun tr gtr=>?_⟩
  have sD:G8 HC (upd HC tr (.lst [])):=(G8.refl HC).new gtr
  have htrD:upd HC tr (.lst []) tr=some (.lst []):=G1
  have hsD:=sD _ _ hsC
  have hknD:=sD _ _ hknC
  have hbgD:=sD _ _ hbgC
  have nst:s≠tr:=R0 hsC gtr
  generalize upd HC tr (.lst [])=HD at sD htrD hsD hknD hbgD⊢
  refine⟨hsD,[((Sum.inr "packs":Key),V.ref pa),(Sum.inr "loads",.ref dw),(Sum.inr "known",.ref kn),(Sum.inr "begun",.ref bg),(Sum.inr "trace",.ref tr),(Sum.inr "fault",.non)],rfl,(by show 6<=15;decide),?_⟩
  rw[b0D]
  have s2D:G8 H2 HD:=sA.trans (sB.trans (sC.trans sD))
  generalize hsix:[((Sum.inr "packs":Key),V.ref pa),(Sum.inr "loads",V.ref dw),(Sum.inr "known",V.ref kn),(Sum.inr "begun",V.ref bg),(Sum.inr "trace",V.ref tr),(Sum.inr "fault",V.non)]=six
  have s2E:G8 H2 (upd HD s (.dK six)):=s2D.put gs
  have hsE:upd HD s (.dK six) s=some (.dK six):=G1
  have hknE:upd HD s (.dK six) kn=some (.dK []):=by rw[G7 nsk.symm];exact hknD
  have hbgE:upd HD s (.dK six) bg=some (.dK []):=by rw[G7 nsb.symm];exact hbgD
  have htrE:upd HD s (.dK six) tr=some (.lst []):=by rw[G7 nst.symm];exact htrD
  generalize upd HD s (.dK six)=HE at s2E hsE hknE hbgE htrE⊢
  refine⟨_,rfl,n,_,rfl,.inr (SqT.of (s2E _ _ (s2 _ _ hn))),fun nu gnu=>?_⟩
  have sF:G8 HE (upd HE nu (.lst (nums.map V.int))):=(G8.refl HE).new gnu
  have hnuF:upd HE nu (.lst (nums.map V.int)) nu=some (.lst (nums.map V.int)):=G1
  have nsn:s≠nu:=R0 hsE gnu
  have ntn:tr≠nu:=R0 htrE gnu
  have hsF:=sF _ _ hsE
  have hknF:=sF _ _ hknE
  have hbgF:=sF _ _ hbgE
  have htrF:=sF _ _ htrE
  generalize upd HE nu (.lst (nums.map V.int))=HF at sF hnuF hsF hknF hbgF htrF⊢
  refine⟨_,rfl,s,_,rfl,a2v.k (k:=Sum.inr "numbers") hsF (by rw[<-hsix];show 6 < sizeLine;omega),?_⟩
  rw[<-hsix,b4i]
  have hB:Bas H2 s ⟨pa,dw,kn,bg,tr,nu⟩ ns pk lds:=⟨gs,sA.free gkn,sA.free (sB.free gbg),sA.free (sB.free (sC.free gtr)),s2E.free gnu,⟨us,s2 _ _ hp,Paired.mapP hus fun _ _ z=>z.mono s2.tups⟩,⟨_,hdw2,hlk⟩⟩
  have hS:LS H2 (upd HF s (.dK (lF ⟨pa,dw,kn,bg,tr,nu⟩ .non))) s ⟨pa,dw,kn,bg,tr,nu⟩ nums s0P:=by
   refine⟨⟨.non,G1,rfl⟩,(s2E.trans sF).put gs,by rw[G7 nsk.symm];exact hknF,by rw[G7 nsb.symm];exact hbgF,⟨[],by rw[G7 nst.symm];exact htrF,.nil⟩,by rw[G7 nsn.symm];exact hnuF,ntn,nsk,nsb,nkb,fun k v e=>by simp[Y3,s0P]at e,AZ _,fun p=>by simp[s0P]⟩
  generalize upd HF s (.dK (lF ⟨pa,dw,kn,bg,tr,nu⟩ .non))=HG at hS⊢
  obtain⟨ur,eur,hur⟩:=hlk root hrl
  have hgr:=O3.k (k:=Sum.inr root) (hS.sm _ _ hdw2)
  rw[eur]at hgr
  have h12:=a0i (n:=root) (a:=[]) hE.pr.ld (AZ _)
  refine⟨_,rfl,_,rfl,_,rfl,dw,_,rfl,hgr,s,ur,⟨pa,dw,kn,bg,tr,nu⟩,ns,pk,lds,nums,H2,s0P,_,rfl,hB,hS,hS.sm _ _ hur,by show 0+_<=1000000;omega,fun H3 T3 hS3=>?_⟩
  obtain⟨i1,i2,i3,i4⟩:=Z3 (U8 root [] lds) s0P
  obtain⟨j1,j2⟩:=F5 s0P (U8 root [] lds)
  have hres:a4u pk lds nums root F=a0u pk lds nums 12 root (U9 (U9 s0P (U8 root [] lds)) (Y7 (fun n=>decide (n∈F)) lds)):=rfl
  generalize U9 s0P (U8 root [] lds)=S2 at hS3 i1 i2 i3 i4 j1 j2 hres
  have i3':S2.tr.length+0=0+S2.ld.length:=i3
  have i4':S2.ld.length<=0+(U8 root [] lds).length:=i4
  have h300:∀k,(Y7 (fun n=>decide (n∈F)) (lds.take k)).length<=300:=fun k=>a4k (fun q hq=>hE.pr.ld q (List.mem_of_mem_take hq)) (by rw[AU];omega)
  refine⟨_,rfl,t,_,_,_,rfl,rfl,SqT.of (hS3.sm _ _ (s2 _ _ ht)),hat2,l,rfl,⟨_,.inl (.inr ⟨ob,hS3.sm _ _ (s2 _ _ hl)⟩)⟩,?_⟩
  refine a1C (K:=K) (a:=l) (xs:=ws) (fun i σ H4=>∃v5 v6:Option V,σ=[some (.ref t),some (.str root),some (.ref n),some (.ref fA),some (.ref dw),v5,v6,some (.ref s)]/\LS H2 H4 s ⟨pa,dw,kn,bg,tr,nu⟩ nums (U9 S2 (Y7 (fun n=>decide (n∈F)) (lds.take i)))) ⟨_,_,rfl,hS3⟩ (fun i σ H4 _⟨_,_,_,h4⟩=> .inl (.inr ⟨ob,h4.sm _ _ (s2 _ _ hl)⟩)) ?_ ?_
  ·rintro i x σ H4 hx ⟨v5',v6',rfl,hS4⟩
   have hi:i < ws.length:=(AB.mp hx).1
   obtain⟨⟨nm,xs⟩,hld,t',u,rfl,h2,h3⟩:=Paired.get? hws hx
   have h24:G8 H H4:=s2.trans hS4.sm
   refine⟨t',_,rfl,SqT.of (h24 _ _ h2),rfl,_,_,rfl,_,_,rfl,rfl,?_⟩
   have hF4:SqL K H4 fA (F.map V.str)\/SqT K H4 fA (F.map V.str):=hF.imp (fun z=>SqL.of (h24 _ _ z)) (fun z=>SqT.of (h24 _ _ z))
   refine⟨_,rfl,_,rfl,fA,_,rfl,hF4,rfl,a1i _,_,rfl,?_⟩
   rw[if_neg AD,a1v]
   have hx12:xs.length<=12:=hE.pr.ld _ (AF hld)
   have etk:Y7 (fun n=>decide (n∈F)) (lds.take (i+1))=Y7 (fun n=>decide (n∈F)) (lds.take i)++(if decide (nm∈F)=true then xs else []):=by rw[I0 hld,a4G]
   obtain⟨_,_,l3,l4⟩:=Z3 (Y7 (fun n=>decide (n∈F)) (lds.take i)) S2
   have:=h300 i
   by_cases hm:nm∈F
   ·rw[decide_eq_true hm]at etk⊢
    refine O7 ?_
    rw[if_pos rfl]at etk
    refine⟨_,rfl,_,rfl,s,u,⟨pa,dw,kn,bg,tr,nu⟩,ns,pk,lds,nums,H2,_,xs,rfl,hB,hS4,h24 _ _ h3,by omega,fun H5 T5 hS5=>?_⟩
    refine⟨_,_,rfl,?_⟩
    rw[etk]
    unfold U9 at hS5⊢
    rw[List.foldl_append]
    exact hS5
   ·rw[AM hm]at etk⊢
    refine Y4 ?_
    rw[if_neg AD,List.append_nil]at etk
    refine⟨_,_,rfl,?_⟩
    rw[etk]
    exact hS4
  rintro σ H4 ⟨v5',v6',rfl,hS4⟩
  have ewl':ws.length=lds.length:=by omega
  rw[ewl',AR]at hS4
  have h300':=h300 lds.length
  rw[AR]at h300'
  obtain⟨k1,k2,k3,k4⟩:=Z3 (Y7 (fun n=>decide (n∈F)) lds) S2
  obtain⟨m1,m2⟩:=F5 S2 (Y7 (fun n=>decide (n∈F)) lds)
  generalize U9 S2 (Y7 (fun n=>decide (n∈F)) lds)=S3 at hS4 k1 k2 k3 k4 m1 m2 hres
  have e1:S3.bg=[]:=m1.trans j1
  have e3:S3.gv=[]:=k1.trans i1
  have htl:=md.tl
  have hleft:=a7K pk S3.bg
  have hsz3:szW pk S3<=7100:=by
   unfold szW
   rw[e1,e3]at*
   simp only[List.length_nil]at*
   omega
  refine⟨_,rfl,_,rfl,s,⟨pa,dw,kn,bg,tr,nu⟩,ns,pk,lds,nums,H2,S3,root,rfl,hB,hS4,hE,(k2.trans i2),hrp,by rw[e1];exact List.not_mem_nil,Nat.le_trans (a7e _ _) hE.pr.pl,by omega,fun H5 T5 hS5=>?_⟩
  rw[<-hres]at hS5
  have hszR:szW pk (a4u pk lds nums root F)<=7101:=by
   rw[hres]
   have:=a4P (nums:=nums) hE.pr 12 root S3 (by rw[e1];exact List.not_mem_nil)
   omega
  obtain⟨vf,hvf,_,_,_,_,_,k5,kf,_⟩:=hS5.get
  obtain⟨us5,hus5,hup5⟩:=hS5.tr
  have hul5:=AI hup5
  refine⟨_,rfl,s,_,rfl,k5,tr,_,rfl,.inl ⟨SqL.of hus5,fun tt gtt=>?_⟩⟩
  have s6:G8 H5 (upd H5 tt (.tup us5)):=(G8.refl H5).new gtt
  have htt:upd H5 tt (.tup us5) tt=some (.tup us5):=G1
  generalize upd H5 tt (.tup us5)=H6 at s6 htt⊢
  obtain⟨vf6,hvf6,_,_,_,_,_,_,kf6,_⟩:=(hS5.same s6).get
  refine⟨_,rfl,s,_,rfl,kf6,a0p,fun p gp=>?_⟩
  have s7:G8 H6 (upd H6 p (.tup [.ref tt,vf6])):=(G8.refl H6).new gp
  have s57:=s6.trans s7
  exact q p tt us5 vf6 _ (s2.trans (hS5.sm.trans s57)) G1 (s7 _ _ htt) (Paired.mapP hup5 fun _ _ z=>z.mono s57.tups) (hvf6.mono s7.tups) (by unfold szW at hszR;omega)
noncomputable def Sc (x y:V):Prop:=(x= .non/\y= .non)\/(∃s,x= .str s/\y= .str s)\/∃n,x= .int n/\y= .int n
noncomputable def Al (H:Hp):Nat->V->V->Prop
 | 0,x,y=>Sc x y
 | d+1,x,y=>Sc x y\/∃p q xs ys,x= .ref p/\y= .ref q/\H p=some (.tup xs)/\H q=some (.tup ys)/\Paired (Al H d) xs ys/\xs.length<=100000
noncomputable def b2c:Nat->Sp
 | 0=>fun _ _ _ _=>False
 | d+1=>fun vs H Q _=>∃x y,vs=[x,y]/\Al H d x y/\Q (.bl true) H
theorem a6g(K:W.Frag):W.kitOne K (.type "str") (.type "tuple")=some false:=by kernel_rfl
theorem a6r(K:W.Frag):W.kitOne K (.type "int") (.type "tuple")=some false:=by kernel_rfl
theorem a5W(K:W.Frag):W.kitOne K (.type "NoneType") (.type "tuple")=some false:=by kernel_rfl
theorem Cl.absurd{P:Program}{w:World}{K:W.Frag}{mg:Str->Option Value}{base:Heap}{x:Str}{st:Stmt}{ps:List Str}(T:Y9 K mg x st)
  (hb:∀(kV doc pm:Value)(an:Option Addr)(cdv ct:Value)(us:List Value),us.length=ps.length->bindArgs (W.fnOf x x (J7 st) (J2 st) (G4 st) .none kV doc pm an cdv ct) ⟨us,[]⟩=pure (ps.zip us)):L2.Cl P w K mg base 0 x ps (fun _ _ _ _=>False):=by
 obtain⟨f,fd,F,m⟩:=T
 exact⟨f,fd,⟨fun _ _ _ _ h=>h.elim,fun _ _ _ _ _ _ _ _ _ _ _ _ _ h=>h.elim⟩,m,F.kp,F.binds hb⟩
theorem b3B(T:Txt K mg):∀d:Nat,L2.Cl P w K mg base d "_law_same" ["_law_found","_law_due"] (b2c d):=by
 intro d
 induction d with
 | zero=>exact Cl.absurd T.d_law_same (fun _ _ _ _ _ _ us hl=>by obtain⟨a,b,rfl⟩:=a2F hl;rfl)
 | succ d ih=>
 have C_law_same:L2.Cl P w K mg base d "_law_same" ["_law_found","_law_due"] (b2c d):=ih
 refine Cl.of T.d_law_same a4C (fun vs H Q E h=>?_) (fun _ _ _ _ _ _ us hl=>by obtain⟨a,b,rfl⟩:=a2F hl;rfl) (fun f cdv A outer s H vs Q E hr h=>?_)
 ·obtain⟨x,y,rfl,_⟩:=h
  rfl
 ·obtain⟨x,y,rfl,hal,q⟩:=h
  refine⟨_,(G3 (R8 (a0D (R9 E5 (by rfl) T.n_isinstance PyProof.Rows.boot_isinstance (G0 (pv 1) (G0 (a1k (v:= .ty "tuple") (by rfl) T.n_tuple boot_tuple rfl) G2))))
    (G3 (R8 (PW.pt (a6C (a3x (a0D (R9 E5 (by rfl) T.n_isinstance PyProof.Rows.boot_isinstance (G0 (pv 0) (G0 (a1k (v:= .ty "tuple") (by rfl) T.n_tuple boot_tuple rfl) G2))))) (a4o (J3 b6d (R9 U2 (by rfl) T.n_len PySem.boot_len (G0 (pv 0) G2)) (R9 U2 (by rfl) T.n_len PySem.boot_len (G0 (pv 1) G2)) (R4 _)))))
     (G6 (R3 a1P)) J5)
    (G3 (Y2 AL rfl (Z4 (by rfl) T.n_range (G0 (R9 U2 (by rfl) T.n_len PySem.boot_len (G0 (pv 1) G2)) G2)) (J8 (i:=2) a4C.nd rfl (Or.inl rfl))
     (G6 (R8 (a3x (a0D (W6 C_law_same hr (by rfl) (G0 (J0 J1 (pv 0) (pv 2) (fun _ _=>rfl)) (G0 (J0 J1 (pv 1) (pv 2) (fun _ _=>rfl)) G2)) (AE _))))
      (G6 (R3 a1P)) J5)))
    (G6 (R3 a1P)))) J5)
   (G3 (R8 (M4 (a3s (pv 1)))
    (G6 (R3 (b2f (a3s (pv 0))))) J5)
   (G3 (R8 (a0D (R9 E5 (by rfl) T.n_isinstance PyProof.Rows.boot_isinstance (G0 (pv 1) (G0 (a1k (v:= .ty "str") (by rfl) T.n_str boot_str rfl) G2))))
    (G6 (R3 (a7I (R9 E5 (by rfl) T.n_isinstance PyProof.Rows.boot_isinstance (G0 (pv 0) (G0 (a1k (v:= .ty "str") (by rfl) T.n_str boot_str rfl) G2))) (a9I (a4O Y5 (pv 0) (pv 1) (R4 _)))))) J5)
   (G6 (R3 (a7I (R9 E5 (by rfl) T.n_isinstance PyProof.Rows.boot_isinstance (G0 (pv 0) (G0 (a1k (v:= .ty "int") (by rfl) T.n_int boot_int rfl) G2))) (a7I (b5e (R9 E5 (by rfl) T.n_isinstance PyProof.Rows.boot_isinstance (G0 (pv 0) (G0 (a1k (v:= .ty "bool") (by rfl) T.n_bool boot_bool rfl) G2)))) (a9I (a4O Y5 (pv 0) (pv 1) (R4 _)))))))))),?_⟩
  by_cases hs:Sc x y
  ·rcases hs with⟨rfl,rfl⟩ | ⟨z,rfl,rfl⟩ | ⟨n,rfl,rfl⟩
   ·exact⟨_,rfl,_,_,_,_,rfl,.non,a5W _,_,rfl,Y4 ⟨_,rfl,_,rfl,O7 ⟨_,rfl,q⟩⟩⟩
   ·refine⟨_,rfl,_,_,_,_,rfl,.str _,a6g _,_,rfl,Y4 ⟨_,rfl,_,rfl,Y4 ⟨_,rfl,_,_,_,_,rfl,.str _,a0Q _ _,_,rfl,O7 ⟨_,rfl,_,_,_,_,rfl,.str _,a0Q _ _,_,rfl,O7 ⟨_,rfl,_,rfl,rfl,?_⟩⟩⟩⟩⟩
    rw[decide_eq_true rfl]
    exact q
   ·refine⟨_,rfl,_,_,_,_,rfl,.int _,a6r _,_,rfl,Y4 ⟨_,rfl,_,rfl,Y4 ⟨_,rfl,_,_,_,_,rfl,.int _,a1p _,_,rfl,Y4 ⟨_,rfl,_,_,_,_,rfl,.int _,a0Q _ _,_,rfl,O7 ⟨_,rfl,_,_,_,_,rfl,.int _,a7k _,_,rfl,_,rfl,O7 ⟨_,rfl,_,rfl,rfl,?_⟩⟩⟩⟩⟩⟩
    rw[decide_eq_true rfl]
    exact q
  cases d with
  | zero=>exact absurd hal hs
  | succ d=>
  rcases hal with hal | ⟨p,r,xs,ys,rfl,rfl,hp,hr',hpair,hlen⟩
  ·exact absurd hal hs
  have hxy:xs.length=ys.length:=AI hpair
  refine⟨_,rfl,_,_,_,_,rfl,.tup hr',a0Q _ _,_,rfl,O7 ?_⟩
  refine⟨_,rfl,_,_,_,_,rfl,.tup hp,a0Q _ _,_,rfl,Y4 ?_⟩
  refine⟨_,rfl,p,_,rfl,.inr (SqT.of hp),_,rfl,r,_,rfl,.inr (SqT.of hr'),rfl,_,rfl,?_⟩
  rw[hxy]
  refine b7n ?_
  refine⟨_,rfl,r,_,rfl,.inr (SqT.of hr'),_,rfl,(by omega),(by omega),M1 (fun i σ H2=>H2=H/\∃v2:Option V,σ=[some (.ref p),some (.ref r),v2]) ⟨rfl,_,rfl⟩ ?_ ?_⟩
  ·rintro i σ H2 hi ⟨rfl,v2,rfl⟩
   have hi':i < ys.length:=by omega
   obtain⟨y,hy⟩:∃y,ys[i]?=some y:=⟨ys[i],by simp⟩
   obtain⟨x,hx,hxy⟩:=Paired.get?' hpair hy
   have e:(0:Int)+(i:Int)=((i:Nat):Int):=by omega
   refine⟨_,rfl,_,rfl,p,_,_,_,rfl,rfl,SqT.of hp,(by rw[e];exact G9 hx),_,rfl,_,rfl,r,_,_,_,rfl,rfl,SqT.of hr',(by rw[e];exact G9 hy),x,y,rfl,hxy,_,rfl,Y4 ?_⟩
   exact⟨rfl,_,rfl⟩
  ·rintro σ H2 ⟨rfl,v2,rfl⟩
   exact q
theorem a6Q{α:Type}{H:Hp}{d:Nat}{F G:V->α->Prop}(h:∀v u t,F v t->G u t->Al H d v u):∀{xs ys:List V}{ts:List α},Paired F xs ts->Paired G ys ts->Paired (Al H d) xs ys
 | _,_,_,.nil,.nil=> .nil
 | _,_,_,.cons a b,.cons c e=> .cons (h _ _ _ a c) (a6Q h b e)
theorem b5U{H:Hp}{v u:V}{x:Td}(a:TdP H v x)(b:TdP H u x):Al H 1 v u:=by
 cases x with
 | load p=>
  obtain⟨t,rfl,h1⟩:=a
  obtain⟨t',rfl,h2⟩:=b
  exact .inr ⟨t,t',_,_,rfl,rfl,h1,h2,.cons (.inr (.inl ⟨_,rfl,rfl⟩)) (.cons (.inr (.inr ⟨_,rfl,rfl⟩)) .nil),by simp⟩
 | ev k i p n=>
  obtain⟨t,rfl,h1⟩:=a
  obtain⟨t',rfl,h2⟩:=b
  exact .inr ⟨t,t',_,_,rfl,rfl,h1,h2,.cons (.inr (.inl ⟨_,rfl,rfl⟩)) (.cons (.inr (.inr ⟨_,rfl,rfl⟩)) (.cons (.inr (.inr ⟨_,rfl,rfl⟩)) (.cons (.inr (.inr ⟨_,rfl,rfl⟩)) .nil))),by simp⟩
theorem b6h{H:Hp}{v u:V}{x:Option Fp}(a:FtP H v x)(b:FtP H u x):Al H 2 v u:=by
 cases x with
 | none=>
  have e1:v= .non:=a
  have e2:u= .non:=b
  exact .inl (.inl ⟨e1,e2⟩)
 | some f=>
  obtain⟨t,rfl,h1⟩:=a
  obtain⟨t',rfl,h2⟩:=b
  exact .inr ⟨t,t',_,_,rfl,rfl,h1,h2,.cons (.inl (.inr (.inl ⟨_,rfl,rfl⟩))) (.cons (.inl (.inr (.inr ⟨_,rfl,rfl⟩))) (.cons (.inl (.inr (.inr ⟨_,rfl,rfl⟩))) (.cons (.inl (.inr (.inr ⟨_,rfl,rfl⟩))) .nil))),by simp⟩
noncomputable def a3O (H:Hp) (p:Addr) (R:GP):Prop:=∃(tt:Addr)(vs:List V)(v:V),H p=some (.tup [.ref tt,v])/\H tt=some (.tup vs)/\Paired (TdP H) vs R.tr/\FtP H v R.ft/\R.tr.length<=20000
theorem a3O.mono{H H':Hp}(s:R7 H H'){p:Addr}{R:GP}(h:a3O H p R):a3O H' p R:=by
 obtain⟨tt,vs,v,h1,h2,h3,h4,h5⟩:=h
 exact⟨tt,vs,v,s _ _ h1,s _ _ h2,Paired.mapP h3 fun _ _ z=>z.mono s,h4.mono s,h5⟩
theorem a5r{H:Hp}{p p':Addr}{R R':GP}(a:a3O H p R)(b:a3O H p' R')(e1:R.tr=R'.tr)(e2:R.ft=R'.ft):Al H 3 (.ref p) (.ref p'):=by
 obtain⟨tt,vs,v,h1,h2,h3,h4,h5⟩:=a
 obtain⟨tt',vs',v',g1,g2,g3,g4,g5⟩:=b
 rw[<-e1]at g3
 rw[<-e2]at g4
 have hl:=AI h3
 exact .inr ⟨p,p',_,_,rfl,rfl,h1,g1,.cons (.inr ⟨tt,tt',vs,vs',rfl,rfl,h2,g2,a6Q (F:=TdP H) (G:=TdP H) (fun _ _ _ a b=>b5U a b) h3 g3,by omega⟩) (.cons (b6h h4 g4) .nil),by simp⟩
theorem a9t(lds:List (Str×List Int)):Y7 (fun n=>decide (n∈([]:List Str))) lds=[]:=by
 unfold Y7
 rw[List.flatMap_eq_nil_iff]
 intro x _
 simp
noncomputable def FoF (pk:List (List Ro)) (root:Str) (ah:Bool) (F:List Str):Prop:=(ah=false->F=[])/\(ah=true->∀n,n∈F↔Rch (fun a b=>b∈gTo (Y8 0 pk) a) [root] n)
theorem a9R{pk:List (List Ro)}{lds:List (Str×List Int)}{nums:List Int}{root:Str}{ah:Bool}{F:List Str}{xs:List Int}{S':GP}(hP:PkR pk lds)(hr:root∈pk.flatMap R6)(hF:FoF pk root ah F)(h0:ah=false->xs=[])(h1:ah=true->∃p:Str->Bool,(∀n,p n=true↔Rch (fun a b=>b∈gTo (Y8 0 pk) a) [root] n)/\xs=Y7 p lds)(hst:O5 pk lds nums (a1Y pk (U9 (U9 s0P (U8 root [] lds)) xs) root) S')(hend:S'.wt=[]\/S'.ft≠none):S'.tr=(a4u pk lds nums root F).tr/\S'.ft=(a4u pk lds nums root F).ft:=by
 have hx:xs=Y7 (fun n=>decide (n∈F)) lds:=by
  cases ah with
  | false=>rw[h0 rfl,hF.1 rfl,a9t]
  | true=>
   obtain⟨p,hp,e⟩:=h1 rfl
   rw[e]
   congr 1
   funext n
   rw[Bool.eq_iff_iff,hp n,decide_eq_true_iff]
   exact(hF.2 rfl n).symm
 rw[hx]at hst
 unfold a4u
 obtain⟨i1,i2,_,_⟩:=Z3 (U8 root [] lds) s0P
 obtain⟨j1,j2⟩:=F5 s0P (U8 root [] lds)
 obtain⟨k1,k2,_,_⟩:=Z3 (Y7 (fun n=>decide (n∈F)) lds) (U9 s0P (U8 root [] lds))
 obtain⟨m1,m2⟩:=F5 (U9 s0P (U8 root [] lds)) (Y7 (fun n=>decide (n∈F)) lds)
 exact b6M hP hr (m1.trans j1) (m2.trans j2) (k2.trans i2) hst hend
theorem a4a{pk:List (List Ro)}{lds:List (Str×List Int)}{nums:List Int}{root:Str}{F:List Str}(hP:PkR pk lds)(hll:lds.length<=25)(htl:(Y8 0 pk).length<=480):(a4u pk lds nums root F).tr.length<=20000:=by
 unfold a4u
 obtain⟨i1,i2,i3,i4⟩:=Z3 (U8 root [] lds) s0P
 obtain⟨j1,j2⟩:=F5 s0P (U8 root [] lds)
 obtain⟨k1,k2,k3,k4⟩:=Z3 (Y7 (fun n=>decide (n∈F)) lds) (U9 s0P (U8 root [] lds))
 obtain⟨m1,m2⟩:=F5 (U9 s0P (U8 root [] lds)) (Y7 (fun n=>decide (n∈F)) lds)
 have h12:=a0i (n:=root) (a:=[]) hP.ld (AZ _)
 have h300:=a4k (p:=fun n=>decide (n∈F)) hP.ld hll
 generalize U9 s0P (U8 root [] lds)=S2 at i1 i2 i3 i4 j1 j2 k1 k2 k3 k4 m1 m2⊢
 generalize U9 S2 (Y7 (fun n=>decide (n∈F)) lds)=S3 at k1 k2 k3 k4 m1 m2⊢
 have e1:S3.bg=[]:=m1.trans j1
 have e3:S3.gv=[]:=k1.trans i1
 have i3':S2.tr.length+0=0+S2.ld.length:=i3
 have i4':S2.ld.length<=0+(U8 root [] lds).length:=i4
 have hleft:=a7K pk S3.bg
 have hb:=a4P (nums:=nums) hP 12 root S3 (by rw[e1];exact List.not_mem_nil)
 unfold szW at hb
 rw[e1,e3]at hb
 rw[e1]at hleft
 simp only[List.length_nil]at hb
 omega
noncomputable def a9s:Sp:=fun vs H Q _=>∃(t n:Addr)(ns:List Str)(bs:List (List Rk))(pk:List (List Ro))(lds:List (Str×List Int))(ah:Bool)(nums:List Int)(root:Str)(F:List Str),vs=[.ref t,.str root,.ref n,.bl ah]/\a4L ns bs H t pk lds/\H n=some (.tup (nums.map V.int))/\PkR pk lds/\ns.Nodup/\ns.length<=12/\root∈ns/\root∈pk.flatMap R6/\FoF pk root ah F/\∀(p:Addr)(H':Hp),G8 H H'->a3O H' p (a4u pk lds nums root F)->Q (.ref p) H'
theorem b0j{dvs:List V}{ds:List Value}(hds:W0 dvs ds)(hb:∀(D:Addr)(kV doc pm:Value)(an:Option Addr)(cdv ct:Value)(us:List Value),(us++ds).length=4->∃k:Option (Array Value)->Sem (List (Str×Value)),bindArgs (W.fnOf "play" "play" (J7 a2Q) (J2 a2Q) (G4 a2Q) (.ref D) kV doc pm an cdv ct) ⟨us,[]⟩=seqItems? (.ref D) >>= k/\k (some #[.bool false])=pure ((["bundle","root","numbers","ahead"]:List Str).zip (us++ds)))
  (T:Tc K mg CP CG):a9D P w K mg base 9 "play" ["bundle","root","numbers","ahead"] dvs a9s:=by
 have C_PacksWalk2:=a5q (P:=P) (w:=w) (base:=base) T
 have C_go:=b4I (P:=P) (w:=w) (base:=base) T
 refine a9D.of T.d_play b3T (fun vs H Q E h=>?_) hds hb (fun fa cdv A outer s H vs Q E hr h=>?_)
 ·obtain⟨t,n,ns,bs,pk,lds,ah,nums,root,F,rfl,_⟩:=h
  rfl
 ·obtain⟨t,n,ns,bs,pk,lds,ah,nums,root,F,rfl,md,hn,hP,hnd,hn12,hroot,hrp,hF,q⟩:=h
  refine⟨_,(G6 (R3 (a1h C_go T.c_PacksWalk hr (a9C C_PacksWalk2 hr (by rfl) (G0 (pv 0) (G0 (pv 3) G2))) (G0 (pv 1) (G0 (pv 2) G2))))),?_⟩
  refine⟨_,rfl,_,rfl,fun w8 dx8 gw8 gdx8 hne8=>?_⟩
  have u8:G8 H (upd (upd H dx8 (.own w8)) w8 (.ins CP dx8 [])):=((G8.refl H).new gdx8).new (by rw[G7 hne8.symm];exact gw8)
  refine⟨w8,t,dx8,ah,ns,bs,pk,lds,rfl,G1,md.same u8,hnd,hn12,fun d8 H5 B5 gd8 wk8=>⟨rfl,?_⟩⟩
  have s5:=a4e gw8 gdx8 B5
  have gd0:=a6H gw8 gdx8 gd8
  obtain⟨dx8',l8,qs8,hw8,_⟩:=wk8.ex
  refine⟨w8,dx8',_,rfl,hw8,b2k,_,rfl,_,rfl,w8,n,d8,ns,bs,pk,lds,ah,nums,root,rfl,wk8,s5 _ _ hn,md.ok,hP,hn12,hroot,hrp,md.ll,md.tl,fun p tt vs v xs S' H' B' _ hp htt hpair hft hx0 hx1 hst hend=>?_⟩
  obtain⟨e1,e2⟩:=a9R hP hrp hF hx0 hx1 hst hend
  rw[e1]at hpair
  rw[e2]at hft
  refine q p H' (fun a o h=>B' a o (fun z=>by rw[z,gd0]at h;cases h) (s5 a o h)) ⟨tt,vs,v,hp,htt,hpair,hft,a4a hP md.ll md.tl⟩
theorem b2m(T:Tc K mg CP CG):a9D P w K mg base 9 "play" ["bundle","root","numbers","ahead"] [] a9s:=
 b0j .nil (fun D kV doc pm an cdv ct us hl=>by
  rw[List.append_nil]at hl⊢
  match us,hl with
  | [_,_,_,_],_=>exact⟨_,rfl,rfl⟩) T
theorem b3a(T:Tc K mg CP CG):a9D P w K mg base 9 "play" ["bundle","root","numbers","ahead"] [.bl false] a9s:=
 b0j (ds:=[.bool false]) (.cons rfl .nil) (fun D kV doc pm an cdv ct us hl=>by
  have hl2:us.length=3:=by rw[List.length_append]at hl;exact Nat.succ.inj hl
  match us,hl2 with
  | [_,_,_],_=>exact⟨_,rfl,rfl⟩) T
theorem a8p{K:W.Frag}{H H':Hp}{a d:Addr}{xs:List V}{kvs:List (Key×V)}(h:SqL K H a xs)(hd:Rd H d (.dK kvs))(s:But d H H'):SqL K H' a xs:=by
 rcases h with h | h
 ·rcases h with h | ⟨o,h⟩
  ·exact .inl (.inl (s _ _ (a1z hd h (fun _ z=>by cases z) (fun _ _ z=>by cases z)) h))
  ·exact .inl (.inr ⟨o,s _ _ (a1z hd h (fun _ z=>by cases z) (fun _ _ z=>by cases z)) h⟩)
 ·exact .inr h
structure StL(K:W.Frag)(CP a nl bl tm nt wl kl w8 d8 w9 d9:Addr)(sc:List Int)(ns:List Str)(bs:List (List Rk))(pk:List (List Ro))(lds:List (Str×List Int))(nums:List Int)(H:Hp):Prop where
 sc:SqL K H a (sc.map V.int)
 nl:H nl=some (.lst (ns.map V.str))
 bk:a2C ns H bl bs
 md:a4L ns bs H tm pk lds
 nt:H nt=some (.tup (nums.map V.int))
 wl:H wl=some (.lst [.ref w8,.ref w9])
 kl:H kl=some (.lst [.int 0,.int 1,.int 2,.int 0])
 k8:Wk CP ns H w8 d8 pk lds false
 k9:Wk CP ns H w9 d9 pk lds true
 ne:d8≠d9
section
variable{K:W.Frag}{CP a nl bl tm nt wl kl w8 d8 w9 d9:Addr}{sc:List Int}{ns:List Str}{bs:List (List Rk)}{pk:List (List Ro)}{lds:List (Str×List Int)}{nums:List Int}{H H':Hp}
theorem StL.same(h:StL K CP a nl bl tm nt wl kl w8 d8 w9 d9 sc ns bs pk lds nums H)(s:G8 H H'):StL K CP a nl bl tm nt wl kl w8 d8 w9 d9 sc ns bs pk lds nums H':=
 ⟨s.seq h.sc,s _ _ h.nl,h.bk.same s,h.md.same s,s _ _ h.nt,s _ _ h.wl,s _ _ h.kl,h.k8.same s,h.k9.same s,h.ne⟩
theorem StL.tups{d:Addr}{kvs:List (Key×V)}(hd:Rd H d (.dK kvs))(s:But d H H'):R7 H H':=fun a xs h=>s a _ (a1z hd h (fun _ z=>by cases z) (fun _ _ z=>by cases z)) h
theorem StL.but8(h:StL K CP a nl bl tm nt wl kl w8 d8 w9 d9 sc ns bs pk lds nums H)(s:But d8 H H')(k:Wk CP ns H' w8 d8 pk lds false):StL K CP a nl bl tm nt wl kl w8 d8 w9 d9 sc ns bs pk lds nums H':=by
 obtain⟨kd,hrd⟩:=h.k8.rd
 have L:∀a xs,H a=some (.lst xs)->H' a=some (.lst xs):=fun a xs h=>s a _ (a1z hrd h (fun _ z=>by cases z) (fun _ _ z=>by cases z)) h
 exact⟨a8p h.sc hrd s,L _ _ h.nl,h.bk.but hrd s,h.md.but hrd s,StL.tups hrd s _ _ h.nt,L _ _ h.wl,L _ _ h.kl,k,h.k9.other hrd h.ne.symm s,h.ne⟩
theorem StL.but9(h:StL K CP a nl bl tm nt wl kl w8 d8 w9 d9 sc ns bs pk lds nums H)(s:But d9 H H')(k:Wk CP ns H' w9 d9 pk lds true):StL K CP a nl bl tm nt wl kl w8 d8 w9 d9 sc ns bs pk lds nums H':=by
 obtain⟨kd,hrd⟩:=h.k9.rd
 have L:∀a xs,H a=some (.lst xs)->H' a=some (.lst xs):=fun a xs h=>s a _ (a1z hrd h (fun _ z=>by cases z) (fun _ _ z=>by cases z)) h
 exact⟨a8p h.sc hrd s,L _ _ h.nl,h.bk.but hrd s,h.md.but hrd s,StL.tups hrd s _ _ h.nt,L _ _ h.wl,L _ _ h.kl,h.k8.other hrd h.ne s,k,h.ne⟩
end
theorem b4O{f:Addr}{fd:FuncData}(Fn:Fun K "law" "law" a6a f fd)(T:Tc K mg CP CG):a2L P w K mg base CX0 27 f fd ["_law_script"] (b0q K):=by
 have C_law_cell_at:=b3R (P:=P) (w:=w) (base:=base) T.toTxt
 have C_law_blocks:=b1p (P:=P) (w:=w) (base:=base) T.toTxt
 have C_law_made:=b3o (P:=P) (w:=w) (base:=base) T.toTxt
 have C_law_there:=a5d (P:=P) (w:=w) (base:=base) T.toTxt
 have C_law_told:=b1X (P:=P) (w:=w) (base:=base) T.toTxt
 have C_law_same:=b3B (P:=P) (w:=w) (base:=base) T.toTxt 4
 have C_go:=b4I (P:=P) (w:=w) (base:=base) T
 have C_play3:=b3a (P:=P) (w:=w) (base:=base) T
 have C_play4:=b2m (P:=P) (w:=w) (base:=base) T
 have C_PacksWalk2:=a5q (P:=P) (w:=w) (base:=base) T
 have C_PacksWalk1:=a9L (P:=P) (w:=w) (base:=base) T
 refine Fn.ok a2e (fun vs H Q E h=>?_) (fun cdv A0 outer s H vs Q E hr h=>?_)
 ·obtain⟨a,sc,rfl,_⟩:=h
  rfl
 ·obtain⟨a,sc,rfl,hS,hlen,q⟩:=h
  refine⟨_,(@G3 _ _ _ _ _ (@b5q _ _ _ _ _ _ (@W6 _ _ _ _ _ _ _ _ _ _ _ C_law_blocks hr (by rfl) (@G0 _ _ _ _ _ (@W6 _ _ _ _ _ _ _ _ _ _ _ C_law_cell_at hr (by rfl) (@G0 _ _ _ _ _ (@pv _ 0 _ _ (by rfl) (by first | exact Or.inl rfl | exact Or.inr (Or.inl rfl) | exact Or.inr (Or.inr rfl)) (by decide) (by decide)) (@G0 _ _ _ _ _ (@G5 _ _ _ _) (@G2 _) (by rfl)) (by rfl)) (by decide) (by decide) (by rfl) (by rfl)) (@G0 _ _ _ _ _ (@a3W _ _ _ _ _ _ _ _ _ _ a4W (@pv _ 0 _ _ (by rfl) (by first | exact Or.inl rfl | exact Or.inr (Or.inl rfl) | exact Or.inr (Or.inr rfl)) (by decide) (by decide)) (@a3i _ _ _ (@G5 _ _ _ _)) (@a3i _ _ _ (@G5 _ _ _ _))) (@G2 _) (by rfl)) (by rfl)) (by decide) (by decide) (by rfl) (by rfl)) (@a0N _ _ _ _ _ _ rfl (@U7 _ _ _ _ _ (@J8 _ _ (1) _ a2e.nd rfl (Or.inl rfl) (by first | exact .inl rfl | exact .inr rfl | assumption)) (@U7 _ _ _ _ _ (@J8 _ _ (2) _ a2e.nd rfl (Or.inl rfl) (by first | exact .inl rfl | exact .inr rfl | assumption)) (@M7 _) (by rfl)) (by rfl)) (by rfl) (by rfl)) (by rfl) (by rfl) (by rfl)) (@G3 _ _ _ _ _ (@J6 _ _ (3) _ _ _ _ a2e.nd rfl (Or.inl rfl) (@W6 _ _ _ _ _ _ _ _ _ _ _ C_law_made hr (by rfl) (@G0 _ _ _ _ _ (@pv _ 1 _ _ (by rfl) (by first | exact Or.inl rfl | exact Or.inr (Or.inl rfl) | exact Or.inr (Or.inr rfl)) (by decide) (by decide)) (@G0 _ _ _ _ _ (@pv _ 2 _ _ (by rfl) (by first | exact Or.inl rfl | exact Or.inr (Or.inl rfl) | exact Or.inr (Or.inr rfl)) (by decide) (by decide)) (@G0 _ _ _ _ _ (@J4 _ _ _ _ _ _ _ _ (@O0 _) (@W6 _ _ _ _ _ _ _ _ _ _ _ C_law_cell_at hr (by rfl) (@G0 _ _ _ _ _ (@pv _ 0 _ _ (by rfl) (by first | exact Or.inl rfl | exact Or.inr (Or.inl rfl) | exact Or.inr (Or.inr rfl)) (by decide) (by decide)) (@G0 _ _ _ _ _ (@G5 _ _ _ _) (@G2 _) (by rfl)) (by rfl)) (by decide) (by decide) (by rfl) (by rfl)) (@J4 _ _ _ _ _ _ _ _ (@a7u _) (@G5 _ _ _ _) (@G5 _ _ _ _))) (@G2 _) (by rfl)) (by rfl)) (by rfl)) (by decide) (by decide) (by rfl) (by rfl)) (by rfl) (by first | exact .inl rfl | exact .inr rfl | assumption)) (@G3 _ _ _ _ _ (@J6 _ _ (4) _ _ _ _ a2e.nd rfl (Or.inl rfl) (@Y0 _ _ _ _ _ _ _ _ _ (@W8 _) (by rfl) T.n_tuple boot_tuple (@G0 _ _ _ _ _ (@a0I _ _ _ _ _ _ _ (["_law_number"]) ([none]) _ _ _ _ (G4 a6a) ["_law_script","_law_names_here","_law_blocks_here","_law_made_here","_law_numbers","_law_walks","_law_k","_law_root","_law_due","_law_first"] ⟨rfl,by decide +kernel,by decide +kernel,by decide +kernel,rfl,by decide +kernel,by decide +kernel⟩ (@E2 _ _ _ _ (@a3W _ _ _ _ _ _ _ _ _ _ a4W (@pv _ 0 _ _ (by rfl) (by first | exact Or.inl rfl | exact Or.inr (Or.inl rfl) | exact Or.inr (Or.inr rfl)) (by decide) (by decide)) (@a3i _ _ _ (@G5 _ _ _ _)) (@a3i _ _ _ (@G5 _ _ _ _)))) (fun _ _ _ _ _ _=>(@J8 _ _ (0) _ (show(["_law_number"]:List Str).Nodup by decide +kernel) rfl (Or.inl rfl) (by first | exact .inl rfl | exact .inr rfl | assumption))) (fun _ _ _ _ _ _=>@a1l _) (fun _ _ _ _ _ _=>(@J4 _ _ _ _ _ _ _ _ (@a7B _) (@J4 _ _ _ _ _ _ _ _ (@O0 _) (@pv _ 0 _ _ (by rfl) (by first | exact Or.inl rfl | exact Or.inr (Or.inl rfl) | exact Or.inr (Or.inr rfl)) (by decide) (by decide)) (@J4 _ _ _ _ _ _ _ _ (@a0R _) (@G5 _ _ _ _) (@J4 _ _ _ _ _ _ _ _ (@a7u _) (@G5 _ _ _ _) (@G5 _ _ _ _)))) (@J4 _ _ _ _ _ _ _ _ (@a7u _) (@G5 _ _ _ _) (@G5 _ _ _ _)))) (by rfl) (by rfl) (by rfl) (by intro _;rfl)) (@G2 _) (by rfl)) (by decide) (by decide) (by rfl) (by rfl)) (by rfl) (by first | exact .inl rfl | exact .inr rfl | assumption)) (@G3 _ _ _ _ _ (@J6 _ _ (5) _ _ _ _ a2e.nd rfl (Or.inl rfl) (@Z2 _ _ _ _ (@G0 _ _ _ _ _ (@a9C _ _ _ _ _ _ _ _ _ _ _ _ _ C_PacksWalk1 hr (by rfl) (@G0 _ _ _ _ _ (@pv _ 3 _ _ (by rfl) (by first | exact Or.inl rfl | exact Or.inr (Or.inl rfl) | exact Or.inr (Or.inr rfl)) (by decide) (by decide)) (@G2 _) (by rfl)) (by decide) (by decide) (by rfl) (by rfl)) (@G0 _ _ _ _ _ (@a9C _ _ _ _ _ _ _ _ _ _ _ _ _ C_PacksWalk2 hr (by rfl) (@G0 _ _ _ _ _ (@pv _ 3 _ _ (by rfl) (by first | exact Or.inl rfl | exact Or.inr (Or.inl rfl) | exact Or.inr (Or.inr rfl)) (by decide) (by decide)) (@G0 _ _ _ _ _ (@a1P _ _ _ _) (@G2 _) (by rfl)) (by rfl)) (by decide) (by decide) (by rfl) (by rfl)) (@G2 _) (by rfl)) (by rfl))) (by rfl) (by first | exact .inl rfl | exact .inr rfl | assumption)) (@G3 _ _ _ _ _ (@Y2 _ _ _ _ _ _ _ _ AL rfl (@E2 _ _ _ _ (@Z2 _ _ _ _ (@G0 _ _ _ _ _ (@G5 _ _ _ _) (@G0 _ _ _ _ _ (@G5 _ _ _ _) (@G0 _ _ _ _ _ (@G5 _ _ _ _) (@G0 _ _ _ _ _ (@G5 _ _ _ _) (@G2 _) (by rfl)) (by rfl)) (by rfl)) (by rfl)))) (@J8 _ _ (6) _ a2e.nd rfl (Or.inl rfl) (by first | exact .inl rfl | exact .inr rfl | assumption)) (@G3 _ _ _ _ _ (@J6 _ _ (7) _ _ _ _ a2e.nd rfl (Or.inl rfl) (@J0 _ _ _ _ _ _ _ (@J1 _) (@J0 _ _ _ _ _ _ _ (@J1 _) (@J0 _ _ _ _ _ _ _ (@J1 _) (@pv _ 3 _ _ (by rfl) (by first | exact Or.inl rfl | exact Or.inr (Or.inl rfl) | exact Or.inr (Or.inr rfl)) (by decide) (by decide)) (@G5 _ _ _ _) (fun _ _=>rfl)) (@J4 _ _ _ _ _ _ _ _ (@O0 _) (@J4 _ _ _ _ _ _ _ _ (@O6 _) (@W6 _ _ _ _ _ _ _ _ _ _ _ C_law_cell_at hr (by rfl) (@G0 _ _ _ _ _ (@pv _ 0 _ _ (by rfl) (by first | exact Or.inl rfl | exact Or.inr (Or.inl rfl) | exact Or.inr (Or.inr rfl)) (by decide) (by decide)) (@G0 _ _ _ _ _ (@G5 _ _ _ _) (@G2 _) (by rfl)) (by rfl)) (by decide) (by decide) (by rfl) (by rfl)) (@pv _ 6 _ _ (by rfl) (by first | exact Or.inl rfl | exact Or.inr (Or.inl rfl) | exact Or.inr (Or.inr rfl)) (by decide) (by decide))) (@R9 _ _ _ _ _ _ _ _ _ (@U2 _) (by rfl) T.n_len PySem.boot_len (@G0 _ _ _ _ _ (@J0 _ _ _ _ _ _ _ (@J1 _) (@pv _ 3 _ _ (by rfl) (by first | exact Or.inl rfl | exact Or.inr (Or.inl rfl) | exact Or.inr (Or.inr rfl)) (by decide) (by decide)) (@G5 _ _ _ _) (fun _ _=>rfl)) (@G2 _) (by rfl)) (by decide) (by decide) (by rfl) (by rfl))) (fun _ _=>rfl)) (@G5 _ _ _ _) (fun _ _=>rfl)) (by rfl) (by first | exact .inl rfl | exact .inr rfl | assumption)) (@G3 _ _ _ _ _ (@J6 _ _ (8) _ _ _ _ a2e.nd rfl (Or.inl rfl) (@W6 _ _ _ _ _ _ _ _ _ _ _ C_law_told hr (by rfl) (@G0 _ _ _ _ _ (@pv _ 3 _ _ (by rfl) (by first | exact Or.inl rfl | exact Or.inr (Or.inl rfl) | exact Or.inr (Or.inr rfl)) (by decide) (by decide)) (@G0 _ _ _ _ _ (@pv _ 7 _ _ (by rfl) (by first | exact Or.inl rfl | exact Or.inr (Or.inl rfl) | exact Or.inr (Or.inr rfl)) (by decide) (by decide)) (@G0 _ _ _ _ _ (@pv _ 4 _ _ (by rfl) (by first | exact Or.inl rfl | exact Or.inr (Or.inl rfl) | exact Or.inr (Or.inr rfl)) (by decide) (by decide)) (@G0 _ _ _ _ _ (@R5 _ _ _ _ _ (@G2 _)) (@G2 _) (by rfl)) (by rfl)) (by rfl)) (by rfl)) (by decide) (by decide) (by rfl) (by rfl)) (by rfl) (by first | exact .inl rfl | exact .inr rfl | assumption)) (@G3 _ _ _ _ _ (@J6 _ _ (9) _ _ _ _ a2e.nd rfl (Or.inl rfl) (@W6 _ _ _ _ _ _ _ _ _ _ _ C_law_told hr (by rfl) (@G0 _ _ _ _ _ (@pv _ 3 _ _ (by rfl) (by first | exact Or.inl rfl | exact Or.inr (Or.inl rfl) | exact Or.inr (Or.inr rfl)) (by decide) (by decide)) (@G0 _ _ _ _ _ (@pv _ 7 _ _ (by rfl) (by first | exact Or.inl rfl | exact Or.inr (Or.inl rfl) | exact Or.inr (Or.inr rfl)) (by decide) (by decide)) (@G0 _ _ _ _ _ (@pv _ 4 _ _ (by rfl) (by first | exact Or.inl rfl | exact Or.inr (Or.inl rfl) | exact Or.inr (Or.inr rfl)) (by decide) (by decide)) (@G0 _ _ _ _ _ (@W6 _ _ _ _ _ _ _ _ _ _ _ C_law_there hr (by rfl) (@G0 _ _ _ _ _ (@pv _ 1 _ _ (by rfl) (by first | exact Or.inl rfl | exact Or.inr (Or.inl rfl) | exact Or.inr (Or.inr rfl)) (by decide) (by decide)) (@G0 _ _ _ _ _ (@pv _ 2 _ _ (by rfl) (by first | exact Or.inl rfl | exact Or.inr (Or.inl rfl) | exact Or.inr (Or.inr rfl)) (by decide) (by decide)) (@G0 _ _ _ _ _ (@pv _ 7 _ _ (by rfl) (by first | exact Or.inl rfl | exact Or.inr (Or.inl rfl) | exact Or.inr (Or.inr rfl)) (by decide) (by decide)) (@G0 _ _ _ _ _ (@R5 _ _ _ _ _ (@G0 _ _ _ _ _ (@I9 _ _ _ _) (@G0 _ _ _ _ _ (@I9 _ _ _ _) (@G2 _) (by rfl)) (by rfl))) (@G2 _) (by rfl)) (by rfl)) (by rfl)) (by rfl)) (by decide) (by decide) (by rfl) (by rfl)) (@G2 _) (by rfl)) (by rfl)) (by rfl)) (by rfl)) (by decide) (by decide) (by rfl) (by rfl)) (by rfl) (by first | exact .inl rfl | exact .inr rfl | assumption)) (@G3 _ _ _ _ _ (@R8 _ _ _ _ _ _ _ _ (PW.pt (@a6C _ _ _ _ _ _ _ (@a3x _ _ _ _ (@a0D _ _ _ (@W6 _ _ _ _ _ _ _ _ _ _ _ C_law_same hr (by rfl) (@G0 _ _ _ _ _ (@a1h _ _ _ _ _ _ _ _ _ _ _ _ _ _ _ C_go T.c_PacksWalk hr (@J0 _ _ _ _ _ _ _ W7 (@pv _ 5 _ _ (by rfl) (by first | exact Or.inl rfl | exact Or.inr (Or.inl rfl) | exact Or.inr (Or.inr rfl)) (by decide) (by decide)) (@G5 _ _ _ _) (fun _ _=>rfl)) (@G0 _ _ _ _ _ (@pv _ 7 _ _ (by rfl) (by first | exact Or.inl rfl | exact Or.inr (Or.inl rfl) | exact Or.inr (Or.inr rfl)) (by decide) (by decide)) (@G0 _ _ _ _ _ (@pv _ 4 _ _ (by rfl) (by first | exact Or.inl rfl | exact Or.inr (Or.inl rfl) | exact Or.inr (Or.inr rfl)) (by decide) (by decide)) (@G2 _) (by rfl)) (by rfl)) (by decide) (by rfl) (by rfl) (by rfl)) (@G0 _ _ _ _ _ (@pv _ 8 _ _ (by rfl) (by first | exact Or.inl rfl | exact Or.inr (Or.inl rfl) | exact Or.inr (Or.inr rfl)) (by decide) (by decide)) (@G2 _) (by rfl)) (by rfl)) (by decide) (by decide) (by rfl) (by rfl)) (by intro _;rfl))) (@a4o _ _ _ _ (@a3x _ _ _ _ (@a0D _ _ _ (@W6 _ _ _ _ _ _ _ _ _ _ _ C_law_same hr (by rfl) (@G0 _ _ _ _ _ (@a1h _ _ _ _ _ _ _ _ _ _ _ _ _ _ _ C_go T.c_PacksWalk hr (@J0 _ _ _ _ _ _ _ W7 (@pv _ 5 _ _ (by rfl) (by first | exact Or.inl rfl | exact Or.inr (Or.inl rfl) | exact Or.inr (Or.inr rfl)) (by decide) (by decide)) (@G5 _ _ _ _) (fun _ _=>rfl)) (@G0 _ _ _ _ _ (@pv _ 7 _ _ (by rfl) (by first | exact Or.inl rfl | exact Or.inr (Or.inl rfl) | exact Or.inr (Or.inr rfl)) (by decide) (by decide)) (@G0 _ _ _ _ _ (@pv _ 4 _ _ (by rfl) (by first | exact Or.inl rfl | exact Or.inr (Or.inl rfl) | exact Or.inr (Or.inr rfl)) (by decide) (by decide)) (@G2 _) (by rfl)) (by rfl)) (by decide) (by rfl) (by rfl) (by rfl)) (@G0 _ _ _ _ _ (@pv _ 9 _ _ (by rfl) (by first | exact Or.inl rfl | exact Or.inr (Or.inl rfl) | exact Or.inr (Or.inr rfl)) (by decide) (by decide)) (@G2 _) (by rfl)) (by rfl)) (by decide) (by decide) (by rfl) (by rfl)) (by intro _;rfl)))))) (@G6 _ _ _ (@R3 _ _ _ _ (@a1P _ _ _ _))) (@J5 _)) (@G6 _ _ _ (@R8 _ _ _ _ _ _ _ _ (PW.pt (@a6C _ _ _ _ _ _ _ (@a3x _ _ _ _ (@a0D _ _ _ (@W6 _ _ _ _ _ _ _ _ _ _ _ C_law_same hr (by rfl) (@G0 _ _ _ _ _ (@a9m _ _ _ _ _ _ _ _ _ _ _ _ C_play3 hr (by rfl) (@G0 _ _ _ _ _ (@pv _ 3 _ _ (by rfl) (by first | exact Or.inl rfl | exact Or.inr (Or.inl rfl) | exact Or.inr (Or.inr rfl)) (by decide) (by decide)) (@G0 _ _ _ _ _ (@pv _ 7 _ _ (by rfl) (by first | exact Or.inl rfl | exact Or.inr (Or.inl rfl) | exact Or.inr (Or.inr rfl)) (by decide) (by decide)) (@G0 _ _ _ _ _ (@pv _ 4 _ _ (by rfl) (by first | exact Or.inl rfl | exact Or.inr (Or.inl rfl) | exact Or.inr (Or.inr rfl)) (by decide) (by decide)) (@G2 _) (by rfl)) (by rfl)) (by rfl)) (by decide) (by decide) (by rfl) (by rfl)) (@G0 _ _ _ _ _ (@pv _ 8 _ _ (by rfl) (by first | exact Or.inl rfl | exact Or.inr (Or.inl rfl) | exact Or.inr (Or.inr rfl)) (by decide) (by decide)) (@G2 _) (by rfl)) (by rfl)) (by decide) (by decide) (by rfl) (by rfl)) (by intro _;rfl))) (@a4o _ _ _ _ (@a3x _ _ _ _ (@a0D _ _ _ (@W6 _ _ _ _ _ _ _ _ _ _ _ C_law_same hr (by rfl) (@G0 _ _ _ _ _ (@a9m _ _ _ _ _ _ _ _ _ _ _ _ C_play4 hr (by rfl) (@G0 _ _ _ _ _ (@pv _ 3 _ _ (by rfl) (by first | exact Or.inl rfl | exact Or.inr (Or.inl rfl) | exact Or.inr (Or.inr rfl)) (by decide) (by decide)) (@G0 _ _ _ _ _ (@pv _ 7 _ _ (by rfl) (by first | exact Or.inl rfl | exact Or.inr (Or.inl rfl) | exact Or.inr (Or.inr rfl)) (by decide) (by decide)) (@G0 _ _ _ _ _ (@pv _ 4 _ _ (by rfl) (by first | exact Or.inl rfl | exact Or.inr (Or.inl rfl) | exact Or.inr (Or.inr rfl)) (by decide) (by decide)) (@G0 _ _ _ _ _ (@a1P _ _ _ _) (@G2 _) (by rfl)) (by rfl)) (by rfl)) (by rfl)) (by decide) (by decide) (by rfl) (by rfl)) (@G0 _ _ _ _ _ (@pv _ 9 _ _ (by rfl) (by first | exact Or.inl rfl | exact Or.inr (Or.inl rfl) | exact Or.inr (Or.inr rfl)) (by decide) (by decide)) (@G2 _) (by rfl)) (by rfl)) (by decide) (by decide) (by rfl) (by rfl)) (by intro _;rfl)))))) (@G6 _ _ _ (@R3 _ _ _ _ (@a1P _ _ _ _))) (@J5 _))))))) (by intro _;rfl)) (@G6 _ _ _ (@R3 _ _ _ _ (@W6 _ _ _ _ _ _ _ _ _ _ _ C_law_same hr (by rfl) (@G0 _ _ _ _ _ (@a9m _ _ _ _ _ _ _ _ _ _ _ _ C_play4 hr (by rfl) (@G0 _ _ _ _ _ (@pv _ 3 _ _ (by rfl) (by first | exact Or.inl rfl | exact Or.inr (Or.inl rfl) | exact Or.inr (Or.inr rfl)) (by decide) (by decide)) (@G0 _ _ _ _ _ (@pv _ 7 _ _ (by rfl) (by first | exact Or.inl rfl | exact Or.inr (Or.inl rfl) | exact Or.inr (Or.inr rfl)) (by decide) (by decide)) (@G0 _ _ _ _ _ (@pv _ 4 _ _ (by rfl) (by first | exact Or.inl rfl | exact Or.inr (Or.inl rfl) | exact Or.inr (Or.inr rfl)) (by decide) (by decide)) (@G0 _ _ _ _ _ (@a1P _ _ _ _) (@G2 _) (by rfl)) (by rfl)) (by rfl)) (by rfl)) (by decide) (by decide) (by rfl) (by rfl)) (@G0 _ _ _ _ _ (@pv _ 8 _ _ (by rfl) (by first | exact Or.inl rfl | exact Or.inr (Or.inl rfl) | exact Or.inr (Or.inr rfl)) (by decide) (by decide)) (@G2 _) (by rfl)) (by rfl)) (by decide) (by decide) (by rfl) (by rfl))))))))),?_⟩
  obtain⟨cs1,ec1,hc1⟩:=a8z sc 12 52
  obtain⟨cs2,ec2,hc2⟩:=a8z sc 4 12
  refine⟨_,rfl,a,sc,0,rfl,hS,by decide,fun c0=>?_⟩
  refine⟨_,rfl,_,rfl,_,rfl,a,_,rfl,hS,fun l1 gl1=>?_⟩
  rw[show a5Z (sc.map V.int) (some 12) (some 52)=cs1.map V.int from ec1]
  have s1:G8 H (upd H l1 (.lst (cs1.map V.int))):=(G8.refl H).new gl1
  refine⟨c0,l1,cs1,rfl,G1,by omega,fun t1 nl bl ns bs H1 s1' ht1 hnl hbk hnd hn1 hn12 hnle=>?_⟩
  refine⟨t1,_,rfl,SqT.of ht1,rfl,_,_,rfl,_,_,rfl,rfl,?_⟩
  have s01:=s1.trans s1'
  refine⟨_,rfl,_,rfl,_,rfl,a,sc,1,rfl,s01.seq hS,by decide,fun c1=>?_⟩
  refine⟨_,_,rfl,rfl,⟨by decide,by decide,by decide⟩,_,_,rfl,rfl,(by show(0:Int) < 10 ^ (20:Int).toNat;decide),nl,bl,_,ns,bs,rfl,hnl,hbk,hnd,hn1,hn12,fun tm pk lds H2 s2 md=>?_⟩
  have s02:=s01.trans s2
  refine⟨_,rfl,_,rfl,_,rfl,a,_,rfl,s02.seq hS,fun l2 gl2=>?_⟩
  rw[show a5Z (sc.map V.int) (some 4) (some 12)=cs2.map V.int from ec2]
  have s3:G8 H2 (upd H2 l2 (.lst (cs2.map V.int))):=(G8.refl H2).new gl2
  have hl2:upd H2 l2 (.lst (cs2.map V.int)) l2=some (.lst (cs2.map V.int)):=G1
  generalize upd H2 l2 (.lst (cs2.map V.int))=H3 at s3 hl2⊢
  refine⟨l2,rfl,⟨_,SqL.of hl2⟩,fun D gD=>a1s (K:=K) (a:=l2) (xs:=cs2.map V.int) (fun i σ H4=>∃(v0:Option V)(zs:List Int),σ=[v0]/\G8 H3 H4/\H4 D=some (.lst (zs.map V.int))/\zs.length=i) ⟨_,[],rfl,(G8.refl H3).new gD,G1,rfl⟩ (fun i σ H4⟨_,_,_,s4,_⟩=>SqL.of (s4 _ _ hl2)) ?_ ?_⟩
  ·rintro i x σ H4 hx ⟨v0,zs,rfl,s4,hD4,hzl⟩
   rw[AN]at hx
   obtain⟨y,hy,rfl⟩:=AX.mp hx
   have hi:i < cs2.length:=(AB.mp hy).1
   refine ntG ?_
   refine⟨_,rfl,_,_,rfl,rfl,⟨by decide,by decide,by decide⟩,_,_,rfl,rfl,.inl ⟨by decide,by decide⟩,_,_,rfl,rfl,(by show(0:Int) < 2*10 ^ (40:Int).toNat;decide),_,_,rfl,rfl,⟨by decide,by decide,by decide⟩,_,_,rfl,rfl,?_⟩
   exact⟨_,hD4,J9 (by rw[List.length_map];omega),_,zs++[_],rfl,s4.put gD,by rw[G1,List.map_append];rfl,by rw[List.length_append,hzl];rfl⟩
  rintro σ H4 ⟨v0,zs,rfl,s4,hD4,hzl⟩
  rw[List.length_map]at hzl
  refine⟨D,_,rfl,.inl ⟨SqL.of hD4,fun nt gnt=>?_⟩⟩
  have s5:G8 H4 (upd H4 nt (.tup (zs.map V.int))):=(G8.refl H4).new gnt
  have hnt5:upd H4 nt (.tup (zs.map V.int)) nt=some (.tup (zs.map V.int)):=G1
  generalize upd H4 nt (.tup (zs.map V.int))=H5 at s5 hnt5⊢
  have s25:=(s3.trans s4).trans s5
  refine⟨_,rfl,fun w8 dx8 gw8 gdx8 hne8=>?_⟩
  have u8:G8 H5 (upd (upd H5 dx8 (.own w8)) w8 (.ins CP dx8 [])):=((G8.refl H5).new gdx8).new (by rw[G7 hne8.symm];exact gw8)
  refine⟨w8,tm,dx8,false,ns,bs,pk,lds,rfl,G1,(md.same s25).same u8,hnd,hn12,fun d8 H6 B6 gd8 wk8=>⟨rfl,?_⟩⟩
  have s6:=a4e gw8 gdx8 B6
  refine⟨_,rfl,fun w9 dx9 gw9 gdx9 hne9=>?_⟩
  have u9:G8 H6 (upd (upd H6 dx9 (.own w9)) w9 (.ins CP dx9 [])):=((G8.refl H6).new gdx9).new (by rw[G7 hne9.symm];exact gw9)
  refine⟨w9,tm,dx9,true,ns,bs,pk,lds,rfl,G1,(md.same (s25.trans s6)).same u9,hnd,hn12,fun d9 H7 B7 gd9 wk9=>⟨rfl,?_⟩⟩
  have s7:=a4e gw9 gdx9 B7
  have h98:=b6m wk8 (a6H gw9 gdx9 gd9)
  have s27:=(s25.trans s6).trans s7
  refine⟨a0p,fun wl gwl=>?_⟩
  have s8:G8 H7 (upd H7 wl (.lst [.ref w8,.ref w9])):=(G8.refl H7).new gwl
  have hwl8:upd H7 wl (.lst [.ref w8,.ref w9]) wl=some (.lst [.ref w8,.ref w9]):=G1
  generalize upd H7 wl (.lst [.ref w8,.ref w9])=H8 at s8 hwl8⊢
  refine⟨(by show 4<=sizeLine;decide),fun kl gkl=>?_⟩
  have s9:G8 H8 (upd H8 kl (.lst [.int 0,.int 1,.int 2,.int 0])):=(G8.refl H8).new gkl
  have hkl9:upd H8 kl (.lst [.int 0,.int 1,.int 2,.int 0]) kl=some (.lst [.int 0,.int 1,.int 2,.int 0]):=G1
  generalize upd H8 kl (.lst [.int 0,.int 1,.int 2,.int 0])=H9 at s9 hkl9⊢
  have s89:=s8.trans s9
  have s29:=s27.trans s89
  have st9:StL K CP a nl bl tm nt wl kl w8 d8 w9 d9 sc ns bs pk lds zs H9:=⟨(s02.trans s29).seq hS,s29 _ _ (s2 _ _ hnl),hbk.same (s2.trans s29),md.same s29,(s6.trans (s7.trans s89)) _ _ hnt5,s9 _ _ hwl8,hkl9,wk8.same (s7.trans s89),wk9.same s89,h98⟩
  have hE:=b5t md hn12 hnle
  have hn8:zs.length<=100:=by omega
  refine⟨kl,rfl,⟨_,SqL.of hkl9⟩,?_⟩
  refine a0O (K:=K) (a:=kl) (xs:=[.int 0,.int 1,.int 2,.int 0]) (fun i σ H10=>∃v6 v7 v8 v9:Option V,σ=[some (.ref a),some (.ref nl),some (.ref bl),some (.ref tm),some (.ref nt),some (.ref wl),v6,v7,v8,v9]/\StL K CP a nl bl tm nt wl kl w8 d8 w9 d9 sc ns bs pk lds zs H10/\(i=0\/∃root due,v7=some (.str root)/\v8=some (.ref due)/\root∈ns/\a3O H10 due (a4u pk lds zs root []))) ⟨none,none,none,none,rfl,st9,.inl rfl⟩ (fun i σ H10 _⟨_,_,_,_,_,st,_⟩=>SqL.of st.kl) ?_ ?_
  ·rintro i x σ H10 hx ⟨v6,v7,v8,v9,rfl,st,_⟩
   obtain⟨kk,rfl⟩:∃kk:Int,x= .int kk:=by
    have:=AF hx
    simp only[List.mem_cons,List.not_mem_nil,or_false]at this
    rcases this with z | z | z | z<;>exact⟨_,z⟩
   obtain⟨pa,oa,l,us,ws,ob,ht,hp,hus,hl,hob,hws⟩:=st.md.ex
   have hat2:atI [V.ref pa,V.ref oa,V.ref l] 2=some (.ref l):=G9 (j:=2) rfl
   have hwsl:ws.length=lds.length:=AI hws
   have hl1:=md.l1
   refine⟨_,rfl,tm,_,_,_,rfl,rfl,SqT.of ht,hat2,?_⟩
   refine⟨_,rfl,a,sc,2,rfl,st.sc,by decide,fun c2=>?_⟩
   have mm:=a0f (i:=c2+kk) (n:=(ws.length:Int)) (by omega)
   obtain⟨wv,hwv,ewv⟩:=a5a ws mm.1 mm.2
   obtain⟨jw,hjw⟩:=BB hwv
   obtain⟨⟨root,xs⟩,hld,t',u',rfl,ht',_⟩:=Paired.get? hws hjw
   have hrl:root∈lds.map (·.1):=AV.mpr ⟨_,AF hld,rfl⟩
   have hrn:root∈ns:=(md.ln _ (AF hld)).1
   have hrp:root∈pk.flatMap R6:=md.ok.pt.mem_iff.mpr hrn
   refine⟨_,rfl,_,_,rfl,rfl,_,rfl,tm,_,_,_,rfl,rfl,SqT.of ht,hat2,l,_,rfl,.inr (.inl (.inr ⟨ob,hl⟩)),_,_,rfl,rfl,(by show(0:Int) < (ws.length:Int);omega),l,_,_,_,rfl,rfl,.inl (.inr ⟨ob,hl⟩),ewv,t',_,_,_,rfl,rfl,SqT.of ht',G9 (j:=0) rfl,?_⟩
   refine⟨_,rfl,_,rfl,_,rfl,a1G,fun e0 ge0=>?_⟩
   have s11:G8 H10 (upd H10 e0 (.tup [])):=(G8.refl H10).new ge0
   refine⟨tm,nt,e0,ns,bs,pk,lds,zs,root,[],rfl,st.md.same s11,s11 _ _ st.nt,.inr G1,hE,hrl,hrp,hn8,fun p1 tt1 vs1 vv1 H11 s11' hp1 htt1 hpr1 hft1 hvl1=>?_⟩
   have s1a:=s11.trans s11'
   have st11:=st.same s1a
   have r11:a3O H11 p1 (a4u pk lds zs root []):=⟨tt1,vs1,vv1,hp1,htt1,hpr1,hft1,a4a hE.pr md.ll md.tl⟩
   refine⟨_,rfl,_,rfl,_,rfl,_,rfl,_,rfl,_,rfl,a0p,fun wt gwt=>?_⟩
   have s12:G8 H11 (upd H11 wt (.tup [.str "do",.str "ask"])):=(G8.refl H11).new gwt
   refine⟨nl,bl,wt,root,ns,["do","ask"],bs,rfl,s12 _ _ st11.nl,st11.bk.same s12,hnd,hn12,hrn,G1,fun w' hw'=>by simpa using hw',fun lf L H12 s12' _ hlf hLnd hLN hLR=>?_⟩
   have s1b:=s12.trans s12'
   have st12:=st11.same s1b
   refine⟨tm,nt,lf,ns,bs,pk,lds,zs,root,L,rfl,st12.md,st12.nt,.inl hlf,hE,hrl,hrp,hn8,fun p2 tt2 vs2 vv2 H13 s13 hp2 htt2 hpr2 hft2 hvl2=>?_⟩
   have st13:=st12.same s13
   have r13:=r11.mono (s1b.trans s13).tups
   have q13:a3O H13 p2 (a4u pk lds zs root L):=⟨tt2,vs2,vv2,hp2,htt2,hpr2,hft2,a4a hE.pr md.ll md.tl⟩
   have hF0:FoF pk root false []:=⟨(fun _=>rfl),(fun z=>by cases z)⟩
   have hF1:FoF pk root true L:=by
    refine⟨fun z=>(by cases z),fun _ m=>?_⟩
    have hw:∀x,x∈(["do","ask"]:List Str)↔x="ask" \/x="do":=fun x=>by simp[or_comm]
    rw[hLR m]
    exact⟨Rch.congr fun a b z=>(md.ok.to hw a b).mpr z,Rch.congr fun a b z=>(md.ok.to hw a b).mp z⟩
   obtain⟨dx8',l8',qs8,hw8,_⟩:=st13.k8.ex
   have i0:atI [V.ref w8,V.ref w9] 0=some (.ref w8):=G9 (j:=0) rfl
   have i1:atI [V.ref w8,V.ref w9] 1=some (.ref w9):=G9 (j:=1) rfl
   refine⟨_,rfl,wl,_,_,_,rfl,rfl,SqL.of st13.wl,i0,w8,dx8',_,rfl,hw8,b2k,_,rfl,_,rfl,w8,nt,d8,ns,bs,pk,lds,false,zs,root,rfl,st13.k8,st13.nt,md.ok,hE.pr,hn12,hrn,hrp,md.ll,md.tl,fun p3 tt3 vs3 vv3 xs3 S3 H14 B14 wk14 hp3 htt3 hpr3 hft3 hx0 hx1 hst hend=>?_⟩
   obtain⟨e1,e2⟩:=a9R hE.pr hrp hF0 hx0 hx1 hst hend
   rw[e1]at hpr3
   rw[e2]at hft3
   obtain⟨kd8,hrd8⟩:=st13.k8.rd
   have st14:=st13.but8 B14 wk14
   have r14:=r13.mono (StL.tups hrd8 B14)
   have q14:=q13.mono (StL.tups hrd8 B14)
   refine⟨_,rfl,_,_,rfl,a5r ⟨tt3,vs3,vv3,hp3,htt3,hpr3,hft3,a4a hE.pr md.ll md.tl⟩ r14 rfl rfl,_,rfl,Y4 ?_⟩
   obtain⟨dx9',l9',qs9,hw9,_⟩:=st14.k9.ex
   refine⟨_,rfl,wl,_,_,_,rfl,rfl,SqL.of st14.wl,i1,w9,dx9',_,rfl,hw9,b2k,_,rfl,_,rfl,w9,nt,d9,ns,bs,pk,lds,true,zs,root,rfl,st14.k9,st14.nt,md.ok,hE.pr,hn12,hrn,hrp,md.ll,md.tl,fun p4 tt4 vs4 vv4 xs4 S4 H15 B15 wk15 hp4 htt4 hpr4 hft4 hx0' hx1' hst' hend'=>?_⟩
   obtain⟨e1',e2'⟩:=a9R hE.pr hrp hF1 hx0' hx1' hst' hend'
   rw[e1']at hpr4
   rw[e2']at hft4
   obtain⟨kd9,hrd9⟩:=st14.k9.rd
   have st15:=st14.but9 B15 wk15
   have r15:=r14.mono (StL.tups hrd9 B15)
   have q15:=q14.mono (StL.tups hrd9 B15)
   refine⟨_,rfl,_,_,rfl,a5r ⟨tt4,vs4,vv4,hp4,htt4,hpr4,hft4,a4a hE.pr md.ll md.tl⟩ q15 rfl rfl,_,rfl,Y4 (a7b ?_)⟩
   refine⟨_,rfl,_,rfl,_,rfl,tm,nt,ns,bs,pk,lds,false,zs,root,[],rfl,st15.md,st15.nt,hE.pr,hnd,hn12,hrn,hrp,hF0,fun p5 H16 s16 a16=>?_⟩
   have r16:=r15.mono s16.tups
   refine⟨_,rfl,_,_,rfl,a5r a16 r16 rfl rfl,_,rfl,Y4 ?_⟩
   have st16:=st15.same s16
   refine⟨_,rfl,_,rfl,_,rfl,tm,nt,ns,bs,pk,lds,true,zs,root,L,rfl,st16.md,st16.nt,hE.pr,hnd,hn12,hrn,hrp,hF1,fun p6 H17 s17 a17=>?_⟩
   have q17:=q15.mono (s16.trans s17).tups
   refine⟨_,rfl,_,_,rfl,a5r a17 q17 rfl rfl,_,rfl,Y4 ?_⟩
   exact⟨_,_,_,_,rfl,st16.same s17,.inr ⟨root,p1,rfl,rfl,hrn,r16.mono s17.tups⟩⟩
  rintro σ H10 ⟨v6,v7,v8,v9,rfl,st,hz⟩
  rcases hz with z | ⟨root,due,rfl,rfl,hrn,rdue⟩
  ·cases z
  have hrp:root∈pk.flatMap R6:=md.ok.pt.mem_iff.mpr hrn
  have hF0:FoF pk root false []:=⟨(fun _=>rfl),(fun z=>by cases z)⟩
  refine⟨_,rfl,_,rfl,_,rfl,tm,nt,ns,bs,pk,lds,false,zs,root,[],rfl,st.md,st.nt,hE.pr,hnd,hn12,hrn,hrp,hF0,fun p5 H16 s16 a16=>?_⟩
  exact⟨_,rfl,_,_,rfl,a5r a16 (rdue.mono s16.tups) rfl rfl,q H16⟩
end
end K62
namespace K62
open PySem L2
theorem b5c{l:W.OpenLaw}{w:World}{K:W.Frag}{h:Heap}{mg:Str->Option Value}{fa:Addr}(X:K.In h)(G:h.Ns mainGlobals mg)(hfa:mg "law"=some (.ref fa))
  {CP CG:Addr}
  {DD DP:Addr}{ocD ocP:Value}{odD odP:Option Addr}{nD nP:Nat}{slD slP:Array (Option Value)}
  {f0:Addr}{od0 an0:Option Addr}{sl0:Array (Option Value)}{oc0 kV0 dc0 pm0 cd0 ct0:Value}
  {f1:Addr}{od1 an1:Option Addr}{sl1:Array (Option Value)}{oc1 kV1 dc1 pm1 cd1 ct1:Value}
  {f2:Addr}{od2 an2:Option Addr}{sl2:Array (Option Value)}{oc2 kV2 dc2 pm2 cd2 ct2:Value}
  {f3:Addr}{od3 an3:Option Addr}{sl3:Array (Option Value)}{oc3 kV3 dc3 pm3 cd3 ct3:Value}
  {f4:Addr}{od4 an4:Option Addr}{sl4:Array (Option Value)}{oc4 kV4 dc4 pm4 cd4 ct4:Value}
  {f5:Addr}{od5 an5:Option Addr}{sl5:Array (Option Value)}{oc5 kV5 dc5 pm5 cd5 ct5:Value}
  {f6:Addr}{od6 an6:Option Addr}{sl6:Array (Option Value)}{oc6 kV6 dc6 pm6 cd6 ct6:Value}
  {f7:Addr}{od7 an7:Option Addr}{sl7:Array (Option Value)}{oc7 kV7 dc7 pm7 cd7 ct7:Value}
  {f8:Addr}{od8 an8:Option Addr}{sl8:Array (Option Value)}{oc8 kV8 dc8 pm8 cd8 ct8:Value}
  {f9:Addr}{od9 an9:Option Addr}{sl9:Array (Option Value)}{oc9 kV9 dc9 pm9 cd9 ct9:Value}
  {f10:Addr}{od10 an10:Option Addr}{sl10:Array (Option Value)}{oc10 kV10 dc10 pm10 cd10 ct10:Value}
  {f11:Addr}{od11 an11:Option Addr}{sl11:Array (Option Value)}{oc11 kV11 dc11 pm11 cd11 ct11:Value}
  {f12:Addr}{od12 an12:Option Addr}{sl12:Array (Option Value)}{oc12 kV12 dc12 pm12 cd12 ct12:Value}
  {f13:Addr}{od13 an13:Option Addr}{sl13:Array (Option Value)}{oc13 kV13 dc13 pm13 cd13 ct13:Value}
  {f14:Addr}{od14 an14:Option Addr}{sl14:Array (Option Value)}{oc14 kV14 dc14 pm14 cd14 ct14:Value}
  {f15:Addr}{od15 an15:Option Addr}{sl15:Array (Option Value)}{oc15 kV15 dc15 pm15 cd15 ct15:Value}
  {f16:Addr}{od16 an16:Option Addr}{sl16:Array (Option Value)}{oc16 kV16 dc16 pm16 cd16 ct16:Value}
  {f17:Addr}{od17 an17:Option Addr}{sl17:Array (Option Value)}{oc17 kV17 dc17 pm17 cd17 ct17:Value}
  {f18:Addr}{od18 an18:Option Addr}{sl18:Array (Option Value)}{oc18 kV18 dc18 pm18 cd18 ct18:Value}
  {f19:Addr}{od19 an19:Option Addr}{sl19:Array (Option Value)}{oc19 kV19 dc19 pm19 cd19 ct19:Value}
  {f20:Addr}{od20 an20:Option Addr}{sl20:Array (Option Value)}{oc20 kV20 dc20 pm20 cd20 ct20:Value}
  {f21:Addr}{od21 an21:Option Addr}{sl21:Array (Option Value)}{oc21 kV21 dc21 pm21 cd21 ct21:Value}
  {f22:Addr}{od22 an22:Option Addr}{sl22:Array (Option Value)}{oc22 kV22 dc22 pm22 cd22 ct22:Value}
  {f23:Addr}{od23 an23:Option Addr}{sl23:Array (Option Value)}{oc23 kV23 dc23 pm23 cd23 ct23:Value}
  {f24:Addr}{od24 an24:Option Addr}{sl24:Array (Option Value)}{oc24 kV24 dc24 pm24 cd24 ct24:Value}
  {f25:Addr}{od25 an25:Option Addr}{sl25:Array (Option Value)}{oc25 kV25 dc25 pm25 cd25 ct25:Value}
  {f26:Addr}{od26 an26:Option Addr}{sl26:Array (Option Value)}{oc26 kV26 dc26 pm26 cd26 ct26:Value}
  {f27:Addr}{od27 an27:Option Addr}{sl27:Array (Option Value)}{oc27 kV27 dc27 pm27 cd27 ct27:Value}
  {f28:Addr}{od28 an28:Option Addr}{sl28:Array (Option Value)}{oc28 kV28 dc28 pm28 cd28 ct28:Value}
  {f29:Addr}{od29 an29:Option Addr}{sl29:Array (Option Value)}{oc29 kV29 dc29 pm29 cd29 ct29:Value}
  {f30:Addr}{od30 an30:Option Addr}{sl30:Array (Option Value)}{oc30 kV30 dc30 pm30 cd30 ct30:Value}
  {f31:Addr}{od31 an31:Option Addr}{sl31:Array (Option Value)}{oc31 kV31 dc31 pm31 cd31 ct31:Value}
  {f32:Addr}{od32 an32:Option Addr}{sl32:Array (Option Value)}{oc32 kV32 dc32 pm32 cd32 ct32:Value}
  {f33:Addr}{od33 an33:Option Addr}{sl33:Array (Option Value)}{oc33 kV33 dc33 pm33 cd33 ct33:Value}
  {f34:Addr}{od34 an34:Option Addr}{sl34:Array (Option Value)}{oc34 kV34 dc34 pm34 cd34 ct34:Value}
  {f35:Addr}{od35 an35:Option Addr}{sl35:Array (Option Value)}{oc35 kV35 dc35 pm35 cd35 ct35:Value}
  {f36:Addr}{od36 an36:Option Addr}{sl36:Array (Option Value)}{oc36 kV36 dc36 pm36 cd36 ct36:Value}
  {f37:Addr}{od37 an37:Option Addr}{sl37:Array (Option Value)}{oc37 kV37 dc37 pm37 cd37 ct37:Value}
  {f38:Addr}{od38 an38:Option Addr}{sl38:Array (Option Value)}{oc38 kV38 dc38 pm38 cd38 ct38:Value}
  {f39:Addr}{od39 an39:Option Addr}{sl39:Array (Option Value)}{oc39 kV39 dc39 pm39 cd39 ct39:Value}
  {f40:Addr}{od40 an40:Option Addr}{sl40:Array (Option Value)}{oc40 kV40 dc40 pm40 cd40 ct40:Value}
  {f41:Addr}{od41 an41:Option Addr}{sl41:Array (Option Value)}{oc41 kV41 dc41 pm41 cd41 ct41:Value}
  {f42:Addr}{od42 an42:Option Addr}{sl42:Array (Option Value)}{oc42 kV42 dc42 pm42 cd42 ct42:Value}
  {f43:Addr}{od43 an43:Option Addr}{sl43:Array (Option Value)}{oc43 kV43 dc43 pm43 cd43 ct43:Value}
  {f44:Addr}{od44 an44:Option Addr}{sl44:Array (Option Value)}{oc44 kV44 dc44 pm44 cd44 ct44:Value}
  {f45:Addr}{od45 an45:Option Addr}{sl45:Array (Option Value)}{oc45 kV45 dc45 pm45 cd45 ct45:Value}
  {f46:Addr}{od46 an46:Option Addr}{sl46:Array (Option Value)}{oc46 kV46 dc46 pm46 cd46 ct46:Value}
  (a0:W.nsIn K mainGlobals "words_of"=some (some (.ref f0)))(l0:K.lookup f0=some ⟨oc0,od0,.func (W.fnOf "words_of" "words_of" (J7 a1K) (J2 a1K) (G4 a1K) .none kV0 dc0 pm0 an0 cd0 ct0),sl0⟩)(c0:W.codeIn K cd0 "words_of"=true)(k0:W.keepIn K (.ref f0)=true)
  (a1:W.nsIn K mainGlobals "pair_words"=some (some (.ref f1)))(l1:K.lookup f1=some ⟨oc1,od1,.func (W.fnOf "pair_words" "pair_words" (J7 a0V) (J2 a0V) (G4 a0V) .none kV1 dc1 pm1 an1 cd1 ct1),sl1⟩)(c1:W.codeIn K cd1 "pair_words"=true)(k1:W.keepIn K (.ref f1)=true)
  (a2:W.nsIn K mainGlobals "sum_words"=some (some (.ref f2)))(l2:K.lookup f2=some ⟨oc2,od2,.func (W.fnOf "sum_words" "sum_words" (J7 a1o) (J2 a1o) (G4 a1o) .none kV2 dc2 pm2 an2 cd2 ct2),sl2⟩)(c2:W.codeIn K cd2 "sum_words"=true)(k2:W.keepIn K (.ref f2)=true)
  (a3:W.nsIn K mainGlobals "when_words"=some (some (.ref f3)))(l3:K.lookup f3=some ⟨oc3,od3,.func (W.fnOf "when_words" "when_words" (J7 a0S) (J2 a0S) (G4 a0S) .none kV3 dc3 pm3 an3 cd3 ct3),sl3⟩)(c3:W.codeIn K cd3 "when_words"=true)(k3:W.keepIn K (.ref f3)=true)
  (a4:W.nsIn K mainGlobals "read_names"=some (some (.ref f4)))(l4:K.lookup f4=some ⟨oc4,od4,.func (W.fnOf "read_names" "read_names" (J7 a1a) (J2 a1a) (G4 a1a) .none kV4 dc4 pm4 an4 cd4 ct4),sl4⟩)(c4:W.codeIn K cd4 "read_names"=true)(k4:W.keepIn K (.ref f4)=true)
  (a5:W.nsIn K mainGlobals "sum_names"=some (some (.ref f5)))(l5:K.lookup f5=some ⟨oc5,od5,.func (W.fnOf "sum_names" "sum_names" (J7 a1y) (J2 a1y) (G4 a1y) .none kV5 dc5 pm5 an5 cd5 ct5),sl5⟩)(c5:W.codeIn K cd5 "sum_names"=true)(k5:W.keepIn K (.ref f5)=true)
  (a6:W.nsIn K mainGlobals "when_names"=some (some (.ref f6)))(l6:K.lookup f6=some ⟨oc6,od6,.func (W.fnOf "when_names" "when_names" (J7 a0W) (J2 a0W) (G4 a0W) .none kV6 dc6 pm6 an6 cd6 ct6),sl6⟩)(c6:W.codeIn K cd6 "when_names"=true)(k6:W.keepIn K (.ref f6)=true)
  (a7:W.nsIn K mainGlobals "spread"=some (some (.ref f7)))(l7:K.lookup f7=some ⟨oc7,od7,.func (W.fnOf "spread" "spread" (J7 a2Y) (J2 a2Y) (G4 a2Y) .none kV7 dc7 pm7 an7 cd7 ct7),sl7⟩)(c7:W.codeIn K cd7 "spread"=true)(k7:W.keepIn K (.ref f7)=true)
  (a8:W.nsIn K mainGlobals "blocks_in"=some (some (.ref f8)))(l8:K.lookup f8=some ⟨oc8,od8,.func (W.fnOf "blocks_in" "blocks_in" (J7 a1w) (J2 a1w) (G4 a1w) .none kV8 dc8 pm8 an8 cd8 ct8),sl8⟩)(c8:W.codeIn K cd8 "blocks_in"=true)(k8:W.keepIn K (.ref f8)=true)
  (a9:W.nsIn K mainGlobals "next_parts"=some (some (.ref f9)))(l9:K.lookup f9=some ⟨oc9,od9,.func (W.fnOf "next_parts" "next_parts" (J7 a0m) (J2 a0m) (G4 a0m) .none kV9 dc9 pm9 an9 cd9 ct9),sl9⟩)(c9:W.codeIn K cd9 "next_parts"=true)(k9:W.keepIn K (.ref f9)=true)
  (a10:W.nsIn K mainGlobals "_law_cell_at"=some (some (.ref f10)))(l10:K.lookup f10=some ⟨oc10,od10,.func (W.fnOf "_law_cell_at" "_law_cell_at" (J7 a0y) (J2 a0y) (G4 a0y) .none kV10 dc10 pm10 an10 cd10 ct10),sl10⟩)(c10:W.codeIn K cd10 "_law_cell_at"=true)(k10:W.keepIn K (.ref f10)=true)
  (a11:W.nsIn K mainGlobals "_law_stream"=some (some (.ref f11)))(l11:K.lookup f11=some ⟨oc11,od11,.func (W.fnOf "_law_stream" "_law_stream" (J7 a0Z) (J2 a0Z) (G4 a0Z) .none kV11 dc11 pm11 an11 cd11 ct11),sl11⟩)(c11:W.codeIn K cd11 "_law_stream"=true)(k11:W.keepIn K (.ref f11)=true)
  (a12:W.nsIn K mainGlobals "_law_names"=some (some (.ref f12)))(l12:K.lookup f12=some ⟨oc12,od12,.func (W.fnOf "_law_names" "_law_names" (J7 a0G) (J2 a0G) (G4 a0G) .none kV12 dc12 pm12 an12 cd12 ct12),sl12⟩)(c12:W.codeIn K cd12 "_law_names"=true)(k12:W.keepIn K (.ref f12)=true)
  (a13:W.nsIn K mainGlobals "_law_sum"=some (some (.ref f13)))(l13:K.lookup f13=some ⟨oc13,od13,.func (W.fnOf "_law_sum" "_law_sum" (J7 a2n) (J2 a2n) (G4 a2n) .none kV13 dc13 pm13 an13 cd13 ct13),sl13⟩)(c13:W.codeIn K cd13 "_law_sum"=true)(k13:W.keepIn K (.ref f13)=true)
  (a14:W.nsIn K mainGlobals "_law_row"=some (some (.ref f14)))(l14:K.lookup f14=some ⟨oc14,od14,.func (W.fnOf "_law_row" "_law_row" (J7 a2o) (J2 a2o) (G4 a2o) .none kV14 dc14 pm14 an14 cd14 ct14),sl14⟩)(c14:W.codeIn K cd14 "_law_row"=true)(k14:W.keepIn K (.ref f14)=true)
  (a15:W.nsIn K mainGlobals "_law_blocks"=some (some (.ref f15)))(l15:K.lookup f15=some ⟨oc15,od15,.func (W.fnOf "_law_blocks" "_law_blocks" (J7 F8) (J2 F8) (G4 F8) .none kV15 dc15 pm15 an15 cd15 ct15),sl15⟩)(c15:W.codeIn K cd15 "_law_blocks"=true)(k15:W.keepIn K (.ref f15)=true)
  (a16:W.nsIn K mainGlobals "_law_there"=some (some (.ref f16)))(l16:K.lookup f16=some ⟨oc16,od16,.func (W.fnOf "_law_there" "_law_there" (J7 a1n) (J2 a1n) (G4 a1n) .none kV16 dc16 pm16 an16 cd16 ct16),sl16⟩)(c16:W.codeIn K cd16 "_law_there"=true)(k16:W.keepIn K (.ref f16)=true)
  (a17:W.nsIn K mainGlobals "_law_roots"=some (some (.ref f17)))(l17:K.lookup f17=some ⟨oc17,od17,.func (W.fnOf "_law_roots" "_law_roots" (J7 a0k) (J2 a0k) (G4 a0k) .none kV17 dc17 pm17 an17 cd17 ct17),sl17⟩)(c17:W.codeIn K cd17 "_law_roots"=true)(k17:W.keepIn K (.ref f17)=true)
  (a18:W.nsIn K mainGlobals "_law_made"=some (some (.ref f18)))(l18:K.lookup f18=some ⟨oc18,od18,.func (W.fnOf "_law_made" "_law_made" (J7 O1) (J2 O1) (G4 O1) .none kV18 dc18 pm18 an18 cd18 ct18),sl18⟩)(c18:W.codeIn K cd18 "_law_made"=true)(k18:W.keepIn K (.ref f18)=true)
  (a19:W.nsIn K mainGlobals "_law_reads"=some (some (.ref f19)))(l19:K.lookup f19=some ⟨oc19,od19,.func (W.fnOf "_law_reads" "_law_reads" (J7 a1r) (J2 a1r) (G4 a1r) .none kV19 dc19 pm19 an19 cd19 ct19),sl19⟩)(c19:W.codeIn K cd19 "_law_reads"=true)(k19:W.keepIn K (.ref f19)=true)
  (a20:W.nsIn K mainGlobals "_law_load"=some (some (.ref f20)))(l20:K.lookup f20=some ⟨oc20,od20,.func (W.fnOf "_law_load" "_law_load" (J7 a1W) (J2 a1W) (G4 a1W) .none kV20 dc20 pm20 an20 cd20 ct20),sl20⟩)(c20:W.codeIn K cd20 "_law_load"=true)(k20:W.keepIn K (.ref f20)=true)
  (a21:W.nsIn K mainGlobals "_law_value"=some (some (.ref f21)))(l21:K.lookup f21=some ⟨oc21,od21,.func (W.fnOf "_law_value" "_law_value" (J7 a1x) (J2 a1x) (G4 a1x) .none kV21 dc21 pm21 an21 cd21 ct21),sl21⟩)(c21:W.codeIn K cd21 "_law_value"=true)(k21:W.keepIn K (.ref f21)=true)
  (a22:W.nsIn K mainGlobals "_law_begin"=some (some (.ref f22)))(l22:K.lookup f22=some ⟨oc22,od22,.func (W.fnOf "_law_begin" "_law_begin" (J7 a1u) (J2 a1u) (G4 a1u) .none kV22 dc22 pm22 an22 cd22 ct22),sl22⟩)(c22:W.codeIn K cd22 "_law_begin"=true)(k22:W.keepIn K (.ref f22)=true)
  (a23:W.nsIn K mainGlobals "_law_done"=some (some (.ref f23)))(l23:K.lookup f23=some ⟨oc23,od23,.func (W.fnOf "_law_done" "_law_done" (J7 a1L) (J2 a1L) (G4 a1L) .none kV23 dc23 pm23 an23 cd23 ct23),sl23⟩)(c23:W.codeIn K cd23 "_law_done"=true)(k23:W.keepIn K (.ref f23)=true)
  (a24:W.nsIn K mainGlobals "_law_told"=some (some (.ref f24)))(l24:K.lookup f24=some ⟨oc24,od24,.func (W.fnOf "_law_told" "_law_told" (J7 a1O) (J2 a1O) (G4 a1O) .none kV24 dc24 pm24 an24 cd24 ct24),sl24⟩)(c24:W.codeIn K cd24 "_law_told"=true)(k24:W.keepIn K (.ref f24)=true)
  (a25:W.nsIn K mainGlobals "_law_same"=some (some (.ref f25)))(l25:K.lookup f25=some ⟨oc25,od25,.func (W.fnOf "_law_same" "_law_same" (J7 a1S) (J2 a1S) (G4 a1S) .none kV25 dc25 pm25 an25 cd25 ct25),sl25⟩)(c25:W.codeIn K cd25 "_law_same"=true)(k25:W.keepIn K (.ref f25)=true)
  (a26:W.nsIn K mainGlobals "law"=some (some (.ref f26)))(l26:K.lookup f26=some ⟨oc26,od26,.func (W.fnOf "law" "law" (J7 a6a) (J2 a6a) (G4 a6a) .none kV26 dc26 pm26 an26 cd26 ct26),sl26⟩)(c26:W.codeIn K cd26 "law"=true)(k26:W.keepIn K (.ref f26)=true)
  (a27:W.nsIn K mainGlobals "play"=some (some (.ref f27)))(l27:K.lookup f27=some ⟨oc27,od27,.func (W.fnOf "play" "play" (J7 a2Q) (J2 a2Q) (G4 a2Q) (.ref DP) kV27 dc27 pm27 an27 cd27 ct27),sl27⟩)(c27:W.codeIn K cd27 "play"=true)(k27:W.keepIn K (.ref f27)=true)
  (a28:W.findIn K (.ref CG) "load"=some (some (.ref f28)))(i28:W.isFn K (.ref f28)=true)(l28:K.lookup f28=some ⟨oc28,od28,.func (W.fnOf "load" "Going.load" (J7 a0X) (J2 a0X) (G4 a0X) .none kV28 dc28 pm28 an28 cd28 ct28),sl28⟩)(c28:W.codeIn K cd28 "Going.load"=true)(k28:W.keepIn K (.ref f28)=true)
  (a29:W.findIn K (.ref CG) "begin"=some (some (.ref f29)))(i29:W.isFn K (.ref f29)=true)(l29:K.lookup f29=some ⟨oc29,od29,.func (W.fnOf "begin" "Going.begin" (J7 a0A) (J2 a0A) (G4 a0A) .none kV29 dc29 pm29 an29 cd29 ct29),sl29⟩)(c29:W.codeIn K cd29 "Going.begin"=true)(k29:W.keepIn K (.ref f29)=true)
  (a30:W.findIn K (.ref CG) "go_on"=some (some (.ref f30)))(i30:W.isFn K (.ref f30)=true)(l30:K.lookup f30=some ⟨oc30,od30,.func (W.fnOf "go_on" "Going.go_on" (J7 a0x) (J2 a0x) (G4 a0x) .none kV30 dc30 pm30 an30 cd30 ct30),sl30⟩)(c30:W.codeIn K cd30 "Going.go_on"=true)(k30:W.keepIn K (.ref f30)=true)
  (a31:W.findIn K (.ref CG) "do_row"=some (some (.ref f31)))(i31:W.isFn K (.ref f31)=true)(l31:K.lookup f31=some ⟨oc31,od31,.func (W.fnOf "do_row" "Going.do_row" (J7 a0j) (J2 a0j) (G4 a0j) .none kV31 dc31 pm31 an31 cd31 ct31),sl31⟩)(c31:W.codeIn K cd31 "Going.do_row"=true)(k31:W.keepIn K (.ref f31)=true)
  (a32:W.findIn K (.ref CG) "is_off"=some (some (.ref f32)))(i32:W.isFn K (.ref f32)=true)(l32:K.lookup f32=some ⟨oc32,od32,.func (W.fnOf "is_off" "Going.is_off" (J7 a0l) (J2 a0l) (G4 a0l) .none kV32 dc32 pm32 an32 cd32 ct32),sl32⟩)(c32:W.codeIn K cd32 "Going.is_off"=true)(k32:W.keepIn K (.ref f32)=true)
  (a33:W.findIn K (.ref CG) "early_word"=some (some (.ref f33)))(i33:W.isFn K (.ref f33)=true)(l33:K.lookup f33=some ⟨oc33,od33,.func (W.fnOf "early_word" "Going.early_word" (J7 E8) (J2 E8) (G4 E8) .none kV33 dc33 pm33 an33 cd33 ct33),sl33⟩)(c33:W.codeIn K cd33 "Going.early_word"=true)(k33:W.keepIn K (.ref f33)=true)
  (a34:W.findIn K (.ref CG) "enter"=some (some (.ref f34)))(i34:W.isFn K (.ref f34)=true)(l34:K.lookup f34=some ⟨oc34,od34,.func (W.fnOf "enter" "Going.enter" (J7 a0w) (J2 a0w) (G4 a0w) .none kV34 dc34 pm34 an34 cd34 ct34),sl34⟩)(c34:W.codeIn K cd34 "Going.enter"=true)(k34:W.keepIn K (.ref f34)=true)
  (a35:W.findIn K (.ref CG) "do_work"=some (some (.ref f35)))(i35:W.isFn K (.ref f35)=true)(l35:K.lookup f35=some ⟨oc35,od35,.func (W.fnOf "do_work" "Going.do_work" (J7 M0) (J2 M0) (G4 M0) .none kV35 dc35 pm35 an35 cd35 ct35),sl35⟩)(c35:W.codeIn K cd35 "Going.do_work"=true)(k35:W.keepIn K (.ref f35)=true)
  (a36:W.findIn K (.ref CG) "give"=some (some (.ref f36)))(i36:W.isFn K (.ref f36)=true)(l36:K.lookup f36=some ⟨oc36,od36,.func (W.fnOf "give" "Going.give" (J7 a0J) (J2 a0J) (G4 a0J) .none kV36 dc36 pm36 an36 cd36 ct36),sl36⟩)(c36:W.codeIn K cd36 "Going.give"=true)(k36:W.keepIn K (.ref f36)=true)
  (a37:W.findIn K (.ref CG) "next_told"=some (some (.ref f37)))(i37:W.isFn K (.ref f37)=true)(l37:K.lookup f37=some ⟨oc37,od37,.func (W.fnOf "next_told" "Going.next_told" (J7 F6) (J2 F6) (G4 F6) .none kV37 dc37 pm37 an37 cd37 ct37),sl37⟩)(c37:W.codeIn K cd37 "Going.next_told"=true)(k37:W.keepIn K (.ref f37)=true)
  (a38:W.findIn K (.ref CG) "value_of"=some (some (.ref f38)))(i38:W.isFn K (.ref f38)=true)(l38:K.lookup f38=some ⟨oc38,od38,.func (W.fnOf "value_of" "Going.value_of" (J7 D4) (J2 D4) (G4 D4) .none kV38 dc38 pm38 an38 cd38 ct38),sl38⟩)(c38:W.codeIn K cd38 "Going.value_of"=true)(k38:W.keepIn K (.ref f38)=true)
  (a39:W.findIn K (.ref CG) "thing_value"=some (some (.ref f39)))(i39:W.isFn K (.ref f39)=true)(l39:K.lookup f39=some ⟨oc39,od39,.func (W.fnOf "thing_value" "Going.thing_value" (J7 O8) (J2 O8) (G4 O8) .none kV39 dc39 pm39 an39 cd39 ct39),sl39⟩)(c39:W.codeIn K cd39 "Going.thing_value"=true)(k39:W.keepIn K (.ref f39)=true)
  (a40:W.findIn K (.ref CP) "rows_of"=some (some (.ref f40)))(i40:W.isFn K (.ref f40)=true)(l40:K.lookup f40=some ⟨oc40,od40,.func (W.fnOf "rows_of" "PacksWalk.rows_of" (J7 O9) (J2 O9) (G4 O9) .none kV40 dc40 pm40 an40 cd40 ct40),sl40⟩)(c40:W.codeIn K cd40 "PacksWalk.rows_of"=true)(k40:W.keepIn K (.ref f40)=true)
  (a41:W.findIn K (.ref CP) "key_of"=some (some (.ref f41)))(i41:W.isFn K (.ref f41)=true)(l41:K.lookup f41=some ⟨oc41,od41,.func (W.fnOf "key_of" "Walk.key_of" (J7 a0v) (J2 a0v) (G4 a0v) .none kV41 dc41 pm41 an41 cd41 ct41),sl41⟩)(c41:W.codeIn K cd41 "Walk.key_of"=true)(k41:W.keepIn K (.ref f41)=true)
  (a42:W.findIn K (.ref CP) "loads_of"=some (some (.ref f42)))(i42:W.isFn K (.ref f42)=true)(l42:K.lookup f42=some ⟨oc42,od42,.func (W.fnOf "loads_of" "PacksWalk.loads_of" (J7 Z7) (J2 Z7) (G4 Z7) .none kV42 dc42 pm42 an42 cd42 ct42),sl42⟩)(c42:W.codeIn K cd42 "PacksWalk.loads_of"=true)(k42:W.keepIn K (.ref f42)=true)
  (a43:W.findIn K (.ref CP) "ahead_of"=some (some (.ref f43)))(i43:W.isFn K (.ref f43)=true)(l43:K.lookup f43=some ⟨oc43,od43,.func (W.fnOf "ahead_of" "PacksWalk.ahead_of" (J7 Z8) (J2 Z8) (G4 Z8) .none kV43 dc43 pm43 an43 cd43 ct43),sl43⟩)(c43:W.codeIn K cd43 "PacksWalk.ahead_of"=true)(k43:W.keepIn K (.ref f43)=true)
  (a44:W.findIn K (.ref CP) "go"=some (some (.ref f44)))(i44:W.isFn K (.ref f44)=true)(l44:K.lookup f44=some ⟨oc44,od44,.func (W.fnOf "go" "Walk.go" (J7 a2j) (J2 a2j) (G4 a2j) .none kV44 dc44 pm44 an44 cd44 ct44),sl44⟩)(c44:W.codeIn K cd44 "Walk.go"=true)(k44:W.keepIn K (.ref f44)=true)
  (a45:W.findIn K (.ref CP) "__init__"=some (some (.ref f45)))(i45:W.isFn K (.ref f45)=true)(l45:K.lookup f45=some ⟨oc45,od45,.func (W.fnOf "__init__" "PacksWalk.__init__" (J7 W1) (J2 W1) (G4 W1) (.ref DD) kV45 dc45 pm45 an45 cd45 ct45),sl45⟩)(c45:W.codeIn K cd45 "PacksWalk.__init__"=true)(k45:W.keepIn K (.ref f45)=true)
  (a46:W.findIn K (.ref CG) "__init__"=some (some (.ref f46)))(i46:W.isFn K (.ref f46)=true)(l46:K.lookup f46=some ⟨oc46,od46,.func (W.fnOf "__init__" "Going.__init__" (J7 D5) (J2 D5) (G4 D5) .none kV46 dc46 pm46 an46 cd46 ct46),sl46⟩)(c46:W.codeIn K cd46 "Going.__init__"=true)(k46:W.keepIn K (.ref f46)=true)
  (lDD:K.lookup DD=some ⟨ocD,odD,.seq #[.bool false] nD,slD⟩)
  (lDP:K.lookup DP=some ⟨ocP,odP,.seq #[.bool false] nP,slP⟩)
  (gCP:W.nsIn K mainGlobals "PacksWalk"=some (some (.ref CP)))(pgCP:W.plainGet K CP Str.empty=true)(hdCP:W.hasDictIn K CP=true)(poCP:W.plainOver K CP=true)(saCP:W.findIn K (.ref CP) "__setattr__"=some (some (.builtin "object.__setattr__")))(mkCP:W.makesIn K CP=true)(kcCP:W.keepIn K (.ref CP)=true)
  (gCG:W.nsIn K mainGlobals "Going"=some (some (.ref CG)))(pgCG:W.plainGet K CG Str.empty=true)(hdCG:W.hasDictIn K CG=true)(poCG:W.plainOver K CG=true)(saCG:W.findIn K (.ref CG) "__setattr__"=some (some (.builtin "object.__setattr__")))(mkCG:W.makesIn K CG=true)(kcCG:W.keepIn K (.ref CG)=true)
  (nGwalk:W.findIn K (.ref CG) "walk"=some none)
  (nGnumbers:W.findIn K (.ref CG) "numbers"=some none)
  (nGtaken:W.findIn K (.ref CG) "taken"=some none)
  (nGbegun:W.findIn K (.ref CG) "begun"=some none)
  (nGloaded:W.findIn K (.ref CG) "loaded"=some none)
  (nGgiven:W.findIn K (.ref CG) "given"=some none)
  (nGwaiting:W.findIn K (.ref CG) "waiting"=some none)
  (nGtrace:W.findIn K (.ref CG) "trace"=some none)
  (nGfault:W.findIn K (.ref CG) "fault"=some none)
  (nPblocks:W.findIn K (.ref CP) "blocks"=some none)
  (nPloads:W.findIn K (.ref CP) "loads"=some none)
  (nPahead:W.findIn K (.ref CP) "ahead"=some none)
  (z0:W.nsIn K mainGlobals "len"=some none)
  (z1:W.nsIn K mainGlobals "range"=some none)
  (z2:W.nsIn K mainGlobals "str"=some none)
  (z3:W.nsIn K mainGlobals "tuple"=some none)
  (z4:W.nsIn K mainGlobals "list"=some none)
  (z5:W.nsIn K mainGlobals "dict"=some none)
  (z6:W.nsIn K mainGlobals "enumerate"=some none)
  (z7:W.nsIn K mainGlobals "isinstance"=some none)
  (z8:W.nsIn K mainGlobals "max"=some none)
  (z9:W.nsIn K mainGlobals "sorted"=some none)
  (z10:W.nsIn K mainGlobals "reversed"=some none)
  (z11:W.nsIn K mainGlobals "int"=some none)
  (z12:W.nsIn K mainGlobals "bool"=some none):
  ∃fd:FuncData,(∀(s:Shared)(v:Value),BindsTo s fd ⟨[v],[]⟩ [("_law_script",v)])/\∀base:Heap,K.In base->base.Ns mainGlobals mg->a2L l.prog w K mg base CX0 27 fa fd ["_law_script"] (b0q K):=by
 have e:=hfa.symm.trans (W.mg_of X G a26)
 cases e
 have T0:Txt K mg:=⟨W.mg_none_of X G z0,W.mg_none_of X G z1,W.mg_none_of X G z2,W.mg_none_of X G z3,W.mg_none_of X G z4,W.mg_none_of X G z5,W.mg_none_of X G z6,W.mg_none_of X G z7,W.mg_none_of X G z8,W.mg_none_of X G z9,W.mg_none_of X G z10,W.mg_none_of X G z11,W.mg_none_of X G z12,U5 X G a0 l0 c0 k0,U5 X G a1 l1 c1 k1,U5 X G a2 l2 c2 k2,U5 X G a3 l3 c3 k3,U5 X G a4 l4 c4 k4,U5 X G a5 l5 c5 k5,U5 X G a6 l6 c6 k6,U5 X G a7 l7 c7 k7,U5 X G a8 l8 c8 k8,U5 X G a9 l9 c9 k9,U5 X G a10 l10 c10 k10,U5 X G a11 l11 c11 k11,U5 X G a12 l12 c12 k12,U5 X G a13 l13 c13 k13,U5 X G a14 l14 c14 k14,U5 X G a15 l15 c15 k15,U5 X G a16 l16 c16 k16,U5 X G a17 l17 c17 k17,U5 X G a18 l18 c18 k18,U5 X G a19 l19 c19 k19,U5 X G a20 l20 c20 k20,U5 X G a21 l21 c21 k21,U5 X G a22 l22 c22 k22,U5 X G a23 l23 c23 k23,U5 X G a24 l24 c24 k24,U5 X G a25 l25 c25 k25⟩
 have T:Tc K mg CP CG:=⟨T0,⟨pgCP,hdCP,poCP,saCP⟩,⟨pgCG,hdCG,poCG,saCG⟩,W.mg_of X G gCP,W.mg_of X G gCG,nGwalk,nGnumbers,nGtaken,nGbegun,nGloaded,nGgiven,nGwaiting,nGtrace,nGfault,nPblocks,nPloads,nPahead,F9 a28 i28 l28 c28 k28,F9 a29 i29 l29 c29 k29,F9 a30 i30 l30 c30 k30,F9 a31 i31 l31 c31 k31,F9 a32 i32 l32 c32 k32,F9 a33 i33 l33 c33 k33,F9 a34 i34 l34 c34 k34,F9 a35 i35 l35 c35 k35,F9 a36 i36 l36 c36 k36,F9 a37 i37 l37 c37 k37,F9 a38 i38 l38 c38 k38,F9 a39 i39 l39 c39 k39,F9 a40 i40 l40 c40 k40,F9 a41 i41 l41 c41 k41,F9 a42 i42 l42 c42 k42,F9 a43 i43 l43 c43 k43,F9 a44 i44 l44 c44 k44,⟨f27,DP,_,_,_,_,_,_,_,_,_,_,_,_,_,l27,c27,k27,W.mg_of X G a27,lDP⟩,⟨f45,DD,_,_,_,_,_,_,_,_,_,_,_,_,_,l45,c45,k45,⟨mkCP,a45,i45,kcCP⟩,lDD⟩,b3V mkCG a46 i46 kcCG l46 c46 k46⟩
 exact⟨_,fun s v=> .of_eq rfl,fun base _ _=>b4O (a7r (st:=a6a) l26 c26 k26) T⟩
theorem b7r{l:W.OpenLaw}{q:Program}{loose:List Str}{XP:(Str->Option Value)->Heap->Prop}{YP:World->Heap->Prop}{d:DefRec}{K:Params->W.Frag}(hn:l.most=some 63)(hdf:d.params.defaults=[])
  (hY:∀(w:World)(h:Heap),YP w h->(K w.params).In h)
  (F:∀(w:World)(mg:Str->Option Value)(fa:Addr)(h:Heap),(K w.params).In h->h.Ns mainGlobals mg->mg d.name=some (.ref fa)->
   ∃fd:FuncData,(∀(s:Shared)(u:Value),BindsTo s fd ⟨[u],[]⟩ [("_law_script",u)])/\∀base:Heap,(K w.params).In base->base.Ns mainGlobals mg->a2L l.prog w (K w.params) mg base CX0 27 fa fd ["_law_script"] (b0q (K w.params))):
  W.WalkO q loose XP YP l.row.toRowW d [] (fun f vs=>PySem.call f vs):=
 L2.b3x (n:=63) (k:=27) (x:="_law_script") (CX:=fun _=>CX0) (sp:=fun w=>b0q (K w.params)) hn (by decide) hdf ⟨rfl,by decide,by decide⟩ hY F (fun _ _ a ns hl _ hS=>⟨a,ns,rfl,hS,hl,fun _=>rfl⟩) fun _ _ _ _ _ z=>z
end K62
open PySem PySem.W PyProof.Rows
set_option maxRecDepth 100000 in
set_option maxHeartbeats 0 in
theorem PySem.Challenge.cw_bundlehouse_k62_play_row_by_row_holds : PySem.Challenge.rw_bundlehouse_k62_play_row_by_row.Holds := by
 w_on
 refine HD.b4t (l:=PySem.Challenge.rw_bundlehouse_k62_play_row_by_row) (q:=HD.b4L PySem.Challenge.rw_bundlehouse_k62_play_row_by_row.prog [35]) (K:=K62.a6V) (as:=K62.a6U) (N:=4640) K62.b2I K62.b5l K62.b3N (by rfl) (by rfl) (by rfl) (by rfl) (by decide +kernel) ⟨rfl,rfl,rfl,rfl,rfl,by decide +kernel⟩ ?hw ?hc
 (case hw=>w_witness2)
 k_fill
 refine K62.b7r (l:=PySem.Challenge.rw_bundlehouse_k62_play_row_by_row) rfl rfl (fun w h Y=>W.kIn_of Y) ?F
 case F=>
  intro w mg fa h KX G hmg
  refine' K62.b5c KX G hmg ?a0 ?l0 ?c0 ?k0 ?a1 ?l1 ?c1 ?k1 ?a2 ?l2 ?c2 ?k2 ?a3 ?l3 ?c3 ?k3 ?a4 ?l4 ?c4 ?k4 ?a5 ?l5 ?c5 ?k5 ?a6 ?l6 ?c6 ?k6 ?a7 ?l7 ?c7 ?k7 ?a8 ?l8 ?c8 ?k8 ?a9 ?l9 ?c9 ?k9 ?a10 ?l10 ?c10 ?k10 ?a11 ?l11 ?c11 ?k11 ?a12 ?l12 ?c12 ?k12 ?a13 ?l13 ?c13 ?k13 ?a14 ?l14 ?c14 ?k14 ?a15 ?l15 ?c15 ?k15 ?a16 ?l16 ?c16 ?k16 ?a17 ?l17 ?c17 ?k17 ?a18 ?l18 ?c18 ?k18 ?a19 ?l19 ?c19 ?k19 ?a20 ?l20 ?c20 ?k20 ?a21 ?l21 ?c21 ?k21 ?a22 ?l22 ?c22 ?k22 ?a23 ?l23 ?c23 ?k23 ?a24 ?l24 ?c24 ?k24 ?a25 ?l25 ?c25 ?k25 ?a26 ?l26 ?c26 ?k26 ?a27 ?l27 ?c27 ?k27 ?a28 ?i28 ?l28 ?c28 ?k28 ?a29 ?i29 ?l29 ?c29 ?k29 ?a30 ?i30 ?l30 ?c30 ?k30 ?a31 ?i31 ?l31 ?c31 ?k31 ?a32 ?i32 ?l32 ?c32 ?k32 ?a33 ?i33 ?l33 ?c33 ?k33 ?a34 ?i34 ?l34 ?c34 ?k34 ?a35 ?i35 ?l35 ?c35 ?k35 ?a36 ?i36 ?l36 ?c36 ?k36 ?a37 ?i37 ?l37 ?c37 ?k37 ?a38 ?i38 ?l38 ?c38 ?k38 ?a39 ?i39 ?l39 ?c39 ?k39 ?a40 ?i40 ?l40 ?c40 ?k40 ?a41 ?i41 ?l41 ?c41 ?k41 ?a42 ?i42 ?l42 ?c42 ?k42 ?a43 ?i43 ?l43 ?c43 ?k43 ?a44 ?i44 ?l44 ?c44 ?k44 ?a45 ?i45 ?l45 ?c45 ?k45 ?a46 ?i46 ?l46 ?c46 ?k46 ?lDD ?lDP ?gCP ?pgCP ?hdCP ?poCP ?saCP ?mkCP ?kcCP ?gCG ?pgCG ?hdCG ?poCG ?saCG ?mkCG ?kcCG ?nGwalk ?nGnumbers ?nGtaken ?nGbegun ?nGloaded ?nGgiven ?nGwaiting ?nGtrace ?nGfault ?nPblocks ?nPloads ?nPahead ?z0 ?z1 ?z2 ?z3 ?z4 ?z5 ?z6 ?z7 ?z8 ?z9 ?z10 ?z11 ?z12
  (case gCP=>k_is)
  (case gCG=>k_is)
  (case a0=>k_is)
  (case l0=>k_is)
  (case c0=>k_is)
  (case k0=>k_is)
  (case a1=>k_is)
  (case l1=>k_is)
  (case c1=>k_is)
  (case k1=>k_is)
  (case a2=>k_is)
  (case l2=>k_is)
  (case c2=>k_is)
  (case k2=>k_is)
  (case a3=>k_is)
  (case l3=>k_is)
  (case c3=>k_is)
  (case k3=>k_is)
  (case a4=>k_is)
  (case l4=>k_is)
  (case c4=>k_is)
  (case k4=>k_is)
  (case a5=>k_is)
  (case l5=>k_is)
  (case c5=>k_is)
  (case k5=>k_is)
  (case a6=>k_is)
  (case l6=>k_is)
  (case c6=>k_is)
  (case k6=>k_is)
  (case a7=>k_is)
  (case l7=>k_is)
  (case c7=>k_is)
  (case k7=>k_is)
  (case a8=>k_is)
  (case l8=>k_is)
  (case c8=>k_is)
  (case k8=>k_is)
  (case a9=>k_is)
  (case l9=>k_is)
  (case c9=>k_is)
  (case k9=>k_is)
  (case a10=>k_is)
  (case l10=>k_is)
  (case c10=>k_is)
  (case k10=>k_is)
  (case a11=>k_is)
  (case l11=>k_is)
  (case c11=>k_is)
  (case k11=>k_is)
  (case a12=>k_is)
  (case l12=>k_is)
  (case c12=>k_is)
  (case k12=>k_is)
  (case a13=>k_is)
  (case l13=>k_is)
  (case c13=>k_is)
  (case k13=>k_is)
  (case a14=>k_is)
  (case l14=>k_is)
  (case c14=>k_is)
  (case k14=>k_is)
  (case a15=>k_is)
  (case l15=>k_is)
  (case c15=>k_is)
  (case k15=>k_is)
  (case a16=>k_is)
  (case l16=>k_is)
  (case c16=>k_is)
  (case k16=>k_is)
  (case a17=>k_is)
  (case l17=>k_is)
  (case c17=>k_is)
  (case k17=>k_is)
  (case a18=>k_is)
  (case l18=>k_is)
  (case c18=>k_is)
  (case k18=>k_is)
  (case a19=>k_is)
  (case l19=>k_is)
  (case c19=>k_is)
  (case k19=>k_is)
  (case a20=>k_is)
  (case l20=>k_is)
  (case c20=>k_is)
  (case k20=>k_is)
  (case a21=>k_is)
  (case l21=>k_is)
  (case c21=>k_is)
  (case k21=>k_is)
  (case a22=>k_is)
  (case l22=>k_is)
  (case c22=>k_is)
  (case k22=>k_is)
  (case a23=>k_is)
  (case l23=>k_is)
  (case c23=>k_is)
  (case k23=>k_is)
  (case a24=>k_is)
  (case l24=>k_is)
  (case c24=>k_is)
  (case k24=>k_is)
  (case a25=>k_is)
  (case l25=>k_is)
  (case c25=>k_is)
  (case k25=>k_is)
  (case a26=>k_is)
  (case l26=>k_is)
  (case c26=>k_is)
  (case k26=>k_is)
  (case a27=>k_is)
  (case l27=>k_is)
  (case c27=>k_is)
  (case k27=>k_is)
  (case a28=>k_is)
  (case i28=>k_is)
  (case l28=>k_is)
  (case c28=>k_is)
  (case k28=>k_is)
  (case a29=>k_is)
  (case i29=>k_is)
  (case l29=>k_is)
  (case c29=>k_is)
  (case k29=>k_is)
  (case a30=>k_is)
  (case i30=>k_is)
  (case l30=>k_is)
  (case c30=>k_is)
  (case k30=>k_is)
  (case a31=>k_is)
  (case i31=>k_is)
  (case l31=>k_is)
  (case c31=>k_is)
  (case k31=>k_is)
  (case a32=>k_is)
  (case i32=>k_is)
  (case l32=>k_is)
  (case c32=>k_is)
  (case k32=>k_is)
  (case a33=>k_is)
  (case i33=>k_is)
  (case l33=>k_is)
  (case c33=>k_is)
  (case k33=>k_is)
  (case a34=>k_is)
  (case i34=>k_is)
  (case l34=>k_is)
  (case c34=>k_is)
  (case k34=>k_is)
  (case a35=>k_is)
  (case i35=>k_is)
  (case l35=>k_is)
  (case c35=>k_is)
  (case k35=>k_is)
  (case a36=>k_is)
  (case i36=>k_is)
  (case l36=>k_is)
  (case c36=>k_is)
  (case k36=>k_is)
  (case a37=>k_is)
  (case i37=>k_is)
  (case l37=>k_is)
  (case c37=>k_is)
  (case k37=>k_is)
  (case a38=>k_is)
  (case i38=>k_is)
  (case l38=>k_is)
  (case c38=>k_is)
  (case k38=>k_is)
  (case a39=>k_is)
  (case i39=>k_is)
  (case l39=>k_is)
  (case c39=>k_is)
  (case k39=>k_is)
  (case a40=>k_is)
  (case i40=>k_is)
  (case l40=>k_is)
  (case c40=>k_is)
  (case k40=>k_is)
  (case a41=>k_is)
  (case i41=>k_is)
  (case l41=>k_is)
  (case c41=>k_is)
  (case k41=>k_is)
  (case a42=>k_is)
  (case i42=>k_is)
  (case l42=>k_is)
  (case c42=>k_is)
  (case k42=>k_is)
  (case a43=>k_is)
  (case i43=>k_is)
  (case l43=>k_is)
  (case c43=>k_is)
  (case k43=>k_is)
  (case a44=>k_is)
  (case i44=>k_is)
  (case l44=>k_is)
  (case c44=>k_is)
  (case k44=>k_is)
  (case a45=>k_is)
  (case i45=>k_is)
  (case l45=>k_is)
  (case c45=>k_is)
  (case k45=>k_is)
  (case a46=>k_is)
  (case i46=>k_is)
  (case l46=>k_is)
  (case c46=>k_is)
  (case k46=>k_is)
  (case lDD=>k_is)
  (case lDP=>k_is)
  (case pgCP=>k_is)
  (case hdCP=>k_is)
  (case poCP=>k_is)
  (case saCP=>k_is)
  (case mkCP=>k_is)
  (case kcCP=>k_is)
  (case pgCG=>k_is)
  (case hdCG=>k_is)
  (case poCG=>k_is)
  (case saCG=>k_is)
  (case mkCG=>k_is)
  (case kcCG=>k_is)
  (case nGwalk=>k_is)
  (case nGnumbers=>k_is)
  (case nGtaken=>k_is)
  (case nGbegun=>k_is)
  (case nGloaded=>k_is)
  (case nGgiven=>k_is)
  (case nGwaiting=>k_is)
  (case nGtrace=>k_is)
  (case nGfault=>k_is)
  (case nPblocks=>k_is)
  (case nPloads=>k_is)
  (case nPahead=>k_is)
  (case z0=>k_is)
  (case z1=>k_is)
  (case z2=>k_is)
  (case z3=>k_is)
  (case z4=>k_is)
  (case z5=>k_is)
  (case z6=>k_is)
  (case z7=>k_is)
  (case z8=>k_is)
  (case z9=>k_is)
  (case z10=>k_is)
  (case z11=>k_is)
  (case z12=>k_is)